import Derived.Test.YtdgfjneapialdaaDoorProg
import Derived.WalkKit
import Derived.WalkSpells
import Derived.WalkLawsBesides
import Derived.Maps.RangeWalk
import Derived.DeepKeys4
namespace Go.Proofs.YtdgfjneapialdaaDoor
open Go Go.RowKit Go.Maps

/-- An object of the store. -/
structure Ob where
  kind : Int
  name : ByteArray
  uid : Int
  version : Int
  replicas : Int
  status : Int
  owner : Int
  phase : Int
  gone : Bool

def Ob.arr (o : Ob) : Array Value := #[.int .u8 o.kind, .string o.name, .int .i64 o.uid, .int .i64 o.version, .int .i64 o.replicas, .int .i64 o.status, .int .i64 o.owner, .int .u8 o.phase, .bool o.gone]
def Ob.dat (o : Ob) : DataW Unit := .agg [.lit (.int .u8 o.kind), .lit (.string o.name.data.toList), .lit (.int .i64 o.uid), .lit (.int .i64 o.version), .lit (.int .i64 o.replicas), .lit (.int .i64 o.status), .lit (.int .i64 o.owner), .lit (.int .u8 o.phase), .lit (.bool o.gone)]
def Ob.zero : Ob := ⟨0, ⟨#[]⟩, 0, 0, 0, 0, 0, 0, false⟩

theorem Ob.dat_inj {a b : Ob} (h : a.dat = b.dat) : a = b := by
  obtain ⟨a0, ⟨⟨a1⟩⟩, a2, a3, a4, a5, a6, a7, a8⟩ := a
  obtain ⟨b0, ⟨⟨b1⟩⟩, b2, b3, b4, b5, b6, b7, b8⟩ := b
  simp [Ob.dat] at h
  simp [h]

/-- How an element of the map reads. -/
def objR : Value → Option (DataW Unit × List MemPlace)
  | .agg ⟨[.int .u8 k, .string s, .int .i64 u, .int .i64 v, .int .i64 r, .int .i64 t, .int .i64 ow, .int .u8 ph, .bool g]⟩ => some ((Ob.mk k s u v r t ow ph g).dat, [])
  | _ => none

theorem objR_mk (o : Ob) : objR (.agg o.arr) = some (o.dat, []) := rfl
theorem objR_inv {v : Value} {y : DataW Unit × List MemPlace} (h : objR v = some y) : ∃ o : Ob, v = .agg o.arr ∧ y = (o.dat, []) := by
  unfold objR at h
  split at h
  · rename_i k s u v r t ow ph g
    exact ⟨⟨k, s, u, v, r, t, ow, ph, g⟩, rfl, (Option.some.inj h).symm⟩
  · cases h

theorem laidOut : laidOutB Tryd.prog = true := by kernel_rfl
theorem row58 : (67 : TypeId) < Tryd.prog.types.size := of_decide_eq_true (by kernel_rfl)
theorem wide58 : (match Tryd.prog.underlying 67 with | some (.array _ _) | some (.struct _) => true | _ => false) = true := by kernel_rfl
set_option maxRecDepth 100000 in
theorem law58 : Keyed Tryd.prog 67 := Keyed.of_law (deep_law_laid laidOut (m := 3) (by omega) row58 (by kernel_rfl) wide58)
theorem zero29 (w : World) : (zeroValue 36).run Tryd.prog w = .ok (.agg Ob.zero.arr) w := by kernel_rfl

/-- The key of an object. -/
def keyV (k : Int) (s : ByteArray) : Value := .agg #[.int .u8 k, .string s]
def klit (k : Int) (s : ByteArray) : Lit := .string (keyBytes [.int .u8 k, .string s.data.toList])

theorem cells58 : Tryd.prog.cellsOf 67 = 2 := by kernel_rfl
theorem cells5 : Tryd.prog.cellsOf 5 = 1 := by kernel_rfl
theorem cells9 : Tryd.prog.cellsOf 9 = 1 := by kernel_rfl
theorem keyType58 : Tryd.prog.keyType 67 = true := by kernel_rfl
theorem under58 : ∃ f0 f1, Tryd.prog.underlying 67 = some (.struct #[f0, f1]) ∧ f0.type = 5 ∧ f1.type = 9 ∧ f0.offset = 0 ∧ f1.offset = 1 ∧ (f0.name != "_") = true ∧ (f1.name != "_") = true := ⟨_, _, Tryd.underlying67, rfl, rfl, rfl, rfl, by decide, by decide⟩
theorem size121 : ∃ m, Tryd.prog.types.size + 1 = m + 2 := ⟨133, by kernel_rfl⟩

theorem wf_u8 (k : Int) (h0 : 0 ≤ k) (h1 : k ≤ 255) : (Lit.int .u8 k).wf = true := by
  simp only [Lit.wf, IntKind.min, IntKind.max, IntKind.signed, IntKind.bits, Bool.and_eq_true]
  simp; omega

theorem key58 (k : Int) (s : ByteArray) (h0 : 0 ≤ k) (h1 : k ≤ 255) (hs : s.size ≤ maxLen) : keyOf Tryd.prog 67 (keyV k s) = some (klit k s) := by
  obtain ⟨f0, f1, hu, t0, t1, o0, o1, n0, n1⟩ := under58
  obtain ⟨m, hm⟩ := size121
  have hf : (keyV k s).formed Tryd.prog 67 = true := by simp [keyV, Value.formed, hu, cells58]
  have e5 : Tryd.prog.keyLits (m + 1) 5 [.int .u8 k] = some [.int .u8 k] := by simp [Program.keyLits, Tryd.underlying5, wf_u8 k h0 h1]
  have e9 : Tryd.prog.keyLits (m + 1) 9 [.string s] = some [.string s.data.toList] := by simp [Program.keyLits, Tryd.underlying9, hs]
  have e58 : Tryd.prog.keyLits (m + 2) 67 [.int .u8 k, .string s] = some [.int .u8 k, .string s.data.toList] := by
    rw [Program.keyLits.eq_def]
    simp [hu, cells58, n0, n1, t0, t1, o0, o1, cells5, cells9, e5, e9]
  unfold keyOf
  rw [hu]
  simp only [keyType58, hf, Bool.and_self, if_true, hm]
  show Option.map _ (Tryd.prog.keyLits (m + 2) 67 [.int .u8 k, .string s]) = _
  rw [e58]
  rfl

end Go.Proofs.YtdgfjneapialdaaDoor
