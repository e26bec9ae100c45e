import Derived.Test.YtdgfjneapialdaaGreatDoorProg
import Derived.WalkKit
import Derived.WalkSpells
import Derived.WalkLawsBesides
import Derived.Deep.QuietTactic
import Derived.BigQuiet
import Derived.BigRegion
import Derived.Maps.RangeWalk
import Derived.DeepKeys4
namespace Go.Proofs.YtdgfjneapialdaaGreatDoor.S
open Go Go.RowKit

theorem ret_int {k : IntKind} {a b : Int} (h : a = b) : Ending.returned (.int k a) = .returned (.int k b) := by rw [h]
theorem ret_bool {a b : Bool} (h : a = b) : Ending.returned (.bool a) = .returned (.bool b) := by rw [h]
theorem ret_str {a b : ByteArray} (h : a = b) : Ending.returned (.string a) = .returned (.string b) := by rw [h]

/-- pick: which of n things the raw number c speaks of. -/
def pickI (c n : Int) : Int := (if c < 0 then -(c + 1) else c) % n

theorem pickI_bd (c n : Int) (hn : 0 < n) : 0 ≤ pickI c n ∧ pickI c n < n := by
  unfold pickI
  exact ⟨Int.emod_nonneg _ (by omega), Int.emod_lt_of_pos _ hn⟩

theorem neg_tmod_eq (c n : Int) (hc : c < 0) : -((c + 1).tmod n) = (-(c + 1)) % n := by
  rw [← Int.neg_tmod, Int.tmod_eq_emod_of_nonneg (by omega)]

set_option maxHeartbeats 400000 in
theorem pick_any (c n : Int) (w : World) (h0 : -9223372036854775808 ≤ c) (h1 : c ≤ 9223372036854775807) (hn : 0 < n) (hn2 : n ≤ 9223372036854775807) :
    Calls Tryz.prog 47 #[.int .i64 c, .int .i64 n] w fun e w' => e = .returned (.int .i64 (pickI c n)) ∧ w' = w := by
  unfold pickI
  by_cases hc : c < 0
  · rw [if_pos hc]
    have H : Hid (-((c + 1).tmod n) = (-(c + 1)) % n) := neg_tmod_eq c n hc
    go_enter Tryz.func47, Tryz.ntmps47
    go_wp2
    go_ret
    exact ⟨ret_int H.out, rfl⟩
  · rw [if_neg hc]
    go_enter Tryz.func47, Tryz.ntmps47
    go_wp2
    go_ret
    exact ⟨rfl, rfl⟩

def isOtherB (a b : Int) : Bool := a != 0 && a != b

set_option maxHeartbeats 400000 in
theorem isOther_any (a b : Int) (w : World) :
    Calls Tryz.prog 122 #[.int .i64 a, .int .i64 b] w fun e w' => e = .returned (.bool (isOtherB a b)) ∧ w' = w := by
  unfold isOtherB
  cases h : (a != 0)
  · go_enter Tryz.func122, Tryz.ntmps122
    go_wp2
    go_ret
    exact ⟨rfl, rfl⟩
  · go_enter Tryz.func122, Tryz.ntmps122
    go_wp2
    go_ret
    exact ⟨rfl, rfl⟩

end Go.Proofs.YtdgfjneapialdaaGreatDoor.S

namespace Go.Proofs.YtdgfjneapialdaaGreatDoor.S
open Go Go.RowKit

set_option maxHeartbeats 400000 in
theorem rightPhase_any (k : Int) (s : ByteArray) (u v r t ow ph : Int) (g : Bool) (w : World) :
    Calls Tryz.prog 177 #[.agg #[.int .u8 k, .string s, .int .i64 u, .int .i64 v, .int .i64 r, .int .i64 t, .int .i64 ow, .int .u8 ph, .bool g]] w fun e w' => e = .returned (.bool (decide (ph ≤ 2))) ∧ w' = w.alloc (.cells #[.int .u8 k, .string s, .int .i64 u, .int .i64 v, .int .i64 r, .int .i64 t, .int .i64 ow, .int .u8 ph, .bool g] 84) := by
  go_enter Tryz.func177, Tryz.ntmps177
  go_wp2
  go_ret
  exact ⟨rfl, rfl⟩

def countsB (r t : Int) : Bool := decide (0 ≤ r) && decide (r ≤ 8) && decide (0 ≤ t) && decide (t ≤ 64)

set_option maxHeartbeats 400000 in
theorem rightCounts_any (k : Int) (s : ByteArray) (u v r t ow ph : Int) (g : Bool) (w : World) :
    Calls Tryz.prog 176 #[.agg #[.int .u8 k, .string s, .int .i64 u, .int .i64 v, .int .i64 r, .int .i64 t, .int .i64 ow, .int .u8 ph, .bool g]] w fun e w' => e = .returned (.bool (countsB r t)) ∧ w' = w.alloc (.cells #[.int .u8 k, .string s, .int .i64 u, .int .i64 v, .int .i64 r, .int .i64 t, .int .i64 ow, .int .u8 ph, .bool g] 84) := by
  have H : Hid (countsB r t = (decide (0 ≤ r) && decide (r ≤ 8) && decide (0 ≤ t) && decide (t ≤ 64))) := rfl
  by_cases h1 : 0 ≤ r
  · by_cases h2 : r ≤ 8
    · by_cases h3 : 0 ≤ t
      · go_enter Tryz.func176, Tryz.ntmps176
        go_wp2
        go_ret
        exact ⟨ret_bool (by rw [H.out]; simp [h1, h2, h3]), rfl⟩
      · have h3' : decide (0 ≤ t) = false := by simpa using h3
        go_enter Tryz.func176, Tryz.ntmps176
        go_wp2
        go_ret
        exact ⟨ret_bool (by rw [H.out, h3']; simp), rfl⟩
    · have h2' : decide (r ≤ 8) = false := by simpa using h2
      go_enter Tryz.func176, Tryz.ntmps176
      go_wp2
      go_ret
      exact ⟨ret_bool (by rw [H.out, h2']; simp), rfl⟩
  · have h1' : decide (0 ≤ r) = false := by simpa using h1
    go_enter Tryz.func176, Tryz.ntmps176
    go_wp2
    go_ret
    exact ⟨ret_bool (by rw [H.out, h1']; simp), rfl⟩

def rightUpB (k r t ph : Int) : Bool := if k = 0 then countsB r t else if k = 1 then decide (ph ≤ 2) else false

set_option maxHeartbeats 400000 in
theorem rightToUpdate_any (k : Int) (s : ByteArray) (u v r t ow ph : Int) (g : Bool) (w : World) :
    Calls Tryz.prog 120 #[.agg #[.int .u8 k, .string s, .int .i64 u, .int .i64 v, .int .i64 r, .int .i64 t, .int .i64 ow, .int .u8 ph, .bool g]] w fun e w' => e = .returned (.bool (rightUpB k r t ph)) ∧ Below w.heap.size w w' := by
  unfold rightUpB
  by_cases hk0 : k = 0
  · subst hk0
    have hc := fun w => rightCounts_any 0 s u v r t ow ph g w
    generalize countsB r t = b at hc ⊢
    go_enter Tryz.func120, Tryz.ntmps120
    go_wp2_with (go_at_call 176; refine (hc _).mono ?_; rintro e w' ⟨rfl, rfl⟩)
    go_ret
    exact ⟨rfl, ((Below.refl _ _).alloc (Nat.le_refl _) _).alloc (by simp) _⟩
  · by_cases hk1 : k = 1
    · subst hk1
      have hc := fun w => rightPhase_any 1 s u v r t ow ph g w
      generalize decide (ph ≤ 2) = b at hc ⊢
      go_enter Tryz.func120, Tryz.ntmps120
      go_wp2_with (go_at_call 177; refine (hc _).mono ?_; rintro e w' ⟨rfl, rfl⟩)
      go_ret
      exact ⟨rfl, ((Below.refl _ _).alloc (Nat.le_refl _) _).alloc (by simp) _⟩
    · have h0 : (k == 0) = false := by simpa using hk0
      have h1 : (k == 1) = false := by simpa using hk1
      rw [if_neg hk0, if_neg hk1]
      clear hk0 hk1
      go_enter Tryz.func120, Tryz.ntmps120
      go_wp2
      go_ret
      exact ⟨rfl, (Below.refl _ _).alloc (Nat.le_refl _) _⟩

end Go.Proofs.YtdgfjneapialdaaGreatDoor.S

namespace Go.Proofs.YtdgfjneapialdaaGreatDoor.S
open Go Go.RowKit

def nameTo (l : List UInt8) : Bool := l.all fun c => decide (97 ≤ (c.toNat : Int)) && decide ((c.toNat : Int) ≤ 122)
def nameB (s : ByteArray) : Bool := decide (1 ≤ s.size) && decide (s.size ≤ 8) && nameTo s.data.toList

theorem take_snoc (s : ByteArray) (k : Nat) (h : k < s.size) : s.data.toList.take (k + 1) = s.data.toList.take k ++ [s[k]] := by
  rw [List.take_succ_eq_append_getElem (by simpa using h)]; rfl
theorem nameTo_take_succ (s : ByteArray) (k : Nat) (h : k < s.size) : nameTo (s.data.toList.take (k + 1)) = (nameTo (s.data.toList.take k) && (decide (97 ≤ (s[k].toNat : Int)) && decide ((s[k].toNat : Int) ≤ 122))) := by
  rw [take_snoc s k h]; unfold nameTo; rw [List.all_append]; simp
theorem nameTo_bad (s : ByteArray) (k : Nat) (h : k < s.size) (hb : (decide (97 ≤ (s[k].toNat : Int)) && decide ((s[k].toNat : Int) ≤ 122)) = false) : nameTo s.data.toList = false := by
  have e : s.data.toList = s.data.toList.take (k + 1) ++ s.data.toList.drop (k + 1) := (List.take_append_drop _ _).symm
  have h1 := nameTo_take_succ s k h
  rw [hb, Bool.and_false] at h1
  rw [e]; unfold nameTo at *; rw [List.all_append, h1, Bool.false_and]
theorem nameTo_whole (s : ByteArray) (k : Nat) (h : ¬ k < s.size) (hk : nameTo (s.data.toList.take k) = true) : nameTo s.data.toList = true := by
  rw [List.take_of_length_le (by simp; omega)] at hk; exact hk

set_option maxHeartbeats 400000 in
theorem rightName_any (s : ByteArray) (w : World) (hs : s.size ≤ maxLen) :
    Calls Tryz.prog 224 #[.string s] w fun e w' => e = .returned (.bool (nameB s)) ∧ w' = w := by
  unfold maxLen at hs
  by_cases h1 : s.size < 1
  · have hb : nameB s = false := by unfold nameB; simp; omega
    rw [hb]
    have h1' : (s.size : Int) < 1 := by omega
    go_enter Tryz.func224, Tryz.ntmps224
    go_wp2
    go_ret
    exact ⟨rfl, rfl⟩
  · by_cases h2 : 8 < s.size
    · have hb : nameB s = false := by unfold nameB; simp; omega
      rw [hb]
      have h1' : ¬ (s.size : Int) < 1 := by omega
      have h2' : 8 < (s.size : Int) := by omega
      go_enter Tryz.func224, Tryz.ntmps224
      go_wp2
      go_ret
      exact ⟨rfl, rfl⟩
    · have hb : nameB s = nameTo s.data.toList := by unfold nameB; simp [show 1 ≤ s.size by omega, show s.size ≤ 8 by omega]
      rw [hb]
      clear hb
      have h1' : ¬ (s.size : Int) < 1 := by omega
      have h2' : ¬ 8 < (s.size : Int) := by omega
      have hd1 : decide ((s.size : Int) < 1) = false := by simpa using h1'
      have hd2 : decide (8 < (s.size : Int)) = false := by simpa using h2'
      go_enter Tryz.func224, Tryz.ntmps224
      go_wp2
      go_loop [14] (fun i => ∃ k : Nat, k ≤ s.size ∧ i = .int .i64 k ∧ nameTo (s.data.toList.take k) = true) (fun i => s.size - (intOf i).toNat)
      case atStart => exact ⟨0, Nat.zero_le _, rfl, rfl⟩
      case round =>
        obtain ⟨k, hk, rfl, hn⟩ := hrel
        by_cases hlt : k < s.size
        · have H1 := nameTo_take_succ s k hlt
          have H2 := nameTo_bad s k hlt
          rw [hn, Bool.true_and] at H1
          have H3 : Hid (nameTo (s.data.toList.take (k + 1)) = (decide (97 ≤ (s[k].toNat : Int)) && decide ((s[k].toNat : Int) ≤ 122))) := H1
          have H4 : Hid ((decide (97 ≤ (s[k].toNat : Int)) && decide ((s[k].toNat : Int) ≤ 122)) = false → nameTo s.data.toList = false) := H2
          clear H1 H2 hn
          by_cases hlo : (s[k].toNat : Int) < 97
          · go_wp2
            go_ret
            exact ⟨ret_bool (by rw [H4.out (by simp; omega)]), rfl⟩
          · have hlo' : decide ((s[k].toNat : Int) < 97) = false := by simpa using hlo
            by_cases hhi : 122 < (s[k].toNat : Int)
            · go_wp2
              go_ret
              exact ⟨ret_bool (by rw [H4.out (by simp; omega)]), rfl⟩
            · have hhi' : decide (122 < (s[k].toNat : Int)) = false := by simpa using hhi
              go_wp2
              go_round
              case rel => exact ⟨k + 1, by omega, by go_num, by rw [H3.out]; simp; omega⟩
              case measure => simp [intOf]; omega
        · have H5 : Hid (nameTo s.data.toList = true) := nameTo_whole s k hlt hn
          clear hn
          go_wp2
          go_ret
          exact ⟨ret_bool H5.out.symm, rfl⟩

end Go.Proofs.YtdgfjneapialdaaGreatDoor.S

namespace Go.Proofs.YtdgfjneapialdaaGreatDoor.S
open Go Go.RowKit Go.Maps

def rightCrB (k : Int) (s : ByteArray) (r t ow ph : Int) : Bool :=
  if k = 0 then nameB s && countsB r t && (ow == 0) && (ph == 0)
  else if k = 1 then s.toList.isEmpty && decide (1 ≤ ow) && decide (ph ≤ 2) && (r == 0) && (t == 0) else false

set_option maxHeartbeats 1000000 in
theorem rightToCreate_any (k : Int) (s : ByteArray) (u v r t ow ph : Int) (g : Bool) (w : World) (hs : s.size ≤ maxLen) :
    Calls Tryz.prog 174 #[.agg #[.int .u8 k, .string s, .int .i64 u, .int .i64 v, .int .i64 r, .int .i64 t, .int .i64 ow, .int .u8 ph, .bool g]] w fun e w' => e = .returned (.bool (rightCrB k s r t ow ph)) ∧ Below w.heap.size w w' := by
  unfold rightCrB
  by_cases hk0 : k = 0
  · subst hk0
    rw [if_pos rfl]
    have hc := fun w => rightCounts_any 0 s u v r t ow ph g w
    have hn := fun w => rightName_any s w hs
    clear hs
    generalize countsB r t = b at hc ⊢
    generalize nameB s = a at hn ⊢
    cases a
    · go_enter Tryz.func174, Tryz.ntmps174
      go_wp2_with (go_at_call 224; refine (hn _).mono ?_; rintro e w' ⟨rfl, rfl⟩)
      go_ret
      exact ⟨rfl, (Below.refl _ _).alloc (Nat.le_refl _) _⟩
    · cases b
      · go_enter Tryz.func174, Tryz.ntmps174
        go_wp2_with (first | (go_at_call 224; refine (hn _).mono ?_; rintro e w' ⟨rfl, rfl⟩) | (go_at_call 176; refine (hc _).mono ?_; rintro e w' ⟨rfl, rfl⟩))
        go_ret
        exact ⟨rfl, ((Below.refl _ _).alloc (Nat.le_refl _) _).alloc (by simp) _⟩
      · cases ho : (ow == 0) <;> cases hp : (ph == 0)
        all_goals
          go_enter Tryz.func174, Tryz.ntmps174
          go_wp2_with (first | (go_at_call 224; refine (hn _).mono ?_; rintro e w' ⟨rfl, rfl⟩) | (go_at_call 176; refine (hc _).mono ?_; rintro e w' ⟨rfl, rfl⟩))
          go_ret
          exact ⟨rfl, ((Below.refl _ _).alloc (Nat.le_refl _) _).alloc (by simp) _⟩
  · by_cases hk1 : k = 1
    · subst hk1
      rw [if_neg (by decide), if_pos rfl]
      have hc := fun w => rightPhase_any 1 s u v r t ow ph g w
      generalize decide (ph ≤ 2) = b at hc ⊢
      cases he : s.toList.isEmpty
      · go_enter Tryz.func174, Tryz.ntmps174
        go_wp2
        go_ret
        exact ⟨rfl, (Below.refl _ _).alloc (Nat.le_refl _) _⟩
      · by_cases ho : 1 ≤ ow
        · cases b
          · have hd : decide (1 ≤ ow) = true := by simpa using ho
            rw [hd]
            go_enter Tryz.func174, Tryz.ntmps174
            go_wp2_with (go_at_call 177; refine (hc _).mono ?_; rintro e w' ⟨rfl, rfl⟩)
            go_ret
            exact ⟨rfl, ((Below.refl _ _).alloc (Nat.le_refl _) _).alloc (by simp) _⟩
          · have hd : decide (1 ≤ ow) = true := by simpa using ho
            rw [hd]
            by_cases hr0 : r = 0
            · subst hr0
              by_cases ht0 : t = 0
              · subst ht0
                go_enter Tryz.func174, Tryz.ntmps174
                go_wp2_with (go_at_call 177; refine (hc _).mono ?_; rintro e w' ⟨rfl, rfl⟩)
                go_ret
                exact ⟨rfl, ((Below.refl _ _).alloc (Nat.le_refl _) _).alloc (by simp) _⟩
              · have ht : (t == 0) = false := by simpa using ht0
                clear ht0
                go_enter Tryz.func174, Tryz.ntmps174
                go_wp2_with (go_at_call 177; refine (hc _).mono ?_; rintro e w' ⟨rfl, rfl⟩)
                go_ret
                exact ⟨ret_bool (by simp [ht]), ((Below.refl _ _).alloc (Nat.le_refl _) _).alloc (by simp) _⟩
            · have hr : (r == 0) = false := by simpa using hr0
              clear hr0
              go_enter Tryz.func174, Tryz.ntmps174
              go_wp2_with (go_at_call 177; refine (hc _).mono ?_; rintro e w' ⟨rfl, rfl⟩)
              go_ret
              exact ⟨ret_bool (by simp [hr]), ((Below.refl _ _).alloc (Nat.le_refl _) _).alloc (by simp) _⟩
        · have hd : decide (1 ≤ ow) = false := by simpa using ho
          rw [hd]
          go_enter Tryz.func174, Tryz.ntmps174
          go_wp2
          go_ret
          exact ⟨rfl, (Below.refl _ _).alloc (Nat.le_refl _) _⟩
    · have h0 : (k == 0) = false := by simpa using hk0
      have h1 : (k == 1) = false := by simpa using hk1
      rw [if_neg hk0, if_neg hk1]
      clear hk0 hk1
      go_enter Tryz.func174, Tryz.ntmps174
      go_wp2
      go_ret
      exact ⟨rfl, (Below.refl _ _).alloc (Nat.le_refl _) _⟩

end Go.Proofs.YtdgfjneapialdaaGreatDoor.S

namespace Go.Proofs.YtdgfjneapialdaaGreatDoor.S
open Go Go.RowKit Go.Maps

/-- An object of the store. -/
structure Ob where
  kind : Int
  name : ByteArray
  uid : Int
  version : Int
  replicas : Int
  status : Int
  owner : Int
  phase : Int
  gone : Bool

def Ob.arr (o : Ob) : Array Value := #[.int .u8 o.kind, .string o.name, .int .i64 o.uid, .int .i64 o.version, .int .i64 o.replicas, .int .i64 o.status, .int .i64 o.owner, .int .u8 o.phase, .bool o.gone]
def Ob.dat (o : Ob) : DataW Unit := .agg [.lit (.int .u8 o.kind), .lit (.string o.name.data.toList), .lit (.int .i64 o.uid), .lit (.int .i64 o.version), .lit (.int .i64 o.replicas), .lit (.int .i64 o.status), .lit (.int .i64 o.owner), .lit (.int .u8 o.phase), .lit (.bool o.gone)]
def Ob.zero : Ob := ⟨0, ⟨#[]⟩, 0, 0, 0, 0, 0, 0, false⟩

theorem Ob.dat_inj {a b : Ob} (h : a.dat = b.dat) : a = b := by
  obtain ⟨a0, ⟨⟨a1⟩⟩, a2, a3, a4, a5, a6, a7, a8⟩ := a
  obtain ⟨b0, ⟨⟨b1⟩⟩, b2, b3, b4, b5, b6, b7, b8⟩ := b
  simp [Ob.dat] at h
  simp [h]

/-- How an element of the map reads. -/
def objR : Value → Option (DataW Unit × List MemPlace)
  | .agg ⟨[.int .u8 k, .string s, .int .i64 u, .int .i64 v, .int .i64 r, .int .i64 t, .int .i64 ow, .int .u8 ph, .bool g]⟩ => some ((Ob.mk k s u v r t ow ph g).dat, [])
  | _ => none

theorem objR_mk (o : Ob) : objR (.agg o.arr) = some (o.dat, []) := rfl
theorem objR_inv {v : Value} {y : DataW Unit × List MemPlace} (h : objR v = some y) : ∃ o : Ob, v = .agg o.arr ∧ y = (o.dat, []) := by
  unfold objR at h
  split at h
  · rename_i k s u v r t ow ph g
    exact ⟨⟨k, s, u, v, r, t, ow, ph, g⟩, rfl, (Option.some.inj h).symm⟩
  · cases h

theorem laidOut : laidOutB Tryz.prog = true := by kernel_rfl
theorem row58 : (167 : TypeId) < Tryz.prog.types.size := of_decide_eq_true (by kernel_rfl)
theorem wide58 : (match Tryz.prog.underlying 167 with | some (.array _ _) | some (.struct _) => true | _ => false) = true := by kernel_rfl
set_option maxRecDepth 100000 in
theorem law58 : Keyed Tryz.prog 167 := Keyed.of_law (deep_law_laid laidOut (m := 3) (by omega) row58 (by kernel_rfl) wide58)
theorem zero29 (w : World) : (zeroValue 84).run Tryz.prog w = .ok (.agg Ob.zero.arr) w := by kernel_rfl

/-- The key of an object. -/
def keyV (k : Int) (s : ByteArray) : Value := .agg #[.int .u8 k, .string s]
def klit (k : Int) (s : ByteArray) : Lit := .string (keyBytes [.int .u8 k, .string s.data.toList])

theorem cells58 : Tryz.prog.cellsOf 167 = 2 := by kernel_rfl
theorem cells5 : Tryz.prog.cellsOf 5 = 1 := by kernel_rfl
theorem cells9 : Tryz.prog.cellsOf 9 = 1 := by kernel_rfl
theorem keyType58 : Tryz.prog.keyType 167 = true := by kernel_rfl
theorem under58 : ∃ f0 f1, Tryz.prog.underlying 167 = some (.struct #[f0, f1]) ∧ f0.type = 5 ∧ f1.type = 9 ∧ f0.offset = 0 ∧ f1.offset = 1 ∧ (f0.name != "_") = true ∧ (f1.name != "_") = true := ⟨_, _, Tryz.underlying167, rfl, rfl, rfl, rfl, by decide, by decide⟩
theorem size121 : ∃ m, Tryz.prog.types.size + 1 = m + 2 := ⟨347, by kernel_rfl⟩

theorem wf_u8 (k : Int) (h0 : 0 ≤ k) (h1 : k ≤ 255) : (Lit.int .u8 k).wf = true := by
  simp only [Lit.wf, IntKind.min, IntKind.max, IntKind.signed, IntKind.bits, Bool.and_eq_true]
  simp; omega

theorem key58 (k : Int) (s : ByteArray) (h0 : 0 ≤ k) (h1 : k ≤ 255) (hs : s.size ≤ maxLen) : keyOf Tryz.prog 167 (keyV k s) = some (klit k s) := by
  obtain ⟨f0, f1, hu, t0, t1, o0, o1, n0, n1⟩ := under58
  obtain ⟨m, hm⟩ := size121
  have hf : (keyV k s).formed Tryz.prog 167 = true := by simp [keyV, Value.formed, hu, cells58]
  have e5 : Tryz.prog.keyLits (m + 1) 5 [.int .u8 k] = some [.int .u8 k] := by simp [Program.keyLits, Tryz.underlying5, wf_u8 k h0 h1]
  have e9 : Tryz.prog.keyLits (m + 1) 9 [.string s] = some [.string s.data.toList] := by simp [Program.keyLits, Tryz.underlying9, hs]
  have e58 : Tryz.prog.keyLits (m + 2) 167 [.int .u8 k, .string s] = some [.int .u8 k, .string s.data.toList] := by
    rw [Program.keyLits.eq_def]
    simp [hu, cells58, n0, n1, t0, t1, o0, o1, cells5, cells9, e5, e9]
  unfold keyOf
  rw [hu]
  simp only [keyType58, hf, Bool.and_self, if_true, hm]
  show Option.map _ (Tryz.prog.keyLits (m + 2) 167 [.int .u8 k, .string s]) = _
  rw [e58]
  rfl

end Go.Proofs.YtdgfjneapialdaaGreatDoor.S

namespace Go.Proofs.YtdgfjneapialdaaGreatDoor.S
open Go Go.RowKit Go.Maps

def storeArr (lim ver cre : Int) (mb : Nat) (log : List Value) : Array Value := (Value.int .i64 lim :: .int .i64 ver :: .int .i64 cre :: .map (some mb) :: log).toArray

/-- Block sb is a store whose map is block mb. -/
structure IsStore (w : World) (sb mb : Nat) (lim ver cre : Int) (log : List Value) (n : Nat) (D : DataW Unit) : Prop where
  blk : w.heap[sb]? = some (.cells (storeArr lim ver cre mb log) 173 (0, 0))
  len : log.length = 160
  map : w.ownsMap Tryz.prog 167 objR mb n D

/-- Nothing that was there has turned but the blocks sb and mb. -/
structure Kept (sb mb : Nat) (w w' : World) : Prop where
  os : w'.os = w.os
  tape : w'.tape = w.tape
  output : w'.output = w.output
  size : w.heap.size ≤ w'.heap.size
  block : ∀ k, k < w.heap.size → k ≠ sb → k ≠ mb → w'.heap[k]? = w.heap[k]?

section
variable {sb mb : Nat} {w w' w'' W : World} {lim ver cre : Int} {log : List Value} {n : Nat} {D : DataW Unit}

theorem Kept.refl (sb mb : Nat) (w : World) : Kept sb mb w w := ⟨rfl, rfl, rfl, Nat.le_refl _, fun _ _ _ _ => rfl⟩
theorem Kept.trans (h : Kept sb mb w w') (k : Kept sb mb w' w'') : Kept sb mb w w'' :=
  ⟨k.os.trans h.os, k.tape.trans h.tape, k.output.trans h.output, Nat.le_trans h.size k.size, fun i hi h1 h2 => (k.block i (Nat.lt_of_lt_of_le hi h.size) h1 h2).trans (h.block i hi h1 h2)⟩
theorem Kept.below (h : Kept sb mb w W) (k : Below W.heap.size W w') : Kept sb mb w w' :=
  h.trans ⟨k.os, k.tape, k.output, k.size, fun i hi _ _ => k.block i hi⟩
theorem Kept.alloc (h : Kept sb mb w W) (o : Obj) : Kept sb mb w (W.alloc o) :=
  h.below ((Below.refl _ _).alloc (Nat.le_refl _) _)
theorem Kept.drew (h : Kept sb mb w W) : Kept sb mb w W.drew := ⟨h.os, h.tape, h.output, h.size, h.block⟩
theorem Kept.setStore (h : Kept sb mb w W) (o : Nat) (v : Value) : Kept sb mb w (W.setCell ⟨sb, o, none⟩ v) :=
  ⟨h.os, h.tape, h.output, by simpa [World.setCell] using h.size, fun i hi h1 h2 => (Below.heap_setCell W _ _ i h1).trans (h.block i hi h1 h2)⟩
theorem Kept.setNew (h : Kept sb mb w W) {a : Addr} (ha : w.heap.size ≤ a.block) (v : Value) : Kept sb mb w (W.setCell a v) :=
  ⟨h.os, h.tape, h.output, by simpa [World.setCell] using h.size, fun i hi h1 h2 => (Below.heap_setCell W a v i (by omega)).trans (h.block i hi h1 h2)⟩
theorem Kept.turned (h : Kept sb mb w W) (k : W.mapTurned w' mb) : Kept sb mb w w' :=
  h.trans ⟨k.grown.os, k.grown.tape, k.grown.output, k.grown.size, fun i hi _ h2 => k.grown.block i hi (fun e => h2 (Option.some.inj e))⟩
theorem Kept.toBelow {B : Nat} (h : Kept sb mb w w') (hs : B ≤ sb) (hm : B ≤ mb) (hB : B ≤ w.heap.size) : Below B w w' :=
  ⟨h.os, h.tape, h.output, h.size, fun i hi => h.block i (by omega) (by omega) (by omega)⟩
/-- What the caller itself has made reads as before. -/
theorem Kept.new {B : Nat} (h : Kept sb mb W w') (hs : sb < B) (hm : mb < B) :
    (∀ b o, B ≤ b → b < W.heap.size → w'.cell? ⟨b, o, none⟩ = W.cell? ⟨b, o, none⟩) ∧ (∀ b o, B ≤ b → b < W.heap.size → w'.frozen? ⟨b, o, none⟩ = W.frozen? ⟨b, o, none⟩) :=
  ⟨fun b _ h1 h2 => World.cell?_of_block (h.block b h2 (by omega) (by omega)), fun b _ h1 h2 => World.frozen?_of_block (h.block b h2 (by omega) (by omega))⟩

theorem bcell {W w1 : World} (hb : Below W.heap.size W w1) : (∀ b o, b < W.heap.size → w1.cell? ⟨b, o, none⟩ = W.cell? ⟨b, o, none⟩) ∧ (∀ b o, b < W.heap.size → w1.frozen? ⟨b, o, none⟩ = W.frozen? ⟨b, o, none⟩) :=
  ⟨fun b o h => hb.cell (p := ⟨b, o, none⟩) h, fun b o h => hb.frozen (p := ⟨b, o, none⟩) h⟩

theorem IsStore.lt (h : IsStore w sb mb lim ver cre log n D) : sb < w.heap.size := by
  have := h.blk; exact (Array.getElem?_eq_some_iff.1 this).1
theorem IsStore.mlt (h : IsStore w sb mb lim ver cre log n D) : mb < w.heap.size := h.map.lt
theorem IsStore.ne (h : IsStore w sb mb lim ver cre log n D) : mb ≠ sb := by
  intro e
  obtain ⟨es, clock, hb, _⟩ := h.map
  rw [e, h.blk] at hb
  cases hb
theorem IsStore.c0 (h : IsStore w sb mb lim ver cre log n D) : w.cell? ⟨sb, 0, none⟩ = some (.int .i64 lim) := by simp [World.cell?, h.blk, storeArr]
theorem IsStore.c1 (h : IsStore w sb mb lim ver cre log n D) : w.cell? ⟨sb, 1, none⟩ = some (.int .i64 ver) := by simp [World.cell?, h.blk, storeArr]
theorem IsStore.c2 (h : IsStore w sb mb lim ver cre log n D) : w.cell? ⟨sb, 2, none⟩ = some (.int .i64 cre) := by simp [World.cell?, h.blk, storeArr]
theorem IsStore.c3 (h : IsStore w sb mb lim ver cre log n D) : w.cell? ⟨sb, 3, none⟩ = some (.map (some mb)) := by simp [World.cell?, h.blk, storeArr]
theorem IsStore.fz (h : IsStore w sb mb lim ver cre log n D) : ∀ o, w.frozen? ⟨sb, o, none⟩ = false := fun o => by simp [World.frozen?, h.blk]
theorem IsStore.lg (h : IsStore w sb mb lim ver cre log n D) (m : Nat) (hm : m < 160) : ∃ v, w.cell? ⟨sb, 4 + m, none⟩ = some v ∧ log[m]? = some v := by
  have hl := h.len
  refine ⟨log[m], ?_, by simp⟩
  simp only [World.cell?, h.blk, storeArr]
  rw [show (4 + m) = (m + 4) from Nat.add_comm _ _]
  simp [hl, hm]

theorem IsStore.keep (h : IsStore w sb mb lim ver cre log n D) (hs : w'.heap[sb]? = w.heap[sb]?) (hm : w'.heap[mb]? = w.heap[mb]?) : IsStore w' sb mb lim ver cre log n D := by
  refine ⟨hs.trans h.blk, h.len, ?_⟩
  obtain ⟨es, clock, hb, r⟩ := h.map
  exact ⟨es, clock, hm.trans hb, r⟩
theorem IsStore.below (h : IsStore w sb mb lim ver cre log n D) (k : Below w.heap.size w w') : IsStore w' sb mb lim ver cre log n D := h.keep (k.block _ h.lt) (k.block _ h.mlt)
theorem IsStore.alloc (h : IsStore w sb mb lim ver cre log n D) (o : Obj) : IsStore (w.alloc o) sb mb lim ver cre log n D := h.below ((Below.refl _ _).alloc (Nat.le_refl _) _)
theorem IsStore.drew (h : IsStore w sb mb lim ver cre log n D) : IsStore w.drew sb mb lim ver cre log n D := h.keep rfl rfl
theorem IsStore.setNew (h : IsStore w sb mb lim ver cre log n D) {a : Addr} (h1 : sb ≠ a.block) (h2 : mb ≠ a.block) (v : Value) : IsStore (w.setCell a v) sb mb lim ver cre log n D :=
  h.keep (Below.heap_setCell _ _ _ _ h1) (Below.heap_setCell _ _ _ _ h2)
theorem heap_setCell_same {cs : Array Value} {t : TypeId} (h : w.heap[sb]? = some (.cells cs t (0, 0))) (o : Nat) (v : Value) : (w.setCell ⟨sb, o, none⟩ v).heap[sb]? = some (.cells (cs.setIfInBounds o v) t (0, 0)) := by
  simp [World.setCell, Array.getElem?_modify, h]
theorem IsStore.set1 (h : IsStore w sb mb lim ver cre log n D) (x : Int) : IsStore (w.setCell ⟨sb, 1, none⟩ (.int .i64 x)) sb mb lim x cre log n D :=
  ⟨by rw [heap_setCell_same h.blk]; simp [storeArr], h.len, h.map.setCell h.ne _⟩
theorem IsStore.set2 (h : IsStore w sb mb lim ver cre log n D) (x : Int) : IsStore (w.setCell ⟨sb, 2, none⟩ (.int .i64 x)) sb mb lim ver x log n D :=
  ⟨by rw [heap_setCell_same h.blk]; simp [storeArr], h.len, h.map.setCell h.ne _⟩
theorem IsStore.setLog (h : IsStore w sb mb lim ver cre log n D) (m : Nat) (x : Value) : IsStore (w.setCell ⟨sb, 4 + m, none⟩ x) sb mb lim ver cre (log.set m x) n D :=
  ⟨by rw [heap_setCell_same h.blk, Nat.add_comm]; simp [storeArr], by simp [h.len], h.map.setCell h.ne _⟩
theorem IsStore.mono (h : IsStore w sb mb lim ver cre log n D) {n' : Nat} (hn : n ≤ n') : IsStore w sb mb lim ver cre log n' D := ⟨h.blk, h.len, h.map.mono hn⟩
end

/-- The log with ten cells laid over it. -/
def logPut : List Value → Nat → List Value → List Value
  | log, _, [] => log
  | log, m, x :: r => logPut (log.set m x) (m + 1) r
theorem logPut_length : ∀ (xs : List Value) (log : List Value) (m : Nat), (logPut log m xs).length = log.length
  | [], _, _ => rfl
  | x :: r, log, m => by rw [logPut, logPut_length r]; simp

end Go.Proofs.YtdgfjneapialdaaGreatDoor.S

namespace Go.Proofs.YtdgfjneapialdaaGreatDoor.S
open Go Go.RowKit Go.Maps

theorem IsStore.lg' {w : World} (sb mb : Nat) (lim ver cre : Int) (log : List Value) (n : Nat) (D : DataW Unit) (h : IsStore w sb mb lim ver cre log n D) (i j : Nat) (hi : i < 16) (hj : j < 10) : ∃ v, w.cell? ⟨sb, 4 + i * 10 + j, none⟩ = some v := by
  obtain ⟨v, hv, _⟩ := h.lg (i * 10 + j) (by omega)
  exact ⟨v, by rw [Nat.add_assoc]; exact hv⟩
theorem IsStore.setLog' {w : World} (sb mb : Nat) (lim ver cre : Int) (log : List Value) (n : Nat) (D : DataW Unit) (h : IsStore w sb mb lim ver cre log n D) (i j : Nat) (x : Value) : IsStore (w.setCell ⟨sb, 4 + i * 10 + j, none⟩ x) sb mb lim ver cre (log.set (i * 10 + j) x) n D := by
  have := h.setLog (i * 10 + j) x
  rwa [← Nat.add_assoc] at this

def evCells (so k : Int) (s : ByteArray) (u v r t ow ph : Int) (g : Bool) : List Value := [.int .u8 so, .int .u8 k, .string s, .int .i64 u, .int .i64 v, .int .i64 r, .int .i64 t, .int .i64 ow, .int .u8 ph, .bool g]

set_option maxHeartbeats 1000000 in
theorem leaveEvent_any (k : Int) (s : ByteArray) (u v r t ow ph : Int) (g : Bool) (w : World) (sb mb : Nat) (lim ver cre : Int) (log : List Value) (n : Nat) (D : DataW Unit) (so : Int) (h : IsStore w sb mb lim ver cre log n D) (hv : 0 ≤ ver) (hv2 : ver < 600) :
    Calls Tryz.prog 125 #[.pointer (some ⟨sb, 0, none⟩), .int .u8 so, .agg #[.int .u8 k, .string s, .int .i64 u, .int .i64 v, .int .i64 r, .int .i64 t, .int .i64 ow, .int .u8 ph, .bool g]] w fun e w' => e = .returned (.agg #[.int .u8 k, .string s, .int .i64 u, .int .i64 (ver + 1), .int .i64 r, .int .i64 t, .int .i64 ow, .int .u8 ph, .bool g]) ∧
      IsStore w' sb mb lim (ver + 1) cre (logPut log (((ver + 1) % 16).toNat * 10) (evCells so k s u (ver + 1) r t ow ph g)) n D ∧ Kept sb mb w w' := by
  obtain ⟨i, hi⟩ : ∃ i : Nat, (ver + 1) % 16 = (i : Int) := ⟨((ver + 1) % 16).toNat, by omega⟩
  have hi2 : i < 16 := by omega
  rw [hi, Int.toNat_natCast]
  have c1 := h.c1
  have f1 := h.fz
  have hsb := h.lt
  obtain ⟨e0, d0⟩ := h.lg' _ _ _ _ _ _ _ _ i 0 hi2 (by omega)
  obtain ⟨e1, d1⟩ := h.lg' _ _ _ _ _ _ _ _ i 1 hi2 (by omega)
  obtain ⟨e2, d2⟩ := h.lg' _ _ _ _ _ _ _ _ i 2 hi2 (by omega)
  obtain ⟨e3, d3⟩ := h.lg' _ _ _ _ _ _ _ _ i 3 hi2 (by omega)
  obtain ⟨e4, d4⟩ := h.lg' _ _ _ _ _ _ _ _ i 4 hi2 (by omega)
  obtain ⟨e5, d5⟩ := h.lg' _ _ _ _ _ _ _ _ i 5 hi2 (by omega)
  obtain ⟨e6, d6⟩ := h.lg' _ _ _ _ _ _ _ _ i 6 hi2 (by omega)
  obtain ⟨e7, d7⟩ := h.lg' _ _ _ _ _ _ _ _ i 7 hi2 (by omega)
  obtain ⟨e8, d8⟩ := h.lg' _ _ _ _ _ _ _ _ i 8 hi2 (by omega)
  obtain ⟨e9, d9⟩ := h.lg' _ _ _ _ _ _ _ _ i 9 hi2 (by omega)
  simp only [Nat.add_zero] at d0
  have H : Hid (IsStore w sb mb lim ver cre log n D) := h
  clear h
  go_enter Tryz.func125, Tryz.ntmps125
  go_wp2
  go_region
  go_wp2
  refine bodyPost_ret (v := .agg #[.int .u8 k, .string s, .int .i64 u, .int .i64 (ver + 1), .int .i64 r, .int .i64 t, .int .i64 ow, .int .u8 ph, .bool g]) (by simp [results, Tryz.results125, go_sem]) rfl ⟨rfl, ?_, ?_⟩
  · have hfin := (((((((((((((H.out.set1 (ver + 1)).setLog (i * 10) (.int .u8 so)).setLog' _ _ _ _ _ _ _ _ i 1 (.int .u8 k)).setLog' _ _ _ _ _ _ _ _ i 2 (.string s)).setLog' _ _ _ _ _ _ _ _ i 3 (.int .i64 u)).setLog' _ _ _ _ _ _ _ _ i 4 (.int .i64 (ver + 1))).setLog' _ _ _ _ _ _ _ _ i 5 (.int .i64 r)).setLog' _ _ _ _ _ _ _ _ i 6 (.int .i64 t)).setLog' _ _ _ _ _ _ _ _ i 7 (.int .i64 ow)).setLog' _ _ _ _ _ _ _ _ i 8 (.int .u8 ph)).setLog' _ _ _ _ _ _ _ _ i 9 (.bool g)).alloc (.cells #[.int .u8 k, .string s, .int .i64 u, .int .i64 (ver + 1), .int .i64 r, .int .i64 t, .int .i64 ow, .int .u8 ph, .bool g] 84)).alloc (.cells #[.int .u8 k, .string s, .int .i64 u, .int .i64 (ver + 1), .int .i64 r, .int .i64 t, .int .i64 ow, .int .u8 ph, .bool g] 84)).drew
    simp only [logPut, evCells]
    exact hfin
  · exact ((((((((((((((Kept.refl sb mb w).setStore 1 _).setStore _ _).setStore _ _).setStore _ _).setStore _ _).setStore _ _).setStore _ _).setStore _ _).setStore _ _).setStore _ _).setStore _ _).alloc _).alloc _).drew

end Go.Proofs.YtdgfjneapialdaaGreatDoor.S

namespace Go.Proofs.YtdgfjneapialdaaGreatDoor.S
open Go Go.RowKit Go.Maps

/-- The map has this object at this key. -/
def At (D : DataW Unit) (k : Int) (s : ByteArray) (o : Ob) : Prop := has D (klit k s) = true ∧ D.atKey (klit k s) Ob.zero.dat = o.dat
def Out (D : DataW Unit) (k : Int) (s : ByteArray) : Prop := has D (klit k s) = false

theorem at_inj {D : DataW Unit} {k : Int} {s : ByteArray} {a b : Ob} (h : At D k s a) (h' : At D k s b) : a = b := Ob.dat_inj (h.2.symm.trans h'.2)

section
variable {w W : World} {sb mb : Nat} {lim ver cre : Int} {log : List Value} {n : Nat} {D : DataW Unit}
theorem IsStore.look (h : IsStore w sb mb lim ver cre log n D) (k : Int) (s : ByteArray) (h0 : 0 ≤ k) (h1 : k ≤ 255) (hs : s.size ≤ maxLen) : (∃ o, At D k s o) ∨ Out D k s := by
  cases hh : has D (klit k s)
  · exact Or.inr hh
  · obtain ⟨v, ps, _, hv⟩ := h.map.look_ok (e := 84) law58 Tryz.underlying105 (zero29 w) (objR_mk Ob.zero) (key58 k s h0 h1 hs)
    obtain ⟨o, _, ho⟩ := objR_inv hv
    exact Or.inl ⟨o, hh, congrArg Prod.fst ho⟩
theorem IsStore.hit (h : IsStore w sb mb lim ver cre log n D) {k : Int} {s : ByteArray} {o : Ob} (h0 : 0 ≤ k) (h1 : k ≤ 255) (hs : s.size ≤ maxLen) (ha : At D k s o) :
    (Instr.lookup 105 (.map (some mb)) (.agg #[.int .u8 k, .string s]) true).run Tryz.prog w = .ok (.tuple #[.agg o.arr, .bool true]) w := by
  obtain ⟨v, ps, hr, hv⟩ := h.map.look_ok (e := 84) law58 Tryz.underlying105 (zero29 w) (objR_mk Ob.zero) (key58 k s h0 h1 hs)
  obtain ⟨o', rfl, ho⟩ := objR_inv hv
  have : o = o' := Ob.dat_inj (ha.2.symm.trans (congrArg Prod.fst ho))
  subst this
  rw [ha.1] at hr
  exact hr
theorem IsStore.miss (h : IsStore w sb mb lim ver cre log n D) {k : Int} {s : ByteArray} (h0 : 0 ≤ k) (h1 : k ≤ 255) (hs : s.size ≤ maxLen) (ha : Out D k s) :
    (Instr.lookup 105 (.map (some mb)) (.agg #[.int .u8 k, .string s]) true).run Tryz.prog w = .ok (.tuple #[.agg #[.int .u8 0, .string ⟨#[]⟩, .int .i64 0, .int .i64 0, .int .i64 0, .int .i64 0, .int .i64 0, .int .u8 0, .bool false], .bool false]) w := by
  obtain ⟨v, ps, hr, hv⟩ := h.map.look_ok (e := 84) law58 Tryz.underlying105 (zero29 w) (objR_mk Ob.zero) (key58 k s h0 h1 hs)
  obtain ⟨o', rfl, ho⟩ := objR_inv hv
  rw [atKey_of_not_has ha] at ho
  have : Ob.zero = o' := Ob.dat_inj (congrArg Prod.fst ho)
  subst this
  rw [show has D (klit k s) = false from ha] at hr
  exact hr
end

set_option maxHeartbeats 1000000 in
theorem get_miss (w : World) (sb mb : Nat) (lim ver cre : Int) (log : List Value) (n : Nat) (D : DataW Unit) (k : Int) (s : ByteArray) (h : IsStore w sb mb lim ver cre log n D) (h0 : 0 ≤ k) (h1 : k ≤ 255) (hs : s.size ≤ maxLen) (ha : Out D k s) :
    Calls Tryz.prog 52 #[.pointer (some ⟨sb, 0, none⟩), .int .u8 k, .string s] w fun e w' => e = .returned (.tuple #[.agg #[.int .u8 0, .string ⟨#[]⟩, .int .i64 0, .int .i64 0, .int .i64 0, .int .i64 0, .int .i64 0, .int .u8 0, .bool false], .int .i64 3]) ∧ Below w.heap.size w w' := by
  have c3 := h.c3
  have hsb := h.lt
  have hl := fun o => (h.alloc o).miss h0 h1 hs ha
  clear h
  go_enter Tryz.func52, Tryz.ntmps52
  go_wp2
  exact bodyPost_ret (v := .tuple #[.agg #[.int .u8 0, .string ⟨#[]⟩, .int .i64 0, .int .i64 0, .int .i64 0, .int .i64 0, .int .i64 0, .int .u8 0, .bool false], .int .i64 3]) (by simp [results, Tryz.results52, go_sem]) rfl ⟨rfl, ((Below.refl _ _).alloc (Nat.le_refl _) _).alloc (by simp) _⟩

set_option maxHeartbeats 1000000 in
theorem get_hit (w : World) (sb mb : Nat) (lim ver cre : Int) (log : List Value) (n : Nat) (D : DataW Unit) (k : Int) (s : ByteArray) (o : Ob) (h : IsStore w sb mb lim ver cre log n D) (h0 : 0 ≤ k) (h1 : k ≤ 255) (hs : s.size ≤ maxLen) (ha : At D k s o) :
    Calls Tryz.prog 52 #[.pointer (some ⟨sb, 0, none⟩), .int .u8 k, .string s] w fun e w' => e = .returned (.tuple #[.agg o.arr, .int .i64 0]) ∧ Below w.heap.size w w' := by
  have c3 := h.c3
  have hsb := h.lt
  have hl := fun o => (h.alloc o).hit h0 h1 hs ha
  obtain ⟨a0, a1, a2, a3, a4, a5, a6, a7, a8⟩ := o
  simp only [Ob.arr] at hl ⊢
  clear h ha
  go_enter Tryz.func52, Tryz.ntmps52
  go_wp2
  exact bodyPost_ret (v := .tuple #[.agg #[.int .u8 a0, .string a1, .int .i64 a2, .int .i64 a3, .int .i64 a4, .int .i64 a5, .int .i64 a6, .int .u8 a7, .bool a8], .int .i64 0]) (by simp [results, Tryz.results52, go_sem]) rfl ⟨rfl, ((Below.refl _ _).alloc (Nat.le_refl _) _).alloc (by simp) _⟩

end Go.Proofs.YtdgfjneapialdaaGreatDoor.S
