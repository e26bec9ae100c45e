import Derived.Test.YtdgfjneapialdaaGreatDoorSa
import Derived.Shelf.SlicesE.Kit
namespace Go.Proofs.YtdgfjneapialdaaGreatDoor.S
open Go Go.RowKit Go.Maps

def eqB (k : Int) (s : ByteArray) (u v r t ow ph : Int) (g : Bool) (k' : Int) (s' : ByteArray) (u' v' r' t' ow' ph' : Int) (g' : Bool) : Bool :=
  k == k' && (s.toList == s'.toList) && u == u' && v == v' && r == r' && t == t' && ow == ow' && ph == ph' && g == g'

theorem eq29 (k : Int) (s : ByteArray) (u v r t ow ph : Int) (g : Bool) (k' : Int) (s' : ByteArray) (u' v' r' t' ow' ph' : Int) (g' : Bool) (w : World) :
    Sem.run Tryz.prog (binOp .eql 84 (.agg #[.int .u8 k, .string s, .int .i64 u, .int .i64 v, .int .i64 r, .int .i64 t, .int .i64 ow, .int .u8 ph, .bool g]) (.agg #[.int .u8 k', .string s', .int .i64 u', .int .i64 v', .int .i64 r', .int .i64 t', .int .i64 ow', .int .u8 ph', .bool g'])) w = .ok (.bool (eqB k s u v r t ow ph g k' s' u' v' r' t' ow' ph' g')) w := by
  have u3 := Tryz.underlying3
  have a3 := Tryz.isAgg3
  have z3 := Tryz.sizeOf3
  have u5 := Tryz.underlying5
  have a5 := Tryz.isAgg5
  have z5 := Tryz.sizeOf5
  have u9 := Tryz.underlying9
  have a9 := Tryz.isAgg9
  have z9 := Tryz.sizeOf9
  have u4 := Tryz.underlying4
  have a4 := Tryz.isAgg4
  have z4 := Tryz.sizeOf4
  have hS : Tryz.prog.underlying 84 = some (.struct (Tryz.prog.fieldsOf 84)) := by kernel_rfl
  have hp : Tryz.prog.stoodInHeld 84 = false := by kernel_rfl
  rw [run_eql_struct, show (10000 : Nat) = 9999 + 1 from rfl, run_equalIn_agg w 9999 84 _ _ hS hp]
  simp only [Program.fieldsOf, Tryz.underlying84]
  go_simp
  unfold eqB
  by_cases h0 : k = k'
  · by_cases h1 : s.toList = s'.toList
    · by_cases h2 : u = u'
      · by_cases h3 : v = v'
        · by_cases h4 : r = r'
          · by_cases h5 : t = t'
            · by_cases h6 : ow = ow'
              · by_cases h7 : ph = ph'
                · by_cases h8 : g = g' <;> simp [h0, h1, h2, h3, h4, h5, h6, h7, h8]
                · simp [h7]
              · simp [h6]
            · simp [h5]
          · simp [h4]
        · simp [h3]
      · simp [h2]
    · simp [h1]
  · simp [h0]

theorem guard29 (op : BinOp) (a b : Operand) (x y : Array Value) (w : World) : (eqGuard op 84 a b (.agg x) (.agg y)).run Tryz.prog w = .ok () w := run_eqGuard_agg w op 84 a b x y (by kernel_rfl)

theorem toList_inj {a b : ByteArray} (h : a.toList = b.toList) : a = b := by
  rw [ByteArray.toList_eq, ByteArray.toList_eq] at h
  obtain ⟨⟨x⟩⟩ := a
  obtain ⟨⟨y⟩⟩ := b
  simp at h
  rw [h]

theorem eqB_self (k : Int) (s : ByteArray) (u v r t ow ph : Int) (g : Bool) : eqB k s u v r t ow ph g k s u v r t ow ph g = true := by simp [eqB]
theorem eqB_true {k : Int} {s : ByteArray} {u v r t ow ph : Int} {g : Bool} {k' : Int} {s' : ByteArray} {u' v' r' t' ow' ph' : Int} {g' : Bool} (h : eqB k s u v r t ow ph g k' s' u' v' r' t' ow' ph' g' = true) :
    k = k' ∧ s = s' ∧ u = u' ∧ v = v' ∧ r = r' ∧ t = t' ∧ ow = ow' ∧ ph = ph' ∧ g = g' := by
  simp only [eqB, Bool.and_eq_true, beq_iff_eq] at h
  obtain ⟨⟨⟨⟨⟨⟨⟨⟨h0, h1⟩, h2⟩, h3⟩, h4⟩, h5⟩, h6⟩, h7⟩, h8⟩ := h
  exact ⟨h0, toList_inj h1, h2, h3, h4, h5, h6, h7, h8⟩

end Go.Proofs.YtdgfjneapialdaaGreatDoor.S
