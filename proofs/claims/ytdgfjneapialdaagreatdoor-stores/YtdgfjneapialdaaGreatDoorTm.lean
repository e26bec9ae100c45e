import Derived.Test.YtdgfjneapialdaaGreatDoorTa
import Derived.Deep.RegionHeld
import Derived.Laws.AppendOwnNone
namespace Go.Proofs.YtdgfjneapialdaaGreatDoor.S
open Go Go.RowKit Go.Maps

/-- ahead, in all cases. -/
theorem ahead_any (x0 : Int) (x1 : ByteArray) (x2 x3 x4 x5 x6 x7 : Int) (x8 : Bool) (y0 : Int) (y1 : ByteArray) (y2 y3 y4 y5 y6 y7 : Int) (y8 : Bool) (w : World) (hx : x0 = 0 ∨ x0 = 1) :
    Calls Tryz.prog 149 #[.agg #[.int .u8 x0, .string x1, .int .i64 x2, .int .i64 x3, .int .i64 x4, .int .i64 x5, .int .i64 x6, .int .u8 x7, .bool x8], .agg #[.int .u8 y0, .string y1, .int .i64 y2, .int .i64 y3, .int .i64 y4, .int .i64 y5, .int .i64 y6, .int .u8 y7, .bool y8]] w fun e w' => e = .returned (.bool (aheadB ⟨x0, x1, x2, x3, x4, x5, x6, x7, x8⟩ ⟨y0, y1, y2, y3, y4, y5, y6, y7, y8⟩)) ∧ Below w.heap.size w w' := by
  by_cases hk : x0 = y0
  · subst hk
    rcases hx with rfl | rfl
    · exact (ahead_sets x1 x2 x3 x4 x5 x6 x7 x8 y1 y2 y3 y4 y5 y6 y7 y8 w).mono (fun e w' ⟨h1, h2⟩ => ⟨by rw [h1]; simp [aheadB], h2⟩)
    · exact (ahead_pods x1 x2 x3 x4 x5 x6 x7 x8 y1 y2 y3 y4 y5 y6 y7 y8 w).mono (fun e w' ⟨h1, h2⟩ => ⟨by rw [h1]; simp [aheadB], h2⟩)
  · exact (ahead_kinds x0 x1 x2 x3 x4 x5 x6 x7 x8 y0 y1 y2 y3 y4 y5 y6 y7 y8 w hk).mono (fun e w' ⟨h1, h2⟩ => ⟨by rw [h1]; simp [aheadB, hk], h2⟩)

theorem row_in {W : World} {base n cap : Nat} {e : TypeId} {size : Nat} {ad : Option Addr} {xs : List Value} (h : W.ownsRow base e size (.slice ad n cap) n xs) : n ≤ cap ∧ cap ≤ maxLen := by
  rcases h.2 with ⟨h1, h2⟩ | ⟨g, cap', cur, h1, _, _, h3, h4, _⟩
  · injection h1 with a b c; subst b c; exact ⟨Nat.le_refl _, Nat.zero_le _⟩
  · injection h1 with a b c; subst c; exact ⟨h3, h4⟩
theorem flatO_drop (l : List Ob) (k : Nat) : (flatO l).drop (k * 9) = flatO (l.drop k) := by
  induction k generalizing l with
  | zero => simp
  | succ k ih =>
    cases l with
    | nil => simp [flatO]
    | cons x r =>
      have e : flatO (x :: r) = x.arr.toList ++ flatO r := by simp [flatO]
      rw [e, List.drop_succ_cons, ← ih, show (k + 1) * 9 = x.arr.toList.length + k * 9 by simp [Ob.arr]; omega, List.drop_append, List.drop_eq_nil_of_le (by omega), List.nil_append, Nat.add_sub_cancel_left]
theorem flatO_take (l : List Ob) (k : Nat) : (flatO l).take (k * 9) = flatO (l.take k) := by
  induction k generalizing l with
  | zero => simp [flatO]
  | succ k ih =>
    cases l with
    | nil => simp [flatO]
    | cons x r =>
      have e : flatO (x :: r) = x.arr.toList ++ flatO r := by simp [flatO]
      have e2 : flatO (x :: r.take k) = x.arr.toList ++ flatO (r.take k) := by simp [flatO]
      rw [e, List.take_succ_cons, e2, ← ih, show (k + 1) * 9 = x.arr.toList.length + k * 9 by simp [Ob.arr]; omega, List.take_append, List.take_of_length_le (by omega), Nat.add_sub_cancel_left]

/-- One object more, the row's length being n. -/
theorem push_obn {ops : Array Oper} {rest : List Oper} {o : Oper} {a : Act} {Q : Exit → Act → World → Prop} (w : World) {W : World} (y : Ob) (hW : W = w.alloc (.cells y.arr 84)) (hgd : o.guard = none) (s x : Operand) (ho : o.op = .call { callee := .builtin .append, args := #[s, x], argTypes := #[44, 44] }) (base : Nat) (v : Value) (L : List Ob) (n : Nat) (hn : L.length = n)
    (hs : a.eval s = v) (hx : a.eval x = .slice (some ⟨w.heap.size, 0, none⟩) 1 1) (hrow : w.ownsRow base 84 9 v L.length (flatO L)) (hl : n ≤ 100000) (hbase : base ≤ w.heap.size)
    (h : ∀ g cap w', w'.ownsRow base 84 9 (.slice (some ⟨g, 0, none⟩) (n + 1) cap) (L ++ [y]).length (flatO (L ++ [y])) → (w.alloc (.cells y.arr 84)).grownBy w' v.ownBlock → g < w'.heap.size → wpList Tryz.prog ops Q rest (a.put o.dst (.slice (some ⟨g, 0, none⟩) (n + 1) cap)) w') :
    wpList Tryz.prog ops Q (o :: rest) a W := by
  subst hn
  exact push_ob w y hW hgd s x ho base v L hs hx hrow hl hbase (fun g cap w' h1 h2 _ h4 => h g cap w' h1 h2 h4)

/-- A part of a row of objects, behind another row. -/
theorem append_part {w : World} {ops : Array Oper} {rest : List Oper} {o : Oper} {a : Act} {Q : Exit → Act → World → Prop} (hgd : o.guard = none) (s x : Operand)
    (ho : o.op = .call { callee := .builtin .append, args := #[s, x], argTypes := #[44, 44] }) (base : Nat) (v src : Value) (l0 l1 : List Ob) (hs : a.eval s = v) (hx : a.eval x = src)
    (h1 : w.ownsRow base 84 9 v l0.length (flatO l0)) (h2 : (src = .slice none 0 0 ∧ l1 = []) ∨ ∃ g off c, src = .slice (some ⟨g, off, none⟩) l1.length c ∧ ∀ (j : Nat) (u : Value), (flatO l1)[j]? = some u → w.cell? ⟨g, off + j, none⟩ = some u) (hl : l0.length + l1.length ≤ 10000) (hbase : base ≤ w.heap.size)
    (h : ∀ v' w', w'.ownsRow base 84 9 v' (l0 ++ l1).length (flatO (l0 ++ l1)) → w.grownBy w' v.ownBlock → wpList Tryz.prog ops Q rest (a.put o.dst v') w') : wpList Tryz.prog ops Q (o :: rest) a w := by
  obtain ⟨i0, hi, hz0, hz1, hz2⟩ := info_parts info29
  rcases h2 with ⟨rfl, rfl⟩ | ⟨g, off, c, rfl, hc⟩
  · refine wpList_append_own_none hgd s x 44 ho base 84 i0 9 Tryz.underlying44 hi v _ _ hs h1 hx (h v w ?_ ⟨rfl, rfl, rfl, Nat.le_refl _, fun _ _ _ => rfl⟩)
    rw [List.append_nil]
    exact h1
  · refine wpList_append_own w hgd s x 44 ho base 84 i0 _ 9 72 Tryz.underlying44 hi hz0 hz1 hz2 rfl (by decide) v _ _ hs h1 ⟨g, off, none⟩ l1.length c (flatO l1) hx (flatO_len l1) ?_ (flatO_one l1) (by unfold maxLen; omega) (by omega) hbase ?_
    · intro j u hj
      have e : (⟨g, off, none⟩ : Addr).add j = ⟨g, off + j, none⟩ := by
        unfold Addr.add
        split
        · rename_i h0
          rw [h0]; rfl
        · simp
      rw [e]
      exact hc j u hj
    · intro v' w' hown hg _
      refine h v' w' ?_ hg
      rw [List.length_append, flatO_append]
      exact hown

end Go.Proofs.YtdgfjneapialdaaGreatDoor.S
