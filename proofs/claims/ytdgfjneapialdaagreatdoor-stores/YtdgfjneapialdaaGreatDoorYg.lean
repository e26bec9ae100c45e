import Derived.Test.YtdgfjneapialdaaGreatDoorYc
import Derived.Laws.AppendOwnNone
namespace Go.Proofs.YtdgfjneapialdaaGreatDoor.S
open Go Go.RowKit Go.Maps

theorem arr_one (o : Ob) : ∀ u ∈ o.arr.toList, u.oneCell' = true := by
  intro u hu
  simp only [Ob.arr, List.mem_cons, List.not_mem_nil, or_false] at hu
  rcases hu with rfl | rfl | rfl | rfl | rfl | rfl | rfl | rfl | rfl <;> rfl
theorem flatO_one (l : List Ob) : ∀ u ∈ flatO l, u.oneCell' = true := by
  intro u hu
  obtain ⟨o, _, h⟩ := List.mem_flatMap.1 hu
  exact arr_one o u h
theorem flatO_append (l l' : List Ob) : flatO (l ++ l') = flatO l ++ flatO l' := by simp [flatO]

/-- A row of objects, behind another. -/
theorem append_rows {w : World} {ops : Array Oper} {rest : List Oper} {o : Oper} {a : Act} {Q : Exit → Act → World → Prop} (hgd : o.guard = none) (s x : Operand)
    (ho : o.op = .call { callee := .builtin .append, args := #[s, x], argTypes := #[44, 44] }) (base base2 : Nat) (v v2 : Value) (l0 l1 : List Ob) (hs : a.eval s = v) (hx : a.eval x = v2)
    (h1 : w.ownsRow base 84 9 v l0.length (flatO l0)) (h2 : w.ownsRow base2 84 9 v2 l1.length (flatO l1)) (hl : l0.length + l1.length ≤ 10000) (hbase : base ≤ w.heap.size)
    (h : ∀ v' w', w'.ownsRow base 84 9 v' (l0 ++ l1).length (flatO (l0 ++ l1)) → w.grownBy w' v.ownBlock → wpList Tryz.prog ops Q rest (a.put o.dst v') w') : wpList Tryz.prog ops Q (o :: rest) a w := by
  obtain ⟨i0, hi, hz0, hz1, hz2⟩ := info_parts info29
  rcases h2.2 with ⟨rfl, hn⟩ | ⟨g, cap, cur, rfl, hb, hbk, hc1, hc2, hc3, hc4⟩
  · obtain rfl : l1 = [] := List.length_eq_zero_iff.1 hn
    refine wpList_append_own_none hgd s x 44 ho base 84 i0 9 Tryz.underlying44 hi v _ _ hs h1 hx (h v w ?_ ⟨rfl, rfl, rfl, Nat.le_refl _, fun _ _ _ => rfl⟩)
    rw [List.append_nil]
    exact h1
  · refine wpList_append_own w hgd s x 44 ho base 84 i0 _ 9 72 Tryz.underlying44 hi hz0 hz1 hz2 rfl (by decide) v _ _ hs h1 ⟨g, 0, none⟩ l1.length cap (flatO l1) hx (flatO_len l1) ?_ (flatO_one l1) (by unfold maxLen; omega) (by omega) hbase ?_
    · intro j u hj
      have e : (⟨g, 0, none⟩ : Addr).add j = ⟨g, j, none⟩ := by
        unfold Addr.add
        split
        · rename_i h0
          rw [h0]
        · simp
      rw [e]
      simp only [World.cell?, hbk]
      have hj' : j < l1.length * 9 := by
        have := (List.getElem?_eq_some_iff.1 hj).1
        rwa [flatO_len] at this
      rw [← hc4, List.getElem?_take_of_lt hj'] at hj
      simpa using hj
    · intro v' w' hown hg _
      refine h v' w' ?_ hg
      rw [List.length_append, flatO_append]
      exact hown

end Go.Proofs.YtdgfjneapialdaaGreatDoor.S
