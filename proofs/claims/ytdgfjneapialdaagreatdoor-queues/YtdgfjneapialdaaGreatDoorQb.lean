import Derived.Test.YtdgfjneapialdaaGreatDoorQa
import Derived.ArgAppend
import Derived.Maps.AppendAt
namespace Go.Proofs.YtdgfjneapialdaaGreatDoor
open Go Go.RowKit Go.Maps

/-- A slice of texts, wherever in its block it begins. -/
def RowAt (w : World) (et : TypeId) (v : Value) (xs : List ByteArray) : Prop :=
  (v = .slice none 0 0 ∧ xs = []) ∨
  ∃ g off cap cur, v = .slice (some ⟨g, off, none⟩) xs.length cap ∧ w.heap[g]? = some (.cells cur et (0, 0)) ∧ xs.length ≤ cap ∧ cap ≤ maxLen ∧ (0 < cap → off + cap ≤ cur.size) ∧ ∀ j s, xs[j]? = some s → cur[off + j]? = some (.string s)

section
variable {P : Program} {w w' : World} {et : TypeId} {v : Value} {xs : List ByteArray}

theorem RowAt.nil (w : World) (et : TypeId) : RowAt w et (.slice none 0 0) [] := Or.inl ⟨rfl, rfl⟩
theorem RowAt.form (h : RowAt w et v xs) : ∃ ao cap, v = .slice ao xs.length cap := by
  rcases h with ⟨rfl, rfl⟩ | ⟨g, off, cap, cur, rfl, _⟩
  · exact ⟨_, _, rfl⟩
  · exact ⟨_, _, rfl⟩
theorem RowAt.lt (h : RowAt w et v xs) : ∀ k, v.ownBlock = some k → k < w.heap.size := by
  intro k hk
  rcases h with ⟨rfl, _⟩ | ⟨g, off, cap, cur, rfl, hb, _⟩
  · cases hk
  · cases hk
    exact (Array.getElem?_eq_some_iff.1 hb).1
theorem RowAt.typ (h : RowAt w et v xs) : ∀ k, v.ownBlock = some k → ∃ cur, w.heap[k]? = some (.cells cur et (0, 0)) := by
  intro k hk
  rcases h with ⟨rfl, _⟩ | ⟨g, off, cap, cur, rfl, hb, _⟩
  · cases hk
  · cases hk
    exact ⟨cur, hb⟩
theorem RowAt.keep (h : RowAt w et v xs) (hb : ∀ k, v.ownBlock = some k → w'.heap[k]? = w.heap[k]?) : RowAt w' et v xs := by
  rcases h with h | ⟨g, off, cap, cur, rfl, hg, r⟩
  · exact Or.inl h
  · exact Or.inr ⟨g, off, cap, cur, rfl, (hb g rfl).trans hg, r⟩
theorem RowAt.cell {s : ByteArray} {r : List ByteArray} (h : RowAt w et v (s :: r)) : ∃ g off cap, v = .slice (some ⟨g, off, none⟩) (r.length + 1) cap ∧ r.length + 1 ≤ cap ∧ w.cell? ⟨g, off, none⟩ = some (.string s) := by
  rcases h with ⟨_, h⟩ | ⟨g, off, cap, cur, rfl, hg, h1, h2, h3, h4⟩
  · cases h
  · refine ⟨g, off, cap, rfl, h1, ?_⟩
    have := h4 0 s rfl
    simp only [World.cell?, hg]
    simpa using this
theorem RowAt.tail {s : ByteArray} {r : List ByteArray} {g off cap : Nat} (h : RowAt w et (.slice (some ⟨g, off, none⟩) (r.length + 1) cap) (s :: r)) : RowAt w et (.slice (some ⟨g, off + 1, none⟩) r.length (cap - 1)) r := by
  rcases h with ⟨h, _⟩ | ⟨g', off', cap', cur, e, hg, h1, h2, h3, h4⟩
  · cases h
  · cases e
    simp only [List.length_cons] at h1
    refine Or.inr ⟨g, off + 1, cap - 1, cur, rfl, hg, by omega, by omega, fun h => by have := h3 (by omega); omega, fun j x hj => ?_⟩
    have := h4 (j + 1) x (by simpa using hj)
    rwa [show off + 1 + j = off + (j + 1) by omega]
theorem RowAt.tail0 {s : ByteArray} {r : List ByteArray} {g off cap : Nat} (h : RowAt w et (.slice (some ⟨g, off, none⟩) (r.length + 1) cap) (s :: r)) (hc : cap = 1) (o : Nat) : RowAt w et (.slice (some ⟨g, o, none⟩) r.length (cap - 1)) r := by
  subst hc
  rcases h with ⟨h, _⟩ | ⟨g', off', cap', cur, e, hg, h1, h2, h3, h4⟩
  · cases h
  · cases e
    simp only [List.length_cons] at h1
    have hr : r = [] := List.length_eq_zero_iff.1 (by omega)
    subst hr
    exact Or.inr ⟨g, o, 0, cur, rfl, hg, by simp, by omega, fun h => absurd h (by omega), fun j x hj => by simp at hj⟩

theorem RowAt.of_owns {base n : Nat} (h : w.ownsRow base et 1 v n (xs.map Value.string)) : RowAt w et v xs := by
  have hn : n = xs.length := by have := h.1; simpa using this.symm
  subst hn
  rcases h.2 with ⟨h1, h2⟩ | ⟨g, cap, cur, h1, h2, h3, h4, h5, h6, h7⟩
  · exact Or.inl ⟨h1, List.length_eq_zero_iff.1 h2⟩
  · refine Or.inr ⟨g, 0, cap, cur, h1, h3, h4, h5, fun _ => by omega, fun j s hj => ?_⟩
    have e : (cur.toList.take (xs.length * 1))[j]? = (xs.map Value.string)[j]? := by rw [h7]
    have hl : j < xs.length := (List.getElem?_eq_some_iff.1 hj).1
    rw [List.getElem?_take_of_lt (by omega), Array.getElem?_toList] at e
    rw [Nat.zero_add, e]
    simp [hj]

theorem heap_setCell_at {cs : Array Value} {t : TypeId} {fr : Nat × Nat} {g : Nat} (h : w.heap[g]? = some (.cells cs t fr)) (o : Nat) (u : Value) : (w.setCell ⟨g, o, none⟩ u).heap[g]? = some (.cells (cs.setIfInBounds o u) t fr) := by
  simp [World.setCell, Array.getElem?_modify, h]

theorem RowAt.append (h : RowAt w et v xs) (t ty : TypeId) (i : TypeInfo) (z : Value) (bytes : Nat) (ht : P.underlying t = some (.slice et)) (hi : P.info? et = some i) (hz : i.zero = some z) (hsize : i.size = 1) (hby : i.bytes = bytes) (hzs : z.cells.size = 1)
    (a : Addr) (c : Nat) (s : ByteArray) (hnews : w.cell? a = some (.string s)) (ha : a.spot = none) (h63 : xs.length + 1 ≤ maxLen) (hbytes : (xs.length + 1) * bytes ≤ 140737488355328) :
    ∃ v' w', (Builtin.append_ #[t, t] ty #[v, .slice (some a) 1 c]).run P w = .ok v' w' ∧ RowAt w' et v' (xs ++ [s]) ∧ w.grownBy w' v.ownBlock ∧ (∀ k, v'.ownBlock = some k → v.ownBlock = some k ∨ w.heap.size ≤ k) := by
  have hn : ∀ j u, [Value.string s][j]? = some u → w.cell? (a.add j) = some u := by
    intro j u hj
    obtain ⟨ab, ao, asp⟩ := a
    cases ha
    match j, hj with
    | 0, hj =>
      simp at hj
      subst hj
      simpa [Addr.add] using hnews
  have h1 : ∀ u ∈ [Value.string s], u.oneCell' = true := by intro u hu; simp at hu; subst hu; rfl
  rcases h with ⟨rfl, rfl⟩ | ⟨g, off, cap, cur, rfl, hg, hlc, hcm, hoc, hcells⟩
  · obtain ⟨v', w', hrun, r1, r2, _, r5⟩ := run_append_own_at (P := P) w 0 t ty et i z 1 bytes ht hi hz hsize hby hzs (by omega) (.slice none 0 0) 0 [] (World.ownsRow_nil w 0 et 1) a 1 c [.string s] rfl hn h1 (by simpa using h63) (by simpa using hbytes) (Nat.zero_le _)
    exact ⟨v', w', hrun, RowAt.of_owns (xs := [s]) r1, r2, fun k hk => r5.imp (fun e => by rw [← e]; exact hk) (fun e => by rw [e] at hk; cases hk; exact Nat.le_refl _)⟩
  · by_cases hr : xs.length + 1 ≤ cap
    · have hoc' := hoc (by omega)
      have hc0 : (w.cell? ⟨g, off + xs.length * i.size + 0, none⟩).isSome = true := by
        simp only [World.cell?, hg, hsize]
        simp
        omega
      have hrun := run_append_room_cells (P := P) w t ty et i ht hi g off xs.length cap a 1 c [.string s] (by simp [hsize]) hn h1 hr (fun j hj => by
        have : j = 0 := by simp at hj; omega
        subst this; exact hc0) (fun j hj => by simp [World.frozen?, hg])
      refine ⟨_, _, hrun, ?_, ?_, fun k hk => Or.inl hk⟩
      · refine Or.inr ⟨g, off, cap, cur.setIfInBounds (off + xs.length) (.string s), by simp, ?_, by simpa using hr, hcm, fun h => by simpa using hoc', ?_⟩
        · simp only [World.setCells, hsize, Nat.mul_one]
          exact heap_setCell_at hg _ _
        · intro j x hj
          by_cases hjl : j < xs.length
          · rw [List.getElem?_append_left hjl] at hj
            rw [Array.getElem?_setIfInBounds_ne (by omega)]
            exact hcells j x hj
          · rw [List.getElem?_append_right (by omega)] at hj
            have hj0 : j = xs.length := by
              have := (List.getElem?_eq_some_iff.1 hj).1
              simp at this
              omega
            subst hj0
            simp at hj
            subst hj
            rw [Array.getElem?_setIfInBounds_self_of_lt (by omega)]
      · simp only [World.setCells]
        exact ⟨rfl, rfl, rfl, by simp [World.setCell], fun k _ hk => Below.heap_setCell _ _ _ _ (fun e => hk (by simp [Value.ownBlock, e]))⟩
    · obtain ⟨v', w', hrun, r1, r2⟩ := run_append_arg_grows (P := P) w t ty et i z 1 bytes ht hi hz hsize hby hzs (by omega) ⟨g, off, none⟩ xs.length cap (xs.map Value.string) (by simp) (fun j u hj => by
        simp only [List.getElem?_map, Option.map_eq_some_iff] at hj
        obtain ⟨x, hx, rfl⟩ := hj
        rw [Addr.add_lit]
        simp only [World.cell?, hg]
        simpa using hcells j x hx) a 1 c [.string s] rfl hn (by omega) h63 hbytes
      refine ⟨v', w', hrun, RowAt.of_owns (xs := xs ++ [s]) (by simpa using r1), ⟨r2.os, r2.tape, r2.output, r2.size, fun k hk _ => r2.block k hk (by simp)⟩, fun k hk => Or.inr (r1.lt k hk).1⟩

/-- At the operation, for the walk. -/
theorem wpList_append_rowAt {ops : Array Oper} {rest : List Oper} {o : Oper} {ac : Act} {Q : Exit → Act → World → Prop} (hgd : o.guard = none) (sl x : Operand) (t : TypeId)
    (ho : o.op = .call { callee := .builtin .append, args := #[sl, x], argTypes := #[t, t] })
    (i : TypeInfo) (z : Value) (bytes : Nat) (ht : P.underlying t = some (.slice et)) (hi : P.info? et = some i) (hz : i.zero = some z) (hsize : i.size = 1) (hby : i.bytes = bytes) (hzs : z.cells.size = 1)
    (hs : ac.eval sl = v) (h : RowAt w et v xs) (a : Addr) (c : Nat) (s : ByteArray) (hx : ac.eval x = .slice (some a) 1 c) (hnews : w.cell? a = some (.string s)) (ha : a.spot = none) (h63 : xs.length + 1 ≤ maxLen) (hbytes : (xs.length + 1) * bytes ≤ 140737488355328)
    (hK : ∀ ao cap w', RowAt w' et (.slice ao (xs.length + 1) cap) (xs ++ [s]) → w.grownBy w' v.ownBlock → (∀ k, (Value.slice ao (xs.length + 1) cap).ownBlock = some k → v.ownBlock = some k ∨ w.heap.size ≤ k) → wpList P ops Q rest (ac.put o.dst (.slice ao (xs.length + 1) cap)) w') :
    wpList P ops Q (o :: rest) ac w := by
  refine wpList_plain hgd fun K hK' => ?_
  obtain ⟨v', w', hr, h2, h3, h4⟩ := h.append t o.type i z bytes ht hi hz hsize hby hzs a c s hnews ha h63 hbytes
  obtain ⟨ao, cap, e⟩ := h2.form
  rw [List.length_append, List.length_singleton] at e
  subst e
  unfold Oper.wp execOp
  simp only [ho, resolve, invoke, builtin, Sem.run_bind, Sem.run_pure, Result.andThen_ok, List.map_toArray, List.map_cons, List.map_nil, hs, hx, hr]
  exact hK' _ _ (hK ao cap w' h2 h3 h4)
end

end Go.Proofs.YtdgfjneapialdaaGreatDoor
