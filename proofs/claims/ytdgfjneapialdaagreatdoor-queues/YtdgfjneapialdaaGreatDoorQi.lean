import Derived.Test.YtdgfjneapialdaaGreatDoorQh
namespace Go.Proofs.YtdgfjneapialdaaGreatDoor
open Go Go.RowKit Go.Maps

section
variable {C : Nat → Prop} {U : List ByteArray} {w : World} {qb pm dm fm : Nat} {rv : Value} {s : QS}

set_option maxRecDepth 100000 in
set_option maxHeartbeats 1000000 in
theorem take_some (h : IsQ C U w qb pm dm fm rv s) (hC : ∀ b, C b → b < w.heap.size) (hU : U.length ≤ 1000000000000) {k : ByteArray} {r : List ByteArray} (he : s.row = k :: r) (hs : k.size ≤ maxLen) (hk : k ∈ U) :
    Calls Tryz.prog 75 #[.pointer (some ⟨qb, 0, none⟩)] w fun e w' => e = .returned (.tuple #[.string k, .bool true]) ∧ QIs C U w w' qb pm dm fm (s.take k r) := by
  have hrow := h.row
  rw [he] at hrow
  obtain ⟨g, off, cap, rfl, hcap, hcell⟩ := hrow.cell
  have c1 := h.c1
  have f1 := h.fz
  have hqlt := h.lt
  have c2 := h.c2
  have hg : w.grownBy w (Value.slice (some ⟨g, off, none⟩) (r.length + 1) cap).ownBlock := ⟨rfl, rfl, rfl, Nat.le_refl _, fun _ _ _ => rfl⟩
  have hn0 : (((r.length : Int) + 1) == 0) = false := by simp; omega
  have hn1 : 1 ≤ cap := by omega
  by_cases hc1 : cap = 1
  · subst hc1
    have hr0 : r = [] := List.length_eq_zero_iff.1 (by omega)
    subst hr0
    have h1 := h.setRow hg (hrow.tail0 rfl off) (fun b e => Or.inl e) hC
    obtain ⟨w2, hrun, hq2, hk2, _⟩ := h1.putPl (by unfold maxLen; omega) hs hk (v := 2) (by omega) (by omega)
    have HQ : Hid (IsQ C U w2 qb pm dm fm (.slice (some ⟨g, off, none⟩) ([] : List ByteArray).length (1 - 1)) { s with row := [], pl := upd s.pl k (some 2) }) := hq2
    have HK : Hid (KeptC C w w2) := ((KeptC.refl C w).set (a := ⟨qb, 1, none⟩) h.cq _).trans hk2
    simp only [Nat.sub_self, List.length_nil] at hrun
    simp only [List.length_nil] at c1 hn0
    clear hcap hn1
    clear h1 hq2 hk2 h he hrow hg hC hU hs hk
    go_enter Tryz.func75, Tryz.ntmps75
    go_wp2
    go_ret2
    exact ⟨rfl, ⟨_, HQ.out⟩, HK.out⟩
  · have h1 := h.setRow hg hrow.tail (fun b e => Or.inl e) hC
    obtain ⟨w2, hrun, hq2, hk2, _⟩ := h1.putPl (by unfold maxLen; omega) hs hk (v := 2) (by omega) (by omega)
    have HQ : Hid (IsQ C U w2 qb pm dm fm (.slice (some ⟨g, off + 1, none⟩) r.length (cap - 1)) { s with row := r, pl := upd s.pl k (some 2) }) := hq2
    have HK : Hid (KeptC C w w2) := ((KeptC.refl C w).set (a := ⟨qb, 1, none⟩) h.cq _).trans hk2
    clear h1 hq2 hk2 h he hrow hg hC hU hs hk
    go_enter Tryz.func75, Tryz.ntmps75
    go_wp2
    go_ret2
    exact ⟨rfl, ⟨_, HQ.out⟩, HK.out⟩
end

end Go.Proofs.YtdgfjneapialdaaGreatDoor
