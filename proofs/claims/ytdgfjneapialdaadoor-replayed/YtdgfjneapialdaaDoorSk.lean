import Derived.Test.YtdgfjneapialdaaDoorSg
namespace Go.Proofs.YtdgfjneapialdaaDoor
open Go Go.RowKit Go.Maps

/-- Nine cells of one block, laid one after the other. -/
def set9 (w : World) (N : Nat) (y0 y1 y2 y3 y4 y5 y6 y7 y8 : Value) : World := (((((((((w.setCell ⟨N, 0, none⟩ y0).setCell ⟨N, 1, none⟩ y1).setCell ⟨N, 2, none⟩ y2).setCell ⟨N, 3, none⟩ y3).setCell ⟨N, 4, none⟩ y4).setCell ⟨N, 5, none⟩ y5).setCell ⟨N, 6, none⟩ y6).setCell ⟨N, 7, none⟩ y7).setCell ⟨N, 8, none⟩ y8)
theorem set9_def (w : World) (N : Nat) (y0 y1 y2 y3 y4 y5 y6 y7 y8 : Value) : set9 w N y0 y1 y2 y3 y4 y5 y6 y7 y8 = (((((((((w.setCell ⟨N, 0, none⟩ y0).setCell ⟨N, 1, none⟩ y1).setCell ⟨N, 2, none⟩ y2).setCell ⟨N, 3, none⟩ y3).setCell ⟨N, 4, none⟩ y4).setCell ⟨N, 5, none⟩ y5).setCell ⟨N, 6, none⟩ y6).setCell ⟨N, 7, none⟩ y7).setCell ⟨N, 8, none⟩ y8) := rfl
theorem heap_set_other (w : World) (N o : Nat) (v : Value) (b : Nat) (hb : b ≠ N) : (w.setCell ⟨N, o, none⟩ v).heap[b]? = w.heap[b]? := Below.heap_setCell w _ v b hb
theorem size_set (w : World) (a : Addr) (v : Value) : (w.setCell a v).heap.size = w.heap.size := by simp [World.setCell]
theorem set9_same {w : World} {N : Nat} {t : TypeId} {x0 x1 x2 x3 x4 x5 x6 x7 x8 : Value} (y0 y1 y2 y3 y4 y5 y6 y7 y8 : Value) (h : w.heap[N]? = some (.cells #[x0, x1, x2, x3, x4, x5, x6, x7, x8] t (0, 0))) : (set9 w N y0 y1 y2 y3 y4 y5 y6 y7 y8).heap[N]? = some (.cells #[y0, y1, y2, y3, y4, y5, y6, y7, y8] t (0, 0)) := by
  rw [set9_def]
  have := heap_setCell_same (sb := N) (heap_setCell_same (sb := N) (heap_setCell_same (sb := N) (heap_setCell_same (sb := N) (heap_setCell_same (sb := N) (heap_setCell_same (sb := N) (heap_setCell_same (sb := N) (heap_setCell_same (sb := N) (heap_setCell_same (sb := N) h 0 y0) 1 y1) 2 y2) 3 y3) 4 y4) 5 y5) 6 y6) 7 y7) 8 y8
  rw [this]
  simp
theorem set9_other (w : World) (N : Nat) (y0 y1 y2 y3 y4 y5 y6 y7 y8 : Value) (b : Nat) (hb : b ≠ N) : (set9 w N y0 y1 y2 y3 y4 y5 y6 y7 y8).heap[b]? = w.heap[b]? := by
  rw [set9_def]
  iterate 9 rw [heap_set_other _ _ _ _ _ hb]
theorem set9_size (w : World) (N : Nat) (y0 y1 y2 y3 y4 y5 y6 y7 y8 : Value) : (set9 w N y0 y1 y2 y3 y4 y5 y6 y7 y8).heap.size = w.heap.size := by
  rw [set9_def]
  iterate 9 rw [size_set]
theorem set9_kept {w W : World} {sb mb : Nat} (h : Kept sb mb w W) {N : Nat} (hN : w.heap.size ≤ N) (y0 y1 y2 y3 y4 y5 y6 y7 y8 : Value) : Kept sb mb w (set9 W N y0 y1 y2 y3 y4 y5 y6 y7 y8) := by
  rw [set9_def]
  iterate 9 refine Kept.setNew ?_ hN _
  exact h
theorem set9_below {w W : World} {B : Nat} (h : Below B w W) {N : Nat} (hN : B ≤ N) (y0 y1 y2 y3 y4 y5 y6 y7 y8 : Value) : Below B w (set9 W N y0 y1 y2 y3 y4 y5 y6 y7 y8) := by
  rw [set9_def]
  iterate 9 refine Below.setCell ?_ hN _
  exact h
theorem set9_store {w : World} {sb mb : Nat} {lim ver cre : Int} {log : List Value} {n : Nat} {D : DataW Unit} (h : IsStore w sb mb lim ver cre log n D) {N : Nat} (h1 : sb ≠ N) (h2 : mb ≠ N) (y0 y1 y2 y3 y4 y5 y6 y7 y8 : Value) : IsStore (set9 w N y0 y1 y2 y3 y4 y5 y6 y7 y8) sb mb lim ver cre log n D :=
  h.keep (set9_other _ _ y0 y1 y2 y3 y4 y5 y6 y7 y8 _ h1) (set9_other _ _ y0 y1 y2 y3 y4 y5 y6 y7 y8 _ h2)
theorem nine {w : World} {N : Nat} {t : TypeId} {x0 x1 x2 x3 x4 x5 x6 x7 x8 : Value} (h : w.heap[N]? = some (.cells #[x0, x1, x2, x3, x4, x5, x6, x7, x8] t (0, 0))) : (w.cell? ⟨N, 0, none⟩ = some x0 ∧ w.cell? ⟨N, 1, none⟩ = some x1 ∧ w.cell? ⟨N, 2, none⟩ = some x2 ∧ w.cell? ⟨N, 3, none⟩ = some x3 ∧ w.cell? ⟨N, 4, none⟩ = some x4 ∧ w.cell? ⟨N, 5, none⟩ = some x5 ∧ w.cell? ⟨N, 6, none⟩ = some x6 ∧ w.cell? ⟨N, 7, none⟩ = some x7 ∧ w.cell? ⟨N, 8, none⟩ = some x8) ∧ ∀ o, w.frozen? ⟨N, o, none⟩ = false := by
  refine ⟨⟨?_, ?_, ?_, ?_, ?_, ?_, ?_, ?_, ?_⟩, fun o => by simp [World.frozen?, h]⟩ <;> simp [World.cell?, h]

end Go.Proofs.YtdgfjneapialdaaDoor
