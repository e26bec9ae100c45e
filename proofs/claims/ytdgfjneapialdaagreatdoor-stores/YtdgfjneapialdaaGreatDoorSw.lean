import Derived.Test.YtdgfjneapialdaaGreatDoorSt
import Derived.Sort.OwnSorted
import Derived.Shelf.SlSortCmp.NoneTotal
namespace Go.Proofs.YtdgfjneapialdaaGreatDoor.S
open Go Go.RowKit Go.Maps Go.Lib Go.Sort

def flat {kk : Int} (l : List (Obk kk)) : List Value := l.flatMap Obk.enc
theorem flat_len {kk : Int} (l : List (Obk kk)) : (flat l).length = l.length * 9 := by
  induction l with
  | nil => rfl
  | cons x r ih => simp [flat, List.flatMap_cons] at ih ⊢; rw [ih]; simp [Obk.enc, Ob.arr]; omega
theorem flat_snoc {kk : Int} (l : List (Obk kk)) (x : Obk kk) : flat (l ++ [x]) = flat l ++ x.1.arr.toList := by simp [flat, Obk.enc]
theorem flat_cons {kk : Int} (x : Obk kk) (l : List (Obk kk)) : flat (x :: l) = x.enc ++ flat l := by simp [flat]
theorem enc_len {kk : Int} (x : Obk kk) : x.enc.length = 9 := rfl

theorem flat_get {kk : Int} [Inhabited (Obk kk)] : ∀ (l : List (Obk kk)) (t : Nat), t < l.length * 9 → (flat l)[t]! = ((l[t / 9]!).enc)[t % 9]!
  | [], t, h => by simp at h
  | x :: r, t, h => by
    rw [flat_cons]
    by_cases h9 : t < 9
    · rw [Nat.div_eq_of_lt h9, Nat.mod_eq_of_lt h9]
      have : t < x.enc.length := by rw [enc_len]; exact h9
      simp [List.getElem!_eq_getElem?_getD, List.getElem?_append_left this]
    · obtain ⟨u, rfl⟩ : ∃ u, t = u + 9 := ⟨t - 9, by omega⟩
      have ih := flat_get r u (by simp at h; omega)
      rw [show (u + 9) / 9 = u / 9 + 1 by omega, show (u + 9) % 9 = u % 9 by omega]
      have e : (x.enc ++ flat r)[u + 9]! = (flat r)[u]! := by
        simp only [List.getElem!_eq_getElem?_getD]
        rw [List.getElem?_append_right (by rw [enc_len]; omega), enc_len, Nat.add_sub_cancel]
      rw [e, ih]
      simp

theorem flatK_eq {kk : Int} [Inhabited (Obk kk)] (l : List (Obk kk)) : flatK (Obk.enc (k := kk)) 9 l.toArray = (flat l).toArray := by
  refine ext_get! (by simp [flat_len]) fun t ht => ?_
  have ht' : t < l.length * 9 := by simpa using ht
  rw [get_flatK _ _ _ t (by simpa using ht')]
  have := flat_get l t ht'
  simp only [List.getElem!_toArray]
  exact this.symm

theorem holdsK_of {kk : Int} [Inhabited (Obk kk)] {w : World} {g : Nat} {cur : Array Value} (l : List (Obk kk)) (hb : w.heap[g]? = some (.cells cur 84 (0, 0))) (ht : cur.toList.take (l.length * 9) = flat l) : HoldsK (Obk.enc (k := kk)) 9 w g 0 l.toArray := by
  unfold HoldsK
  rw [flatK_eq]
  intro j hj
  have hj' : j < l.length * 9 := by simpa [flat_len] using hj
  refine ⟨?_, by simp [World.frozen?, hb]⟩
  have h1 : (cur.toList.take (l.length * 9))[j]? = (flat l)[j]? := by rw [ht]
  rw [List.getElem?_take_of_lt hj'] at h1
  simp only [World.cell?, hb, Nat.zero_add, id]
  have h2 : j < (flat l).length := by rw [flat_len]; exact hj'
  rw [List.getElem?_eq_getElem h2, Array.getElem?_toList] at h1
  simp [h1, h2]

theorem heap_sortedK {w : World} {g n : Nat} {os : Array Obj} {cur : Array Value} (F : Array Value) (hb : w.heap[g]? = some (.cells cur 84 (0, 0))) :
    (grow (putRow id (Sort.ahead w n) g 0 F) os).heap[g]? = some (.cells (putCells id 0 F cur) 84 (0, 0)) := by
  have hg : g < w.heap.size := (Array.getElem?_eq_some_iff.1 hb).1
  rw [heap_grow_old _ _ (by simpa using hg)]
  simp [putRow, mapBlock, Sort.ahead, Array.getElem?_modify, hb, onCells]
theorem grownBy_sortedK {w : World} {g n : Nat} {os : Array Obj} (F : Array Value) : w.grownBy (grow (putRow id (Sort.ahead w n) g 0 F) os) (some g) := by
  refine ⟨rfl, rfl, rfl, by simp, fun k hk hne => ?_⟩
  rw [heap_grow_old _ _ (by simpa using hk)]
  have : g ≠ k := fun e => hne (by rw [e])
  simp [putRow, mapBlock, Sort.ahead, Array.getElem?_modify, this]
theorem take_putCellsK (cur : Array Value) (F : List Value) (h : F.length ≤ cur.size) : (putCells id 0 F.toArray cur).toList.take F.length = F := by
  apply List.ext_getElem?
  intro j
  by_cases hj : j < F.length
  · rw [List.getElem?_take_of_lt hj, Array.getElem?_toList]
    simp [putCells, hj, show j < cur.size by omega]
  · rw [List.getElem?_eq_none (by simp; omega), List.getElem?_eq_none (by omega)]

/-- The row behind the sort. -/
theorem ownsRow_sortedK {kk : Int} [Inhabited (Obk kk)] {w : World} {base g cap n : Nat} {os : Array Obj} {cur : Array Value} {l : List (Obk kk)} {d : Array (Obk kk)} (hl : d.size = l.length) (hbase : base ≤ g) (hb : w.heap[g]? = some (.cells cur 84 (0, 0)))
    (h1 : l.length ≤ cap) (h2 : cap ≤ maxLen) (h3 : cur.size = cap * 9) :
    (sortWorldK (Obk.enc (k := kk)) 9 w g 0 n d os).ownsRow base 84 9 (.slice (some ⟨g, 0, none⟩) l.length cap) d.toList.length (flat d.toList) := by
  unfold sortWorldK putRowK
  have e := flatK_eq d.toList
  rw [Array.toArray_toList] at e
  rw [e]
  refine ⟨flat_len _, Or.inr ⟨g, cap, _, by simp [hl], hbase, heap_sortedK _ hb, by simp [hl]; exact h1, h2, by simp [putCells, h3], ?_⟩⟩
  rw [← flat_len]
  exact take_putCellsK cur _ (by rw [flat_len, h3]; simp [hl]; omega)
theorem grownBy_sortK {kk : Int} [Inhabited (Obk kk)] {w : World} {g n : Nat} {os : Array Obj} (d : Array (Obk kk)) : w.grownBy (sortWorldK (Obk.enc (k := kk)) 9 w g 0 n d os) (some g) := grownBy_sortedK _

theorem sort_none (p : Option Addr) (cap : Nat) (w : World) : Calls Tryz.prog 103 #[.slice p 0 cap, .func (.func 102) #[] #[]] w fun e w' => e = .returned (.tuple #[]) ∧ w' = w :=
  AnyF.slices_SortFunc_none Tryz.sortOb p cap (.func (.func 102) #[] #[]) w

end Go.Proofs.YtdgfjneapialdaaGreatDoor.S
