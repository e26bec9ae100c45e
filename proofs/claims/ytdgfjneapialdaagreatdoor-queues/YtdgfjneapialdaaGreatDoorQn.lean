import Derived.Test.YtdgfjneapialdaaGreatDoorQk
import Derived.Test.YtdgfjneapialdaaGreatDoorQm
import Derived.Test.YtdgfjneapialdaaGreatDoorShelf2
import Derived.Test.YtdgfjneapialdaaGreatDoorPb
namespace Go.Proofs.YtdgfjneapialdaaGreatDoor
open Go Go.RowKit Go.Maps Go.Lib Go.Sort Go.Shelf

def cfD (x y : Dk) : Int := orI (Lib.compareInt x.2 y.2) (Lib.compareBytes x.1 y.1)

theorem cmpB_lt : ∀ a b : List UInt8, (Lib.compareBytes a b < 0) ↔ a < b
  | [], [] => by simp [Lib.compareBytes]
  | [], _ :: _ => by simp [Lib.compareBytes]
  | _ :: _, [] => by simp [Lib.compareBytes]
  | x :: a, y :: b => by
    have ih := cmpB_lt a b
    rw [Lib.compareBytes, List.cons_lt_cons_iff]
    split
    · rename_i h
      simp [h]
    · rename_i h
      split
      · rename_i h2
        constructor
        · intro h3; exact absurd h3 (by decide)
        · rintro (h3 | ⟨h3, _⟩)
          · exact absurd h3 h
          · subst h3; exact absurd h2 (UInt8.lt_irrefl _)
      · rename_i h2
        have : x = y := UInt8.le_antisymm (UInt8.not_lt.1 h2) (UInt8.not_lt.1 h)
        subst this
        rw [ih]
        simp

theorem ltD (x y : Dk) : ltOf cfD x y = decide (x.2 < y.2 ∨ (x.2 = y.2 ∧ x.1 < y.1)) := by
  unfold ltOf cfD orI Lib.compareInt
  refine decide_eq_decide.2 ?_
  by_cases h1 : x.2 < y.2
  · simp [h1]
  · by_cases h2 : y.2 < x.2
    · simp [h1, h2]
      omega
    · have h3 : x.2 = y.2 := by omega
      simp [h3]
      exact cmpB_lt _ _

theorem swoD : SWO (ltOf cfD) := by
  refine ⟨fun x => by rw [ltD]; simp [List.lt_irrefl], fun x y z h1 h2 => ?_, fun x y z h1 h2 => ?_⟩
  · rw [ltD] at *
    simp only [decide_eq_true_eq] at *
    rcases h1 with h1 | ⟨h1, h3⟩
    · rcases h2 with h2 | ⟨h2, h4⟩
      · exact Or.inl (by omega)
      · exact Or.inl (by omega)
    · rcases h2 with h2 | ⟨h2, h4⟩
      · exact Or.inl (by omega)
      · exact Or.inr ⟨by omega, List.lt_trans h3 h4⟩
  · rw [ltD] at *
    simp only [decide_eq_false_iff_not, not_or, not_and, List.not_lt] at *
    refine ⟨by omega, fun e => ?_⟩
    have e1 : x.2 = y.2 := by omega
    have e2 : y.2 = z.2 := by omega
    exact List.le_trans (h2.2 e2) (h1.2 e1)

theorem cmpLaysD (blk off size : Nat) (w : World) : CmpLays Tryz.prog 138 #[] encD 2 cfD blk off size w := by
  rintro m os dk _ ⟨x, a⟩ ⟨y, b⟩
  exact inOrder_any (bk x) a (bk y) b _

theorem oneCellsD (x : Dk) : ∀ v ∈ encD x, v.oneCell' = true := by
  intro v hv
  simp only [encD, List.mem_cons, List.not_mem_nil, or_false] at hv
  rcases hv with rfl | rfl <;> rfl

theorem sort_due (blk cap : Nat) (d : Array Dk) (w : World) (hH : HoldsK encD 2 w blk 0 d) (hblk : blk < w.heap.size) (hsz : d.size < 4611686018427387904) :
    Calls Tryz.prog 137 #[.slice (some ⟨blk, 0, none⟩) d.size cap, .func (.func 138) #[] #[]] w fun e w' =>
      e = .returned (.tuple #[]) ∧ ∃ d' n os, d'.toList.Perm d.toList ∧ d'.size = d.size ∧ (d'.toList.Pairwise fun a b => ltOf cfD b a = false) ∧ w' = sortWorldK encD 2 w blk 0 n d' os := by
  have eg : ∀ args w, (callFunc 138 args).run Tryz.prog w = .ok (.enter 138 args) w := enters_of Tryz.func138 (by kernel_rfl) rfl
  have hcon := AnyQ.slices_SortFunc Tryz.sortDue 2 Tryz.isAgg119 Tryz.sizeOf119 encD (fun _ => rfl) oneCellsD cfD swoD 138 #[] blk 0 cap d w eg (cmpLaysD blk 0 d.size w) hH hblk hsz
  refine Calls.mono hcon ?_
  rintro e w' ⟨he, d', n, os, hp, hs, hw⟩
  obtain ⟨h1, _, h3⟩ := hp
  rw [Array.extract_eq_self_of_le (by omega), Array.extract_eq_self_of_le (Nat.le_refl _)] at h3
  refine ⟨he, d', n, os, h3, h1, ?_, hw⟩
  rw [List.pairwise_iff_getElem]
  intro i j hi hj hij
  have := hs i j (Nat.zero_le _) hij (by simpa [h1] using hj)
  simp at hi hj
  simpa [getElem!_pos, hi, hj] using this

theorem sort_due_none (p : Option Addr) (cap : Nat) (w : World) : Calls Tryz.prog 137 #[.slice p 0 cap, .func (.func 138) #[] #[]] w fun e w' => e = .returned (.tuple #[]) ∧ w' = w :=
  AnyF.slices_SortFunc_none Tryz.sortDue p cap (.func (.func 138) #[] #[]) w

theorem flatD_get : ∀ (l : List Dk) (t : Nat), t < l.length * 2 → (flatD l)[t]! = (encD (l[t / 2]!))[t % 2]!
  | [], t, h => by simp at h
  | x :: r, t, h => by
    rw [flatD_cons]
    by_cases h9 : t < 2
    · rw [Nat.div_eq_of_lt h9, Nat.mod_eq_of_lt h9]
      have : t < (encD x).length := by rw [encD_len]; exact h9
      simp [List.getElem!_eq_getElem?_getD, List.getElem?_append_left this]
    · obtain ⟨u, rfl⟩ : ∃ u, t = u + 2 := ⟨t - 2, by omega⟩
      have ih := flatD_get r u (by simp at h; omega)
      rw [show (u + 2) / 2 = u / 2 + 1 by omega, show (u + 2) % 2 = u % 2 by omega]
      have e : (encD x ++ flatD r)[u + 2]! = (flatD r)[u]! := by
        simp only [List.getElem!_eq_getElem?_getD]
        rw [List.getElem?_append_right (by rw [encD_len]; omega), encD_len, Nat.add_sub_cancel]
      rw [e, ih]
      simp
theorem flatKD_eq (l : List Dk) : flatK encD 2 l.toArray = (flatD l).toArray := by
  refine ext_get! (by simp [flatD_len]) fun t ht => ?_
  have ht' : t < l.length * 2 := by simpa using ht
  rw [get_flatK _ _ _ t (by simpa using ht')]
  have := flatD_get l t ht'
  simp only [List.getElem!_toArray]
  exact this.symm
theorem holdsKD_of {w : World} {g : Nat} {cur : Array Value} (l : List Dk) (hb : w.heap[g]? = some (.cells cur 119 (0, 0))) (ht : cur.toList.take (l.length * 2) = flatD l) : HoldsK encD 2 w g 0 l.toArray := by
  unfold HoldsK
  rw [flatKD_eq]
  intro j hj
  have hj' : j < l.length * 2 := by simpa [flatD_len] using hj
  refine ⟨?_, by simp [World.frozen?, hb]⟩
  have h1 : (cur.toList.take (l.length * 2))[j]? = (flatD l)[j]? := by rw [ht]
  rw [List.getElem?_take_of_lt hj'] at h1
  simp only [World.cell?, hb, Nat.zero_add, id]
  have h2 : j < (flatD l).length := by rw [flatD_len]; exact hj'
  rw [List.getElem?_eq_getElem h2, Array.getElem?_toList] at h1
  simp [h1, h2]
theorem heap_sortedKD {w : World} {g n : Nat} {os : Array Obj} {cur : Array Value} (F : Array Value) (hb : w.heap[g]? = some (.cells cur 119 (0, 0))) :
    (grow (putRow id (Sort.ahead w n) g 0 F) os).heap[g]? = some (.cells (putCells id 0 F cur) 119 (0, 0)) := by
  have hg : g < w.heap.size := (Array.getElem?_eq_some_iff.1 hb).1
  rw [heap_grow_old _ _ (by simpa using hg)]
  simp [putRow, mapBlock, Sort.ahead, Array.getElem?_modify, hb, onCells]
theorem grownBy_sortedKD {w : World} {g n : Nat} {os : Array Obj} (F : Array Value) : w.grownBy (grow (putRow id (Sort.ahead w n) g 0 F) os) (some g) := by
  refine ⟨rfl, rfl, rfl, by simp, fun k hk hne => ?_⟩
  rw [heap_grow_old _ _ (by simpa using hk)]
  have : g ≠ k := fun e => hne (by rw [e])
  simp [putRow, mapBlock, Sort.ahead, Array.getElem?_modify, this]
theorem take_putCellsKD (cur : Array Value) (F : List Value) (h : F.length ≤ cur.size) : (putCells id 0 F.toArray cur).toList.take F.length = F := by
  apply List.ext_getElem?
  intro j
  by_cases hj : j < F.length
  · rw [List.getElem?_take_of_lt hj, Array.getElem?_toList]
    simp [putCells, hj, show j < cur.size by omega]
  · rw [List.getElem?_eq_none (by simp; omega), List.getElem?_eq_none (by omega)]
theorem ownsRow_sortedKD {w : World} {base g cap n : Nat} {os : Array Obj} {cur : Array Value} {l : List Dk} {d : Array Dk} (hl : d.size = l.length) (hbase : base ≤ g) (hb : w.heap[g]? = some (.cells cur 119 (0, 0)))
    (h1 : l.length ≤ cap) (h2 : cap ≤ maxLen) (h3 : cur.size = cap * 2) :
    (sortWorldK encD 2 w g 0 n d os).ownsRow base 119 2 (.slice (some ⟨g, 0, none⟩) l.length cap) d.toList.length (flatD d.toList) := by
  unfold sortWorldK putRowK
  have e := flatKD_eq d.toList
  rw [Array.toArray_toList] at e
  rw [e]
  refine ⟨flatD_len _, Or.inr ⟨g, cap, _, by simp [hl], hbase, heap_sortedKD _ hb, by simp [hl]; exact h1, h2, by simp [putCells, h3], ?_⟩⟩
  rw [← flatD_len]
  exact take_putCellsKD cur _ (by rw [flatD_len, h3]; simp [hl]; omega)
theorem grownBy_sortKD {w : World} {g n : Nat} {os : Array Obj} (d : Array Dk) : w.grownBy (sortWorldK encD 2 w g 0 n d os) (some g) := grownBy_sortedKD _

end Go.Proofs.YtdgfjneapialdaaGreatDoor
