import Derived.Test.YtdgfjneapialdaaGreatDoorTz
import Derived.Deep.RegionHeld
import Derived.Deep.MidRow
namespace Go.Proofs.YtdgfjneapialdaaGreatDoor.S
open Go Go.RowKit Go.Maps

theorem box_cell (w : World) (A : Array Value) (j : Nat) (v : Value) (h : A[j]? = some v) : (w.alloc (.cells A 86)).cell? ⟨w.heap.size, j, none⟩ = some v := by
  rw [cell_of_row _ _ _ _ _ _ (MapKept.heap_alloc w (.cells A 86)).1]
  exact h
theorem box_range (w : World) (A : Array Value) : (w.alloc (.cells A 86)).rangeAt w.heap.size 0 A.toList := by
  intro j v hv
  rw [cell_of_row _ _ _ _ _ _ (MapKept.heap_alloc w (.cells A 86)).1, Nat.zero_add]
  simpa using hv
theorem size47 : (Tryz.prog.info? 86).map (·.size) = some 21 := by kernel_rfl

set_option maxRecDepth 100000 in
set_option maxHeartbeats 1000000 in
theorem step_reg {w : World} {wb : Nat} (g i L cap qb rb : Nat) (k on : Int) (A : Array Value) (hA : A.size = 21) (R : Ending → World → Prop)
    (hk : A[0]? = some (.int .i64 k)) (hon : A[1]? = some (.int .i64 on))
    (hlt : wb < w.heap.size) (hgl : g < w.heap.size)
    (hcq : w.cell? ⟨wb, 0, none⟩ = some (.slice (some ⟨g, 0, none⟩) L cap)) (hg0 : w.cell? ⟨g, i * 2, none⟩ = some (.pointer (some ⟨qb, 0, none⟩))) (hg1 : w.cell? ⟨g, i * 2 + 1, none⟩ = some (.pointer (some ⟨rb, 0, none⟩)))
    (hL : L ≤ 2000000000000) (hil : (i : Int) < (L : Int))
    (hpk : ∀ W, Calls Tryz.prog 47 #[.int .i64 on, .int .i64 (L : Int)] W fun e w' => e = .returned (.int .i64 (i : Int)) ∧ w' = W)
    (hc : Calls Tryz.prog 30 #[.pointer (some ⟨wb, 0, none⟩), .agg #[.pointer (some ⟨qb, 0, none⟩), .pointer (some ⟨rb, 0, none⟩)], .agg A] (w.alloc (.cells A 86)).drew fun e w' => e = .returned (.bool true) ∧ R (.returned (.bool true)) w' ∧ (w'.cell? ⟨wb, 0, none⟩ = some (.slice (some ⟨g, 0, none⟩) L cap) ∧ w'.cell? ⟨g, i * 2, none⟩ = some (.pointer (some ⟨qb, 0, none⟩)) ∧ w'.cell? ⟨g, i * 2 + 1, none⟩ = some (.pointer (some ⟨rb, 0, none⟩)) ∧ w'.cell? ⟨w.heap.size, 1, none⟩ = some (.int .i64 on) ∧ w'.rangeAt w.heap.size 0 A.toList))
    (b1 : (k == 1) = false) (b2 : (k == 11) = false) (b3 : (k == 21) = false) (b4 : (k == 28) = false) (b5 : decide (k ≥ 2) = true) (b6 : decide (k ≤ 8) = true) :
    Calls Tryz.prog 28 #[.pointer (some ⟨wb, 0, none⟩), .agg A] w R := by
  have x0 := box_cell w A 0 _ hk
  have x4 := box_cell w A 1 _ hon
  have x5 := box_range w A
  have x1 : (w.alloc (.cells A 86)).cell? ⟨wb, 0, none⟩ = some (.slice (some ⟨g, 0, none⟩) L cap) := by rw [World.cell?_alloc_lt _ _ _ hlt]; exact hcq
  have x2 : (w.alloc (.cells A 86)).cell? ⟨g, i * 2, none⟩ = some (.pointer (some ⟨qb, 0, none⟩)) := by rw [World.cell?_alloc_lt _ _ _ hgl]; exact hg0
  have x3 : (w.alloc (.cells A 86)).cell? ⟨g, i * 2 + 1, none⟩ = some (.pointer (some ⟨rb, 0, none⟩)) := by rw [World.cell?_alloc_lt _ _ _ hgl]; exact hg1
  have hi47 : (Tryz.prog.info? 86).map (·.size) = some A.toList.length := by rw [size47]; simp [hA]
  have HX5 : Hid ((w.alloc (.cells A 86)).rangeAt w.heap.size 0 A.toList) := x5
  have HI47 : Hid ((Tryz.prog.info? 86).map (·.size) = some A.toList.length) := hi47
  clear hcq hg0 hg1 hk hon x5 hi47
  go_enter Tryz.func28, Tryz.ntmps28
  go_upto_region 6 with fail
  generalize w.alloc (.cells A 86) = W1 at *
  refine wp_region_held_drew (S := fun w' => w'.cell? ⟨wb, 0, none⟩ = some (.slice (some ⟨g, 0, none⟩) L cap) ∧ w'.cell? ⟨g, i * 2, none⟩ = some (.pointer (some ⟨qb, 0, none⟩)) ∧ w'.cell? ⟨g, i * 2 + 1, none⟩ = some (.pointer (some ⟨rb, 0, none⟩)) ∧ w'.cell? ⟨w.heap.size, 1, none⟩ = some (.int .i64 on) ∧ w'.rangeAt w.heap.size 0 A.toList) (by kernel_rfl) ⟨x1, x2, x3, x4, HX5.out⟩ (fun hHeld => ?_)
  refine wpAnyH_take (i := 15) (oi := { dst := some 61, op := Op.load 86 (Operand.tmp 3), type := 86, pos := "law.go:291", after := #[], guard := none }) (v := _) rfl (by kernel_rfl) (by kernel_rfl) (by kernel_rfl) (fun _ _ _ h => h) (yieldsIf_load_mid (by rfl) 86 _ rfl w.heap.size 0 rfl A.toList _ (fun w hw => hw.2.2.2.2) Tryz.underlying86 rfl HI47.out) hHeld ?_
  simp only [Act.put, List.setIfInBounds_toArray, List.set_cons_zero, List.set_cons_succ, Array.toArray_toList]
  refine wpAnyH_take (i := 0) (oi := { dst := some 46, op := Op.move (Operand.tmp 0), type := 68, pos := "law.go:291", after := #[], guard := none }) (v := ?_) rfl (by kernel_rfl) (by kernel_rfl) (by kernel_rfl) (fun _ _ _ h => h) (Or.inl ⟨by rfl, ?_⟩) hHeld ?_
  rotate_left
  · intro w hSw
    obtain ⟨s1, s2, s3, s4, _⟩ := hSw
    go_simp
    try with_reducible rfl
  simp only [Act.put, List.setIfInBounds_toArray, List.set_cons_zero, List.set_cons_succ]
  refine wpAnyH_take (i := 1) (oi := { dst := some 47, op := Op.move (Operand.tmp 0), type := 68, pos := "law.go:291", after := #[], guard := none }) (v := ?_) rfl (by kernel_rfl) (by kernel_rfl) (by kernel_rfl) (fun _ _ _ h => h) (Or.inl ⟨by rfl, ?_⟩) hHeld ?_
  rotate_left
  · intro w hSw
    obtain ⟨s1, s2, s3, s4, _⟩ := hSw
    go_simp
    try with_reducible rfl
  simp only [Act.put, List.setIfInBounds_toArray, List.set_cons_zero, List.set_cons_succ]
  refine wpAnyH_take (i := 2) (oi := { dst := some 48, op := Op.nilCheck (Operand.tmp 47), type := 0, pos := "law.go:291", after := #[{ on := 1, ground := Ground.data }], guard := none }) (v := ?_) rfl (by kernel_rfl) (by kernel_rfl) (by kernel_rfl) (fun _ _ _ h => h) (Or.inl ⟨by rfl, ?_⟩) hHeld ?_
  rotate_left
  · intro w hSw
    obtain ⟨s1, s2, s3, s4, _⟩ := hSw
    go_simp
    try with_reducible rfl
  simp only [Act.put, List.setIfInBounds_toArray, List.set_cons_zero, List.set_cons_succ]
  refine wpAnyH_take (i := 3) (oi := { dst := some 49, op := Op.fieldAddr 81 (Operand.tmp 48) 0, type := 0, pos := "law.go:291", after := #[{ on := 2, ground := Ground.data }], guard := none }) (v := ?_) rfl (by kernel_rfl) (by kernel_rfl) (by kernel_rfl) (fun _ _ _ h => h) (Or.inl ⟨by rfl, ?_⟩) hHeld ?_
  rotate_left
  · intro w hSw
    obtain ⟨s1, s2, s3, s4, _⟩ := hSw
    go_simp
    try with_reducible rfl
  simp only [Act.put, List.setIfInBounds_toArray, List.set_cons_zero, List.set_cons_succ]
  refine wpAnyH_take (i := 4) (oi := { dst := some 50, op := Op.load 69 (Operand.tmp 49), type := 69, pos := "law.go:291", after := #[{ on := 3, ground := Ground.data }], guard := none }) (v := ?_) rfl (by kernel_rfl) (by kernel_rfl) (by kernel_rfl) (fun _ _ _ h => h) (Or.inl ⟨by rfl, ?_⟩) hHeld ?_
  rotate_left
  · intro w hSw
    obtain ⟨s1, s2, s3, s4, _⟩ := hSw
    go_simp
    try with_reducible rfl
  simp only [Act.put, List.setIfInBounds_toArray, List.set_cons_zero, List.set_cons_succ]
  refine wpAnyH_take (i := 5) (oi := { dst := some 51, op := Op.fieldAddr 86 (Operand.tmp 3) 1, type := 0, pos := "law.go:291", after := #[], guard := none }) (v := ?_) rfl (by kernel_rfl) (by kernel_rfl) (by kernel_rfl) (fun _ _ _ h => h) (Or.inl ⟨by rfl, ?_⟩) hHeld ?_
  rotate_left
  · intro w hSw
    obtain ⟨s1, s2, s3, s4, _⟩ := hSw
    go_simp
    try with_reducible rfl
  simp only [Act.put, List.setIfInBounds_toArray, List.set_cons_zero, List.set_cons_succ]
  refine wpAnyH_take (i := 6) (oi := { dst := some 52, op := Op.load 3 (Operand.tmp 51), type := 3, pos := "law.go:291", after := #[{ on := 5, ground := Ground.data }], guard := none }) (v := ?_) rfl (by kernel_rfl) (by kernel_rfl) (by kernel_rfl) (fun _ _ _ h => h) (Or.inl ⟨by rfl, ?_⟩) hHeld ?_
  rotate_left
  · intro w hSw
    obtain ⟨s1, s2, s3, s4, _⟩ := hSw
    go_simp
    try with_reducible rfl
  simp only [Act.put, List.setIfInBounds_toArray, List.set_cons_zero, List.set_cons_succ]
  refine wpAnyH_take (i := 7) (oi := { dst := some 53, op := Op.move (Operand.tmp 0), type := 68, pos := "law.go:291", after := #[], guard := none }) (v := ?_) rfl (by kernel_rfl) (by kernel_rfl) (by kernel_rfl) (fun _ _ _ h => h) (Or.inl ⟨by rfl, ?_⟩) hHeld ?_
  rotate_left
  · intro w hSw
    obtain ⟨s1, s2, s3, s4, _⟩ := hSw
    go_simp
    try with_reducible rfl
  simp only [Act.put, List.setIfInBounds_toArray, List.set_cons_zero, List.set_cons_succ]
  refine wpAnyH_take (i := 8) (oi := { dst := some 54, op := Op.nilCheck (Operand.tmp 53), type := 0, pos := "law.go:291", after := #[{ on := 7, ground := Ground.data }], guard := none }) (v := ?_) rfl (by kernel_rfl) (by kernel_rfl) (by kernel_rfl) (fun _ _ _ h => h) (Or.inl ⟨by rfl, ?_⟩) hHeld ?_
  rotate_left
  · intro w hSw
    obtain ⟨s1, s2, s3, s4, _⟩ := hSw
    go_simp
    try with_reducible rfl
  simp only [Act.put, List.setIfInBounds_toArray, List.set_cons_zero, List.set_cons_succ]
  refine wpAnyH_take (i := 9) (oi := { dst := some 55, op := Op.fieldAddr 81 (Operand.tmp 54) 0, type := 0, pos := "law.go:291", after := #[{ on := 8, ground := Ground.data }], guard := none }) (v := ?_) rfl (by kernel_rfl) (by kernel_rfl) (by kernel_rfl) (fun _ _ _ h => h) (Or.inl ⟨by rfl, ?_⟩) hHeld ?_
  rotate_left
  · intro w hSw
    obtain ⟨s1, s2, s3, s4, _⟩ := hSw
    go_simp
    try with_reducible rfl
  simp only [Act.put, List.setIfInBounds_toArray, List.set_cons_zero, List.set_cons_succ]
  refine wpAnyH_take (i := 10) (oi := { dst := some 56, op := Op.load 69 (Operand.tmp 55), type := 69, pos := "law.go:291", after := #[{ on := 9, ground := Ground.data }], guard := none }) (v := ?_) rfl (by kernel_rfl) (by kernel_rfl) (by kernel_rfl) (fun _ _ _ h => h) (Or.inl ⟨by rfl, ?_⟩) hHeld ?_
  rotate_left
  · intro w hSw
    obtain ⟨s1, s2, s3, s4, _⟩ := hSw
    go_simp
    try with_reducible rfl
  simp only [Act.put, List.setIfInBounds_toArray, List.set_cons_zero, List.set_cons_succ]
  refine wpAnyH_take (i := 11) (oi := { dst := some 57, op := Op.call { callee := Callee.builtin Builtin.len, args := #[Operand.tmp 56], argTypes := #[69] }, type := 3, pos := "law.go:291", after := #[{ on := 10, ground := Ground.data }], guard := none }) (v := ?_) rfl (by kernel_rfl) (by kernel_rfl) (by kernel_rfl) (fun _ _ _ h => h) (Or.inl ⟨by rfl, ?_⟩) hHeld ?_
  rotate_left
  · intro w hSw
    obtain ⟨s1, s2, s3, s4, _⟩ := hSw
    go_simp
    try with_reducible rfl
  simp only [Act.put, List.setIfInBounds_toArray, List.set_cons_zero, List.set_cons_succ]
  refine wpAnyH_ready (rs := [12]) (by kernel_rfl) (by simp) ?_
  refine AllReadyH.cons rfl (fun K hK => ?_) AllReadyH.nil
  go_simp
  go_wp2_with (go_at_call 47; refine (hpk _).mono ?_; rintro e w' ⟨rfl, rfl⟩)
  refine hK.out _ _ hHeld (fun _ => ?_)
  clear hK K
  refine wpAnyH_take (i := 13) (oi := { dst := some 59, op := Op.indexAddr 69 (Operand.tmp 50) (Operand.tmp 58), type := 0, pos := "law.go:291", after := #[{ on := 4, ground := Ground.data }, { on := 12, ground := Ground.data }], guard := none }) (v := ?_) rfl (by kernel_rfl) (by kernel_rfl) (by kernel_rfl) (fun _ _ _ h => h) (Or.inl ⟨by rfl, ?_⟩) hHeld ?_
  rotate_left
  · intro w hSw
    obtain ⟨s1, s2, s3, s4, _⟩ := hSw
    go_simp
    try with_reducible rfl
  simp only [Act.put, List.setIfInBounds_toArray, List.set_cons_zero, List.set_cons_succ]
  refine wpAnyH_take (i := 14) (oi := { dst := some 60, op := Op.load 91 (Operand.tmp 59), type := 91, pos := "law.go:291", after := #[{ on := 13, ground := Ground.data }], guard := none }) (v := ?_) rfl (by kernel_rfl) (by kernel_rfl) (by kernel_rfl) (fun _ _ _ h => h) (Or.inl ⟨by rfl, ?_⟩) hHeld ?_
  rotate_left
  · intro w hSw
    obtain ⟨s1, s2, s3, s4, _⟩ := hSw
    go_simp
    try with_reducible rfl
  simp only [Act.put, List.setIfInBounds_toArray, List.set_cons_zero, List.set_cons_succ]
  refine wpAnyH_ready (rs := [16]) (by kernel_rfl) (by simp) ?_
  refine AllReadyH.cons rfl (fun K hK => ?_) AllReadyH.nil
  go_simp
  go_wp2_with (go_at_call 30; refine hc.mono ?_; rintro e w' ⟨rfl, hx, hs⟩)
  refine hK.out _ _ hs (fun hHeld => ?_)
  clear hK K
  refine wpAnyH_take (i := 17) (oi := { dst := some 4, op := Op.assign (Operand.tmp 62), type := 4, pos := "law.go:291", after := #[{ on := 16, ground := Ground.data }, { on := 16, ground := Ground.chain }, { on := 0, ground := Ground.phase }, { on := 1, ground := Ground.phase }, { on := 2, ground := Ground.phase }, { on := 3, ground := Ground.phase }, { on := 4, ground := Ground.phase }, { on := 5, ground := Ground.phase }, { on := 6, ground := Ground.phase }, { on := 7, ground := Ground.phase }, { on := 8, ground := Ground.phase }, { on := 9, ground := Ground.phase }, { on := 10, ground := Ground.phase }, { on := 11, ground := Ground.phase }, { on := 12, ground := Ground.phase }, { on := 13, ground := Ground.phase }, { on := 14, ground := Ground.phase }, { on := 15, ground := Ground.phase }, { on := 16, ground := Ground.phase }], guard := none }) (v := ?_) rfl (by kernel_rfl) (by kernel_rfl) (by kernel_rfl) (fun _ _ _ h => h) (Or.inl ⟨by rfl, ?_⟩) hHeld ?_
  rotate_left
  · intro w hSw
    obtain ⟨s1, s2, s3, s4, _⟩ := hSw
    go_simp
    try with_reducible rfl
  simp only [Act.put, List.setIfInBounds_toArray, List.set_cons_zero, List.set_cons_succ]
  refine wpAnyH_done (by kernel_rfl) ?_ _
  go_wp2
  exact hx

end Go.Proofs.YtdgfjneapialdaaGreatDoor.S
