import Derived.Test.YtdgfjneapialdaaGreatDoorYa
namespace Go.Proofs.YtdgfjneapialdaaGreatDoor.S
open Go Go.RowKit Go.Maps

set_option maxHeartbeats 400000 in
theorem since_old (w : World) (sb mb : Nat) (lim ver cre : Int) (log : List Value) (n : Nat) (D : DataW Unit) (v : Int) (h : IsStore w sb mb lim ver cre log n D) (h0 : 0 ≤ v) (h1 : v ≤ ver) (hv : ver ≤ 600) (ho : 16 < ver - v) :
    Calls Tryz.prog 63 #[.pointer (some ⟨sb, 0, none⟩), .int .i64 v, .int .i64 600] w fun e w' => e = .returned (.tuple #[.slice none 0 0, .int .i64 7]) ∧ w' = w := by
  have c1 := h.c1
  clear h
  have d0 : decide (v < 0) = false := by simp; omega
  have d1 : decide (ver < v) = false := by simp; omega
  have d2 : decide (v < ver - 16) = true := by simp; omega
  go_enter Tryz.func63, Tryz.ntmps63
  go_wp2
  go_ret2
  exact ⟨rfl, rfl⟩

theorem info42 : (Tryz.prog.info? 170).map (fun i => (i.zero, i.size, i.bytes)) = some (some (.agg #[.int .u8 0, .int .u8 0, .string ⟨#[]⟩, .int .i64 0, .int .i64 0, .int .i64 0, .int .i64 0, .int .i64 0, .int .u8 0, .bool false]), 10, 80) := by kernel_rfl

set_option maxRecDepth 100000 in
set_option maxHeartbeats 400000 in
theorem since_ok (w : World) (sb mb : Nat) (lim ver cre : Int) (f : Nat → Int × Ob) (n : Nat) (D : DataW Unit) (v : Int) (m : Nat) (h : IsStore w sb mb lim ver cre (logOf f) n D) (h0 : 0 ≤ v) (hv : ver ≤ 600) (hm : ver - v = (m : Int)) (hm16 : m ≤ 16) :
    Calls Tryz.prog 63 #[.pointer (some ⟨sb, 0, none⟩), .int .i64 v, .int .i64 600] w fun e w' => ∃ vv, e = .returned (.tuple #[vv, .int .i64 0]) ∧ w'.ownsRow w.heap.size 170 10 vv m ((List.range m).flatMap fun i : Nat => evP (f ((v + 1 + (i : Int)) % 16).toNat)) ∧ (∃ c, vv = .slice (some ⟨w.heap.size, 0, none⟩) m c) ∧ Below w.heap.size w w' := by
  have c1 := h.c1
  have hsb := h.lt
  have HS : Hid (IsStore w sb mb lim ver cre (logOf f) n D) := h
  clear h
  have d0 : decide (v < 0) = false := by simp; omega
  have d1 : decide (ver < v) = false := by simp; omega
  have d2 : decide (v < ver - 16) = false := by simp; omega
  have hmin : min (600 : Int) (m : Int) = (m : Int) := by omega
  obtain ⟨i0, hi, hz0, hz1, hz2⟩ := info_parts info42
  have hb42 : i0.bytes * m ≤ 281474976710656 := by rw [hz2]; omega
  have hm63 : m ≤ maxLen := by unfold maxLen; omega
  go_enter Tryz.func63, Tryz.ntmps63
  go_wp2_with (first | (at_make; refine wpList_make_full _ rfl _ _ 139 rfl w.heap.size 170 i0 _ 10 Tryz.underlying139 hi hz0 hz1 _ _ _ _ m rfl rfl rfl rfl hb42 hm63 (Nat.le_refl _) ?_; intro w1 hrow1 hg1; go_frame) | go_in)
  have hb1 : Below w.heap.size w w1 := (Below.refl _ _).grown hg1 (Nat.le_refl _) (fun j hj => by cases hj)
  go_loopw [43] (fun i wr => ∃ k : Nat, k ≤ m ∧ i = .int .i64 k ∧ ∃ xs, Hid (wr.ownsRow w.heap.size 170 10 (.slice (some ⟨w.heap.size, 0, none⟩) m m) m xs) ∧ Hid (∀ t, t < k * 10 → xs[t]? = ((List.range m).flatMap fun i : Nat => evP (f ((v + 1 + (i : Int)) % 16).toNat))[t]?) ∧ Hid (Below w.heap.size w wr)) (fun i _ => m - (intOf i).toNat)
  case atStart => exact ⟨0, Nat.zero_le _, rfl, _, hrow1, fun t ht => absurd ht (by omega), hb1⟩
  case round =>
    obtain ⟨k, hk, rfl, xs, Hrow, Hxs, Hbw⟩ := hrel
    have hrow := Hrow.out
    have hbw := Hbw.out
    by_cases hlt : k < m
    · obtain ⟨j, hj⟩ : ∃ j : Nat, (v + 1 + (k : Int)) % 16 = (j : Int) := ⟨((v + 1 + (k : Int)) % 16).toNat, by omega⟩
      have hj16 : j < 16 := by omega
      have hSw := HS.out.below hbw
      have hst : ∀ (t : Nat) (x : Value), t < 10 → (evP (f j))[t]? = some x → wr.cell? ⟨sb, 4 + j * 10 + t, none⟩ = some x := by
        intro t x ht hx
        obtain ⟨y, hy, hy2⟩ := hSw.lg (j * 10 + t) (by omega)
        rw [logOf_get f j t hj16 ht, hx] at hy2
        cases hy2
        rw [Nat.add_assoc]
        exact hy
      have hxl : xs.length = m * 10 := hrow.1
      have hro : ∀ t, t < 10 → ∃ y, wr.cell? ⟨w.heap.size, k * 10 + t, none⟩ = some y := by
        intro t ht
        exact ⟨xs[k * 10 + t]'(by omega), by rw [hrow.cellAt (k * 10 + t) (by omega)]; simp⟩
      have q0 : wr.cell? ⟨sb, 4 + j * 10, none⟩ = some (.int .u8 (f j).1) := hst 0 _ (by omega) rfl
      have q1 : wr.cell? ⟨sb, 4 + j * 10 + 1, none⟩ = some (.int .u8 (f j).2.kind) := hst 1 _ (by omega) rfl
      have q2 : wr.cell? ⟨sb, 4 + j * 10 + 2, none⟩ = some (.string (f j).2.name) := hst 2 _ (by omega) rfl
      have q3 : wr.cell? ⟨sb, 4 + j * 10 + 3, none⟩ = some (.int .i64 (f j).2.uid) := hst 3 _ (by omega) rfl
      have q4 : wr.cell? ⟨sb, 4 + j * 10 + 4, none⟩ = some (.int .i64 (f j).2.version) := hst 4 _ (by omega) rfl
      have q5 : wr.cell? ⟨sb, 4 + j * 10 + 5, none⟩ = some (.int .i64 (f j).2.replicas) := hst 5 _ (by omega) rfl
      have q6 : wr.cell? ⟨sb, 4 + j * 10 + 6, none⟩ = some (.int .i64 (f j).2.status) := hst 6 _ (by omega) rfl
      have q7 : wr.cell? ⟨sb, 4 + j * 10 + 7, none⟩ = some (.int .i64 (f j).2.owner) := hst 7 _ (by omega) rfl
      have q8 : wr.cell? ⟨sb, 4 + j * 10 + 8, none⟩ = some (.int .u8 (f j).2.phase) := hst 8 _ (by omega) rfl
      have q9 : wr.cell? ⟨sb, 4 + j * 10 + 9, none⟩ = some (.bool (f j).2.gone) := hst 9 _ (by omega) rfl
      obtain ⟨y0, r0⟩ := hro 0 (by omega)
      obtain ⟨y1, r1⟩ := hro 1 (by omega)
      obtain ⟨y2, r2⟩ := hro 2 (by omega)
      obtain ⟨y3, r3⟩ := hro 3 (by omega)
      obtain ⟨y4, r4⟩ := hro 4 (by omega)
      obtain ⟨y5, r5⟩ := hro 5 (by omega)
      obtain ⟨y6, r6⟩ := hro 6 (by omega)
      obtain ⟨y7, r7⟩ := hro 7 (by omega)
      obtain ⟨y8, r8⟩ := hro 8 (by omega)
      obtain ⟨y9, r9⟩ := hro 9 (by omega)
      simp only [Nat.add_zero] at r0
      have hfz : ∀ t, wr.frozen? ⟨w.heap.size, t, none⟩ = false := fun t => hrow.frozenAt t
      have hne : w.heap.size ≠ sb := by omega
      have hne2 : sb ≠ w.heap.size := by omega
      clear hst hro hSw hrow hbw
      go_wp2
      go_roundw
      case rel =>
        have hrow := Hrow.out
        have hbw := Hbw.out
        have hrN := ((((((((((hrow.stored (k * 10) (.int .u8 (f j).1)).1.stored (k * 10 + 1) (.int .u8 (f j).2.kind)).1.stored (k * 10 + 2) (.string (f j).2.name)).1.stored (k * 10 + 3) (.int .i64 (f j).2.uid)).1.stored (k * 10 + 4) (.int .i64 (f j).2.version)).1.stored (k * 10 + 5) (.int .i64 (f j).2.replicas)).1.stored (k * 10 + 6) (.int .i64 (f j).2.status)).1.stored (k * 10 + 7) (.int .i64 (f j).2.owner)).1.stored (k * 10 + 8) (.int .u8 (f j).2.phase)).1.stored (k * 10 + 9) (.bool (f j).2.gone)).1
        refine ⟨k + 1, by omega, by go_num, _, hrN, ?_, Below.setCell (p := ⟨w.heap.size, k * 10 + 9, none⟩) (Below.setCell (p := ⟨w.heap.size, k * 10 + 8, none⟩) (Below.setCell (p := ⟨w.heap.size, k * 10 + 7, none⟩) (Below.setCell (p := ⟨w.heap.size, k * 10 + 6, none⟩) (Below.setCell (p := ⟨w.heap.size, k * 10 + 5, none⟩) (Below.setCell (p := ⟨w.heap.size, k * 10 + 4, none⟩) (Below.setCell (p := ⟨w.heap.size, k * 10 + 3, none⟩) (Below.setCell (p := ⟨w.heap.size, k * 10 + 2, none⟩) (Below.setCell (p := ⟨w.heap.size, k * 10 + 1, none⟩) (Below.setCell (p := ⟨w.heap.size, k * 10 + 0, none⟩) (hbw) (Nat.le_refl _) (.int .u8 (f j).1)) (Nat.le_refl _) (.int .u8 (f j).2.kind)) (Nat.le_refl _) (.string (f j).2.name)) (Nat.le_refl _) (.int .i64 (f j).2.uid)) (Nat.le_refl _) (.int .i64 (f j).2.version)) (Nat.le_refl _) (.int .i64 (f j).2.replicas)) (Nat.le_refl _) (.int .i64 (f j).2.status)) (Nat.le_refl _) (.int .i64 (f j).2.owner)) (Nat.le_refl _) (.int .u8 (f j).2.phase)) (Nat.le_refl _) (.bool (f j).2.gone)⟩
        intro t ht
        have e1 := logPut_get (evP (f j)) xs (k * 10) t (by rw [evP_len]; omega)
        rw [evP_len] at e1
        have e2 : ∀ t2, t2 = t → ((List.range m).flatMap fun i : Nat => evP (f ((v + 1 + (i : Int)) % 16).toNat))[t2]? = (logPut xs (k * 10) (evP (f j)))[t]? := by
          rintro t2 rfl
          rw [e1]
          split
          · rename_i hin
            obtain ⟨b, rfl⟩ : ∃ b, t2 = k * 10 + b := ⟨t2 - k * 10, by omega⟩
            rw [flatMap_get (fun i : Nat => evP (f ((v + 1 + (i : Int)) % 16).toNat)) 10 (fun _ => rfl) (List.range m) k b (by simpa using hlt) (by omega)]
            simp only [List.getElem_range, hj, Int.toNat_natCast]
            rw [show k * 10 + b - k * 10 = b by omega]
          · rename_i hin
            exact (Hxs.out t2 (by omega)).symm
        rw [e2 t rfl]
        rfl
      case measure => simp [intOf]; omega
    · obtain rfl : k = m := by omega
      go_wp2
      go_ret2
      refine ⟨_, rfl, ?_, ⟨_, rfl⟩, hbw⟩
      have e : xs = (List.range k).flatMap fun i : Nat => evP (f ((v + 1 + (i : Int)) % 16).toNat) := by
        apply List.ext_getElem?
        intro t
        by_cases ht : t < k * 10
        · exact Hxs.out t ht
        · rw [List.getElem?_eq_none (by rw [hrow.1]; omega), List.getElem?_eq_none (by rw [flatMap_len _ 10 (fun _ => rfl)]; simp; omega)]
      rw [← e]
      exact hrow

end Go.Proofs.YtdgfjneapialdaaGreatDoor.S
