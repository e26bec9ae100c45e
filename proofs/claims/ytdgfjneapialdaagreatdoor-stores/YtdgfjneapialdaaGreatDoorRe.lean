import Derived.Test.YtdgfjneapialdaaGreatDoorRd
namespace Go.Proofs.YtdgfjneapialdaaGreatDoor.S
open Go Go.RowKit Go.Maps

set_option maxRecDepth 20000 in
theorem neq129 (so : Int) (x : Ob) (w : World) : Sem.run Tryz.prog (binOp .neq 170 (.agg #[.int .u8 so, .int .u8 x.kind, .string x.name, .int .i64 x.uid, .int .i64 x.version, .int .i64 x.replicas, .int .i64 x.status, .int .i64 x.owner, .int .u8 x.phase, .bool x.gone]) (.agg #[.int .u8 so, .int .u8 x.kind, .string x.name, .int .i64 x.uid, .int .i64 x.version, .int .i64 x.replicas, .int .i64 x.status, .int .i64 x.owner, .int .u8 x.phase, .bool x.gone])) w = .ok (.bool false) w := by
  have u3 := Tryz.underlying3
  have a3 := Tryz.isAgg3
  have z3 := Tryz.sizeOf3
  have u5 := Tryz.underlying5
  have a5 := Tryz.isAgg5
  have z5 := Tryz.sizeOf5
  have u9 := Tryz.underlying9
  have a9 := Tryz.isAgg9
  have z9 := Tryz.sizeOf9
  have u4 := Tryz.underlying4
  have a4 := Tryz.isAgg4
  have z4 := Tryz.sizeOf4
  have a43 := Tryz.isAgg84
  have z43 := Tryz.sizeOf84
  have hS : Tryz.prog.underlying 170 = some (.struct (Tryz.prog.fieldsOf 170)) := by kernel_rfl
  have hp : Tryz.prog.stoodInHeld 170 = false := by kernel_rfl
  rw [run_neq_struct, show (10000 : Nat) = 9998 + 1 + 1 from rfl, run_equalIn_agg w (9998 + 1) 170 _ _ hS hp]
  clear hS
  simp only [Program.fieldsOf, Tryz.underlying170]
  go_simp

theorem guard129 (op : BinOp) (a b : Operand) (x y : Array Value) (w : World) : (eqGuard op 170 a b (.agg x) (.agg y)).run Tryz.prog w = .ok () w := run_eqGuard_agg w op 170 a b x y (by kernel_rfl)

/-- One event of a row of events, cell by cell. -/
theorem ev_cells {w wr : World} {base g cap : Nat} {es : List (Int × Ob)} {j : Nat} (h : w.ownsRow base 170 10 (.slice (some ⟨g, 0, none⟩) es.length cap) es.length (es.flatMap evP)) (hb : Below w.heap.size w wr) (hj : j < es.length) :
    ∀ (t : Nat) (y : Value), t < 10 → (evP es[j])[t]? = some y → wr.cell? ⟨g, j * 10 + t, none⟩ = some y := by
  intro t y ht hy
  have := row_below h hb
  rw [this.cellAt (j * 10 + t) (by omega), flatMap_get evP 10 evP_len es j t hj ht, hy]

set_option maxRecDepth 100000 in
set_option maxHeartbeats 400000 in
theorem sameEvents_any (w : World) (base1 base2 : Nat) (v1 v2 : Value) (l : List (Int × Ob)) (hr1 : w.ownsRow base1 170 10 v1 l.length (l.flatMap evP)) (hr2 : w.ownsRow base2 170 10 v2 l.length (l.flatMap evP)) (hl : l.length ≤ 10000) :
    Calls Tryz.prog 65 #[v1, v2] w fun e w' => e = .returned (.bool true) ∧ Below w.heap.size w w' := by
  obtain ⟨ad1, cap1, rfl, had1⟩ := row_form hr1
  obtain ⟨ad2, cap2, rfl, had2⟩ := row_form hr2
  have Hr1 : Hid (w.ownsRow base1 170 10 (.slice ad1 l.length cap1) l.length (l.flatMap evP)) := hr1
  have Hr2 : Hid (w.ownsRow base2 170 10 (.slice ad2 l.length cap2) l.length (l.flatMap evP)) := hr2
  clear hr1 hr2
  go_enter Tryz.func65, Tryz.ntmps65
  go_wp2
  go_loopw [5] (fun i wr => ∃ k : Nat, k ≤ l.length ∧ i = .int .i64 k ∧ Hid (Below w.heap.size w wr)) (fun i _ => l.length - (intOf i).toNat)
  case atStart => exact ⟨0, Nat.zero_le _, rfl, Below.refl _ _⟩
  case round =>
    obtain ⟨k, hk, rfl, Hbw⟩ := hrel
    by_cases hlt : k < l.length
    · obtain ⟨g1, rfl, hgb1, hgs1⟩ := had1 (by omega)
      obtain ⟨g2, rfl, hgb2, hgs2⟩ := had2 (by omega)
      have hc1 := ev_cells Hr1.out Hbw.out hlt
      have hc2 := ev_cells Hr2.out Hbw.out hlt
      obtain ⟨x, hx⟩ : ∃ x, x = l[k] := ⟨_, rfl⟩
      rw [← hx] at hc1 hc2
      have p0 : wr.cell? ⟨g1, k * 10, none⟩ = some (.int .u8 x.1) := hc1 0 _ (by omega) rfl
      have p1 : wr.cell? ⟨g1, k * 10 + 1, none⟩ = some (.int .u8 x.2.kind) := hc1 1 _ (by omega) rfl
      have p2 : wr.cell? ⟨g1, k * 10 + 2, none⟩ = some (.string x.2.name) := hc1 2 _ (by omega) rfl
      have p3 : wr.cell? ⟨g1, k * 10 + 3, none⟩ = some (.int .i64 x.2.uid) := hc1 3 _ (by omega) rfl
      have p4 : wr.cell? ⟨g1, k * 10 + 4, none⟩ = some (.int .i64 x.2.version) := hc1 4 _ (by omega) rfl
      have p5 : wr.cell? ⟨g1, k * 10 + 5, none⟩ = some (.int .i64 x.2.replicas) := hc1 5 _ (by omega) rfl
      have p6 : wr.cell? ⟨g1, k * 10 + 6, none⟩ = some (.int .i64 x.2.status) := hc1 6 _ (by omega) rfl
      have p7 : wr.cell? ⟨g1, k * 10 + 7, none⟩ = some (.int .i64 x.2.owner) := hc1 7 _ (by omega) rfl
      have p8 : wr.cell? ⟨g1, k * 10 + 8, none⟩ = some (.int .u8 x.2.phase) := hc1 8 _ (by omega) rfl
      have p9 : wr.cell? ⟨g1, k * 10 + 9, none⟩ = some (.bool x.2.gone) := hc1 9 _ (by omega) rfl
      have q0 : wr.cell? ⟨g2, k * 10, none⟩ = some (.int .u8 x.1) := hc2 0 _ (by omega) rfl
      have q1 : wr.cell? ⟨g2, k * 10 + 1, none⟩ = some (.int .u8 x.2.kind) := hc2 1 _ (by omega) rfl
      have q2 : wr.cell? ⟨g2, k * 10 + 2, none⟩ = some (.string x.2.name) := hc2 2 _ (by omega) rfl
      have q3 : wr.cell? ⟨g2, k * 10 + 3, none⟩ = some (.int .i64 x.2.uid) := hc2 3 _ (by omega) rfl
      have q4 : wr.cell? ⟨g2, k * 10 + 4, none⟩ = some (.int .i64 x.2.version) := hc2 4 _ (by omega) rfl
      have q5 : wr.cell? ⟨g2, k * 10 + 5, none⟩ = some (.int .i64 x.2.replicas) := hc2 5 _ (by omega) rfl
      have q6 : wr.cell? ⟨g2, k * 10 + 6, none⟩ = some (.int .i64 x.2.status) := hc2 6 _ (by omega) rfl
      have q7 : wr.cell? ⟨g2, k * 10 + 7, none⟩ = some (.int .i64 x.2.owner) := hc2 7 _ (by omega) rfl
      have q8 : wr.cell? ⟨g2, k * 10 + 8, none⟩ = some (.int .u8 x.2.phase) := hc2 8 _ (by omega) rfl
      have q9 : wr.cell? ⟨g2, k * 10 + 9, none⟩ = some (.bool x.2.gone) := hc2 9 _ (by omega) rfl
      have hq := neq129 x.1 x.2
      have hg := guard129
      clear hc1 hc2 hx
      go_wp2_with fail
      go_quiet (fail)
      go_wp2
      go_roundw
      case rel => exact ⟨k + 1, by omega, by simp, belowDN Hbw.out _⟩
      case measure => simp [intOf]; omega
    · have hkl : k = l.length := by omega
      subst hkl
      have hlt2 : ¬ ((l.length : Int) < (l.length : Int)) := by omega
      go_wp2
      go_ret
      exact ⟨rfl, Hbw.out⟩

end Go.Proofs.YtdgfjneapialdaaGreatDoor.S
