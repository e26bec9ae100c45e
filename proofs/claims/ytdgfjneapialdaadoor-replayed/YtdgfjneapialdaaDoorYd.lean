import Derived.Test.YtdgfjneapialdaaDoorYc
namespace Go.Proofs.YtdgfjneapialdaaDoor
open Go Go.RowKit Go.Maps

/-- One element of a row of objects, cell by cell. -/
theorem row_cells {w wr : World} {base g cap : Nat} {l : List Ob} {k : Nat} (h : w.ownsRow base 36 9 (.slice (some ⟨g, 0, none⟩) l.length cap) l.length (flatO l)) (hb : Below w.heap.size w wr) (hk : k < l.length) :
    ∀ (t : Nat) (y : Value), t < 9 → ((l[k]).arr.toList)[t]? = some y → wr.cell? ⟨g, k * 9 + t, none⟩ = some y := by
  intro t y ht hy
  have := row_below h hb
  rw [this.cellAt (k * 9 + t) (by omega), flatO_get l k t hk ht, hy]

def eqO (a b : Ob) : Bool := eqB a.kind a.name a.uid a.version a.replicas a.status a.owner a.phase a.gone b.kind b.name b.uid b.version b.replicas b.status b.owner b.phase b.gone
theorem eqO_self (a : Ob) : eqO a a = true := eqB_self _ _ _ _ _ _ _ _ _

set_option maxRecDepth 100000 in
set_option maxHeartbeats 400000 in
theorem among_any (w : World) (base1 base2 : Nat) (v1 v2 : Value) (l1 l2 : List Ob) (hr1 : w.ownsRow base1 36 9 v1 l1.length (flatO l1)) (hr2 : w.ownsRow base2 36 9 v2 l2.length (flatO l2)) (hl1 : l1.length ≤ 1000) (hl2 : l2.length ≤ 1000) (hsub : ∀ x ∈ l2, x ∈ l1) :
    Calls Tryd.prog 15 #[v1, v2] w fun e w' => e = .returned (.bool true) ∧ Below w.heap.size w w' := by
  obtain ⟨ad1, cap1, rfl, had1⟩ := row_form hr1
  obtain ⟨ad2, cap2, rfl, had2⟩ := row_form hr2
  have Hr1 : Hid (w.ownsRow base1 36 9 (.slice ad1 l1.length cap1) l1.length (flatO l1)) := hr1
  have Hr2 : Hid (w.ownsRow base2 36 9 (.slice ad2 l2.length cap2) l2.length (flatO l2)) := hr2
  have Hsub : Hid (∀ x ∈ l2, x ∈ l1) := hsub
  clear hr1 hr2 hsub
  go_enter Tryd.func15, Tryd.ntmps15
  go_wp2
  go_loopw [5] (fun i wr => ∃ k : Nat, k ≤ l2.length ∧ i = .int .i64 k ∧ Hid (Below w.heap.size w wr)) (fun i _ => l2.length - (intOf i).toNat)
  case atStart => exact ⟨0, Nat.zero_le _, rfl, Below.refl _ _⟩
  case round =>
    obtain ⟨k, hk, rfl, Hbw⟩ := hrel
    by_cases hlt : k < l2.length
    · obtain ⟨g2, rfl, hgb2, hgs2⟩ := had2 (by omega)
      obtain ⟨x, hx⟩ : ∃ x, x = l2[k] := ⟨_, rfl⟩
      have Hin : Hid (x ∈ l1) := by unfold Hid; rw [hx]; exact Hsub.out _ (List.getElem_mem hlt)
      have HX : Hid (x = l2[k]) := hx
      clear hx
      go_wp2
      go_loopw [6, 7] (fun fo j wq => ∃ (b : Bool) (m : Nat), m ≤ l1.length ∧ fo = .bool b ∧ j = .int .i64 m ∧ Hid (x ∈ l1.take m → b = true) ∧ Hid (Below w.heap.size w wq)) (fun _ j _ => l1.length - (intOf j).toNat)
      case atStart => exact ⟨false, 0, Nat.zero_le _, rfl, rfl, (fun h => by simp at h), Hbw⟩
      case round =>
        obtain ⟨b, m, hm, rfl, rfl, Hb, Hbq⟩ := hrel
        by_cases hlm : m < l1.length
        · obtain ⟨g1, rfl, hgb1, hgs1⟩ := had1 (by omega)
          cases b
          · have hc1 := row_cells Hr1.out Hbq.out hlm
            have hc2 := row_cells Hr2.out Hbq.out hlt
            rw [← HX.out] at hc2
            obtain ⟨y, hy⟩ : ∃ y, y = l1[m] := ⟨_, rfl⟩
            rw [← hy] at hc1
            have p0 : wr.cell? ⟨g1, m * 9, none⟩ = some (.int .u8 y.kind) := hc1 0 _ (by omega) rfl
            have p1 : wr.cell? ⟨g1, m * 9 + 1, none⟩ = some (.string y.name) := hc1 1 _ (by omega) rfl
            have p2 : wr.cell? ⟨g1, m * 9 + 2, none⟩ = some (.int .i64 y.uid) := hc1 2 _ (by omega) rfl
            have p3 : wr.cell? ⟨g1, m * 9 + 3, none⟩ = some (.int .i64 y.version) := hc1 3 _ (by omega) rfl
            have p4 : wr.cell? ⟨g1, m * 9 + 4, none⟩ = some (.int .i64 y.replicas) := hc1 4 _ (by omega) rfl
            have p5 : wr.cell? ⟨g1, m * 9 + 5, none⟩ = some (.int .i64 y.status) := hc1 5 _ (by omega) rfl
            have p6 : wr.cell? ⟨g1, m * 9 + 6, none⟩ = some (.int .i64 y.owner) := hc1 6 _ (by omega) rfl
            have p7 : wr.cell? ⟨g1, m * 9 + 7, none⟩ = some (.int .u8 y.phase) := hc1 7 _ (by omega) rfl
            have p8 : wr.cell? ⟨g1, m * 9 + 8, none⟩ = some (.bool y.gone) := hc1 8 _ (by omega) rfl
            have q0 : wr.cell? ⟨g2, k * 9, none⟩ = some (.int .u8 x.kind) := hc2 0 _ (by omega) rfl
            have q1 : wr.cell? ⟨g2, k * 9 + 1, none⟩ = some (.string x.name) := hc2 1 _ (by omega) rfl
            have q2 : wr.cell? ⟨g2, k * 9 + 2, none⟩ = some (.int .i64 x.uid) := hc2 2 _ (by omega) rfl
            have q3 : wr.cell? ⟨g2, k * 9 + 3, none⟩ = some (.int .i64 x.version) := hc2 3 _ (by omega) rfl
            have q4 : wr.cell? ⟨g2, k * 9 + 4, none⟩ = some (.int .i64 x.replicas) := hc2 4 _ (by omega) rfl
            have q5 : wr.cell? ⟨g2, k * 9 + 5, none⟩ = some (.int .i64 x.status) := hc2 5 _ (by omega) rfl
            have q6 : wr.cell? ⟨g2, k * 9 + 6, none⟩ = some (.int .i64 x.owner) := hc2 6 _ (by omega) rfl
            have q7 : wr.cell? ⟨g2, k * 9 + 7, none⟩ = some (.int .u8 x.phase) := hc2 7 _ (by omega) rfl
            have q8 : wr.cell? ⟨g2, k * 9 + 8, none⟩ = some (.bool x.gone) := hc2 8 _ (by omega) rfl
            obtain ⟨c, hc⟩ : ∃ c, eqO y x = c := ⟨_, rfl⟩
            have hq := fun W => eq29 y.kind y.name y.uid y.version y.replicas y.status y.owner y.phase y.gone x.kind x.name x.uid x.version x.replicas x.status x.owner x.phase x.gone W
            rw [show eqB y.kind y.name y.uid y.version y.replicas y.status y.owner y.phase y.gone x.kind x.name x.uid x.version x.replicas x.status x.owner x.phase x.gone = c from hc] at hq
            have hg := guard29
            have HY : Hid (y = l1[m]) := hy
            have HC : Hid (eqO y x = c) := hc
            clear hc1 hc2 hy hc
            go_wp2_with fail
            go_quiet (fail)
            go_wp2
            go_roundw
            case rel =>
              refine ⟨c, m + 1, by omega, rfl, by simp, ?_, belowDN Hbq.out _⟩
              intro h
              rw [List.take_succ_eq_append_getElem hlm, List.mem_append] at h
              rcases h with h | h
              · have := Hb.out h
                cases this
              · rw [← HY.out, List.mem_singleton] at h
                rw [← HC.out, h]
                exact eqO_self y
            case measure => simp [intOf]; omega
          · go_wp2_with fail
            go_quiet (fail)
            go_wp2
            go_roundw
            case rel => exact ⟨true, m + 1, by omega, rfl, by simp, fun _ => rfl, belowDN Hbq.out _⟩
            case measure => simp [intOf]; omega
        · have hml : m = l1.length := by omega
          subst hml
          have hlt2 : ¬ ((l1.length : Int) < (l1.length : Int)) := by omega
          obtain rfl : b = true := Hb.out (by rw [List.take_length]; exact Hin.out)
          go_wp2
          go_roundw
          case rel => exact ⟨k + 1, by omega, by simp, Hbq⟩
          case measure => simp [intOf]; omega
    · have hkl : k = l2.length := by omega
      subst hkl
      have hlt2 : ¬ ((l2.length : Int) < (l2.length : Int)) := by omega
      go_wp2
      go_ret
      exact ⟨rfl, Hbw.out⟩

end Go.Proofs.YtdgfjneapialdaaDoor
