import Derived.Test.YtdgfjneapialdaaGreatDoorTv
import Derived.BigQuiet
import Derived.Deep.QuietTactic
namespace Go.Proofs.YtdgfjneapialdaaGreatDoor.S
open Go Go.RowKit Go.Maps

section
variable {own : Nat → Nat} {w : World} {wb : Nat} {q bw bd : Value} {ws ds : List Value} {ps : List (Nat × Nat)} {m1 m2 : Nat}
set_option maxRecDepth 100000 in
set_option maxHeartbeats 1000000 in
/-- things: every list of objects or of events that the book keeps reads as it was marked. -/
theorem things_any (h : Desk own w wb q bw bd ws ds ps m1 m2) (hm1 : m1 ≤ 1540000000000) (hm2 : m2 ≤ 1540000000000) : Calls Tryz.prog 49 #[.pointer (some ⟨wb, 3, none⟩)] w fun e w' => e = .returned (.bool true) ∧ w' = w := by
  have H : Hid (Desk own w wb q bw bd ws ds ps m1 m2) := h
  obtain ⟨ao5, cap5, e5⟩ := own_form h.isw.ow
  obtain ⟨ao6, cap6, e6⟩ := own_form h.isw.od
  have hL1 : ws.length ≤ 6160000000000 := by have := h.l1; omega
  have hL2 : ds.length ≤ 6160000000000 := by have := h.l2; omega
  subst e5 e6
  clear h hm1 hm2
  go_enter Tryz.func49, Tryz.ntmps49
  go_wp2
  go_loopw [3, 4] (fun i _ wr2 => ∃ k : Nat, k ≤ ws.length ∧ i = .int .i64 k ∧ wr2 = w) (fun i _ _ => ws.length - (intOf i).toNat)
  case atStart => exact ⟨0, Nat.zero_le _, rfl, rfl⟩
  case round =>
    obtain ⟨k, hk, rfl, rfl⟩ := hrel
    have hW := H.out.isw
    have px := hW.p3
    have hltr := hW.lt
    by_cases hkl : k < ws.length
    · have hg : ∃ g, ao5 = some ⟨g, 0, none⟩ := by
        rcases H.out.isw.ow.2 with ⟨_, h2⟩ | ⟨g, cap', cur, h1, _⟩
        · omega
        · injection h1 with a; exact ⟨g, a⟩
      obtain ⟨g, rfl⟩ := hg
      have hcx : wr.cell? ⟨g, k, none⟩ = some ws[k] := by
        have := hW.ow.cells (g := g) rfl k _ (List.getElem?_eq_getElem hkl)
        rwa [Addr.add_lit, Nat.zero_add] at this
      obtain ⟨nk, hnk, ho⟩ := (H.out.w1 k hkl).1
      obtain ⟨ad, cap, ex⟩ := own_form ho
      rw [ex] at hcx ho
      have hq4 := quo4 k
      have hq4e := quo4e k
      have hki : ((k : Int) < (ws.length : Int)) := by omega
      have HKL : Hid (k < ws.length) := hkl
      have hb4 : k / 4 ≤ 6160000000000 := by omega
      have HO : Hid (wr.ownsRow 0 84 9 (.slice ad nk cap) nk ((List.replicate nk (mkO (9000 + ((k / 4 : Nat) : Int)))).flatMap (fun o : Ob => o.arr.toList))) := ho
      obtain ⟨c4, hc4⟩ : ∃ c4 : Nat, c4 = k / 4 := ⟨_, rfl⟩
      rw [← hc4] at HO hq4 hq4e hb4
      clear ho ex hkl hW hc4
      go_wp2
      go_loopw [4] (fun jv wr2 => ∃ j : Nat, j ≤ nk ∧ jv = .int .i64 j ∧ wr2 = wr) (fun jv _ => nk - (intOf jv).toNat)
      case atStart => exact ⟨0, Nat.zero_le _, rfl, rfl⟩
      case round =>
        obtain ⟨j, hj, rfl, rfl⟩ := hrel
        by_cases hjl : j < nk
        · have hg2 : ∃ g, ad = some ⟨g, 0, none⟩ := by
            rcases HO.out.2 with ⟨_, h2⟩ | ⟨g, cap', cur, h1, _⟩
            · omega
            · injection h1 with a; exact ⟨g, a⟩
          obtain ⟨ga, rfl⟩ := hg2
          have hcs : ∀ (t : Nat) (y : Value), t < 9 → ((fun o : Ob => o.arr.toList) (mkO (9000 + (c4 : Int))))[t]? = some y → wr.cell? ⟨ga, j * 9 + t, none⟩ = some y := by
            intro t y ht hy
            have := HO.out.cells (g := ga) rfl (j * 9 + t) y (by rw [flatMap_get (fun o : Ob => o.arr.toList) 9 (fun _ => rfl) _ j t (by simpa using hjl) ht]; simpa using hy)
            rwa [Addr.add_lit, Nat.zero_add] at this
          have v0 : wr.cell? ⟨ga, j * 9, none⟩ = some (.int .u8 0) := hcs 0 _ (by omega) rfl
          have v1 : wr.cell? ⟨ga, j * 9 + 1, none⟩ = some (.string ⟨#[]⟩) := hcs 1 _ (by omega) rfl
          have v2 : wr.cell? ⟨ga, j * 9 + 2, none⟩ = some (.int .i64 (9000 + (c4 : Int))) := hcs 2 _ (by omega) rfl
          have v3 : wr.cell? ⟨ga, j * 9 + 3, none⟩ = some (.int .i64 0) := hcs 3 _ (by omega) rfl
          have v4 : wr.cell? ⟨ga, j * 9 + 4, none⟩ = some (.int .i64 0) := hcs 4 _ (by omega) rfl
          have v5 : wr.cell? ⟨ga, j * 9 + 5, none⟩ = some (.int .i64 0) := hcs 5 _ (by omega) rfl
          have v6 : wr.cell? ⟨ga, j * 9 + 6, none⟩ = some (.int .i64 0) := hcs 6 _ (by omega) rfl
          have v7 : wr.cell? ⟨ga, j * 9 + 7, none⟩ = some (.int .u8 0) := hcs 7 _ (by omega) rfl
          have v8 : wr.cell? ⟨ga, j * 9 + 8, none⟩ = some (.bool false) := hcs 8 _ (by omega) rfl
          have hq := neq43 (mkO (9000 + (c4 : Int)))
          have hgd := guard29
          have hii : ((j : Int) < (nk : Int)) := by omega
          simp only [mkO] at hq
          clear hcs
          go_wp2
          go_roundw
          case rel => exact ⟨j + 1, by omega, by simp, by simp⟩
          case measure => simp [intOf]; omega
        · have hin : nk = j := by omega
          subst hin
          have hii : ¬ ((nk : Int) < (nk : Int)) := by omega
          go_wp2
          go_roundw
          case rel => exact ⟨k + 1, HKL.out, by simp, by simp⟩
          case measure => have := HKL.out; simp [intOf]; omega
    · have hki : ¬ ((k : Int) < (ws.length : Int)) := by omega
      clear hW hkl hk
      go_wp2
      clear hki px hltr
      go_loopw [5, 6] (fun i _ wr2 => ∃ k : Nat, k ≤ ds.length ∧ i = .int .i64 k ∧ wr2 = wr) (fun i _ _ => ds.length - (intOf i).toNat)
      case atStart => exact ⟨0, Nat.zero_le _, rfl, rfl⟩
      case round =>
        obtain ⟨k, hk, rfl, rfl⟩ := hrel
        have hW := H.out.isw
        have px := hW.p4
        have hltr := hW.lt
        by_cases hkl : k < ds.length
        · have hg : ∃ g, ao6 = some ⟨g, 0, none⟩ := by
            rcases H.out.isw.od.2 with ⟨_, h2⟩ | ⟨g, cap', cur, h1, _⟩
            · omega
            · injection h1 with a; exact ⟨g, a⟩
          obtain ⟨g, rfl⟩ := hg
          have hcx : wr.cell? ⟨g, k, none⟩ = some ds[k] := by
            have := hW.od.cells (g := g) rfl k _ (List.getElem?_eq_getElem hkl)
            rwa [Addr.add_lit, Nat.zero_add] at this
          obtain ⟨nk, hnk, ho⟩ := (H.out.d1 k hkl).1
          obtain ⟨ad, cap, ex⟩ := own_form ho
          rw [ex] at hcx ho
          have hq4 := quo4 k
          have hq4e := quo4e k
          have hki : ((k : Int) < (ds.length : Int)) := by omega
          have HKL : Hid (k < ds.length) := hkl
          have hb4 : k / 4 ≤ 6160000000000 := by omega
          have HO : Hid (wr.ownsRow 0 170 10 (.slice ad nk cap) nk ((List.replicate nk (mkE (9000 + ((k / 4 : Nat) : Int)))).flatMap evP)) := ho
          obtain ⟨c4, hc4⟩ : ∃ c4 : Nat, c4 = k / 4 := ⟨_, rfl⟩
          rw [← hc4] at HO hq4 hq4e hb4
          clear ho ex hkl hW hc4
          go_wp2
          go_loopw [6] (fun jv wr2 => ∃ j : Nat, j ≤ nk ∧ jv = .int .i64 j ∧ wr2 = wr) (fun jv _ => nk - (intOf jv).toNat)
          case atStart => exact ⟨0, Nat.zero_le _, rfl, rfl⟩
          case round =>
            obtain ⟨j, hj, rfl, rfl⟩ := hrel
            by_cases hjl : j < nk
            · have hg2 : ∃ g, ad = some ⟨g, 0, none⟩ := by
                rcases HO.out.2 with ⟨_, h2⟩ | ⟨g, cap', cur, h1, _⟩
                · omega
                · injection h1 with a; exact ⟨g, a⟩
              obtain ⟨ga, rfl⟩ := hg2
              have hcs : ∀ (t : Nat) (y : Value), t < 10 → (evP (mkE (9000 + (c4 : Int))))[t]? = some y → wr.cell? ⟨ga, j * 10 + t, none⟩ = some y := by
                intro t y ht hy
                have := HO.out.cells (g := ga) rfl (j * 10 + t) y (by rw [flatMap_get evP 10 (fun _ => rfl) _ j t (by simpa using hjl) ht]; simpa using hy)
                rwa [Addr.add_lit, Nat.zero_add] at this
              have v0 : wr.cell? ⟨ga, j * 10, none⟩ = some (.int .u8 0) := hcs 0 _ (by omega) rfl
              have v1 : wr.cell? ⟨ga, j * 10 + 1, none⟩ = some (.int .u8 0) := hcs 1 _ (by omega) rfl
              have v2 : wr.cell? ⟨ga, j * 10 + 2, none⟩ = some (.string ⟨#[]⟩) := hcs 2 _ (by omega) rfl
              have v3 : wr.cell? ⟨ga, j * 10 + 3, none⟩ = some (.int .i64 (9000 + (c4 : Int))) := hcs 3 _ (by omega) rfl
              have v4 : wr.cell? ⟨ga, j * 10 + 4, none⟩ = some (.int .i64 0) := hcs 4 _ (by omega) rfl
              have v5 : wr.cell? ⟨ga, j * 10 + 5, none⟩ = some (.int .i64 0) := hcs 5 _ (by omega) rfl
              have v6 : wr.cell? ⟨ga, j * 10 + 6, none⟩ = some (.int .i64 0) := hcs 6 _ (by omega) rfl
              have v7 : wr.cell? ⟨ga, j * 10 + 7, none⟩ = some (.int .i64 0) := hcs 7 _ (by omega) rfl
              have v8 : wr.cell? ⟨ga, j * 10 + 8, none⟩ = some (.int .u8 0) := hcs 8 _ (by omega) rfl
              have v9 : wr.cell? ⟨ga, j * 10 + 9, none⟩ = some (.bool false) := hcs 9 _ (by omega) rfl
              have hq := neq129 0 (mkO (9000 + (c4 : Int)))
              have hgd := guard129
              have hii : ((j : Int) < (nk : Int)) := by omega
              simp only [mkO] at hq
              clear hcs
              go_wp2
              go_roundw
              case rel => exact ⟨j + 1, by omega, by simp, by simp⟩
              case measure => simp [intOf]; omega
            · have hin : nk = j := by omega
              subst hin
              have hii : ¬ ((nk : Int) < (nk : Int)) := by omega
              go_wp2
              go_roundw
              case rel => exact ⟨k + 1, HKL.out, by simp, by simp⟩
              case measure => have := HKL.out; simp [intOf]; omega
        · have hki : ¬ ((k : Int) < (ds.length : Int)) := by omega
          clear hW hkl hk
          go_wp2
          clear hki px hltr
          have p7 : wr.cell? ⟨wb, 7, none⟩ = some (.slice none 0 0) := by simp [World.cell?, H.out.isw.blk, wArr]
          have hlt7 := H.out.isw.lt
          go_loopw [7, 8, 9] (fun i _ _ wr2 => i = .int .i64 0 ∧ wr2 = wr) (fun _ _ _ _ => 0)
          case atStart => exact ⟨rfl, rfl⟩
          case round =>
            obtain ⟨rfl, rfl⟩ := hrel
            go_wp2
            go_ret
            exact ⟨rfl, rfl⟩

set_option maxRecDepth 100000 in
set_option maxHeartbeats 400000 in
/-- still. -/
theorem still_any (h : Desk own w wb q bw bd ws ds ps m1 m2) (hm1 : m1 ≤ 1540000000000) (hm2 : m2 ≤ 1540000000000) : Calls Tryz.prog 29 #[.pointer (some ⟨wb, 3, none⟩)] w fun e w' => e = .returned (.bool true) ∧ w' = w := by
  have hth := things_any h hm1 hm2
  have c5 : w.cell? ⟨wb, 5, none⟩ = some (.slice none 0 0) := by simp [World.cell?, h.isw.blk, wArr]
  have c6 : w.cell? ⟨wb, 6, none⟩ = some (.slice none 0 0) := by simp [World.cell?, h.isw.blk, wArr]
  have c8 : w.cell? ⟨wb, 8, none⟩ = some (.slice none 0 0) := by simp [World.cell?, h.isw.blk, wArr]
  have hlt := h.isw.lt
  clear h
  go_enter Tryz.func29, Tryz.ntmps29
  go_wp2
  go_loopw [3, 4, 5] (fun i _ _ wr => i = .int .i64 0 ∧ wr = w) (fun _ _ _ _ => 0)
  case atStart => exact ⟨rfl, rfl⟩
  case round =>
    obtain ⟨rfl, rfl⟩ := hrel
    go_wp2
    go_loopw [6, 7] (fun i _ wr2 => i = .int .i64 0 ∧ wr2 = wr) (fun _ _ _ => 0)
    case atStart => exact ⟨rfl, rfl⟩
    case round =>
      obtain ⟨rfl, rfl⟩ := hrel
      go_wp2
      go_loopw [8, 9] (fun i _ wr2 => i = .int .i64 0 ∧ wr2 = wr) (fun _ _ _ => 0)
      case atStart => exact ⟨rfl, rfl⟩
      case round =>
        obtain ⟨rfl, rfl⟩ := hrel
        go_wp2_with fail
        refine hth.mono ?_
        rintro e w9 ⟨rfl, rfl⟩
        go_wp2
        go_ret
        exact ⟨rfl, rfl⟩
end

end Go.Proofs.YtdgfjneapialdaaGreatDoor.S
