import Derived.Test.YtdgfjneapialdaaGreatDoorMb
namespace Go.Proofs.YtdgfjneapialdaaGreatDoor
open Go Go.RowKit Go.Maps Go.Lib Go.Sort

section
variable {w : World} {wb : Nat} {q bw bd : Value} {ws ds : List Value}
theorem IsW.p3 (h : IsW w wb q bw bd ws ds) : w.cell? ⟨wb, 3, none⟩ = some (.slice none 0 0) := by simp [World.cell?, h.blk, wArr]
theorem IsW.p4 (h : IsW w wb q bw bd ws ds) : w.cell? ⟨wb, 4, none⟩ = some (.slice none 0 0) := by simp [World.cell?, h.blk, wArr]
theorem IsW.p7 (h : IsW w wb q bw bd ws ds) : w.cell? ⟨wb, 7, none⟩ = some (.slice none 0 0) := by simp [World.cell?, h.blk, wArr]
theorem IsW.p8 (h : IsW w wb q bw bd ws ds) : w.cell? ⟨wb, 8, none⟩ = some (.slice none 0 0) := by simp [World.cell?, h.blk, wArr]

set_option maxRecDepth 100000 in
set_option maxHeartbeats 400000 in
/-- things: there are none. -/
theorem things_any (h : IsW w wb q bw bd ws ds) : Calls Tryz.prog 49 #[.pointer (some ⟨wb, 3, none⟩)] w fun e w' => e = .returned (.bool true) ∧ w' = w := by
  have c3 := h.p3
  have c4 := h.p4
  have c7 := h.p7
  have hlt := h.lt
  clear h
  go_enter Tryz.func49, Tryz.ntmps49
  go_wp2
  go_loopw [3, 4] (fun i _ wr => i = .int .i64 0 ∧ wr = w) (fun _ _ _ => 0)
  case atStart => exact ⟨rfl, rfl⟩
  case round =>
    obtain ⟨rfl, rfl⟩ := hrel
    go_wp2
    go_loopw [5, 6] (fun i _ wr2 => i = .int .i64 0 ∧ wr2 = wr) (fun _ _ _ => 0)
    case atStart => exact ⟨rfl, rfl⟩
    case round =>
      obtain ⟨rfl, rfl⟩ := hrel
      go_wp2
      go_loopw [7, 8, 9] (fun i _ _ wr2 => i = .int .i64 0 ∧ wr2 = wr) (fun _ _ _ _ => 0)
      case atStart => exact ⟨rfl, rfl⟩
      case round =>
        obtain ⟨rfl, rfl⟩ := hrel
        go_wp2
        go_ret
        exact ⟨rfl, rfl⟩
end

theorem quo4 (k : Nat) : ((k : Int)).tdiv 4 = ((k / 4 : Nat) : Int) := by rw [Int.tdiv_eq_ediv_of_nonneg (by omega)]; omega
theorem quo4e (k : Nat) : ((k : Int)) / 4 = ((k / 4 : Nat) : Int) := by omega
theorem num_bd (k L : Nat) (hk : k < L) (hL : L ≤ 4000000000000) : (-9223372036854775808 : Int) ≤ 9000 + ((k / 4 : Nat) : Int) ∧ 9000 + ((k / 4 : Nat) : Int) ≤ 9223372036854775807 := by omega

theorem repD_get (n : Nat) (c : Int) : ∀ i, i < n → (repD n c)[i * 2]? = some (.string ⟨#[]⟩) ∧ (repD n c)[i * 2 + 1]? = some (.int .i64 c) := by
  induction n with
  | zero => intro i h; omega
  | succ n ih =>
    intro i h
    rw [repD_succ]
    by_cases hi : i < n
    · have := ih i hi
      have hl := repD_len n c
      rw [List.getElem?_append_left (by omega), List.getElem?_append_left (by omega)]
      exact this
    · have hin : i = n := by omega
      subst hin
      have hl := repD_len i c
      rw [List.getElem?_append_right (by omega), List.getElem?_append_right (by omega), hl, Nat.sub_self, show i * 2 + 1 - i * 2 = 1 by omega]
      exact ⟨rfl, rfl⟩

section
variable {own : Nat → Nat} {w : World} {wb : Nat} {q bw bd : Value} {ws ds : List Value} {ps : List (Nat × Nat)} {m1 m2 : Nat}
set_option maxRecDepth 100000 in
set_option maxHeartbeats 1000000 in
/-- still: every list that the book keeps reads as it was marked. -/
theorem still_any (h : Desk own w wb q bw bd ws ds ps m1 m2) (hm1 : m1 ≤ 1000000000000) (hm2 : m2 ≤ 1000000000000) : Calls Tryz.prog 29 #[.pointer (some ⟨wb, 3, none⟩)] w fun e w' => e = .returned (.bool true) ∧ Below w.heap.size w w' := by
  have H : Hid (Desk own w wb q bw bd ws ds ps m1 m2) := h
  have hlt := h.isw.lt
  obtain ⟨ao5, cap5, e5⟩ := own_form h.isw.ow
  obtain ⟨ao6, cap6, e6⟩ := own_form h.isw.od
  have HL : Hid (ws.length ≤ 4000000000000 ∧ ds.length ≤ 4000000000000) := by have := h.l1; have := h.l2; exact ⟨by omega, by omega⟩
  have hL1 : ws.length ≤ 4000000000000 := HL.out.1
  have hL2 : ds.length ≤ 4000000000000 := HL.out.2
  subst e5 e6
  clear h hm1 hm2
  go_enter Tryz.func29, Tryz.ntmps29
  go_wp2
  go_loopw [3, 4, 5] (fun i _ _ wr => ∃ k : Nat, k ≤ ws.length ∧ i = .int .i64 k ∧ Hid (Below w.heap.size w wr)) (fun i _ _ _ => ws.length - (intOf i).toNat)
  case atStart => exact ⟨0, Nat.zero_le _, rfl, Below.refl _ _⟩
  case round =>
    obtain ⟨k, hk, rfl, HB⟩ := hrel
    have hW := H.out.isw.below HB.out
    have p5 := hW.p5
    have hltr := hW.lt
    by_cases hkl : k < ws.length
    · have hg : ∃ g, ao5 = some ⟨g, 0, none⟩ := by
        rcases H.out.isw.ow.2 with ⟨_, h2⟩ | ⟨g, cap', cur, h1, _⟩
        · omega
        · injection h1 with a; exact ⟨g, a⟩
      obtain ⟨g, rfl⟩ := hg
      have hcx : wr.cell? ⟨g, k, none⟩ = some ws[k] := by
        have := hW.ow.cells (g := g) rfl k _ (List.getElem?_eq_getElem hkl)
        rwa [Addr.add_lit, Nat.zero_add] at this
      obtain ⟨nk, hnk, ho⟩ := (H.out.w1 k hkl).1
      obtain ⟨ad, cap, ex⟩ := own_form ho
      rw [ex] at hcx ho
      have hq4 := quo4 k
      have hq4e := quo4e k
      have hbd := num_bd k ws.length hkl HL.out.1
      have hb4 : k / 4 ≤ 4000000000000 := by omega
      have hcall := itoa_any (9000 + ((k / 4 : Nat) : Int)) hbd.1 hbd.2 wr (H.out.below (a := 0) HB.out).tab
      have hki : ((k : Int) < (ws.length : Int)) := by omega
      have HO : Hid (w.ownsRow 0 9 1 (.slice ad nk cap) nk (List.replicate nk (.string (numW (9000 + ((k / 4 : Nat) : Int)))))) := ho
      have HK : Hid (k < ws.length) := hkl
      have HX : Hid (ws[k]? = some (.slice ad nk cap)) := by show ws[k]? = _; rw [List.getElem?_eq_getElem hkl, ex]
      have HNK : Hid (nk ≤ 2000000000000) := hnk
      obtain ⟨s, hs⟩ : ∃ s, s = numW (9000 + ((k / 4 : Nat) : Int)) := ⟨_, rfl⟩
      rw [← hs] at hcall HO
      clear hs ho ex hbd hkl hW hnk
      generalize k / 4 = c4 at *
      go_wp2_with fail
      refine hcall.mono ?_
      rintro e w1 ⟨rfl, hb1⟩
      have HB1 : Hid (Below w.heap.size w w1) := HB.out.trans (hb1.mono HB.out.size)
      clear hcall hb1 p5 hq4 hq4e hb4 hcx hltr
      go_wp2
      go_loopw [5] (fun j wr2 => ∃ i : Nat, i ≤ nk ∧ j = .int .i64 i ∧ wr2 = w1) (fun j _ => nk - (intOf j).toNat)
      case atStart => exact ⟨0, Nat.zero_le _, rfl, rfl⟩
      case round =>
        obtain ⟨i, hi, rfl, rfl⟩ := hrel
        have hW := H.out.isw.below HB1.out
        have p5 := hW.p5
        have hltr := hW.lt
        have hcx : wr.cell? ⟨g, k, none⟩ = some (.slice ad nk cap) := by
          have := hW.ow.cells (g := g) rfl k _ HX.out
          rwa [Addr.add_lit, Nat.zero_add] at this
        have hnk := HNK.out
        clear hW
        by_cases hil : i < nk
        · have hg : ∃ g, ad = some ⟨g, 0, none⟩ := by
            rcases HO.out.2 with ⟨_, h2⟩ | ⟨g, cap', cur, h1, _⟩
            · omega
            · injection h1 with a; exact ⟨g, a⟩
          obtain ⟨ga, rfl⟩ := hg
          have hcs : wr.cell? ⟨ga, i, none⟩ = some (.string s) := by
            have h1 := own_keep (w' := wr) HO.out (fun b e => HB1.out.block b (own_lt HO.out e))
            have := h1.cells (g := ga) rfl i (.string s) (by rw [List.getElem?_replicate, if_pos hil])
            rwa [Addr.add_lit, Nat.zero_add] at this
          have hne : (s.toList == s.toList) = true := by simp
          have hii : ((i : Int) < (nk : Int)) := by omega
          go_wp2
          go_roundw
          case rel => exact ⟨i + 1, by omega, by simp, by simp⟩
          case measure => simp [intOf]; omega
        · have hin : nk = i := by omega
          subst hin
          have hii : ¬ ((nk : Int) < (nk : Int)) := by omega
          go_wp2
          go_roundw
          case rel => exact ⟨k + 1, HK.out, by simp, HB1⟩
          case measure => have := HK.out; simp [intOf]; omega
    · have hkn : ws.length = k := by omega
      have hki : ¬ ((k : Int) < (ws.length : Int)) := by omega
      clear hW hkn
      go_wp2
      clear p5 hltr hki hkl hk
      go_loopw [6, 7] (fun i _ wr2 => ∃ k : Nat, k ≤ ds.length ∧ i = .int .i64 k ∧ wr2 = wr) (fun i _ _ => ds.length - (intOf i).toNat)
      case atStart => exact ⟨0, Nat.zero_le _, rfl, rfl⟩
      case round =>
        obtain ⟨k2, hk, rfl, rfl⟩ := hrel
        have hW := H.out.isw.below HB.out
        have p6 := hW.p6
        have hltr := hW.lt
        by_cases hkl : k2 < ds.length
        · have hg : ∃ g, ao6 = some ⟨g, 0, none⟩ := by
            rcases H.out.isw.od.2 with ⟨_, h2⟩ | ⟨g, cap', cur, h1, _⟩
            · omega
            · injection h1 with a; exact ⟨g, a⟩
          obtain ⟨g, rfl⟩ := hg
          have hcx : wr.cell? ⟨g, k2, none⟩ = some ds[k2] := by
            have := hW.od.cells (g := g) rfl k2 _ (List.getElem?_eq_getElem hkl)
            rwa [Addr.add_lit, Nat.zero_add] at this
          obtain ⟨nk, hnk, ho⟩ := (H.out.d1 k2 hkl).1
          obtain ⟨ad, cap, ex⟩ := own_form ho
          rw [ex] at hcx ho
          have HO : Hid (w.ownsRow 0 119 2 (.slice ad nk cap) nk (repD nk (9000 + ((k2 / 4 : Nat) : Int)))) := ho
          have hq4 := quo4 k2
          have hq4e := quo4e k2
          have hbd := num_bd k2 ds.length hkl HL.out.2
          have hki : ((k2 : Int) < (ds.length : Int)) := by omega
          have HK : Hid (k2 < ds.length) := hkl
          have hb4 : k2 / 4 ≤ 4000000000000 := by have := HL.out.2; omega
          obtain ⟨c4, hc4⟩ : ∃ c4 : Nat, c4 = k2 / 4 := ⟨_, rfl⟩
          rw [← hc4] at HO hq4 hq4e hb4
          clear ho ex hbd hkl hW hc4
          go_wp2
          go_loopw [7] (fun j wr2 => ∃ i : Nat, i ≤ nk ∧ j = .int .i64 i ∧ wr2 = wr) (fun j _ => nk - (intOf j).toNat)
          case atStart => exact ⟨0, Nat.zero_le _, rfl, rfl⟩
          case round =>
            obtain ⟨i, hi, rfl, rfl⟩ := hrel
            by_cases hil : i < nk
            · have hg : ∃ g, ad = some ⟨g, 0, none⟩ := by
                rcases HO.out.2 with ⟨_, h2⟩ | ⟨g, cap', cur, h1, _⟩
                · omega
                · injection h1 with a; exact ⟨g, a⟩
              obtain ⟨ga, rfl⟩ := hg
              have h1 := own_keep (w' := wr) HO.out (fun b e => HB.out.block b (own_lt HO.out e))
              have hcs : wr.cell? ⟨ga, i * 2, none⟩ = some (.string ⟨#[]⟩) := by
                have := h1.cells (g := ga) rfl (i * 2) (.string ⟨#[]⟩) (repD_get nk _ i hil).1
                rwa [Addr.add_lit, Nat.zero_add] at this
              have hct : wr.cell? ⟨ga, i * 2 + 1, none⟩ = some (.int .i64 (9000 + (c4 : Int))) := by
                have := h1.cells (g := ga) rfl (i * 2 + 1) (.int .i64 (9000 + (c4 : Int))) (repD_get nk _ i hil).2
                rwa [Addr.add_lit, Nat.zero_add] at this
              have hq := neq84 ⟨#[]⟩ (9000 + (c4 : Int))
              have hgd := guard84
              have hii : ((i : Int) < (nk : Int)) := by omega
              clear h1
              go_wp2
              go_roundw
              case rel => exact ⟨i + 1, by omega, by simp, by simp⟩
              case measure => simp [intOf]; omega
            · have hin : nk = i := by omega
              subst hin
              have hii : ¬ ((nk : Int) < (nk : Int)) := by omega
              go_wp2
              go_roundw
              case rel => exact ⟨k2 + 1, HK.out, by simp, by simp⟩
              case measure => have := HK.out; simp [intOf]; omega
        · have hki : ¬ ((k2 : Int) < (ds.length : Int)) := by omega
          have p8 := hW.p8
          have hth := things_any hW
          clear hW
          go_wp2
          go_loopw [8, 9] (fun i _ wr2 => i = .int .i64 0 ∧ wr2 = wr) (fun _ _ _ => 0)
          case atStart => exact ⟨rfl, rfl⟩
          case round =>
            obtain ⟨rfl, rfl⟩ := hrel
            go_wp2_with fail
            refine hth.mono ?_
            rintro e w9 ⟨rfl, rfl⟩
            go_wp2
            go_ret
            exact ⟨rfl, HB.out⟩
end

end Go.Proofs.YtdgfjneapialdaaGreatDoor
