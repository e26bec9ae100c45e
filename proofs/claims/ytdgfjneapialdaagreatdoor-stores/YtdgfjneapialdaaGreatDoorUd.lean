import Derived.Test.YtdgfjneapialdaaGreatDoorUc
import Derived.Test.YtdgfjneapialdaaGreatDoorTw
import Derived.Deep.MidRow
namespace Go.Proofs.YtdgfjneapialdaaGreatDoor.S
open Go Go.RowKit Go.Maps

theorem bd_k {m1 m2 m l k len : Nat} (h : m1 ≤ m ∧ m2 ≤ m ∧ m + l ≤ k + 1 ∧ 0 < l) (hk : k ≤ len) (hl : len ≤ 765000000000) : m ≤ 1539999999999 ∧ l ≤ 2000000000000 ∧ m1 ≤ 1540000000000 ∧ m2 ≤ 1540000000000 := by omega

set_option maxRecDepth 100000 in
set_option maxHeartbeats 1000000 in
theorem plays_any (ad : Option Addr) (len cap : Nat) (st : Nat → St) (w : World) (hS : ∀ i, i < len → StOk (st i)) (hA : 0 < len → ∃ b off, ad = some ⟨b, off, none⟩ ∧ StepsAt w b off len st) (hlen : len ≤ 765000000000) (hT : Tab w) (h0 : 1 < w.heap.size) :
    Calls Tryz.prog 11 #[.slice ad len cap, .int .i64 1, .int .i64 8, .bool true] w fun e w' => e = .returned (.bool true) ∧ Below w.heap.size w w' := by
  have hI0 := start_inw w hT h0
  have hM0 : Moves (fun _ => ARG) w (ownNew (fun _ => ARG) w 0) (w.alloc (.cells (wArr (.slice none 0 0) (.slice none 0 0) (.slice none 0 0)) 81)) := Moves.below (belowAl (Below.refl _ _) _)
  have hc0 := begin_ok hI0 (by simp) 0 3 0 ⟨#[]⟩ 0 ⟨#[]⟩ 0 0 0 0 0 0 false 5 2 3 0 ⟨#[]⟩ 0 0 (by omega) (by omega)
  simp only [wArr] at hc0 hM0
  have HM0 : Hid _ := hM0
  have HS : Hid (∀ i, i < len → StOk (st i)) := hS
  have HA : Hid (0 < len → ∃ b off, ad = some ⟨b, off, none⟩ ∧ StepsAt w b off len st) := hA
  clear hI0 hM0 hS hA hT h0
  go_enter Tryz.func11, Tryz.ntmps11
  go_wp2_with fail
  refine hc0.mono ?_
  rintro e w2 ⟨rfl, own2, q2, p2, hI2, hM2⟩
  have HI2 : Hid _ := hI2
  have HM2 : Hid _ := HM0.out.trans hM2
  clear hc0 hI2 hM2 HM0
  go_wp2
  go_loopw [10, 11, 12, 13] (fun okv i _ _ wr => ∃ (k : Nat) (own' : Nat → Nat) (q bw bd : Value) (ws ds : List Value) (ps : List (Nat × Nat)) (m1 m2 m : Nat), k ≤ len ∧ okv = .bool true ∧ i = .int .i64 k ∧ Hid (Inw own' wr w.heap.size q bw bd ws ds ps m1 m2 none0) ∧ Hid (m1 ≤ m ∧ m2 ≤ m ∧ m + ps.length ≤ k + 1 ∧ 0 < ps.length) ∧ Hid (Moves (fun _ => ARG) w own' wr)) (fun _ i _ _ _ => len - (intOf i).toNat)
  case atStart => exact ⟨0, _, _, _, _, _, _, _, _, _, 0, Nat.zero_le _, rfl, rfl, HI2.out, ⟨by omega, by omega, by simp, by simp⟩, HM2.out⟩
  case round =>
    clear HI2 HM2
    obtain ⟨k, own', q, bw, bd, ws, ds, ps, m1, m2, m, hk, rfl, rfl, HI, HN, HM⟩ := hrel
    have hwl := HI.out.desk.isw.lt
    by_cases hlt : k < len
    · have hdk : decide ((k : Int) < (len : Int)) = true := decide_eq_true (by omega)
      obtain ⟨b, off, rfl, hac⟩ := HA.out (by omega)
      have hbb : b < wr.heap.size := Nat.lt_of_lt_of_le hac.lt HM.out.kept.size
      have hc : ∀ j, j < 21 → wr.cell? ⟨b, off + k * 21 + j, none⟩ = (st k).arr[j]? := fun j hj => (World.cell?_of_block (HM.out.kept.block b ⟨hac.lt, rfl⟩ hac.lt)).trans (hac.c k hlt j hj)
      have hst := HS.out k hlt
      have hbd := bd_k HN.out hk hlen
      by_cases hr : 1 ≤ (st k).k ∧ (st k).k ≤ 8
      · have hcall := step_any HI.out HN.out.1 HN.out.2.1 hbd.1 hbd.2.1 HN.out.2.2.2 (st k) hr.1 hr.2 hst
        have g1 : decide ((st k).k < 1) = false := decide_eq_false (by omega)
        have g2 : decide ((st k).k > 8) = false := decide_eq_false (by omega)
        have g3 : ((st k).k == 22) = false := by rw [beq_eq_false_iff_ne]; omega
        have cc0 : wr.cell? ⟨b, off + k * 21, none⟩ = some (.int .i64 (st k).k) := hc 0 (by decide)
        have hrg : wr.rangeAt b (off + k * 21) (st k).arr.toList := fun j v hv => by
          have hj : j < 21 := (List.getElem?_eq_some_iff.1 hv).1
          rw [hc j hj]
          simpa using hv
        have hi47 : (Tryz.prog.info? 86).map (·.size) = some (st k).arr.toList.length := size47
        have HRG : Hid (wr.rangeAt b (off + k * 21) (st k).arr.toList) := hrg
        have HI47 : Hid ((Tryz.prog.info? 86).map (·.size) = some (st k).arr.toList.length) := hi47
        generalize (st k).k = K at *
        generalize (st k).arr = A at *
        have HLT : Hid (k < len) := hlt
        clear hc hac hst hbd hr hk hlt hrg hi47
        go_wp2_with (refine wpList_load_mid rfl 86 _ rfl b (off + k * 21) rfl A.toList _ HRG.out Tryz.underlying86 rfl HI47.out ?_)
        refine hcall.mono ?_
        rintro e w5 ⟨rfl, own5, q5, bw5, bd5, ws5, ds5, ps5, m15, m25, m5, hI5, hm15, hm25, hm5, hp5, hM5⟩
        have HI5 : Hid _ := hI5
        have HM5 : Hid _ := HM.out.trans hM5
        have HN5 : Hid (m15 ≤ m5 ∧ m25 ≤ m5 ∧ m5 + ps5.length ≤ k + 1 + 1 ∧ 0 < ps5.length) := by have := HN.out; exact ⟨hm15, hm25, by omega, hp5⟩
        have hst := still_any hI5.desk (bd_k HN5.out HLT.out hlen).2.2.1 (bd_k HN5.out HLT.out hlen).2.2.2
        have hwl5 := hI5.desk.isw.lt
        clear hcall hI5 hm5 hm15 hm25 hp5 hM5 cc0 HRG HI47 HI HM HN hbb hwl
        go_wp2_with fail
        refine hst.mono ?_
        rintro e w6 ⟨rfl, rfl⟩
        clear hst hwl5
        go_wp2
        go_roundw
        case rel => exact ⟨k + 1, _, _, _, _, _, _, _, _, _, _, HLT.out, rfl, by simp, HI5.out, HN5.out, HM5.out⟩
        case measure => have := HLT.out; simp [intOf]; omega
      · have cc0 : wr.cell? ⟨b, off + k * 21, none⟩ = some (.int .i64 (st k).k) := hc 0 (by decide)
        have HLT : Hid (k < len) := hlt
        have HN5 : Hid (m1 ≤ m ∧ m2 ≤ m ∧ m + ps.length ≤ k + 1 + 1 ∧ 0 < ps.length) := by have := HN.out; exact ⟨by omega, by omega, by omega, this.2.2.2⟩
        by_cases h11 : (st k).k < 1
        · have g1 : decide ((st k).k < 1) = true := decide_eq_true h11
          generalize (st k).k = K at *
          clear hc hac hst hbd hr hk hlt h11
          go_wp2
          go_roundw
          case rel => exact ⟨k + 1, _, _, _, _, _, _, _, _, _, _, HLT.out, rfl, by simp, HI.out, HN5.out, HM.out⟩
          case measure => have := HLT.out; simp [intOf]; omega
        · have g1 : decide ((st k).k < 1) = false := decide_eq_false h11
          have g2 : decide ((st k).k > 8) = true := decide_eq_true (by omega)
          generalize (st k).k = K at *
          clear hc hac hst hbd hr hk hlt h11
          go_wp2
          go_roundw
          case rel => exact ⟨k + 1, _, _, _, _, _, _, _, _, _, _, HLT.out, rfl, by simp, HI.out, HN5.out, HM.out⟩
          case measure => have := HLT.out; simp [intOf]; omega
    · have hdk : decide ((k : Int) < (len : Int)) = false := decide_eq_false (by omega)
      have HKL : Hid (k ≤ len) := hk
      have hki : ¬ ((k : Int) < (len : Int)) := by omega
      clear hk HA HS
      go_wp2
      clear hwl
      go_loopw [10, 14, 15, 16] (fun okv i _ _ wr2 => ∃ (j : Nat) (own' : Nat → Nat) (q bw bd : Value) (ws ds : List Value) (m1 m2 m : Nat), j ≤ ps.length ∧ okv = .bool true ∧ i = .int .i64 j ∧ Hid (Inw own' wr2 w.heap.size q bw bd ws ds ps m1 m2 none0) ∧ Hid (m1 ≤ m ∧ m2 ≤ m ∧ m + ps.length ≤ len + 1 + 2 * j) ∧ Hid (Moves (fun _ => ARG) w own' wr2)) (fun _ i _ _ _ => ps.length - (intOf i).toNat)
      case atStart => exact ⟨0, _, _, _, _, _, _, _, _, _, Nat.zero_le _, rfl, rfl, HI.out, by have h1 := HN.out; have h2 := HKL.out; exact ⟨h1.1, h1.2.1, by omega⟩, HM.out⟩
      case round =>
        have HPS : Hid (ps.length ≤ len + 1) := by have := HN.out; have := HKL.out; show _ ≤ _; omega
        clear HI HM HN
        obtain ⟨j, own', q, bw, bd, ws, ds, m1, m2, m, hj, rfl, rfl, HI, HN, HM⟩ := hrel
        have hwl := HI.out.desk.isw.lt
        have p0 := HI.out.desk.isw.p0
        obtain ⟨ao, cap2, eq⟩ := own_form HI.out.desk.oq
        rw [eq] at p0
        by_cases hjl : j < ps.length
        · have hg : ∃ g, ao = some ⟨g, 0, none⟩ := by
            have := HI.out.desk.oq.2
            rw [eq] at this
            rcases this with ⟨_, h2⟩ | ⟨g, cap', cur, h1, _⟩
            · omega
            · injection h1 with a; exact ⟨g, a⟩
          obtain ⟨g, rfl⟩ := hg
          have rd : ∀ {W : World}, W.ownsRow 0 91 2 q ps.length (flatP ps) → W.cell? ⟨g, j * 2, none⟩ = some (.pointer (some ⟨ps[j].1, 0, none⟩)) ∧ W.cell? ⟨g, j * 2 + 1, none⟩ = some (.pointer (some ⟨ps[j].2, 0, none⟩)) := by
            intro W hW
            have a1 := hW.cells (g := g) (by rw [eq]; rfl) (j * 2) _ (flatP_get ps j hjl).1
            have a2 := hW.cells (g := g) (by rw [eq]; rfl) (j * 2 + 1) _ (flatP_get ps j hjl).2
            rw [Addr.add_lit, Nat.zero_add] at a1 a2
            exact ⟨a1, a2⟩
          have hg0 := (rd HI.out.desk.oq).1
          have hg1 := (rd HI.out.desk.oq).2
          have hcall := stored_list HI.out HN.out.1 HN.out.2.1 (by have := HN.out; have := HPS.out; have := hlen; omega) hjl rfl rfl 0 0 0 ⟨#[]⟩ 0 ⟨#[]⟩ 0 0 0 0 0 0 false 0 0 0 0 ⟨#[]⟩ 0 0 (by omega) (by omega)
          have HRD : Hid (∀ {W : World}, W.ownsRow 0 91 2 q ps.length (flatP ps) → W.cell? ⟨g, j * 2, none⟩ = some (.pointer (some ⟨ps[j].1, 0, none⟩)) ∧ W.cell? ⟨g, j * 2 + 1, none⟩ = some (.pointer (some ⟨ps[j].2, 0, none⟩))) := rd
          have HQ1 : Hid (∃ x, x = ps[j].1) := ⟨_, rfl⟩
          obtain ⟨qb, hqb⟩ : ∃ x, x = ps[j].1 := ⟨_, rfl⟩
          obtain ⟨rb, hrb⟩ : ∃ x, x = ps[j].2 := ⟨_, rfl⟩
          rw [← hqb] at hcall hg0
          rw [← hrb] at hcall hg1
          have HQR : Hid (∃ h : j < ps.length, qb = ps[j].1 ∧ rb = ps[j].2) := ⟨hjl, hqb, hrb⟩
          have hdj : decide ((j : Int) < (ps.length : Int)) = true := decide_eq_true (by omega)
          have HJ : Hid (j < ps.length) := hjl
          have HJL : Hid (∀ {W : World} (h : W.ownsRow 0 91 2 q ps.length (flatP ps)), W.cell? ⟨g, j * 2, none⟩ = some (.pointer (some ⟨qb, 0, none⟩)) ∧ W.cell? ⟨g, j * 2 + 1, none⟩ = some (.pointer (some ⟨rb, 0, none⟩))) := by
            intro W h
            rw [hqb, hrb]
            exact rd h
          have hjb : j ≤ 900000000000 := by have := HPS.out; omega
          have HEQ : Hid (q = .slice (some ⟨g, 0, none⟩) ps.length cap2) := eq
          clear hqb hrb rd HRD HQ1
          clear eq hjl hj
          go_wp2_with fail
          refine hcall.mono ?_
          rintro e w5 ⟨rfl, own5, bw5, bd5, ws5, ds5, m15, m25, hI5, hm15, hm25, hM5⟩
          have HI5 : Hid _ := hI5
          have HM5 : Hid _ := HM.out.trans hM5
          have HN5 : Hid (m15 ≤ m + 1 ∧ m25 ≤ m + 1 ∧ m + 1 + ps.length ≤ len + 1 + (2 * j + 1)) := by have := HN.out; exact ⟨hm15, hm25, by omega⟩
          have hwl5 := hI5.desk.isw.lt
          have p05 := hI5.desk.isw.p0
          rw [HEQ.out] at p05
          have hg05 := (HJL.out hI5.desk.oq).1
          have hg15 := (HJL.out hI5.desk.oq).2
          obtain ⟨hjl2, hqb2, hrb2⟩ := HQR.out
          have hcall2 := stored_list hI5 HN5.out.1 HN5.out.2.1 (by have := HN5.out; have := HPS.out; have := hlen; omega) hjl2 hqb2 hrb2 0 0 0 ⟨#[]⟩ 1 ⟨#[]⟩ 0 0 0 0 0 0 false 0 0 0 0 ⟨#[]⟩ 0 0 (by omega) (by omega)
          clear hqb2 hrb2
          clear hjl2
          clear hcall hI5 hm15 hm25 hM5 hg0 hg1 HI HM HN hwl p0
          go_wp2_with fail
          refine hcall2.mono ?_
          rintro e w6 ⟨rfl, own6, bw6, bd6, ws6, ds6, m16, m26, hI6, hm16, hm26, hM6⟩
          have HI6 : Hid _ := hI6
          have HM6 : Hid _ := HM5.out.trans hM6
          have HN6 : Hid (m16 ≤ m + 1 + 1 ∧ m26 ≤ m + 1 + 1 ∧ m + 1 + 1 + ps.length ≤ len + 1 + 2 * (j + 1)) := by have := HN5.out; exact ⟨hm16, hm26, by omega⟩
          clear hcall2 hI6 hm16 hm26 hM6 hg05 hg15 HI5 HM5 HN5 hwl5 p05 HJL HEQ
          go_wp2
          go_roundw
          case rel => exact ⟨j + 1, _, _, _, _, _, _, _, _, _, HJ.out, rfl, by simp, HI6.out, HN6.out, HM6.out⟩
          case measure => have := HJ.out; simp [intOf]; omega
        · have hdj : decide ((j : Int) < (ps.length : Int)) = false := decide_eq_false (by omega)
          have p1 : wr.cell? ⟨w.heap.size, 1, none⟩ = some (.slice none 0 0) := by simp [World.cell?, HI.out.desk.isw.blk, wArr]
          have p2 : wr.cell? ⟨w.heap.size, 2, none⟩ = some (.slice none 0 0) := by simp [World.cell?, HI.out.desk.isw.blk, wArr]
          have hst := still_any HI.out.desk (by have := HN.out; have := HPS.out; have := hlen; omega) (by have := HN.out; have := HPS.out; have := hlen; omega)
          have HF : Hid (Moves (fun _ => ARG) w own' wr) := HM.out
          have hji : ¬ ((j : Int) < (ps.length : Int)) := by omega
          clear eq hj HI HN
          go_wp2
          go_loopw [10, 17] (fun okv i wr2 => okv = .bool true ∧ i = .int .i64 0 ∧ wr2 = wr) (fun _ _ _ => 0)
          case atStart => exact ⟨rfl, rfl, rfl⟩
          case round =>
            obtain ⟨rfl, rfl, rfl⟩ := hrel
            go_wp2
            go_loopw [10, 18, 19] (fun okv i _ wr2 => okv = .bool true ∧ i = .int .i64 0 ∧ wr2 = wr) (fun _ _ _ _ => 0)
            case atStart => exact ⟨rfl, rfl, rfl⟩
            case round =>
              obtain ⟨rfl, rfl, rfl⟩ := hrel
              go_wp2_with fail
              refine hst.mono ?_
              rintro e w9 ⟨rfl, rfl⟩
              have HX : Hid (Below w.heap.size w w9) := ⟨HF.out.kept.os, HF.out.kept.tape, HF.out.kept.output, HF.out.kept.size, fun b hb => HF.out.kept.block b ⟨hb, rfl⟩ hb⟩
              clear hst
              go_wp2
              go_ret
              exact ⟨rfl, HX.out⟩

end Go.Proofs.YtdgfjneapialdaaGreatDoor.S
