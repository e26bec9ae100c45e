import Derived.Test.YtdgfjneapialdaaGreatDoorMi
import Derived.Test.YtdgfjneapialdaaGreatDoorMg
import Derived.Test.YtdgfjneapialdaaGreatDoorMr
import Derived.Deep.MidRow
namespace Go.Proofs.YtdgfjneapialdaaGreatDoor
open Go Go.RowKit Go.Maps Go.Lib Go.Sort

theorem start_inv (U : List ByteArray) (w : World) (hT : Tab w) (h0 : 1 < w.heap.size) : Inv (ownNew (fun _ => ARG) w 0) U (w.alloc (.cells (wArr (.slice none 0 0) (.slice none 0 0) (.slice none 0 0)) 81)) w.heap.size (.slice none 0 0) (.slice none 0 0) (.slice none 0 0) [] [] [] 0 0 0 none0 := by
  have hb : (w.alloc (.cells (wArr (.slice none 0 0) (.slice none 0 0) (.slice none 0 0)) 81)).heap[w.heap.size]? = some (.cells (wArr (.slice none 0 0) (.slice none 0 0) (.slice none 0 0)) 81 (0, 0)) := (MapKept.heap_alloc w _).1
  have no : ∀ b, (Value.slice none 0 0).ownBlock = some b → False := fun b e => by cases e
  refine ⟨⟨⟨hb, World.ownsRow_nil _ _ _ _, World.ownsRow_nil _ _ _ _⟩, hT.keep (Below.heap_alloc _ _ _ h0), ownNew_new (Nat.le_refl _), ownNew_old h0, World.ownsRow_nil _ _ _ _, fun b e => (no b e).elim, fun b e => (no b e).elim, fun b e => (no b e).elim, by omega, fun e => no 1 e, fun e => no 1 e, fun e => no 1 e, rfl, rfl, fun i hi => by simp at hi, fun i hi => by simp at hi⟩, fun i hi => by simp at hi⟩

section
variable {own : Nat → Nat} {U : List ByteArray} {w : World} {wb : Nat} {q bw bd : Value} {ws ds : List Value} {ps : List (Nat × Nat)} {m n : Nat}
theorem step_any (h : Inv own U w wb q bw bd ws ds ps m m n none0) (hU : Keys U) (hn : n ≤ 1000000000000) (hm : m ≤ 999999999999) (hps : ps.length ≤ 2000000000000) (h0 : 0 < ps.length) (t : St) (h1 : 11 ≤ t.k) (h2 : t.k ≤ 19) (ht : StOk U t) :
    Calls Tryz.prog 28 #[.pointer (some ⟨wb, 0, none⟩), .agg t.arr] w (Stepped own U w wb m ps.length (n + 1)) := by
  by_cases e : t.k = 11
  · exact step_new h hps t e
  · exact step_lined h hU hn hm hps h0 t (by omega) h2 ht
end

theorem bd_k {m l k n len : Nat} (h : m + l ≤ k + 1 ∧ n ≤ k ∧ 0 < l) (hk : k ≤ len) (hl : len ≤ 800000000000) : m ≤ 999999999999 ∧ n ≤ 1000000000000 ∧ l ≤ 2000000000000 ∧ m ≤ 1000000000000 := by omega

set_option maxRecDepth 100000 in
set_option maxHeartbeats 1000000 in
theorem plays_any (U : List ByteArray) (ad : Option Addr) (len cap : Nat) (st : Nat → St) (w : World) (hU : Keys U) (hS : ∀ i, i < len → StOk U (st i)) (hA : 0 < len → ∃ b off, ad = some ⟨b, off, none⟩ ∧ StepsAt w b off len st) (hlen : len ≤ 800000000000) (hT : Tab w) (h0 : 1 < w.heap.size) :
    Calls Tryz.prog 11 #[.slice ad len cap, .int .i64 11, .int .i64 19, .bool true] w fun e w' => e = .returned (.bool true) ∧ Below w.heap.size w w' := by
  have hI0 := start_inv U w hT h0
  have hM0 : Moves (fun _ => ARG) w (ownNew (fun _ => ARG) w 0) (w.alloc (.cells (wArr (.slice none 0 0) (.slice none 0 0) (.slice none 0 0)) 81)) := Moves.below (belowAl (Below.refl _ _) _)
  have hc0 := begin_any hI0 (by simp) ⟨11, 0, 3, 0, ⟨#[]⟩, 0, ⟨#[]⟩, 0, 0, 0, 0, 0, 0, false, 5, 2, 3, 0, ⟨#[]⟩, 0, 0⟩ rfl
  simp only [St.arr, wArr] at hc0 hM0
  have HM0 : Hid _ := hM0
  have HU : Hid (Keys U) := hU
  have HS : Hid (∀ i, i < len → StOk U (st i)) := hS
  have HA : Hid (0 < len → ∃ b off, ad = some ⟨b, off, none⟩ ∧ StepsAt w b off len st) := hA
  clear hI0 hM0 hU hS hA hT h0
  go_enter Tryz.func11, Tryz.ntmps11
  go_wp2_with fail
  refine hc0.mono ?_
  rintro e w2 ⟨rfl, own2, q2, p2, hI2, hM2⟩
  have HI2 : Hid _ := hI2
  have HM2 : Hid _ := HM0.out.trans hM2
  clear hc0 hI2 hM2 HM0
  go_wp2
  go_loopw [10, 11, 12, 13] (fun okv i _ _ wr => ∃ (k : Nat) (own' : Nat → Nat) (q bw bd : Value) (ws ds : List Value) (ps : List (Nat × Nat)) (m n : Nat), k ≤ len ∧ okv = .bool true ∧ i = .int .i64 k ∧ Hid (Inv own' U wr w.heap.size q bw bd ws ds ps m m n none0) ∧ Hid (m + ps.length ≤ k + 1 ∧ n ≤ k ∧ 0 < ps.length) ∧ Hid (Moves (fun _ => ARG) w own' wr)) (fun _ i _ _ _ => len - (intOf i).toNat)
  case atStart => exact ⟨0, _, _, _, _, _, _, _, _, _, Nat.zero_le _, rfl, rfl, HI2.out, ⟨by simp, by omega, by simp⟩, HM2.out⟩
  case round =>
    clear HI2 HM2
    obtain ⟨k, own', q, bw, bd, ws, ds, ps, m, n, hk, rfl, rfl, HI, HN, HM⟩ := hrel
    have hwl := HI.out.desk.isw.lt
    by_cases hlt : k < len
    · have hdk : decide ((k : Int) < (len : Int)) = true := decide_eq_true (by omega)
      obtain ⟨b, off, rfl, hac⟩ := HA.out (by omega)
      have hbb : b < wr.heap.size := Nat.lt_of_lt_of_le hac.lt HM.out.kept.size
      have hc : ∀ j, j < 21 → wr.cell? ⟨b, off + k * 21 + j, none⟩ = (st k).arr[j]? := fun j hj => (World.cell?_of_block (HM.out.kept.block b ⟨hac.lt, rfl⟩ hac.lt)).trans (hac.c k hlt j hj)
      have hst := HS.out k hlt
      have hbd := bd_k HN.out hk hlen
      by_cases hr : 11 ≤ (st k).k ∧ (st k).k ≤ 19
      · have hcall := step_any HI.out HU.out hbd.2.1 hbd.1 hbd.2.2.1 HN.out.2.2 (st k) hr.1 hr.2 hst
        have g1 : decide ((st k).k < 11) = false := decide_eq_false (by omega)
        have g2 : decide ((st k).k > 19) = false := decide_eq_false (by omega)
        have g3 : ((st k).k == 22) = false := by rw [beq_eq_false_iff_ne]; omega
        have cc0 : wr.cell? ⟨b, off + k * 21, none⟩ = some (.int .i64 (st k).k) := hc 0 (by decide)
        have hrg : wr.rangeAt b (off + k * 21) (st k).arr.toList := fun j v hv => by
          have hj : j < 21 := (List.getElem?_eq_some_iff.1 hv).1
          rw [hc j hj]
          simpa using hv
        have hi47 : (Tryz.prog.info? 86).map (·.size) = some (st k).arr.toList.length := size47
        have HRG : Hid (wr.rangeAt b (off + k * 21) (st k).arr.toList) := hrg
        have HI47 : Hid ((Tryz.prog.info? 86).map (·.size) = some (st k).arr.toList.length) := hi47
        generalize (st k).k = K at *
        generalize (st k).arr = A at *
        have HLT : Hid (k < len) := hlt
        clear hc hac hst hbd hr hk hlt hrg hi47
        go_wp2_with (refine wpList_load_mid rfl 86 _ rfl b (off + k * 21) rfl A.toList _ HRG.out Tryz.underlying86 rfl HI47.out ?_)
        refine hcall.mono ?_
        rintro e w5 ⟨rfl, own5, q5, bw5, bd5, ws5, ds5, ps5, m5, hI5, hm5, hp5, hM5⟩
        have HI5 : Hid _ := hI5
        have HM5 : Hid _ := HM.out.trans hM5
        have HN5 : Hid (m5 + ps5.length ≤ k + 1 + 1 ∧ n + 1 ≤ k + 1 ∧ 0 < ps5.length) := by have := HN.out; exact ⟨by omega, by omega, hp5⟩
        have hst := still_any hI5.desk (bd_k HN5.out HLT.out hlen).2.2.2 (bd_k HN5.out HLT.out hlen).2.2.2
        have hwl5 := hI5.desk.isw.lt
        clear hcall hI5 hm5 hp5 hM5 cc0 HRG HI47 HI HM HN hbb hwl
        go_wp2_with fail
        refine hst.mono ?_
        rintro e w6 ⟨rfl, hb6⟩
        have HI6 : Hid _ := HI5.out.below hb6
        have HM6 : Hid _ := HM5.out.trans (Moves.below hb6)
        clear hst hb6 HI5 HM5 hwl5
        go_wp2
        go_roundw
        case rel => exact ⟨k + 1, _, _, _, _, _, _, _, _, _, HLT.out, rfl, by simp, HI6.out, HN5.out, HM6.out⟩
        case measure => have := HLT.out; simp [intOf]; omega
      · have cc0 : wr.cell? ⟨b, off + k * 21, none⟩ = some (.int .i64 (st k).k) := hc 0 (by decide)
        have HLT : Hid (k < len) := hlt
        have HN5 : Hid (m + ps.length ≤ k + 1 + 1 ∧ n ≤ k + 1 ∧ 0 < ps.length) := by have := HN.out; exact ⟨by omega, by omega, this.2.2⟩
        by_cases h11 : (st k).k < 11
        · have g1 : decide ((st k).k < 11) = true := decide_eq_true h11
          generalize (st k).k = K at *
          clear hc hac hst hbd hr hk hlt h11
          go_wp2
          go_roundw
          case rel => exact ⟨k + 1, _, _, _, _, _, _, _, _, _, HLT.out, rfl, by simp, HI.out, HN5.out, HM.out⟩
          case measure => have := HLT.out; simp [intOf]; omega
        · have g1 : decide ((st k).k < 11) = false := decide_eq_false h11
          have g2 : decide ((st k).k > 19) = true := decide_eq_true (by omega)
          generalize (st k).k = K at *
          clear hc hac hst hbd hr hk hlt h11
          go_wp2
          go_roundw
          case rel => exact ⟨k + 1, _, _, _, _, _, _, _, _, _, HLT.out, rfl, by simp, HI.out, HN5.out, HM.out⟩
          case measure => have := HLT.out; simp [intOf]; omega
    · have hdk : decide ((k : Int) < (len : Int)) = false := decide_eq_false (by omega)
      have HKL : Hid (k ≤ len) := hk
      have p0 : wr.cell? ⟨w.heap.size, 0, none⟩ = some (.slice none 0 0) := by simp [World.cell?, HI.out.desk.isw.blk, wArr]
      have hki : ¬ ((k : Int) < (len : Int)) := by omega
      clear hk HA HS
      go_wp2
      go_loopw [10, 14, 15, 16] (fun okv i _ _ wr2 => okv = .bool true ∧ i = .int .i64 0 ∧ wr2 = wr) (fun _ _ _ _ _ => 0)
      case atStart => exact ⟨rfl, rfl, rfl⟩
      case round =>
        obtain ⟨rfl, rfl, rfl⟩ := hrel
        go_wp2
        clear p0 hwl
        go_loopw [10, 17] (fun okv i wr2 => ∃ (j : Nat) (own' : Nat → Nat) (q bw bd : Value) (ws ds : List Value) (m n : Nat), j ≤ ps.length ∧ okv = .bool true ∧ i = .int .i64 j ∧ Hid (Inv own' U wr2 w.heap.size q bw bd ws ds ps m m n none0) ∧ Hid (m + ps.length ≤ len + 1 + j) ∧ Hid (Moves (fun _ => ARG) w own' wr2)) (fun _ i _ => ps.length - (intOf i).toNat)
        case atStart => exact ⟨0, _, _, _, _, _, _, _, _, Nat.zero_le _, rfl, rfl, HI.out, by have := HN.out.1; have := HKL.out; show _ ≤ _; omega, HM.out⟩
        case round =>
          have HPS : Hid (ps.length ≤ len + 1) := by have := HN.out; have := HKL.out; show _ ≤ _; omega
          clear HI HM HN
          obtain ⟨j, own', q, bw, bd, ws, ds, m, n, hj, rfl, rfl, HI, HN, HM⟩ := hrel
          have hwl := HI.out.desk.isw.lt
          have p1 := HI.out.desk.isw.p1
          obtain ⟨ao, cap2, eq⟩ := own_form HI.out.desk.oq
          rw [eq] at p1
          by_cases hjl : j < ps.length
          · have hg : ∃ g, ao = some ⟨g, 0, none⟩ := by
              have := HI.out.desk.oq.2
              rw [eq] at this
              rcases this with ⟨_, h2⟩ | ⟨g, cap', cur, h1, _⟩
              · omega
              · injection h1 with a; exact ⟨g, a⟩
            obtain ⟨g, rfl⟩ := hg
            have hg0 : wr.cell? ⟨g, j * 2, none⟩ = some (.pointer (some ⟨ps[j].1, 0, none⟩)) := by
              have := HI.out.desk.oq.cells (g := g) (by rw [eq]; rfl) (j * 2) _ (flatP_get ps j hjl).1
              rwa [Addr.add_lit, Nat.zero_add] at this
            have hg1 : wr.cell? ⟨g, j * 2 + 1, none⟩ = some (.pointer (some ⟨ps[j].2, 0, none⟩)) := by
              have := HI.out.desk.oq.cells (g := g) (by rw [eq]; rfl) (j * 2 + 1) _ (flatP_get ps j hjl).2
              rwa [Addr.add_lit, Nat.zero_add] at this
            have hcall := lined_told HI.out HU.out (by have := HN.out; have := hlen; omega) hjl rfl rfl ⟨19, 0, 0, 0, ⟨#[]⟩, 0, ⟨#[]⟩, 0, 0, 0, 0, 0, 0, false, 0, 0, 0, 0, ⟨#[]⟩, 0, 0⟩ rfl
            simp only [St.arr] at hcall
            generalize ps[j].1 = qb at *
            generalize ps[j].2 = rb at *
            have hdj : decide ((j : Int) < (ps.length : Int)) = true := decide_eq_true (by omega)
            have HJ : Hid (j < ps.length) := hjl
            have hjb : j ≤ 900000000000 := by have := HPS.out; omega
            clear eq hjl hj
            go_wp2_with fail
            refine hcall.mono ?_
            rintro e w5 ⟨rfl, own5, bw5, bd5, ws5, ds5, m5, hI5, hm5, hM5⟩
            have HI5 : Hid _ := hI5
            have HM5 : Hid _ := HM.out.trans hM5
            have HN5 : Hid (m5 + ps.length ≤ len + 1 + (j + 1)) := by have := HN.out; show _ ≤ _; omega
            clear hcall hI5 hm5 hM5 hg0 hg1 HI HM HN hwl p1
            go_wp2
            go_roundw
            case rel => exact ⟨j + 1, _, _, _, _, _, _, _, _, HJ.out, rfl, by simp, HI5.out, HN5.out, HM5.out⟩
            case measure => have := HJ.out; simp [intOf]; omega
          · have hdj : decide ((j : Int) < (ps.length : Int)) = false := decide_eq_false (by omega)
            have p2 : wr.cell? ⟨w.heap.size, 2, none⟩ = some (.slice none 0 0) := by simp [World.cell?, HI.out.desk.isw.blk, wArr]
            have hst := still_any HI.out.desk (by have := HN.out; have := HPS.out; have := hlen; omega) (by have := HN.out; have := HPS.out; have := hlen; omega)
            have HF : Hid (Moves (fun _ => ARG) w own' wr) := HM.out
            have hji : ¬ ((j : Int) < (ps.length : Int)) := by omega
            clear eq hj HI HN
            go_wp2
            go_loopw [10, 18, 19] (fun okv i _ wr2 => okv = .bool true ∧ i = .int .i64 0 ∧ wr2 = wr) (fun _ _ _ _ => 0)
            case atStart => exact ⟨rfl, rfl, rfl⟩
            case round =>
              obtain ⟨rfl, rfl, rfl⟩ := hrel
              go_wp2_with fail
              refine hst.mono ?_
              rintro e w9 ⟨rfl, hb9⟩
              have HX : Hid (Below w.heap.size w w9) := ⟨hb9.os.trans HF.out.kept.os, hb9.tape.trans HF.out.kept.tape, hb9.output.trans HF.out.kept.output, Nat.le_trans HF.out.kept.size hb9.size, fun b hb => (hb9.block b (Nat.lt_of_lt_of_le hb HF.out.kept.size)).trans (HF.out.kept.block b ⟨hb, rfl⟩ hb)⟩
              clear hst hb9
              go_wp2
              go_ret
              exact ⟨rfl, HX.out⟩

end Go.Proofs.YtdgfjneapialdaaGreatDoor
