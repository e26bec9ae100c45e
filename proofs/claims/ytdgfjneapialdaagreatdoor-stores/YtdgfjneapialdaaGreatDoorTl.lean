import Derived.Test.YtdgfjneapialdaaGreatDoorTa
namespace Go.Proofs.YtdgfjneapialdaaGreatDoor.S
open Go Go.RowKit Go.Maps

section
variable {C : Nat → Prop} {w : World} {rb : Nat} {lim born : Int} {pv ev nv : Value} {sp sv : List Value} {pre past : List (List Ob)} {l : List Ob} {es : List (Int × Ob)}
set_option maxRecDepth 100000 in
set_option maxHeartbeats 400000 in
theorem rsince_bad (h : IsRef C w rb lim born pv ev sv past es) (hsv : sv = sp ++ [nv]) (hpa : past = pre ++ [l]) (hb : pre.length ≤ 600) (v most : Int) (hbad : v < 0 ∨ (pre.length : Int) < v ∨ most < 0) :
    Calls Tryz.prog 64 #[.pointer (some ⟨rb, 0, none⟩), .int .i64 v, .int .i64 most] w fun e w' => e = .returned (.tuple #[.slice none 0 0, .int .i64 1]) ∧ w' = w := by
  subst hsv hpa
  have hv := version_any h hb
  clear h
  by_cases h1 : v < 0
  · have d0 : decide (v < 0) = true := decide_eq_true h1
    go_enter Tryz.func64, Tryz.ntmps64
    go_wp2
    go_ret2
    exact ⟨rfl, rfl⟩
  · have d0 : decide (v < 0) = false := decide_eq_false h1
    by_cases h2 : (pre.length : Int) < v
    · have d1 : decide (v > (pre.length : Int)) = true := decide_eq_true h2
      go_enter Tryz.func64, Tryz.ntmps64
      go_wp2_with fail
      refine hv.mono ?_
      rintro e w1 ⟨rfl, rfl⟩
      go_wp2
      go_ret2
      exact ⟨rfl, rfl⟩
    · have d1 : decide (v > (pre.length : Int)) = false := decide_eq_false h2
      have d2 : decide (most < 0) = true := decide_eq_true (by omega)
      go_enter Tryz.func64, Tryz.ntmps64
      go_wp2_with fail
      refine hv.mono ?_
      rintro e w1 ⟨rfl, rfl⟩
      go_wp2
      go_ret2
      exact ⟨rfl, rfl⟩

set_option maxRecDepth 100000 in
set_option maxHeartbeats 400000 in
theorem rsince_old (h : IsRef C w rb lim born pv ev sv past es) (hsv : sv = sp ++ [nv]) (hpa : past = pre ++ [l]) (hb : pre.length ≤ 600) (v most : Int) (h1 : 0 ≤ v) (h3 : 0 ≤ most) (ho : 16 < (pre.length : Int) - v) :
    Calls Tryz.prog 64 #[.pointer (some ⟨rb, 0, none⟩), .int .i64 v, .int .i64 most] w fun e w' => e = .returned (.tuple #[.slice none 0 0, .int .i64 7]) ∧ w' = w := by
  subst hsv hpa
  have hv := version_any h hb
  clear h
  have d0 : decide (v < 0) = false := decide_eq_false (by omega)
  have d1 : decide (v > (pre.length : Int)) = false := decide_eq_false (by omega)
  have d2 : decide (most < 0) = false := decide_eq_false (by omega)
  have d3 : decide ((pre.length : Int) - v > 16) = true := decide_eq_true ho
  go_enter Tryz.func64, Tryz.ntmps64
  go_wp2_with fail
  refine hv.mono ?_
  rintro e w1 ⟨rfl, rfl⟩
  go_wp2_with fail
  refine hv.mono ?_
  rintro e w1 ⟨rfl, rfl⟩
  go_wp2
  go_ret2
  exact ⟨rfl, rfl⟩

theorem take_more {α : Type} (L : List α) (j : Nat) (hj : j < L.length) : L.take (j + 1) = L.take j ++ [L[j]] := List.take_succ_eq_append_getElem hj

set_option maxRecDepth 100000 in
set_option maxHeartbeats 1000000 in
theorem rsince_ok (h : IsRef C w rb lim born pv ev sv past es) (hsv : sv = sp ++ [nv]) (hpa : past = pre ++ [l]) (hb : pre.length ≤ 600) (hes : es.length ≤ 600) (n M : Nat) (most : Int) (hM : most = (M : Int)) (h2 : n ≤ pre.length) (ho : (pre.length : Int) - n ≤ 16) :
    Calls Tryz.prog 64 #[.pointer (some ⟨rb, 0, none⟩), .int .i64 n, .int .i64 most] w fun e w' => ∃ vv, e = .returned (.tuple #[vv, .int .i64 0]) ∧ w'.ownsRow w.heap.size 170 10 vv ((es.drop n).take M).length (((es.drop n).take M).flatMap evP) ∧ Below w.heap.size w w' := by
  have HO : Hid (IsRef C w rb lim born pv ev sv past es) := h
  obtain ⟨ade, cpe, eev⟩ := own_form h.oe
  have q2 := h.q2
  have hrb := h.lt
  subst hsv hpa
  have hv := version_any h hb
  clear h
  subst hM
  have d0 : decide ((n : Int) < 0) = false := decide_eq_false (by omega)
  have d1 : decide ((n : Int) > (pre.length : Int)) = false := decide_eq_false (by omega)
  have d2 : decide ((M : Int) < 0) = false := decide_eq_false (by omega)
  have d3 : decide ((pre.length : Int) - (n : Int) > 16) = false := decide_eq_false (by omega)
  have HL : Hid (((es.drop n).take M).length = min M (es.length - n)) := by show _ = _; rw [List.length_take, List.length_drop]
  have HEV : Hid (ev = .slice ade es.length cpe) := eev
  rw [eev] at q2
  clear eev
  go_enter Tryz.func64, Tryz.ntmps64
  go_wp2_with fail
  refine hv.mono ?_
  rintro e w1 ⟨rfl, rfl⟩
  go_wp2_with fail
  refine hv.mono ?_
  rintro e w1 ⟨rfl, rfl⟩
  clear hv d0 d1 d2 d3
  go_wp2
  go_loopw [8, 9] (fun vr i wr => ∃ j : Nat, j ≤ M ∧ n + j ≤ max es.length n ∧ i = .int .i64 ((n + j : Nat) : Int) ∧ Hid (wr.ownsRow w1.heap.size 170 10 vr ((es.drop n).take j).length (((es.drop n).take j).flatMap evP)) ∧ Hid (((es.drop n).take j).length = j) ∧ Hid (Below w1.heap.size w1 wr)) (fun _ i _ => (es.length + 1) - (intOf i).toNat)
  case atStart => exact ⟨0, Nat.zero_le _, by omega, rfl, World.ownsRow_nil _ _ _ _, rfl, Below.refl _ _⟩
  case round =>
    obtain ⟨j, hjM, hje, rfl, HR, HJ, HBw⟩ := hrel
    obtain ⟨ad, cap, ev2⟩ := own_form HR.out
    rw [HJ.out] at ev2
    subst ev2
    have q2' : wr.cell? ⟨rb, 2, none⟩ = some (.slice ade es.length cpe) := (HBw.out.cell (p := ⟨rb, 2, none⟩) hrb).trans q2
    have hrb2 : rb < wr.heap.size := Nat.lt_of_lt_of_le hrb HBw.out.size
    by_cases hlt : n + j < es.length
    · have g1 : decide (((n + j : Nat) : Int) < (es.length : Int)) = true := decide_eq_true (by omega)
      have hji : (((n + j : Nat) : Int) < (es.length : Int)) := by omega
      by_cases hm : j < M
      · have g2 : decide ((j : Int) < (M : Int)) = true := decide_eq_true (by omega)
        have hoe := HO.out.oe
        rw [HEV.out] at hoe
        have hg : ∃ g, ade = some ⟨g, 0, none⟩ := by
          rcases hoe.2 with ⟨_, h2⟩ | ⟨g, cap', cur, h1, _⟩
          · omega
          · injection h1 with a; exact ⟨g, a⟩
        obtain ⟨g, rfl⟩ := hg
        have hc := ev_cells hoe HBw.out hlt
        obtain ⟨x, hx⟩ : ∃ x, x = es[n + j] := ⟨_, rfl⟩
        rw [← hx] at hc
        have HX : Hid ((es.drop n).take (j + 1) = (es.drop n).take j ++ [x]) := by
          show _ = _
          rw [take_more _ j (by rw [List.length_drop]; omega), hx]
          simp
        obtain ⟨so, a0, a1, a2, a3, a4, a5, a6, a7, a8⟩ := x
        have p0 : wr.cell? ⟨g, (n + j) * 10, none⟩ = some (.int .u8 so) := hc 0 _ (by omega) rfl
        have p1 : wr.cell? ⟨g, (n + j) * 10 + 1, none⟩ = some (.int .u8 a0) := hc 1 _ (by omega) rfl
        have p2 : wr.cell? ⟨g, (n + j) * 10 + 2, none⟩ = some (.string a1) := hc 2 _ (by omega) rfl
        have p3 : wr.cell? ⟨g, (n + j) * 10 + 3, none⟩ = some (.int .i64 a2) := hc 3 _ (by omega) rfl
        have p4 : wr.cell? ⟨g, (n + j) * 10 + 4, none⟩ = some (.int .i64 a3) := hc 4 _ (by omega) rfl
        have p5 : wr.cell? ⟨g, (n + j) * 10 + 5, none⟩ = some (.int .i64 a4) := hc 5 _ (by omega) rfl
        have p6 : wr.cell? ⟨g, (n + j) * 10 + 6, none⟩ = some (.int .i64 a5) := hc 6 _ (by omega) rfl
        have p7 : wr.cell? ⟨g, (n + j) * 10 + 7, none⟩ = some (.int .i64 a6) := hc 7 _ (by omega) rfl
        have p8 : wr.cell? ⟨g, (n + j) * 10 + 8, none⟩ = some (.int .u8 a7) := hc 8 _ (by omega) rfl
        have p9 : wr.cell? ⟨g, (n + j) * 10 + 9, none⟩ = some (.bool a8) := hc 9 _ (by omega) rfl
        clear hc hx hoe
        obtain ⟨N, hN⟩ : ∃ N : Nat, N = n + j := ⟨_, rfl⟩
        have HN : Hid (N = n + j) := hN
        rw [← hN] at p0 p1 p2 p3 p4 p5 p6 p7 p8 p9 g1 hji
        rw [← hN]
        clear hN
        go_wp2_with (first
          | (at_builtin; refine push_ev wr (so, ⟨a0, a1, a2, a3, a4, a5, a6, a7, a8⟩) rfl rfl _ _ rfl w1.heap.size _ ((es.drop n).take j) rfl rfl HR.out (by have := HJ.out; omega) HBw.out.size ?_; intro g4 cap4 w4 hown4 hg4 hat4 hlt4; rw [HJ.out]; go_frame)
          | go_in)
        go_roundw
        case rel =>
          have hJ1 : Hid (((es.drop n).take (j + 1)).length = j + 1) := by show _ = _; rw [HX.out, List.length_append, HJ.out]; rfl
          refine ⟨j + 1, by omega, by have := HN.out; omega, by rw [HN.out]; simp; omega, ?_, hJ1, ?_⟩
          · rw [HX.out]
            have := hown4
            rw [HJ.out] at this
            exact this
          · exact (belowAl HBw.out _).grown hg4 (by have := HBw.out.size; simp; omega) (fun b e => (HR.out.lt b e).1)
        case measure => have := HN.out; simp [intOf]; omega
      · have hjm : j = M := by omega
        have g2 : decide ((j : Int) < (M : Int)) = false := decide_eq_false (by omega)
        have HF : Hid (wr.ownsRow w1.heap.size 170 10 (.slice ad j cap) ((es.drop n).take M).length (((es.drop n).take M).flatMap evP)) := by have := HR.out; rw [hjm] at this; rw [hjm]; exact this
        clear hjm
        go_wp2
        go_ret2
        exact ⟨_, rfl, HF.out, HBw.out⟩
    · have g1 : decide (((n + j : Nat) : Int) < (es.length : Int)) = false := decide_eq_false (by omega)
      have HF : Hid (wr.ownsRow w1.heap.size 170 10 (.slice ad j cap) ((es.drop n).take M).length (((es.drop n).take M).flatMap evP)) := by
        have e : (es.drop n).take M = (es.drop n).take j := by
          rw [List.take_of_length_le (by rw [List.length_drop]; omega), List.take_of_length_le (by rw [List.length_drop]; omega)]
        show World.ownsRow _ _ _ _ _ _ _
        rw [e]
        exact HR.out
      obtain ⟨N, hN⟩ : ∃ N : Nat, N = n + j := ⟨_, rfl⟩
      have hji : ¬ ((N : Int) < (es.length : Int)) := by omega
      rw [← hN] at g1
      rw [← hN]
      clear hN hlt
      go_wp2
      go_ret2
      exact ⟨_, rfl, by have := HF.out; rw [HL.out] at this; exact this, HBw.out⟩
end

end Go.Proofs.YtdgfjneapialdaaGreatDoor.S
