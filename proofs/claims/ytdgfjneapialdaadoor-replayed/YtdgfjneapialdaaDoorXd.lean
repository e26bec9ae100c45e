import Derived.Test.YtdgfjneapialdaaDoorXc
namespace Go.Proofs.YtdgfjneapialdaaDoor
open Go Go.RowKit Go.Maps

set_option maxRecDepth 100000 in
set_option maxHeartbeats 1000000 in
theorem swapped_zero (lim0 nn : Int) (ad : Option Addr) (cap : Nat) (w : World) (hB : 1 < w.heap.size) (l0 : -9223372036854775808 ≤ lim0) (l1 : lim0 ≤ 9223372036854775807) (n0 : -9223372036854775808 ≤ nn) (n1 : nn ≤ 9223372036854775807) :
    Calls Tryd.prog 5 #[.int .i64 lim0, .slice ad 0 cap, .int .i64 nn] w fun e w' => e = .returned (.bool true) ∧ Below w.heap.size w w' := by
  have hp := pickI_bd lim0 63 (by omega)
  go_enter Tryd.func5, Tryd.ntmps5
  go_wp2_with fail
  refine (pick_any lim0 63 _ l0 l1 (by omega) (by omega)).mono ?_
  rintro e w' ⟨rfl, rfl⟩
  go_wp2_with fail
  refine (new_ok (2 + pickI lim0 63) _ (by omega) (by omega)).mono ?_
  rintro e w1 ⟨rfl, hS1, hb1⟩
  go_wp2_with fail
  refine (create_x w1 (w'.heap.size + 1) w'.heap.size (2 + pickI lim0 63) (by omega) (by omega) (by omega) hS1).mono ?_
  rintro e w2 ⟨⟨x2, rfl⟩, hG2, hK2⟩
  have hb2 : Hid (Below w'.heap.size w' w2) := hb1.trans (hK2.toBelow (by omega) (Nat.le_refl _) hb1.size)
  clear hS1 hb1 hK2
  have HG2 : Hid (GoS w2 (w'.heap.size + 1) w'.heap.size (2 + pickI lim0 63) 0) := hG2
  clear hG2
  go_wp2_with fail
  go_loopw [9] (fun i wr => i = .int .i64 0 ∧ Hid (GoS wr (w'.heap.size + 1) w'.heap.size (2 + pickI lim0 63) 0) ∧ Hid (Below w'.heap.size w' wr)) (fun _ _ => 0)
  case atStart => exact ⟨rfl, HG2, hb2⟩
  case round =>
    obtain ⟨rfl, hG, hbw⟩ := hrel
    obtain ⟨ver, cre, log, n, D, hS, hI, ⟨o, hx⟩, hv1, hv2⟩ := hG.out
    have ho := hI.all 0 setX o (by omega) (by omega) setX_sz hx
    have hoc := (ho.set rfl).1
    have ho1 := ho.v1
    have ho2 := ho.v2
    have hnn := hI.nn
    obtain ⟨o0, os1, o2, o3, o4, o5, o6, o7, o8⟩ := o
    obtain rfl : o0 = 0 := ho.kind
    obtain rfl : os1 = setX := ho.name
    simp only [countsB, Bool.and_eq_true, decide_eq_true_eq] at hoc ho1 ho2
    obtain ⟨⟨⟨hr0, hr1⟩, ht0⟩, ht1⟩ := hoc
    have hp8 := pickI_bd nn 8 (by omega)
    obtain ⟨rr, hrr⟩ : ∃ rr, (o4 + 1 + pickI nn 8) % 9 = rr := ⟨_, rfl⟩
    have hrr0 : 0 ≤ rr := by omega
    have hrr1 : rr ≤ 8 := by omega
    have hrrn : rr ≠ o4 := by omega
    have HS : Hid (IsStore wr (w'.heap.size + 1) w'.heap.size (2 + pickI lim0 63) ver cre log n D) := hS
    have HX : Hid (At D 0 setX ⟨0, setX, o2, o3, o4, o5, o6, o7, o8⟩) := hx
    have HI : Hid (Inv ver cre n D) := hI
    clear hS hx ho hI hG
    go_wp2_with fail
    refine (swap_get wr _ _ _ ver cre log n D o2 o3 o4 o5 o6 o7 o8 HS.out HX.out).mono ?_
    rintro e w3 ⟨rfl, hb3⟩
    have HS3 : Hid (IsStore w3 (w'.heap.size + 1) w'.heap.size (2 + pickI lim0 63) ver cre log n D) := HS.out.below hb3
    go_wp2_with fail
    go_region_with (go_at_call 9; refine (pick_any nn 8 _ n0 n1 (by omega) (by omega)).mono ?_; rintro e8 w8 ⟨rfl, rfl⟩)
    all_goals
      go_wp2_with fail
      refine (swap_1 _ (w'.heap.size + 1) w'.heap.size (2 + pickI lim0 63) ver cre log n D o2 o3 o4 o5 o6 o7 o8 rr (((HS3.out.alloc _).alloc _).drew) (by omega) (by omega) (by unfold maxLen; omega) HX.out hrr0 hrr1 ht0 ht1 hrrn).mono ?_
      rintro e w4 ⟨rfl, hS4, hK4⟩
      have z3 := HS3.out.lt
      have z3b : w3.heap.size + 1 < w4.heap.size := by have := hK4.size; simp at this; omega
      have gO4 : Hid (w4.heap[w3.heap.size]? = some (.cells #[.int .u8 0, .string ⟨#[120]⟩, .int .i64 o2, .int .i64 o3, .int .i64 o4, .int .i64 o5, .int .i64 o6, .int .u8 o7, .bool o8] 36 (0, 0))) := (hK4.block w3.heap.size (by simp; omega) (by omega) (by omega)).trans (alloc_last' w3 _ _)
      have gA4 : Hid (w4.heap[w3.heap.size + 1]? = some (.cells #[.int .u8 0, .string ⟨#[120]⟩, .int .i64 o2, .int .i64 o3, .int .i64 rr, .int .i64 o5, .int .i64 o6, .int .u8 o7, .bool o8] 36 (0, 0))) := (hK4.block (w3.heap.size + 1) (by simp) (by omega) (by omega)).trans (alloc_last2 w3 _ _)
      have hK4' : Hid (Kept (w'.heap.size + 1) w'.heap.size w3 w4) := ((((Kept.refl _ _ w3).alloc _).alloc _).drew).trans hK4
      have hX4 := at_put_same HI.out.im 0 setX (Ob.mk 0 setX o2 (ver + 1) rr o5 o6 o7 o8)
      generalize D.put (klit 0 setX) (Ob.mk 0 setX o2 (ver + 1) rr o5 o6 o7 o8).dat = D4 at hS4 hX4
      generalize logPut log (((ver + 1) % 16).toNat * 10) (evCells 1 0 setX o2 (ver + 1) rr o5 o6 o7 o8) = log4 at hS4
      have HS4 : Hid (IsStore w4 (w'.heap.size + 1) w'.heap.size (2 + pickI lim0 63) (ver + 1) cre log4 (n + 1) D4) := hS4
      have HX4 : Hid (At D4 0 setX ⟨0, setX, o2, ver + 1, rr, o5, o6, o7, o8⟩) := hX4
      clear hS4 hX4 hK4
      obtain ⟨⟨a0, a1, a2, a3, a4, a5, a6, a7, a8⟩, _⟩ := nine gA4.out
      go_wp2_with fail
      refine (swap_2 _ (w'.heap.size + 1) w'.heap.size (2 + pickI lim0 63) (ver + 1) cre log4 (n + 1) D4 o2 o3 o5 o6 o7 o8 rr (ver + 1) (HS4.out.alloc _) (by omega) HX4.out hrr0 hrr1 ht0 ht1 (by omega) (by omega)).mono ?_
      rintro e w5 ⟨rfl, hb5⟩
      have z5 := lt_of_back hb5
      have gO5 : Hid (w5.heap[w3.heap.size]? = some (.cells #[.int .u8 0, .string ⟨#[120]⟩, .int .i64 o2, .int .i64 o3, .int .i64 o4, .int .i64 o5, .int .i64 o6, .int .u8 o7, .bool o8] 36 (0, 0))) := ((back9 hb5).block _ (by omega)).trans gO4.out
      have gA5 : Hid (w5.heap[w3.heap.size + 1]? = some (.cells #[.int .u8 0, .string ⟨#[120]⟩, .int .i64 o2, .int .i64 o3, .int .i64 rr, .int .i64 o5, .int .i64 o6, .int .u8 o7, .bool o8] 36 (0, 0))) := ((back9 hb5).block _ z3b).trans gA4.out
      have gB5 : Hid (w5.heap[w4.heap.size]? = some (.cells #[.int .u8 0, .string ⟨#[120]⟩, .int .i64 o2, .int .i64 (ver + 1), .int .i64 rr, .int .i64 o5, .int .i64 o6, .int .u8 o7, .bool o8] 36 (0, 0))) := (hb5.block _ (by simp)).trans (alloc_last w4 _)
      have HS5 : Hid (IsStore w5 (w'.heap.size + 1) w'.heap.size (2 + pickI lim0 63) (ver + 1) cre log4 (n + 1) D4) := HS4.out.below (back9 hb5)
      clear a0 a1 a2 a3 a4 a5 a6 a7 a8
      go_wp2_with fail
      refine (swap_get _ (w'.heap.size + 1) w'.heap.size (2 + pickI lim0 63) (ver + 1) cre log4 (n + 1) D4 o2 (ver + 1) rr o5 o6 o7 o8 (HS5.out.alloc _) HX4.out).mono ?_
      rintro e w6 ⟨rfl, hb6⟩
      have z6 := lt_of_back hb6
      have y1 : w3.heap.size < w6.heap.size := by omega
      have y2 : w3.heap.size + 1 < w6.heap.size := by omega
      have y3 : w4.heap.size < w6.heap.size := by omega
      obtain ⟨⟨p0, p1, p2, p3, p4, p5, p6, p7, p8⟩, _⟩ := nine (((back9 hb6).block _ (by omega)).trans gO5.out)
      obtain ⟨⟨a0, a1, a2, a3, a4, a5, a6, a7, a8⟩, _⟩ := nine (((back9 hb6).block _ (by omega)).trans gA5.out)
      obtain ⟨⟨b0, b1, b2, b3, b4, b5, b6, b7, b8⟩, _⟩ := nine (((back9 hb6).block _ (by omega)).trans gB5.out)
      obtain ⟨⟨c0, c1, c2, c3, c4, c5, c6, c7, c8⟩, _⟩ := nine ((hb6.block _ (by simp)).trans (alloc_last w5 _))
      have hqc := fun W => eq29 0 ⟨#[]⟩ 0 0 0 0 0 0 false 0 ⟨#[]⟩ 0 0 0 0 0 0 false W
      have hqd := fun W => eq29 0 ⟨#[120]⟩ o2 (ver + 1) rr o5 o6 o7 o8 0 ⟨#[120]⟩ o2 (ver + 1) rr o5 o6 o7 o8 W
      simp only [eqB_self] at hqc hqd
      have hg := guard29
      have hgt : o3 < ver + 1 := by omega
      have hfin : Hid (Below w'.heap.size w' (w6.alloc (.cells #[.int .u8 0, .string ⟨#[120]⟩, .int .i64 o2, .int .i64 (ver + 1), .int .i64 rr, .int .i64 o5, .int .i64 o6, .int .u8 o7, .bool o8] 36))) := (((hbw.out.trans (hb3.mono hbw.out.size)).trans (hK4'.out.toBelow (by omega) (Nat.le_refl _) (by omega))).trans ((back9 hb5).mono (by omega))).trans ((back9 hb6).mono (by omega)) |>.alloc (by omega) _
      go_wp2
      go_ret
      exact ⟨rfl, hfin.out⟩

end Go.Proofs.YtdgfjneapialdaaDoor
