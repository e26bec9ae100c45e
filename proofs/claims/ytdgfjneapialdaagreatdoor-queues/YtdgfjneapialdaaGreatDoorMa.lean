import Derived.Test.YtdgfjneapialdaaGreatDoorPz
namespace Go.Proofs.YtdgfjneapialdaaGreatDoor
open Go Go.RowKit Go.Maps Go.Lib Go.Sort

theorem ownNew_twice {own : Nat → Nat} {w w1 : World} {a : Nat} (hs : w.heap.size ≤ w1.heap.size) : ownNew (ownNew own w a) w1 a = ownNew own w a := by
  funext b
  by_cases h : b < w1.heap.size
  · rw [ownNew_old h]
  · rw [ownNew_new (Nat.not_lt.1 h), ownNew_new (by omega)]
theorem kept_twice {own : Nat → Nat} {w w1 w2 : World} {a : Nat} (h1 : KeptC (Others own w a) w w1) (h2 : KeptC (Others (ownNew own w a) w1 a) w1 w2) : KeptC (Others own w a) w w2 :=
  h1.trans (h2.sub (fun b hb => (others_self h1.size a b).2 hb))

section
variable {own : Nat → Nat} {w : World} {wb : Nat} {q bw bd : Value} {ws ds : List Value} {ps : List (Nat × Nat)} {m1 m2 : Nat}
set_option maxRecDepth 100000 in
set_option maxHeartbeats 1000000 in
/-- told: what both tell is the same, and the book keeps the program's. -/
theorem tolds_any (h : Desk own w wb q bw bd ws ds ps m1 m2) (hm1 : m1 ≤ 999999999999) (hm2 : m2 ≤ 999999999999) {B B2 : Nat} {a b a2 b2 : Value} {x : List ByteArray} {y : List Dk} (hx : x.length ≤ 1000000000000) (hy : y.length ≤ 1000000000000)
    (ha : w.ownsRow B 9 1 a x.length (x.map Value.string)) (ha2 : w.ownsRow 0 9 1 a2 x.length (x.map Value.string)) (hb : w.ownsRow B 119 2 b y.length (flatD y)) (hb2 : w.ownsRow B2 119 2 b2 y.length (flatD y))
    (hB0 : 1 < B) (hBs : B ≤ w.heap.size) (hB : ∀ k, B ≤ k → k < w.heap.size → own k = 0) (hfw : ∀ v ∈ ws, ∀ k, v.ownBlock = some k → k < B) (hfd : ∀ v ∈ ds, ∀ k, v.ownBlock = some k → k < B) :
    Calls Tryz.prog 83 #[.pointer (some ⟨wb, 0, none⟩), a, b, a2, b2] w fun e w' => e = .returned (.bool true) ∧ KeptC (Others own w 0) w w' ∧ ∃ bw' bd' ws' ds', Desk (ownNew own w 0) w' wb q bw' bd' ws' ds' ps (m1 + 1) (m2 + 1) := by
  have c1 := sameWords_any ha ha2 (by omega)
  have c2 := fun n => sameDues_any (own_drewN hb n) (own_drewN hb2 n) (by omega)
  have c3 : ∀ n, _ := fun n => word_any (h.drewN n).isw h.l1 (by omega) (h.drewN n).tab (B := B) (v := a) (xs := x.map Value.string) (by rw [List.length_map]; exact own_drewN ha n) hBs (by rw [List.length_map]; exact hx)
  have H : Hid (Desk own w wb q bw bd ws ds ps m1 m2) := h
  have HA : Hid (w.ownsRow B 9 1 a x.length (x.map Value.string)) := ha
  have HBr : Hid (w.ownsRow B 119 2 b y.length (flatD y)) := hb
  obtain ⟨ad1, cap1, e1⟩ := own_form ha
  obtain ⟨ad2, cap2, e2⟩ := own_form hb
  obtain ⟨ad3, cap3, e3⟩ := own_form ha2
  obtain ⟨ad4, cap4, e4⟩ := own_form hb2
  have hlt := h.isw.lt
  have HBs : Hid (B ≤ w.heap.size ∧ 1 < B) := ⟨hBs, hB0⟩
  have HB : Hid (∀ k, B ≤ k → k < w.heap.size → own k = 0) := hB
  have HM : Hid (m2 ≤ 999999999999 ∧ y.length ≤ 1000000000000) := ⟨hm2, hy⟩
  clear h ha ha2 hb hb2 hB0 hBs hB hx hy hm1 hm2
  subst e1 e2 e3 e4
  go_enter Tryz.func83, Tryz.ntmps83
  go_wp2_with fail
  refine c1.mono ?_
  rintro e w1 ⟨rfl, n1, rfl⟩
  have c2' := c2 n1
  clear c1 c2
  go_wp2_with fail
  refine c2'.mono ?_
  rintro e w1 ⟨rfl, n2, rfl⟩
  have c3' := c3 (n1 + n2)
  clear c2' c3
  go_wp2_with fail
  refine c3'.mono ?_
  rintro e w1 ⟨rfl, bw', ns, hw1, hn1, hk1, hb1, kp1⟩
  clear c3'
  have hD := H.out.drewN (n1 + n2)
  have hav : ∀ k, (Value.slice ad1 x.length cap1).ownBlock = some k → B ≤ k := fun k e => (HA.out.lt k e).1
  have hbv : ∀ k, (Value.slice ad2 y.length cap2).ownBlock = some k → B ≤ k := fun k e => (HBr.out.lt k e).1
  have hD1 := hD.word (B := B) (v := .slice ad1 x.length cap1) (fun k e => own_typ (own_drewN HA.out (n1 + n2)) k e) (fun v hv k e e' => by have := hfw v hv k e; have := hav k e'; omega) hw1 hn1 hk1 HBs.out.2 HB.out hav hb1 kp1
  have hK1 := hD.word_kept (fun k e => HB.out k (hav k e) (own_lt HA.out e)) kp1
  have hbr1 : w1.ownsRow B 119 2 (.slice ad2 y.length cap2) y.length (flatD y) := own_keep (own_drewN HBr.out (n1 + n2)) (fun k e => by
    obtain ⟨cur, hc⟩ := own_typ (own_drewN HBr.out (n1 + n2)) k e
    have hkl := own_lt HBr.out e
    refine kp1.block k ⟨hkl, ne_typ hc hD.isw.blk (by decide), fun e3 => ?_, fun e3 => ?_⟩ hkl
    · obtain ⟨c2, hc2⟩ := own_typ hD.isw.ow k e3; exact ne_typ hc hc2 (by decide) rfl
    · obtain ⟨c2, hc2⟩ := own_typ (own_drewN HA.out (n1 + n2)) k e3; exact ne_typ hc hc2 (by decide) rfl)
  have hBs1 : B ≤ w1.heap.size := Nat.le_trans HBs.out.1 kp1.size
  have c4 := due_any hD1.isw hD1.l2 (by have := HM.out.1; omega) hbr1 hBs1 HM.out.2
  have HD1 : Hid (Desk (ownNew own w 0) w1 wb q bw' bd (ws ++ ns) ds ps (m1 + 1) m2) := hD1
  have HK1 : Hid (KeptC (Others own w 0) w w1) := ((KeptC.refl (Others own w 0) w).drewN (n1 + n2)).trans hK1
  have HR1 := (show Hid _ from hbr1)
  have HBV := (show Hid _ from hbv)
  have hlt1 := hD1.isw.lt
  clear hw1 hn1 hk1 hb1 kp1 hD hav hD1 hK1 hbr1 hbv hBs1
  go_wp2_with fail
  refine c4.mono ?_
  rintro e w2 ⟨rfl, bd', ns2, hw2, hn2, hk2, hb2, kp2⟩
  clear c4
  have hD2 := HD1.out.due (B := B) (v := .slice ad2 y.length cap2) (fun k e => own_typ HR1.out k e) (fun v hv k e e' => by have := hfd v hv k e; have := HBV.out k e'; omega) hw2 hn2 hk2 HBs.out.2 (fun k hk hl => by
    by_cases hk2 : k < w.heap.size
    · exact (ownNew_old hk2).trans (HB.out k hk hk2)
    · exact ownNew_new (Nat.not_lt.1 hk2)) HBV.out hb2 kp2
  have hK2 := HD1.out.due_kept (v := .slice ad2 y.length cap2) (fun k e => (ownNew_old (own_lt HBr.out e)).trans (HB.out k (HBV.out k e) (own_lt HBr.out e))) kp2
  have HF : Hid (KeptC (Others own w 0) w w2 ∧ Desk (ownNew own w 0) w2 wb q bw' bd' (ws ++ ns) (ds ++ ns2) ps (m1 + 1) (m2 + 1)) := by
    refine ⟨kept_twice HK1.out hK2, ?_⟩
    rw [ownNew_twice HK1.out.size] at hD2
    exact hD2
  clear hw2 hn2 hk2 hb2 kp2 hD2 hK2
  go_wp2
  go_ret
  exact ⟨rfl, HF.out.1, _, _, _, _, HF.out.2⟩
end

end Go.Proofs.YtdgfjneapialdaaGreatDoor
