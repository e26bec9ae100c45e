import Derived.Test.YtdgfjneapialdaaGreatDoorTt
namespace Go.Proofs.YtdgfjneapialdaaGreatDoor.S
open Go Go.RowKit Go.Maps

set_option maxRecDepth 100000 in
set_option maxHeartbeats 2000000 in
theorem object_any {w : World} {wb : Nat} {sh bo be : Value} {os es : List Value} {m : Nat} (h : WIs w wb sh bo be os es) (hm : os.length = 4 * m) (hm2 : m ≤ 1540000000000) {B : Nat} {v : Value} {L : List Ob} (hr : w.ownsRow B 84 9 v L.length (L.flatMap (fun o : Ob => o.arr.toList))) (hB : B ≤ w.heap.size) (hx : L.length ≤ 64) :
    Calls Tryz.prog 56 #[.pointer (some ⟨wb, 3, none⟩), v] w fun e w' => e = .returned (.tuple #[]) ∧ ∃ b' ns, WIs w' wb sh b' be (os ++ ns) es ∧ ns.length = 4 ∧ (∀ x ∈ ns, KO w' B (9000 + m) x) ∧ (b'.ownBlock = bo.ownBlock ∨ ∀ k, b'.ownBlock = some k → w.heap.size ≤ k) ∧ KeptC (Aside w wb bo.ownBlock v.ownBlock) w w' := by
  have p5 := h.p3
  have hlt := h.lt
  have H : Hid (WIs w wb sh bo be os es) := h
  obtain ⟨ao5, cap5, e5⟩ := own_form h.ow
  obtain ⟨ad, cap, e1⟩ := own_form hr
  obtain ⟨obw, hobw⟩ : ∃ x, x = bo.ownBlock := ⟨_, rfl⟩
  obtain ⟨ov, hov⟩ : ∃ x, x = v.ownBlock := ⟨_, rfl⟩
  have HOB : Hid (obw = bo.ownBlock) := hobw
  have HOV0 : Hid (ov = v.ownBlock) := hov
  rw [← hobw, ← hov]
  clear hobw hov
  have hdv : ((os.length : Int)).tdiv 4 = (m : Int) := by rw [Int.tdiv_eq_ediv_of_nonneg (by omega), hm]; omega
  have HM : Hid (os.length = 4 * m) := hm
  have hmb : os.length ≤ 6160000000000 := by omega
  have HR : Hid (w.ownsRow B 84 9 v L.length (L.flatMap (fun o : Ob => o.arr.toList))) := hr
  have HB : Hid (B ≤ w.heap.size) := hB
  subst e5 e1
  clear h hm hr hB
  go_enter Tryz.func56, Tryz.ntmps56
  go_wp2_with fail
  generalize hcc : (9000 + (m : Int)) = c at *
  have HCC : Hid ((9000 + (m : Int)) = c) := hcc
  clear hcc hdv p5
  go_loopw [6] (fun i wr => ∃ k : Nat, k ≤ L.length ∧ i = .int .i64 k ∧ Hid (wr.ownsRow B 84 9 (.slice ad L.length cap) L.length ((List.replicate k (mkO c) ++ L.drop k).flatMap (fun o : Ob => o.arr.toList))) ∧ Hid (WIs wr wb sh (.slice ao5 os.length cap5) be os es) ∧ Hid (wr.heap[w.heap.size]? = some (.cells #[Value.int .u8 0, .string ⟨#[]⟩, .int .i64 c, .int .i64 0, .int .i64 0, .int .i64 0, .int .i64 0, .int .u8 0, .bool false] 84 (0, 0))) ∧ Hid (KeptC (Aside w wb obw ov) w wr)) (fun i _ => L.length - (intOf i).toNat)
  case atStart =>
    have hB1 : Below w.heap.size w (w.alloc (.cells #[Value.int .u8 0, .string ⟨#[]⟩, .int .i64 c, .int .i64 0, .int .i64 0, .int .i64 0, .int .i64 0, .int .u8 0, .bool false] 84)) := belowAl (Below.refl _ _) _
    exact ⟨0, Nat.zero_le _, rfl, own_keep HR.out (fun k e => hB1.block k (own_lt HR.out e)), H.out.below hB1, alloc_last w _, KeptC.of_below hB1 rfl⟩
  case round =>
    obtain ⟨k, hk, rfl, HRo, HW, G5, HK⟩ := hrel
    have hbl : w.heap.size < wr.heap.size := (Array.getElem?_eq_some_iff.1 G5.out).1
    by_cases hkl : k < L.length
    · obtain ⟨g, rfl⟩ : ∃ g, ad = some ⟨g, 0, none⟩ := by
        rcases HR.out.2 with ⟨_, h2⟩ | ⟨g, cap', cur, h1, _⟩
        · omega
        · injection h1 with a; exact ⟨g, a⟩
      have hgl : g < w.heap.size := own_lt HR.out rfl
      have HOV : Hid (ov = some g) := HOV0.out
      have hro : ∀ t, t < 9 → ∃ y, wr.cell? ⟨g, k * 9 + t, none⟩ = some y := by
        intro t ht
        have hlen : ((List.replicate k (mkO c) ++ L.drop k).flatMap (fun o : Ob => o.arr.toList)).length = L.length * 9 := by
          rw [flatMap_len (fun o : Ob => o.arr.toList) 9 (fun _ => rfl)]
          simp
          omega
        have h1 : k * 9 + t < ((List.replicate k (mkO c) ++ L.drop k).flatMap (fun o : Ob => o.arr.toList)).length := by rw [hlen]; omega
        have := HRo.out.cells (g := g) rfl (k * 9 + t) _ (List.getElem?_eq_getElem h1)
        rw [Addr.add_lit, Nat.zero_add] at this
        exact ⟨_, this⟩
      obtain ⟨r0, hr0⟩ := hro 0 (by omega)
      obtain ⟨r1, hr1⟩ := hro 1 (by omega)
      obtain ⟨r2, hr2⟩ := hro 2 (by omega)
      obtain ⟨r3, hr3⟩ := hro 3 (by omega)
      obtain ⟨r4, hr4⟩ := hro 4 (by omega)
      obtain ⟨r5, hr5⟩ := hro 5 (by omega)
      obtain ⟨r6, hr6⟩ := hro 6 (by omega)
      obtain ⟨r7, hr7⟩ := hro 7 (by omega)
      obtain ⟨r8, hr8⟩ := hro 8 (by omega)
      simp only [Nat.add_zero] at hr0
      have hfz : ∀ t, wr.frozen? ⟨g, t, none⟩ = false := fun t => own_frozen HRo.out t
      have x0 : wr.cell? ⟨w.heap.size, 0, none⟩ = some (.int .u8 0) := by simp [World.cell?, G5.out]
      have x1 : wr.cell? ⟨w.heap.size, 1, none⟩ = some (.string ⟨#[]⟩) := by simp [World.cell?, G5.out]
      have x2 : wr.cell? ⟨w.heap.size, 2, none⟩ = some (.int .i64 c) := by simp [World.cell?, G5.out]
      have x3 : wr.cell? ⟨w.heap.size, 3, none⟩ = some (.int .i64 0) := by simp [World.cell?, G5.out]
      have x4 : wr.cell? ⟨w.heap.size, 4, none⟩ = some (.int .i64 0) := by simp [World.cell?, G5.out]
      have x5 : wr.cell? ⟨w.heap.size, 5, none⟩ = some (.int .i64 0) := by simp [World.cell?, G5.out]
      have x6 : wr.cell? ⟨w.heap.size, 6, none⟩ = some (.int .i64 0) := by simp [World.cell?, G5.out]
      have x7 : wr.cell? ⟨w.heap.size, 7, none⟩ = some (.int .u8 0) := by simp [World.cell?, G5.out]
      have x8 : wr.cell? ⟨w.heap.size, 8, none⟩ = some (.bool false) := by simp [World.cell?, G5.out]
      have hne : g ≠ w.heap.size := by omega
      have hne2 : w.heap.size ≠ g := by omega
      have hgw : g < wr.heap.size := by omega
      have hki : ((k : Int) < (L.length : Int)) := by omega
      clear hro
      go_wp2
      go_roundw
      case rel =>
        have hgr : wr.grownBy (((((((((wr.setCell ⟨g, k * 9, none⟩ (.int .u8 0)).setCell ⟨g, k * 9 + 1, none⟩ (.string ⟨#[]⟩)).setCell ⟨g, k * 9 + 2, none⟩ (.int .i64 c)).setCell ⟨g, k * 9 + 3, none⟩ (.int .i64 0)).setCell ⟨g, k * 9 + 4, none⟩ (.int .i64 0)).setCell ⟨g, k * 9 + 5, none⟩ (.int .i64 0)).setCell ⟨g, k * 9 + 6, none⟩ (.int .i64 0)).setCell ⟨g, k * 9 + 7, none⟩ (.int .u8 0)).setCell ⟨g, k * 9 + 8, none⟩ (.bool false)) (some g) := (grown_trans (grown_trans (grown_trans (grown_trans (grown_trans (grown_trans (grown_trans (grown_trans (grown_set (k * 9) (.int .u8 0)) (grown_set (k * 9 + 1) (.string ⟨#[]⟩))) (grown_set (k * 9 + 2) (.int .i64 c))) (grown_set (k * 9 + 3) (.int .i64 0))) (grown_set (k * 9 + 4) (.int .i64 0))) (grown_set (k * 9 + 5) (.int .i64 0))) (grown_set (k * 9 + 6) (.int .i64 0))) (grown_set (k * 9 + 7) (.int .u8 0))) (grown_set (k * 9 + 8) (.bool false)))
        refine ⟨k + 1, by omega, by simp, ?_, HW.out.rowE (by decide) (by decide) (by decide) HRo.out hgr, (hgr.block w.heap.size hbl (fun e => by injection e with e; omega)).trans G5.out, (((((((((HK.out.set (a := ⟨g, k * 9, none⟩) (fun hA => hA.2.2.2 HOV.out) (.int .u8 0)).set (a := ⟨g, k * 9 + 1, none⟩) (fun hA => hA.2.2.2 HOV.out) (.string ⟨#[]⟩)).set (a := ⟨g, k * 9 + 2, none⟩) (fun hA => hA.2.2.2 HOV.out) (.int .i64 c)).set (a := ⟨g, k * 9 + 3, none⟩) (fun hA => hA.2.2.2 HOV.out) (.int .i64 0)).set (a := ⟨g, k * 9 + 4, none⟩) (fun hA => hA.2.2.2 HOV.out) (.int .i64 0)).set (a := ⟨g, k * 9 + 5, none⟩) (fun hA => hA.2.2.2 HOV.out) (.int .i64 0)).set (a := ⟨g, k * 9 + 6, none⟩) (fun hA => hA.2.2.2 HOV.out) (.int .i64 0)).set (a := ⟨g, k * 9 + 7, none⟩) (fun hA => hA.2.2.2 HOV.out) (.int .u8 0)).set (a := ⟨g, k * 9 + 8, none⟩) (fun hA => hA.2.2.2 HOV.out) (.bool false))⟩
        have e := flatMap_put (fun o : Ob => o.arr.toList) 9 (fun _ => rfl) (by omega) (List.replicate k (mkO c) ++ L.drop k) k (by simp; omega) (mkO c)
        rw [rep_drop L (mkO c) k hkl] at e
        rw [← e]
        exact (own_set (own_set (own_set (own_set (own_set (own_set (own_set (own_set (own_set HRo.out (k * 9) (.int .u8 0)) (k * 9 + 1) (.string ⟨#[]⟩)) (k * 9 + 2) (.int .i64 c)) (k * 9 + 3) (.int .i64 0)) (k * 9 + 4) (.int .i64 0)) (k * 9 + 5) (.int .i64 0)) (k * 9 + 6) (.int .i64 0)) (k * 9 + 7) (.int .u8 0)) (k * 9 + 8) (.bool false))
      case measure => simp [intOf]; omega
    · have hkn : k = L.length := by omega
      subst hkn
      have hki : ¬ ((L.length : Int) < (L.length : Int)) := by omega
      have HRo2 : Hid (wr.ownsRow B 84 9 (.slice ad L.length cap) L.length ((List.replicate L.length (mkO c)).flatMap (fun o : Ob => o.arr.toList))) := by
        have := HRo.out
        rw [List.drop_length, List.append_nil] at this
        exact this
      clear HRo
      have HAD : Hid (∀ j, (Value.slice ad L.length cap).ownBlock = some j → j ≠ w.heap.size) := fun j e => by have := own_lt HR.out e; omega
      go_wp2
      go_loopw [1, 7] (fun vr i wr => ∃ (k : Nat) (b' : Value) (ns : List Value), k ≤ 4 ∧ i = .int .i64 k ∧ Hid (wr.ownsRow B 84 9 vr (L.length + k) ((List.replicate (L.length + k) (mkO c)).flatMap (fun o : Ob => o.arr.toList))) ∧ Hid (WIs wr wb sh b' be (os ++ ns) es) ∧ Hid (ns.length = k) ∧ Hid (∀ x ∈ ns, ∃ n, n ≤ L.length + k ∧ wr.ownsRow B 84 9 x n ((List.replicate n (mkO c)).flatMap (fun o : Ob => o.arr.toList))) ∧ Hid (b'.ownBlock = obw ∨ ∀ j, b'.ownBlock = some j → w.heap.size ≤ j) ∧ Hid (vr.ownBlock = ov ∨ ∀ j, vr.ownBlock = some j → w.heap.size < j) ∧ Hid (wr.heap[w.heap.size]? = some (.cells #[Value.int .u8 0, .string ⟨#[]⟩, .int .i64 c, .int .i64 0, .int .i64 0, .int .i64 0, .int .i64 0, .int .u8 0, .bool false] 84 (0, 0))) ∧ Hid (KeptC (Aside w wb obw ov) w wr)) (fun _ i _ => 4 - (intOf i).toNat)
      case atStart =>
        exact ⟨0, _, [], by omega, rfl, HRo2.out, by show WIs _ wb sh _ be (os ++ []) es; rw [List.append_nil]; exact HW.out, rfl, (fun x hx => by simp at hx), Or.inl HOB.out.symm, Or.inl HOV0.out.symm, G5.out, HK.out⟩
      case round =>
        clear HRo2 HW HK G5 hbl
        obtain ⟨k, b', ns, hk4, rfl, HRo, HW, HN, HKs, HO5, HO1, G5, HK⟩ := hrel
        have hbl : w.heap.size < wr.heap.size := (Array.getElem?_eq_some_iff.1 G5.out).1
        by_cases hkl : k < 4
        · obtain ⟨LL, hL⟩ : ∃ LL, LL = os ++ ns := ⟨_, rfl⟩
          have HLL : Hid (LL.length = os.length + ns.length) := by show LL.length = _; rw [hL, List.length_append]
          rw [← hL] at HW
          have HL : Hid (LL = os ++ ns) := hL
          clear hL
          obtain ⟨ao', cap', eb⟩ := own_form HW.out.ow
          obtain ⟨ad2, cap2, ev⟩ := own_form HRo.out
          subst eb ev
          have p5 := HW.out.p3
          have hltr := HW.out.lt
          have hki : ((k : Int) < 4) := by omega
          have hLLb : LL.length ≤ 6200000000000 := by have := HLL.out; have := HN.out; omega
          have x0 : wr.cell? ⟨w.heap.size, 0, none⟩ = some (.int .u8 0) := by simp [World.cell?, G5.out]
          have x1 : wr.cell? ⟨w.heap.size, 1, none⟩ = some (.string ⟨#[]⟩) := by simp [World.cell?, G5.out]
          have x2 : wr.cell? ⟨w.heap.size, 2, none⟩ = some (.int .i64 c) := by simp [World.cell?, G5.out]
          have x3 : wr.cell? ⟨w.heap.size, 3, none⟩ = some (.int .i64 0) := by simp [World.cell?, G5.out]
          have x4 : wr.cell? ⟨w.heap.size, 4, none⟩ = some (.int .i64 0) := by simp [World.cell?, G5.out]
          have x5 : wr.cell? ⟨w.heap.size, 5, none⟩ = some (.int .i64 0) := by simp [World.cell?, G5.out]
          have x6 : wr.cell? ⟨w.heap.size, 6, none⟩ = some (.int .i64 0) := by simp [World.cell?, G5.out]
          have x7 : wr.cell? ⟨w.heap.size, 7, none⟩ = some (.int .u8 0) := by simp [World.cell?, G5.out]
          have x8 : wr.cell? ⟨w.heap.size, 8, none⟩ = some (.bool false) := by simp [World.cell?, G5.out]
          have hnwb : wb ≠ w.heap.size := by have := H.out.lt; omega
          go_wp2_with (first
            | (at_builtin; refine push_listW wr (.slice ad2 (L.length + k) cap2) rfl rfl _ _ rfl 0 (.slice ao' LL.length cap') LL rfl rfl HW.out.ow hLLb (Nat.zero_le _) rfl ?_; intro g3 cap3 w3 hown' hg3 hat3 hlt3
               have hWA := HW.out.below (belowAl (Below.refl _ _) (.cells #[.slice ad2 (L.length + k) cap2] 44))
               have er : w3.heap[wb]? = some (.cells (wArr sh (.slice ao' LL.length cap') be) 81 (0, 0)) := (hg3.block wb hWA.lt (fun e => hWA.ne3 e.symm)).trans hWA.blk
               have c3 : w3.cell? ⟨wb, 3, none⟩ = some (.slice ao' LL.length cap') := by simp [World.cell?, er, wArr]
               have f3 : w3.frozen? ⟨wb, 3, none⟩ = false := by simp [World.frozen?, er]
               have HG3 : Hid ((wr.alloc (.cells #[.slice ad2 (L.length + k) cap2] 44)).grownBy w3 (Value.slice ao' LL.length cap').ownBlock) := hg3
               have HAT3 : Hid ((Value.slice ao' LL.length cap').ownBlock = some g3 ∨ g3 = wr.heap.size + 1) := hat3
               have HWA : Hid _ := hWA
               have HW4 : Hid (WIs (w3.setCell ⟨wb, 3, none⟩ (.slice (some ⟨g3, 0, none⟩) (LL.length + 1) cap3)) wb sh (.slice (some ⟨g3, 0, none⟩) (LL.length + 1) cap3) be (LL ++ [.slice ad2 (L.length + k) cap2]) es) := hWA.set3 hg3 hown'
               have HR4 : Hid ((w3.setCell ⟨wb, 3, none⟩ (.slice (some ⟨g3, 0, none⟩) (LL.length + 1) cap3)).ownsRow B 84 9 (.slice ad2 (L.length + k) cap2) (L.length + k) ((List.replicate (L.length + k) (mkO c)).flatMap (fun o : Ob => o.arr.toList))) := hWA.row3 hg3 _ (by decide) (by decide) (HRo.out.alloc _)
               have hg5 : (w3.setCell ⟨wb, 3, none⟩ (.slice (some ⟨g3, 0, none⟩) (LL.length + 1) cap3)).heap[w.heap.size]? = some (.cells #[Value.int .u8 0, .string ⟨#[]⟩, .int .i64 c, .int .i64 0, .int .i64 0, .int .i64 0, .int .i64 0, .int .u8 0, .bool false] 84 (0, 0)) := by
                 rw [Below.heap_setCell _ _ _ _ (by show w.heap.size ≠ wb; omega), hg3.block w.heap.size (by simp; omega) (fun e => by
                   obtain ⟨c2, hc2⟩ := own_typ hWA.ow w.heap.size e.symm
                   have h5 : (wr.alloc (.cells #[.slice ad2 (L.length + k) cap2] 44)).heap[w.heap.size]? = some (.cells #[Value.int .u8 0, .string ⟨#[]⟩, .int .i64 c, .int .i64 0, .int .i64 0, .int .i64 0, .int .i64 0, .int .u8 0, .bool false] 84 (0, 0)) := (Below.heap_alloc _ _ _ hbl).trans G5.out
                   exact ne_typ hc2 h5 (by decide) rfl), Below.heap_alloc _ _ _ hbl]
                 exact G5.out
               have HG5 : Hid _ := hg5
               have z0 : (w3.setCell ⟨wb, 3, none⟩ (.slice (some ⟨g3, 0, none⟩) (LL.length + 1) cap3)).cell? ⟨w.heap.size, 0, none⟩ = some (.int .u8 0) := by simp [World.cell?, hg5]
               have z1 : (w3.setCell ⟨wb, 3, none⟩ (.slice (some ⟨g3, 0, none⟩) (LL.length + 1) cap3)).cell? ⟨w.heap.size, 1, none⟩ = some (.string ⟨#[]⟩) := by simp [World.cell?, hg5]
               have z2 : (w3.setCell ⟨wb, 3, none⟩ (.slice (some ⟨g3, 0, none⟩) (LL.length + 1) cap3)).cell? ⟨w.heap.size, 2, none⟩ = some (.int .i64 c) := by simp [World.cell?, hg5]
               have z3 : (w3.setCell ⟨wb, 3, none⟩ (.slice (some ⟨g3, 0, none⟩) (LL.length + 1) cap3)).cell? ⟨w.heap.size, 3, none⟩ = some (.int .i64 0) := by simp [World.cell?, hg5]
               have z4 : (w3.setCell ⟨wb, 3, none⟩ (.slice (some ⟨g3, 0, none⟩) (LL.length + 1) cap3)).cell? ⟨w.heap.size, 4, none⟩ = some (.int .i64 0) := by simp [World.cell?, hg5]
               have z5 : (w3.setCell ⟨wb, 3, none⟩ (.slice (some ⟨g3, 0, none⟩) (LL.length + 1) cap3)).cell? ⟨w.heap.size, 5, none⟩ = some (.int .i64 0) := by simp [World.cell?, hg5]
               have z6 : (w3.setCell ⟨wb, 3, none⟩ (.slice (some ⟨g3, 0, none⟩) (LL.length + 1) cap3)).cell? ⟨w.heap.size, 6, none⟩ = some (.int .i64 0) := by simp [World.cell?, hg5]
               have z7 : (w3.setCell ⟨wb, 3, none⟩ (.slice (some ⟨g3, 0, none⟩) (LL.length + 1) cap3)).cell? ⟨w.heap.size, 7, none⟩ = some (.int .u8 0) := by simp [World.cell?, hg5]
               have z8 : (w3.setCell ⟨wb, 3, none⟩ (.slice (some ⟨g3, 0, none⟩) (LL.length + 1) cap3)).cell? ⟨w.heap.size, 8, none⟩ = some (.bool false) := by simp [World.cell?, hg5]
               have hbl4 : w.heap.size < (w3.setCell ⟨wb, 3, none⟩ (.slice (some ⟨g3, 0, none⟩) (LL.length + 1) cap3)).heap.size := (Array.getElem?_eq_some_iff.1 hg5).1
               have hB4 : Hid (B ≤ (w3.setCell ⟨wb, 3, none⟩ (.slice (some ⟨g3, 0, none⟩) (LL.length + 1) cap3)).heap.size) := by have := HB.out; show _ ≤ _; omega
               clear hown' hg3 hat3 er hg5 hWA x0 x1 x2 x3 x4 x5 x6 x7 x8
               go_frame)
            | (at_builtin; refine push_keeps (w3.setCell ⟨wb, 3, none⟩ (.slice (some ⟨g3, 0, none⟩) (LL.length + 1) cap3)) (mkO c) rfl rfl _ _ rfl B (.slice ad2 (L.length + k) cap2) (L.length + k) ((List.replicate (L.length + k) (mkO c)).flatMap (fun o : Ob => o.arr.toList)) rfl w3.heap.size (by simp [World.setCell]) rfl HR4.out (by omega) hB4.out ?_; intro v4 w5 hown4 hg4 hat4 hkp4; go_frame)
            | go_in)
          go_roundw
          case rel =>
            obtain ⟨ad4, cap4, e4⟩ := own_form hown4
            have hsz3 : wr.heap.size ≤ w3.heap.size := by have := HG3.out.size; simp at this; omega
            have hw1 := HK.out.size
            refine ⟨k + 1, .slice (some ⟨g3, 0, none⟩) (LL.length + 1) cap3, ns ++ [.slice ad2 (L.length + k) cap2], by omega, by simp, ?_, ?_, ?_, ?_, ?_, ?_, ?_, ?_⟩
            · have := hown4
              rw [show (List.replicate (L.length + k) (mkO c)).flatMap (fun o : Ob => o.arr.toList) ++ (mkO c).arr.toList = (List.replicate (L.length + (k + 1)) (mkO c)).flatMap (fun o : Ob => o.arr.toList) by rw [← Nat.add_assoc, List.replicate_succ', List.flatMap_append]; simp] at this
              exact this
            · show WIs w5 wb sh _ be (os ++ (ns ++ _)) es
              rw [← List.append_assoc, ← HL.out]
              exact (HW4.out.below (belowAl (Below.refl _ _) (.cells #[Value.int .u8 0, .string ⟨#[]⟩, .int .i64 c, .int .i64 0, .int .i64 0, .int .i64 0, .int .i64 0, .int .u8 0, .bool false] 84))).rowE (by decide) (by decide) (by decide) (HR4.out.alloc _) hg4
            · show (ns ++ [_]).length = k + 1
              rw [List.length_append, HN.out]; rfl
            · intro x hx
              have old : ∀ {y : Value} {n : Nat}, n ≤ L.length + k → wr.ownsRow B 84 9 y n ((List.replicate n (mkO c)).flatMap (fun o : Ob => o.arr.toList)) → w5.ownsRow B 84 9 y n ((List.replicate n (mkO c)).flatMap (fun o : Ob => o.arr.toList)) := by
                intro y n hn ho
                exact hkp4 _ _ _ _ (HWA.out.row3 HG3.out _ (by decide) (by decide) (ho.alloc _)) hn
              rcases List.mem_append.1 hx with hx | hx
              · obtain ⟨n, hn, ho⟩ := HKs.out x hx
                exact ⟨n, by omega, old hn ho⟩
              · simp at hx
                subst hx
                exact ⟨L.length + k, by omega, old (Nat.le_refl _) HRo.out⟩
            · rcases HAT3.out with e | e
              · refine HO5.out.imp (fun e2 => ?_) (fun h2 j hj => ?_)
                · rw [← e2, e]; rfl
                · have hj2 : g3 = j := by simpa [Value.ownBlock] using hj
                  exact h2 j (by rw [e, hj2])
              · refine Or.inr (fun j hj => ?_)
                have hj2 : g3 = j := by simpa [Value.ownBlock] using hj
                omega
            · rcases hat4 with e | e
              · exact HO1.out.imp (fun e2 => e.trans e2) (fun h2 j hj => h2 j (e.symm.trans hj))
              · refine Or.inr (fun j hj => ?_)
                rw [e] at hj
                have hs4 : (w3.setCell ⟨wb, 3, none⟩ (.slice (some ⟨g3, 0, none⟩) (LL.length + 1) cap3)).heap.size = w3.heap.size := by simp [World.setCell]
                rw [hs4] at hj
                injection hj with hj
                omega
            · refine (hg4.block w.heap.size (by simp [World.setCell]; omega) (fun e => ?_)).trans ((Below.heap_alloc _ _ _ hbl4).trans HG5.out)
              rcases HO1.out with e2 | e2
              · rw [e2, HOV0.out] at e
                exact HAD.out _ e.symm rfl
              · exact Nat.lt_irrefl _ (e2 _ e.symm)
            · have n5 : ∀ j, (Value.slice ao' LL.length cap').ownBlock = some j → ¬ Aside w wb obw ov j := fun j hj hA => HO5.out.elim (fun e => hA.2.2.1 (e.symm.trans hj)) (fun h2 => by have := h2 j hj; have := hA.1; omega)
              have n1 : ∀ j, (Value.slice ad2 (L.length + k) cap2).ownBlock = some j → ¬ Aside w wb obw ov j := fun j hj hA => HO1.out.elim (fun e => hA.2.2.2 (e.symm.trans hj)) (fun h2 => by have := h2 j hj; have := hA.1; omega)
              exact ((((HK.out.alloc _).grown HG3.out n5).set (a := ⟨wb, 3, none⟩) (fun hA => hA.2.1 rfl) _).alloc _).grown hg4 n1
          case measure => simp [intOf]; omega
        · have hk4e : k = 4 := by omega
          subst hk4e
          have hki : ¬ ((4 : Int) < 4) := by omega
          go_wp2
          go_end0
          refine ⟨rfl, b', ns, HW.out, HN.out, fun x hx => ?_, HO5.out, HK.out⟩
          obtain ⟨n, hn, ho⟩ := HKs.out x hx
          rw [HCC.out]
          exact ⟨n, by omega, ho⟩

set_option maxRecDepth 100000 in
set_option maxHeartbeats 2000000 in
theorem event_any {w : World} {wb : Nat} {sh bo be : Value} {os es : List Value} {m : Nat} (h : WIs w wb sh bo be os es) (hm : es.length = 4 * m) (hm2 : m ≤ 1540000000000) {B : Nat} {v : Value} {L : List (Int × Ob)} (hr : w.ownsRow B 170 10 v L.length (L.flatMap evP)) (hB : B ≤ w.heap.size) (hx : L.length ≤ 64) :
    Calls Tryz.prog 66 #[.pointer (some ⟨wb, 3, none⟩), v] w fun e w' => e = .returned (.tuple #[]) ∧ ∃ b' ns, WIs w' wb sh bo b' os (es ++ ns) ∧ ns.length = 4 ∧ (∀ x ∈ ns, KE w' B (9000 + m) x) ∧ (b'.ownBlock = be.ownBlock ∨ ∀ k, b'.ownBlock = some k → w.heap.size ≤ k) ∧ KeptC (Aside w wb be.ownBlock v.ownBlock) w w' := by
  have p5 := h.p4
  have hlt := h.lt
  have H : Hid (WIs w wb sh bo be os es) := h
  obtain ⟨ao5, cap5, e5⟩ := own_form h.od
  obtain ⟨ad, cap, e1⟩ := own_form hr
  obtain ⟨obw, hobw⟩ : ∃ x, x = be.ownBlock := ⟨_, rfl⟩
  obtain ⟨ov, hov⟩ : ∃ x, x = v.ownBlock := ⟨_, rfl⟩
  have HOB : Hid (obw = be.ownBlock) := hobw
  have HOV0 : Hid (ov = v.ownBlock) := hov
  rw [← hobw, ← hov]
  clear hobw hov
  have hdv : ((es.length : Int)).tdiv 4 = (m : Int) := by rw [Int.tdiv_eq_ediv_of_nonneg (by omega), hm]; omega
  have HM : Hid (es.length = 4 * m) := hm
  have hmb : es.length ≤ 6160000000000 := by omega
  have HR : Hid (w.ownsRow B 170 10 v L.length (L.flatMap evP)) := hr
  have HB : Hid (B ≤ w.heap.size) := hB
  subst e5 e1
  clear h hm hr hB
  go_enter Tryz.func66, Tryz.ntmps66
  go_wp2_with fail
  generalize hcc : (9000 + (m : Int)) = c at *
  have HCC : Hid ((9000 + (m : Int)) = c) := hcc
  clear hcc hdv p5
  go_loopw [6] (fun i wr => ∃ k : Nat, k ≤ L.length ∧ i = .int .i64 k ∧ Hid (wr.ownsRow B 170 10 (.slice ad L.length cap) L.length ((List.replicate k (mkE c) ++ L.drop k).flatMap evP)) ∧ Hid (WIs wr wb sh bo (.slice ao5 es.length cap5) os es) ∧ Hid (wr.heap[w.heap.size]? = some (.cells #[Value.int .u8 0, .int .u8 0, .string ⟨#[]⟩, .int .i64 c, .int .i64 0, .int .i64 0, .int .i64 0, .int .i64 0, .int .u8 0, .bool false] 170 (0, 0))) ∧ Hid (KeptC (Aside w wb obw ov) w wr)) (fun i _ => L.length - (intOf i).toNat)
  case atStart =>
    have hB1 : Below w.heap.size w (w.alloc (.cells #[Value.int .u8 0, .int .u8 0, .string ⟨#[]⟩, .int .i64 c, .int .i64 0, .int .i64 0, .int .i64 0, .int .i64 0, .int .u8 0, .bool false] 170)) := belowAl (Below.refl _ _) _
    exact ⟨0, Nat.zero_le _, rfl, own_keep HR.out (fun k e => hB1.block k (own_lt HR.out e)), H.out.below hB1, alloc_last w _, KeptC.of_below hB1 rfl⟩
  case round =>
    obtain ⟨k, hk, rfl, HRo, HW, G5, HK⟩ := hrel
    have hbl : w.heap.size < wr.heap.size := (Array.getElem?_eq_some_iff.1 G5.out).1
    by_cases hkl : k < L.length
    · obtain ⟨g, rfl⟩ : ∃ g, ad = some ⟨g, 0, none⟩ := by
        rcases HR.out.2 with ⟨_, h2⟩ | ⟨g, cap', cur, h1, _⟩
        · omega
        · injection h1 with a; exact ⟨g, a⟩
      have hgl : g < w.heap.size := own_lt HR.out rfl
      have HOV : Hid (ov = some g) := HOV0.out
      have hro : ∀ t, t < 10 → ∃ y, wr.cell? ⟨g, k * 10 + t, none⟩ = some y := by
        intro t ht
        have hlen : ((List.replicate k (mkE c) ++ L.drop k).flatMap evP).length = L.length * 10 := by
          rw [flatMap_len evP 10 (fun _ => rfl)]
          simp
          omega
        have h1 : k * 10 + t < ((List.replicate k (mkE c) ++ L.drop k).flatMap evP).length := by rw [hlen]; omega
        have := HRo.out.cells (g := g) rfl (k * 10 + t) _ (List.getElem?_eq_getElem h1)
        rw [Addr.add_lit, Nat.zero_add] at this
        exact ⟨_, this⟩
      obtain ⟨r0, hr0⟩ := hro 0 (by omega)
      obtain ⟨r1, hr1⟩ := hro 1 (by omega)
      obtain ⟨r2, hr2⟩ := hro 2 (by omega)
      obtain ⟨r3, hr3⟩ := hro 3 (by omega)
      obtain ⟨r4, hr4⟩ := hro 4 (by omega)
      obtain ⟨r5, hr5⟩ := hro 5 (by omega)
      obtain ⟨r6, hr6⟩ := hro 6 (by omega)
      obtain ⟨r7, hr7⟩ := hro 7 (by omega)
      obtain ⟨r8, hr8⟩ := hro 8 (by omega)
      obtain ⟨r9, hr9⟩ := hro 9 (by omega)
      simp only [Nat.add_zero] at hr0
      have hfz : ∀ t, wr.frozen? ⟨g, t, none⟩ = false := fun t => own_frozen HRo.out t
      have x0 : wr.cell? ⟨w.heap.size, 0, none⟩ = some (.int .u8 0) := by simp [World.cell?, G5.out]
      have x1 : wr.cell? ⟨w.heap.size, 1, none⟩ = some (.int .u8 0) := by simp [World.cell?, G5.out]
      have x2 : wr.cell? ⟨w.heap.size, 2, none⟩ = some (.string ⟨#[]⟩) := by simp [World.cell?, G5.out]
      have x3 : wr.cell? ⟨w.heap.size, 3, none⟩ = some (.int .i64 c) := by simp [World.cell?, G5.out]
      have x4 : wr.cell? ⟨w.heap.size, 4, none⟩ = some (.int .i64 0) := by simp [World.cell?, G5.out]
      have x5 : wr.cell? ⟨w.heap.size, 5, none⟩ = some (.int .i64 0) := by simp [World.cell?, G5.out]
      have x6 : wr.cell? ⟨w.heap.size, 6, none⟩ = some (.int .i64 0) := by simp [World.cell?, G5.out]
      have x7 : wr.cell? ⟨w.heap.size, 7, none⟩ = some (.int .i64 0) := by simp [World.cell?, G5.out]
      have x8 : wr.cell? ⟨w.heap.size, 8, none⟩ = some (.int .u8 0) := by simp [World.cell?, G5.out]
      have x9 : wr.cell? ⟨w.heap.size, 9, none⟩ = some (.bool false) := by simp [World.cell?, G5.out]
      have hne : g ≠ w.heap.size := by omega
      have hne2 : w.heap.size ≠ g := by omega
      have hgw : g < wr.heap.size := by omega
      have hki : ((k : Int) < (L.length : Int)) := by omega
      clear hro
      go_wp2
      go_roundw
      case rel =>
        have hgr : wr.grownBy ((((((((((wr.setCell ⟨g, k * 10, none⟩ (.int .u8 0)).setCell ⟨g, k * 10 + 1, none⟩ (.int .u8 0)).setCell ⟨g, k * 10 + 2, none⟩ (.string ⟨#[]⟩)).setCell ⟨g, k * 10 + 3, none⟩ (.int .i64 c)).setCell ⟨g, k * 10 + 4, none⟩ (.int .i64 0)).setCell ⟨g, k * 10 + 5, none⟩ (.int .i64 0)).setCell ⟨g, k * 10 + 6, none⟩ (.int .i64 0)).setCell ⟨g, k * 10 + 7, none⟩ (.int .i64 0)).setCell ⟨g, k * 10 + 8, none⟩ (.int .u8 0)).setCell ⟨g, k * 10 + 9, none⟩ (.bool false)) (some g) := (grown_trans (grown_trans (grown_trans (grown_trans (grown_trans (grown_trans (grown_trans (grown_trans (grown_trans (grown_set (k * 10) (.int .u8 0)) (grown_set (k * 10 + 1) (.int .u8 0))) (grown_set (k * 10 + 2) (.string ⟨#[]⟩))) (grown_set (k * 10 + 3) (.int .i64 c))) (grown_set (k * 10 + 4) (.int .i64 0))) (grown_set (k * 10 + 5) (.int .i64 0))) (grown_set (k * 10 + 6) (.int .i64 0))) (grown_set (k * 10 + 7) (.int .i64 0))) (grown_set (k * 10 + 8) (.int .u8 0))) (grown_set (k * 10 + 9) (.bool false)))
        refine ⟨k + 1, by omega, by simp, ?_, HW.out.rowE (by decide) (by decide) (by decide) HRo.out hgr, (hgr.block w.heap.size hbl (fun e => by injection e with e; omega)).trans G5.out, ((((((((((HK.out.set (a := ⟨g, k * 10, none⟩) (fun hA => hA.2.2.2 HOV.out) (.int .u8 0)).set (a := ⟨g, k * 10 + 1, none⟩) (fun hA => hA.2.2.2 HOV.out) (.int .u8 0)).set (a := ⟨g, k * 10 + 2, none⟩) (fun hA => hA.2.2.2 HOV.out) (.string ⟨#[]⟩)).set (a := ⟨g, k * 10 + 3, none⟩) (fun hA => hA.2.2.2 HOV.out) (.int .i64 c)).set (a := ⟨g, k * 10 + 4, none⟩) (fun hA => hA.2.2.2 HOV.out) (.int .i64 0)).set (a := ⟨g, k * 10 + 5, none⟩) (fun hA => hA.2.2.2 HOV.out) (.int .i64 0)).set (a := ⟨g, k * 10 + 6, none⟩) (fun hA => hA.2.2.2 HOV.out) (.int .i64 0)).set (a := ⟨g, k * 10 + 7, none⟩) (fun hA => hA.2.2.2 HOV.out) (.int .i64 0)).set (a := ⟨g, k * 10 + 8, none⟩) (fun hA => hA.2.2.2 HOV.out) (.int .u8 0)).set (a := ⟨g, k * 10 + 9, none⟩) (fun hA => hA.2.2.2 HOV.out) (.bool false))⟩
        have e := flatMap_put evP 10 (fun _ => rfl) (by omega) (List.replicate k (mkE c) ++ L.drop k) k (by simp; omega) (mkE c)
        rw [rep_drop L (mkE c) k hkl] at e
        rw [← e]
        exact (own_set (own_set (own_set (own_set (own_set (own_set (own_set (own_set (own_set (own_set HRo.out (k * 10) (.int .u8 0)) (k * 10 + 1) (.int .u8 0)) (k * 10 + 2) (.string ⟨#[]⟩)) (k * 10 + 3) (.int .i64 c)) (k * 10 + 4) (.int .i64 0)) (k * 10 + 5) (.int .i64 0)) (k * 10 + 6) (.int .i64 0)) (k * 10 + 7) (.int .i64 0)) (k * 10 + 8) (.int .u8 0)) (k * 10 + 9) (.bool false))
      case measure => simp [intOf]; omega
    · have hkn : k = L.length := by omega
      subst hkn
      have hki : ¬ ((L.length : Int) < (L.length : Int)) := by omega
      have HRo2 : Hid (wr.ownsRow B 170 10 (.slice ad L.length cap) L.length ((List.replicate L.length (mkE c)).flatMap evP)) := by
        have := HRo.out
        rw [List.drop_length, List.append_nil] at this
        exact this
      clear HRo
      have HAD : Hid (∀ j, (Value.slice ad L.length cap).ownBlock = some j → j ≠ w.heap.size) := fun j e => by have := own_lt HR.out e; omega
      go_wp2
      go_loopw [1, 7] (fun vr i wr => ∃ (k : Nat) (b' : Value) (ns : List Value), k ≤ 4 ∧ i = .int .i64 k ∧ Hid (wr.ownsRow B 170 10 vr (L.length + k) ((List.replicate (L.length + k) (mkE c)).flatMap evP)) ∧ Hid (WIs wr wb sh bo b' os (es ++ ns)) ∧ Hid (ns.length = k) ∧ Hid (∀ x ∈ ns, ∃ n, n ≤ L.length + k ∧ wr.ownsRow B 170 10 x n ((List.replicate n (mkE c)).flatMap evP)) ∧ Hid (b'.ownBlock = obw ∨ ∀ j, b'.ownBlock = some j → w.heap.size ≤ j) ∧ Hid (vr.ownBlock = ov ∨ ∀ j, vr.ownBlock = some j → w.heap.size < j) ∧ Hid (wr.heap[w.heap.size]? = some (.cells #[Value.int .u8 0, .int .u8 0, .string ⟨#[]⟩, .int .i64 c, .int .i64 0, .int .i64 0, .int .i64 0, .int .i64 0, .int .u8 0, .bool false] 170 (0, 0))) ∧ Hid (KeptC (Aside w wb obw ov) w wr)) (fun _ i _ => 4 - (intOf i).toNat)
      case atStart =>
        exact ⟨0, _, [], by omega, rfl, HRo2.out, by show WIs _ wb sh bo _ os (es ++ []); rw [List.append_nil]; exact HW.out, rfl, (fun x hx => by simp at hx), Or.inl HOB.out.symm, Or.inl HOV0.out.symm, G5.out, HK.out⟩
      case round =>
        clear HRo2 HW HK G5 hbl
        obtain ⟨k, b', ns, hk4, rfl, HRo, HW, HN, HKs, HO5, HO1, G5, HK⟩ := hrel
        have hbl : w.heap.size < wr.heap.size := (Array.getElem?_eq_some_iff.1 G5.out).1
        by_cases hkl : k < 4
        · obtain ⟨LL, hL⟩ : ∃ LL, LL = es ++ ns := ⟨_, rfl⟩
          have HLL : Hid (LL.length = es.length + ns.length) := by show LL.length = _; rw [hL, List.length_append]
          rw [← hL] at HW
          have HL : Hid (LL = es ++ ns) := hL
          clear hL
          obtain ⟨ao', cap', eb⟩ := own_form HW.out.od
          obtain ⟨ad2, cap2, ev⟩ := own_form HRo.out
          subst eb ev
          have p5 := HW.out.p4
          have hltr := HW.out.lt
          have hki : ((k : Int) < 4) := by omega
          have hLLb : LL.length ≤ 6200000000000 := by have := HLL.out; have := HN.out; omega
          have x0 : wr.cell? ⟨w.heap.size, 0, none⟩ = some (.int .u8 0) := by simp [World.cell?, G5.out]
          have x1 : wr.cell? ⟨w.heap.size, 1, none⟩ = some (.int .u8 0) := by simp [World.cell?, G5.out]
          have x2 : wr.cell? ⟨w.heap.size, 2, none⟩ = some (.string ⟨#[]⟩) := by simp [World.cell?, G5.out]
          have x3 : wr.cell? ⟨w.heap.size, 3, none⟩ = some (.int .i64 c) := by simp [World.cell?, G5.out]
          have x4 : wr.cell? ⟨w.heap.size, 4, none⟩ = some (.int .i64 0) := by simp [World.cell?, G5.out]
          have x5 : wr.cell? ⟨w.heap.size, 5, none⟩ = some (.int .i64 0) := by simp [World.cell?, G5.out]
          have x6 : wr.cell? ⟨w.heap.size, 6, none⟩ = some (.int .i64 0) := by simp [World.cell?, G5.out]
          have x7 : wr.cell? ⟨w.heap.size, 7, none⟩ = some (.int .i64 0) := by simp [World.cell?, G5.out]
          have x8 : wr.cell? ⟨w.heap.size, 8, none⟩ = some (.int .u8 0) := by simp [World.cell?, G5.out]
          have x9 : wr.cell? ⟨w.heap.size, 9, none⟩ = some (.bool false) := by simp [World.cell?, G5.out]
          have hnwb : wb ≠ w.heap.size := by have := H.out.lt; omega
          go_wp2_with (first
            | (at_builtin; refine push_listE wr (.slice ad2 (L.length + k) cap2) rfl rfl _ _ rfl 0 (.slice ao' LL.length cap') LL rfl rfl HW.out.od hLLb (Nat.zero_le _) rfl ?_; intro g3 cap3 w3 hown' hg3 hat3 hlt3
               have hWA := HW.out.below (belowAl (Below.refl _ _) (.cells #[.slice ad2 (L.length + k) cap2] 139))
               have er : w3.heap[wb]? = some (.cells (wArr sh bo (.slice ao' LL.length cap')) 81 (0, 0)) := (hg3.block wb hWA.lt (fun e => hWA.ne4 e.symm)).trans hWA.blk
               have c3 : w3.cell? ⟨wb, 4, none⟩ = some (.slice ao' LL.length cap') := by simp [World.cell?, er, wArr]
               have f3 : w3.frozen? ⟨wb, 4, none⟩ = false := by simp [World.frozen?, er]
               have HG3 : Hid ((wr.alloc (.cells #[.slice ad2 (L.length + k) cap2] 139)).grownBy w3 (Value.slice ao' LL.length cap').ownBlock) := hg3
               have HAT3 : Hid ((Value.slice ao' LL.length cap').ownBlock = some g3 ∨ g3 = wr.heap.size + 1) := hat3
               have HWA : Hid _ := hWA
               have HW4 : Hid (WIs (w3.setCell ⟨wb, 4, none⟩ (.slice (some ⟨g3, 0, none⟩) (LL.length + 1) cap3)) wb sh bo (.slice (some ⟨g3, 0, none⟩) (LL.length + 1) cap3) os (LL ++ [.slice ad2 (L.length + k) cap2])) := hWA.set4 hg3 hown'
               have HR4 : Hid ((w3.setCell ⟨wb, 4, none⟩ (.slice (some ⟨g3, 0, none⟩) (LL.length + 1) cap3)).ownsRow B 170 10 (.slice ad2 (L.length + k) cap2) (L.length + k) ((List.replicate (L.length + k) (mkE c)).flatMap evP)) := hWA.row4 hg3 _ (by decide) (by decide) (HRo.out.alloc _)
               have hg5 : (w3.setCell ⟨wb, 4, none⟩ (.slice (some ⟨g3, 0, none⟩) (LL.length + 1) cap3)).heap[w.heap.size]? = some (.cells #[Value.int .u8 0, .int .u8 0, .string ⟨#[]⟩, .int .i64 c, .int .i64 0, .int .i64 0, .int .i64 0, .int .i64 0, .int .u8 0, .bool false] 170 (0, 0)) := by
                 rw [Below.heap_setCell _ _ _ _ (by show w.heap.size ≠ wb; omega), hg3.block w.heap.size (by simp; omega) (fun e => by
                   obtain ⟨c2, hc2⟩ := own_typ hWA.od w.heap.size e.symm
                   have h5 : (wr.alloc (.cells #[.slice ad2 (L.length + k) cap2] 139)).heap[w.heap.size]? = some (.cells #[Value.int .u8 0, .int .u8 0, .string ⟨#[]⟩, .int .i64 c, .int .i64 0, .int .i64 0, .int .i64 0, .int .i64 0, .int .u8 0, .bool false] 170 (0, 0)) := (Below.heap_alloc _ _ _ hbl).trans G5.out
                   exact ne_typ hc2 h5 (by decide) rfl), Below.heap_alloc _ _ _ hbl]
                 exact G5.out
               have HG5 : Hid _ := hg5
               have z0 : (w3.setCell ⟨wb, 4, none⟩ (.slice (some ⟨g3, 0, none⟩) (LL.length + 1) cap3)).cell? ⟨w.heap.size, 0, none⟩ = some (.int .u8 0) := by simp [World.cell?, hg5]
               have z1 : (w3.setCell ⟨wb, 4, none⟩ (.slice (some ⟨g3, 0, none⟩) (LL.length + 1) cap3)).cell? ⟨w.heap.size, 1, none⟩ = some (.int .u8 0) := by simp [World.cell?, hg5]
               have z2 : (w3.setCell ⟨wb, 4, none⟩ (.slice (some ⟨g3, 0, none⟩) (LL.length + 1) cap3)).cell? ⟨w.heap.size, 2, none⟩ = some (.string ⟨#[]⟩) := by simp [World.cell?, hg5]
               have z3 : (w3.setCell ⟨wb, 4, none⟩ (.slice (some ⟨g3, 0, none⟩) (LL.length + 1) cap3)).cell? ⟨w.heap.size, 3, none⟩ = some (.int .i64 c) := by simp [World.cell?, hg5]
               have z4 : (w3.setCell ⟨wb, 4, none⟩ (.slice (some ⟨g3, 0, none⟩) (LL.length + 1) cap3)).cell? ⟨w.heap.size, 4, none⟩ = some (.int .i64 0) := by simp [World.cell?, hg5]
               have z5 : (w3.setCell ⟨wb, 4, none⟩ (.slice (some ⟨g3, 0, none⟩) (LL.length + 1) cap3)).cell? ⟨w.heap.size, 5, none⟩ = some (.int .i64 0) := by simp [World.cell?, hg5]
               have z6 : (w3.setCell ⟨wb, 4, none⟩ (.slice (some ⟨g3, 0, none⟩) (LL.length + 1) cap3)).cell? ⟨w.heap.size, 6, none⟩ = some (.int .i64 0) := by simp [World.cell?, hg5]
               have z7 : (w3.setCell ⟨wb, 4, none⟩ (.slice (some ⟨g3, 0, none⟩) (LL.length + 1) cap3)).cell? ⟨w.heap.size, 7, none⟩ = some (.int .i64 0) := by simp [World.cell?, hg5]
               have z8 : (w3.setCell ⟨wb, 4, none⟩ (.slice (some ⟨g3, 0, none⟩) (LL.length + 1) cap3)).cell? ⟨w.heap.size, 8, none⟩ = some (.int .u8 0) := by simp [World.cell?, hg5]
               have z9 : (w3.setCell ⟨wb, 4, none⟩ (.slice (some ⟨g3, 0, none⟩) (LL.length + 1) cap3)).cell? ⟨w.heap.size, 9, none⟩ = some (.bool false) := by simp [World.cell?, hg5]
               have hbl4 : w.heap.size < (w3.setCell ⟨wb, 4, none⟩ (.slice (some ⟨g3, 0, none⟩) (LL.length + 1) cap3)).heap.size := (Array.getElem?_eq_some_iff.1 hg5).1
               have hB4 : Hid (B ≤ (w3.setCell ⟨wb, 4, none⟩ (.slice (some ⟨g3, 0, none⟩) (LL.length + 1) cap3)).heap.size) := by have := HB.out; show _ ≤ _; omega
               clear hown' hg3 hat3 er hg5 hWA x0 x1 x2 x3 x4 x5 x6 x7 x8 x9
               go_frame)
            | (at_builtin; refine push_keepsE (w3.setCell ⟨wb, 4, none⟩ (.slice (some ⟨g3, 0, none⟩) (LL.length + 1) cap3)) (mkE c) rfl rfl _ _ rfl B (.slice ad2 (L.length + k) cap2) (L.length + k) ((List.replicate (L.length + k) (mkE c)).flatMap evP) rfl w3.heap.size (by simp [World.setCell]) rfl HR4.out (by omega) hB4.out ?_; intro v4 w5 hown4 hg4 hat4 hkp4; go_frame)
            | go_in)
          go_roundw
          case rel =>
            obtain ⟨ad4, cap4, e4⟩ := own_form hown4
            have hsz3 : wr.heap.size ≤ w3.heap.size := by have := HG3.out.size; simp at this; omega
            have hw1 := HK.out.size
            refine ⟨k + 1, .slice (some ⟨g3, 0, none⟩) (LL.length + 1) cap3, ns ++ [.slice ad2 (L.length + k) cap2], by omega, by simp, ?_, ?_, ?_, ?_, ?_, ?_, ?_, ?_⟩
            · have := hown4
              rw [show (List.replicate (L.length + k) (mkE c)).flatMap evP ++ evP (mkE c) = (List.replicate (L.length + (k + 1)) (mkE c)).flatMap evP by rw [← Nat.add_assoc, List.replicate_succ', List.flatMap_append]; simp] at this
              exact this
            · show WIs w5 wb sh bo _ os (es ++ (ns ++ _))
              rw [← List.append_assoc, ← HL.out]
              exact (HW4.out.below (belowAl (Below.refl _ _) (.cells #[Value.int .u8 0, .int .u8 0, .string ⟨#[]⟩, .int .i64 c, .int .i64 0, .int .i64 0, .int .i64 0, .int .i64 0, .int .u8 0, .bool false] 170))).rowE (by decide) (by decide) (by decide) (HR4.out.alloc _) hg4
            · show (ns ++ [_]).length = k + 1
              rw [List.length_append, HN.out]; rfl
            · intro x hx
              have old : ∀ {y : Value} {n : Nat}, n ≤ L.length + k → wr.ownsRow B 170 10 y n ((List.replicate n (mkE c)).flatMap evP) → w5.ownsRow B 170 10 y n ((List.replicate n (mkE c)).flatMap evP) := by
                intro y n hn ho
                exact hkp4 _ _ _ _ (HWA.out.row4 HG3.out _ (by decide) (by decide) (ho.alloc _)) hn
              rcases List.mem_append.1 hx with hx | hx
              · obtain ⟨n, hn, ho⟩ := HKs.out x hx
                exact ⟨n, by omega, old hn ho⟩
              · simp at hx
                subst hx
                exact ⟨L.length + k, by omega, old (Nat.le_refl _) HRo.out⟩
            · rcases HAT3.out with e | e
              · refine HO5.out.imp (fun e2 => ?_) (fun h2 j hj => ?_)
                · rw [← e2, e]; rfl
                · have hj2 : g3 = j := by simpa [Value.ownBlock] using hj
                  exact h2 j (by rw [e, hj2])
              · refine Or.inr (fun j hj => ?_)
                have hj2 : g3 = j := by simpa [Value.ownBlock] using hj
                omega
            · rcases hat4 with e | e
              · exact HO1.out.imp (fun e2 => e.trans e2) (fun h2 j hj => h2 j (e.symm.trans hj))
              · refine Or.inr (fun j hj => ?_)
                rw [e] at hj
                have hs4 : (w3.setCell ⟨wb, 4, none⟩ (.slice (some ⟨g3, 0, none⟩) (LL.length + 1) cap3)).heap.size = w3.heap.size := by simp [World.setCell]
                rw [hs4] at hj
                injection hj with hj
                omega
            · refine (hg4.block w.heap.size (by simp [World.setCell]; omega) (fun e => ?_)).trans ((Below.heap_alloc _ _ _ hbl4).trans HG5.out)
              rcases HO1.out with e2 | e2
              · rw [e2, HOV0.out] at e
                exact HAD.out _ e.symm rfl
              · exact Nat.lt_irrefl _ (e2 _ e.symm)
            · have n5 : ∀ j, (Value.slice ao' LL.length cap').ownBlock = some j → ¬ Aside w wb obw ov j := fun j hj hA => HO5.out.elim (fun e => hA.2.2.1 (e.symm.trans hj)) (fun h2 => by have := h2 j hj; have := hA.1; omega)
              have n1 : ∀ j, (Value.slice ad2 (L.length + k) cap2).ownBlock = some j → ¬ Aside w wb obw ov j := fun j hj hA => HO1.out.elim (fun e => hA.2.2.2 (e.symm.trans hj)) (fun h2 => by have := h2 j hj; have := hA.1; omega)
              exact ((((HK.out.alloc _).grown HG3.out n5).set (a := ⟨wb, 4, none⟩) (fun hA => hA.2.1 rfl) _).alloc _).grown hg4 n1
          case measure => simp [intOf]; omega
        · have hk4e : k = 4 := by omega
          subst hk4e
          have hki : ¬ ((4 : Int) < 4) := by omega
          go_wp2
          go_end0
          refine ⟨rfl, b', ns, HW.out, HN.out, fun x hx => ?_, HO5.out, HK.out⟩
          obtain ⟨n, hn, ho⟩ := HKs.out x hx
          rw [HCC.out]
          exact ⟨n, by omega, ho⟩

end Go.Proofs.YtdgfjneapialdaaGreatDoor.S
