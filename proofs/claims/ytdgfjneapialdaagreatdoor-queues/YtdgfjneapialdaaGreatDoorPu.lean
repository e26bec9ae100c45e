import Derived.Test.YtdgfjneapialdaaGreatDoorPt
namespace Go.Proofs.YtdgfjneapialdaaGreatDoor
open Go Go.RowKit Go.Maps Go.Lib Go.Sort

theorem info71 : (Tryz.prog.info? 115).map (fun i => (i.zero, i.size, i.bytes)) = some (some (.slice none 0 0), 1, 24) := by kernel_rfl
/-- n times what the book marks with. -/
def repD (n : Nat) (c : Int) : List Value := flatD (List.replicate n (([] : List UInt8), c))
theorem repD_succ (n : Nat) (c : Int) : repD (n + 1) c = repD n c ++ [.string ⟨#[]⟩, .int .i64 c] := by
  unfold repD
  rw [List.replicate_succ', flatD_snoc]
  rfl
theorem repD_len (n : Nat) (c : Int) : (repD n c).length = n * 2 := by unfold repD; rw [flatD_len, List.length_replicate]
/-- A list of what is due that the book has marked with c. -/
def KD (w : World) (B : Nat) (c : Int) (x : Value) : Prop := ∃ n, n ≤ 2000000000000 ∧ w.ownsRow B 119 2 x n (repD n c)

section
variable {w w' : World} {wb : Nat} {q bw bd : Value} {ws ds : List Value}
theorem IsW.row6 (h : IsW w wb q bw bd ws ds) (k : w.grownBy w' bd.ownBlock) (v' : Value) {b : Nat} {e : TypeId} {size n : Nat} {x : Value} {ys : List Value} (he : e ≠ 115) (he2 : e ≠ 81) (ho : w.ownsRow b e size x n ys) : (w'.setCell ⟨wb, 6, none⟩ v').ownsRow b e size x n ys := by
  refine own_keep ho (fun i hi => ?_)
  obtain ⟨cur, hc⟩ := own_typ ho i hi
  have hne : bd.ownBlock ≠ some i := fun e' => by
    obtain ⟨cur', hc'⟩ := own_typ h.od i e'
    exact ne_typ hc hc' he rfl
  rw [Below.heap_setCell _ _ _ _ (ne_typ hc h.blk he2), k.block i (own_lt ho hi) (fun e' => hne e'.symm)]
/-- A row of what is due may be written to. -/
theorem IsW.row84 (h : IsW w wb q bw bd ws ds) {b n : Nat} {x : Value} {ys : List Value} (ho : w.ownsRow b 119 2 x n ys) (k : w.grownBy w' x.ownBlock) : IsW w' wb q bw bd ws ds := by
  have t : ∀ {i : Nat} {e : TypeId} {cur : Array Value}, w.heap[i]? = some (.cells cur e (0, 0)) → e ≠ 119 → w'.heap[i]? = w.heap[i]? := by
    intro i e cur hc he
    refine k.block i (Array.getElem?_eq_some_iff.1 hc).1 (fun e' => ?_)
    obtain ⟨cur', hc'⟩ := own_typ ho i e'.symm
    exact ne_typ hc hc' he rfl
  exact h.keep (t h.blk (by decide)) (fun i e => (own_typ h.ow i e).elim fun cur hc => t hc (by decide)) (fun i e => (own_typ h.od i e).elim fun cur hc => t hc (by decide))
end

theorem rep_set2 (xs : List Value) (c : Int) (k : Nat) (hk : k * 2 + 1 < xs.length) : ((repD k c ++ xs.drop (k * 2)).set (k * 2) (.string ⟨#[]⟩)).set (k * 2 + 1) (.int .i64 c) = repD (k + 1) c ++ xs.drop ((k + 1) * 2) := by
  rw [List.set_append_right _ _ (by rw [repD_len]; omega), List.set_append_right _ _ (by rw [repD_len]; omega), repD_len, Nat.sub_self, show k * 2 + 1 - k * 2 = 1 by omega, List.drop_eq_getElem_cons (by omega), List.drop_eq_getElem_cons hk, List.set_cons_zero, List.set_cons_succ, List.set_cons_zero, repD_succ, List.append_assoc]
  rw [show (k + 1) * 2 = k * 2 + 1 + 1 by omega]
  rfl
theorem rep_get0 (xs : List Value) (c : Int) (k : Nat) (hk : k * 2 + 1 < xs.length) : (repD k c ++ xs.drop (k * 2))[k * 2]? = some xs[k * 2] := by
  rw [List.getElem?_append_right (by rw [repD_len]; omega), repD_len, Nat.sub_self, List.getElem?_drop, Nat.add_zero, List.getElem?_eq_getElem (by omega)]
theorem rep_get1 (xs : List Value) (c : Int) (k : Nat) (hk : k * 2 + 1 < xs.length) : (repD k c ++ xs.drop (k * 2))[k * 2 + 1]? = some xs[k * 2 + 1] := by
  rw [List.getElem?_append_right (by rw [repD_len]; omega), repD_len, show k * 2 + 1 - k * 2 = 1 by omega, List.getElem?_drop, List.getElem?_eq_getElem hk]

theorem due_bd (N k : Nat) (hN : N ≤ 1000000000000) (hk : k ≤ 4) : N + k + 1 ≤ maxLen ∧ (N + k + 1) * 24 ≤ 140737488355328 := by unfold maxLen; omega

set_option maxRecDepth 100000 in
set_option maxHeartbeats 1000000 in
theorem due_any {w : World} {wb : Nat} {q bw bd : Value} {ws ds : List Value} {m : Nat} (h : IsW w wb q bw bd ws ds) (hm : ds.length = 4 * m) (hm2 : m ≤ 1000000000000) {B N : Nat} {v : Value} {xs : List Value} (hr : w.ownsRow B 119 2 v N xs) (hB : B ≤ w.heap.size) (hx : N ≤ 1000000000000) :
    Calls Tryz.prog 143 #[.pointer (some ⟨wb, 3, none⟩), v] w fun e w' => e = .returned (.tuple #[]) ∧ ∃ bd' ns, IsW w' wb q bw bd' ws (ds ++ ns) ∧ ns.length = 4 ∧ (∀ x ∈ ns, KD w' B (9000 + m) x) ∧ (bd'.ownBlock = bd.ownBlock ∨ ∀ k, bd'.ownBlock = some k → w.heap.size ≤ k) ∧ KeptC (Aside w wb bd.ownBlock v.ownBlock) w w' := by
  have p6 := h.p6
  have hlt := h.lt
  have H : Hid (IsW w wb q bw bd ws ds) := h
  obtain ⟨ao6, cap6, e6⟩ := own_form h.od
  obtain ⟨ad, cap, e1⟩ := own_form hr
  obtain ⟨hbd, hv⟩ : (∃ x, x = bd.ownBlock) ∧ (∃ x, x = v.ownBlock) := ⟨⟨_, rfl⟩, ⟨_, rfl⟩⟩
  obtain ⟨obd, hobd⟩ := hbd
  obtain ⟨ov, hov⟩ := hv
  have HOB : Hid (obd = bd.ownBlock) := hobd
  have HOV : Hid (ov = v.ownBlock) := hov
  rw [← hobd, ← hov]
  clear hobd hov
  have hdv : ((ds.length : Int)).tdiv 4 = (m : Int) := by rw [Int.tdiv_eq_ediv_of_nonneg (by omega), hm]; omega
  have HM : Hid (ds.length = 4 * m) := hm
  have HR : Hid (w.ownsRow B 119 2 v N xs) := hr
  have HB : Hid (B ≤ w.heap.size) := hB
  subst e6 e1
  clear h hm hr hB
  go_enter Tryz.func143, Tryz.ntmps143
  go_wp2
  have HV0 : Hid ((w.alloc (.cells #[.string ⟨#[]⟩, .int .i64 (9000 + m)] 119)).heap[w.heap.size]? = some (.cells #[.string ⟨#[]⟩, .int .i64 (9000 + m)] 119 (0, 0))) := (MapKept.heap_alloc w _).1
  clear hdv p6
  go_loopw [6] (fun i wr => ∃ k : Nat, k ≤ N ∧ i = .int .i64 k ∧ Hid (wr.ownsRow B 119 2 (.slice ad N cap) N (repD k (9000 + m) ++ xs.drop (k * 2))) ∧ Hid (IsW wr wb q bw (.slice ao6 ds.length cap6) ws ds) ∧ Hid (wr.heap[w.heap.size]? = some (.cells #[.string ⟨#[]⟩, .int .i64 (9000 + m)] 119 (0, 0))) ∧ Hid (KeptC (Aside w wb obd ov) w wr)) (fun i _ => N - (intOf i).toNat)
  case atStart =>
    exact ⟨0, Nat.zero_le _, rfl, HR.out.alloc _, H.out.below ((Below.refl _ _).alloc (Nat.le_refl _) _), HV0.out, (KeptC.refl _ _).alloc _⟩
  case round =>
    clear HV0
    obtain ⟨k, hk, rfl, HRo, HW, HV, HK⟩ := hrel
    have hvl : w.heap.size < wr.heap.size := (Array.getElem?_eq_some_iff.1 HV.out).1
    have hv0 : wr.cell? ⟨w.heap.size, 0, none⟩ = some (.string ⟨#[]⟩) := by simp [World.cell?, HV.out]
    have hv1 : wr.cell? ⟨w.heap.size, 1, none⟩ = some (.int .i64 (9000 + m)) := by simp [World.cell?, HV.out]
    by_cases hkl : k < N
    · have hg : ∃ g, ad = some ⟨g, 0, none⟩ := by
        rcases HR.out.2 with ⟨_, h2⟩ | ⟨g, cap', cur, h1, _⟩
        · omega
        · injection h1 with a; exact ⟨g, a⟩
      obtain ⟨g, rfl⟩ := hg
      have hxl : k * 2 + 1 < xs.length := by have := HR.out.1; omega
      have hcx : wr.cell? ⟨g, k * 2, none⟩ = some xs[k * 2] := by
        have := HRo.out.cells (g := g) rfl (k * 2) _ (rep_get0 xs _ k hxl)
        rwa [Addr.add_lit, Nat.zero_add] at this
      have hcy : wr.cell? ⟨g, k * 2 + 1, none⟩ = some xs[k * 2 + 1] := by
        have := HRo.out.cells (g := g) rfl (k * 2 + 1) _ (rep_get1 xs _ k hxl)
        rwa [Addr.add_lit, Nat.zero_add] at this
      obtain ⟨y, hy⟩ : ∃ y, y = xs[k * 2] := ⟨_, rfl⟩
      obtain ⟨z, hz⟩ : ∃ z, z = xs[k * 2 + 1] := ⟨_, rfl⟩
      rw [← hy] at hcx
      rw [← hz] at hcy
      have hfz := own_frozen HRo.out
      have HXL : Hid (k * 2 + 1 < xs.length) := hxl
      have HGV : Hid (g ≠ w.heap.size) := by
        have := own_lt HR.out (k := g) rfl
        show g ≠ _
        omega
      clear hy hz hxl
      have hki : ((k : Int) < (N : Int)) := by omega
      go_wp2
      go_roundw
      case rel =>
        have h1 := own_set HRo.out (k * 2) (.string ⟨#[]⟩)
        have h2 := own_set h1 (k * 2 + 1) (.int .i64 (9000 + m))
        rw [rep_set2 xs _ k HXL.out] at h2
        refine ⟨k + 1, by omega, by simp, h2, (HW.out.row84 HRo.out (grown_set (k * 2) _)).row84 h1 (grown_set (k * 2 + 1) _), ?_, (HK.out.set (a := ⟨g, k * 2, none⟩) (fun hA => hA.2.2.2 HOV.out) _).set (a := ⟨g, k * 2 + 1, none⟩) (fun hA => hA.2.2.2 HOV.out) _⟩
        exact ((Below.heap_setCell _ _ _ _ HGV.out.symm).trans (Below.heap_setCell _ _ _ _ HGV.out.symm)).trans HV.out
      case measure => simp [intOf]; omega
    · have hkn : N = k := by omega
      subst hkn
      have hki : ¬ ((N : Int) < (N : Int)) := by omega
      have HRo2 : Hid (wr.ownsRow B 119 2 (.slice ad N cap) N (repD N (9000 + m))) := by
        have h1 := HRo.out
        have h2 := HR.out.1
        rw [List.drop_eq_nil_of_le (by omega), List.append_nil] at h1
        exact h1
      clear HRo
      go_wp2
      obtain ⟨i0, hi, z0, z1, z2⟩ := info_parts info71
      obtain ⟨i9, hi9, y0, y1, y2⟩ := info_parts info84
      have HV0 : Hid ((Value.slice ad N cap).ownBlock ≠ some w.heap.size) := fun e => by
        have := own_lt HR.out e
        omega
      clear hv0 hv1 hvl
      go_loopw [1, 7] (fun vr i wr => ∃ (k : Nat) (bd' : Value) (ns : List Value), k ≤ 4 ∧ i = .int .i64 k ∧ Hid (wr.ownsRow B 119 2 vr (N + k) (repD (N + k) (9000 + m))) ∧ Hid (IsW wr wb q bw bd' ws (ds ++ ns)) ∧ Hid (ns.length = k) ∧ Hid (∀ x ∈ ns, ∃ n, n ≤ N + k ∧ wr.ownsRow B 119 2 x n (repD n (9000 + m))) ∧ Hid (bd'.ownBlock = obd ∨ ∀ j, bd'.ownBlock = some j → w.heap.size ≤ j) ∧ Hid (vr.ownBlock = ov ∨ ∀ j, vr.ownBlock = some j → w.heap.size ≤ j) ∧ Hid (vr.ownBlock ≠ some w.heap.size) ∧ Hid (wr.heap[w.heap.size]? = some (.cells #[.string ⟨#[]⟩, .int .i64 (9000 + m)] 119 (0, 0))) ∧ Hid (KeptC (Aside w wb obd ov) w wr)) (fun _ i _ => 4 - (intOf i).toNat)
      case atStart =>
        exact ⟨0, _, [], by omega, rfl, HRo2.out, by show IsW _ _ _ _ _ _ (ds ++ []); rw [List.append_nil]; exact HW.out, rfl, (fun x hx => by simp at hx), Or.inl HOB.out.symm, Or.inl HOV.out.symm, HV0.out, HV.out, HK.out⟩
      case round =>
        clear HRo2 HW HK HV HV0
        obtain ⟨k, bd', ns, hk4, rfl, HRo, HW, HN, HKs, HO6, HO1, HVN, HV, HK⟩ := hrel
        by_cases hkl : k < 4
        · obtain ⟨L, hL⟩ : ∃ L, L = ds ++ ns := ⟨_, rfl⟩
          have HLL : Hid (L.length = ds.length + ns.length) := by show L.length = _; rw [hL, List.length_append]
          rw [← hL] at HW
          have HL : Hid (L = ds ++ ns) := hL
          clear hL
          obtain ⟨ao', cap', eb⟩ := own_form HW.out.od
          obtain ⟨ad2, cap2, ev⟩ := own_form HRo.out
          subst eb ev
          have p6 := HW.out.p6
          have hltr := HW.out.lt
          have hki : ((k : Int) < 4) := by omega
          have hown1 := HW.out.od.alloc (.cells #[.slice ad2 (N + k) cap2] 115)
          have h63 : L.length + 1 ≤ maxLen := by have := HM.out; have := HN.out; have := HLL.out; unfold maxLen; omega
          have hby : (L.length + 1) * 24 ≤ 140737488355328 := by have := HM.out; have := HN.out; have := HLL.out; omega
          have hone : ∀ u ∈ [Value.slice ad2 (N + k) cap2], u.oneCell' = true := by intro u hu; simp at hu; subst hu; rfl
          have hone2 : ∀ u ∈ [Value.string ⟨#[]⟩, .int .i64 (9000 + m)], u.oneCell' = true := by
            intro u hu
            simp only [List.mem_cons, List.not_mem_nil, or_false] at hu
            rcases hu with rfl | rfl <;> rfl
          have h63b : N + k + 1 ≤ maxLen := (due_bd N k hx hk4).1
          have hbyb : (N + k + 1) * 24 ≤ 140737488355328 := (due_bd N k hx hk4).2
          have HWA : Hid (IsW (wr.alloc (.cells #[.slice ad2 (N + k) cap2] 115)) wb q bw (.slice ao' L.length cap') ws L) := HW.out.below ((Below.refl _ _).alloc (Nat.le_refl _) _)
          have HRA : Hid ((wr.alloc (.cells #[.slice ad2 (N + k) cap2] 115)).ownsRow B 119 2 (.slice ad2 (N + k) cap2) (N + k) (repD (N + k) (9000 + m))) := HRo.out.alloc _
          have HVA : Hid ((wr.alloc (.cells #[.slice ad2 (N + k) cap2] 115)).heap[w.heap.size]? = some (.cells #[.string ⟨#[]⟩, .int .i64 (9000 + m)] 119 (0, 0))) := (Below.heap_alloc _ _ _ (Array.getElem?_eq_some_iff.1 HV.out).1).trans HV.out
          go_wp2_with (first
            | (at_builtin; refine wpList_append_keeps _ rfl _ _ 75 rfl 0 115 i0 (.slice none 0 0) 1 24 Tryz.underlying75 hi z0 z1 z2 rfl (by decide) _ _ _ rfl hown1 ⟨wr.heap.size, 0, none⟩ 1 1 [.slice ad2 (N + k) cap2] rfl rfl (cell_one_new _ _ _) hone h63 hby (Nat.zero_le _) ?_; intro v' w3 hown' hg3 hat3 hkp3; obtain ⟨ao3, cap3, ev3⟩ := own_form hown'; subst ev3; have er : w3.heap[wb]? = some (.cells (wArr q bw (.slice ao' L.length cap')) 81 (0, 0)) := (hg3.block wb HWA.out.lt (fun e => HWA.out.ne6 e.symm)).trans HWA.out.blk; have c3 : w3.cell? ⟨wb, 6, none⟩ = some (.slice ao' L.length cap') := by simp [World.cell?, er, wArr]
               have f3 : w3.frozen? ⟨wb, 6, none⟩ = false := by simp [World.frozen?, er]
               have HG3 : Hid ((wr.alloc (.cells #[.slice ad2 (N + k) cap2] 115)).grownBy w3 (Value.slice ao' L.length cap').ownBlock) := hg3
               have HAT3 : Hid ((Value.slice ao3 (L.length + 1) cap3).ownBlock = (Value.slice ao' L.length cap').ownBlock ∨ (Value.slice ao3 (L.length + 1) cap3).ownBlock = some (wr.alloc (.cells #[.slice ad2 (N + k) cap2] 115)).heap.size) := hat3
               have HW4 : Hid (IsW (w3.setCell ⟨wb, 6, none⟩ (.slice ao3 (L.length + 1) cap3)) wb q bw (.slice ao3 (L.length + 1) cap3) ws (L ++ [.slice ad2 (N + k) cap2])) := HWA.out.set6 hg3 (by rw [List.length_append]; exact hown')
               have HV4 : Hid ((w3.setCell ⟨wb, 6, none⟩ (.slice ao3 (L.length + 1) cap3)).heap[w.heap.size]? = some (.cells #[.string ⟨#[]⟩, .int .i64 (9000 + m)] 119 (0, 0))) := (Below.heap_setCell _ _ _ _ (ne_typ HVA.out HWA.out.blk (by decide))).trans ((hg3.block _ (Array.getElem?_eq_some_iff.1 HVA.out).1 (fun e => by obtain ⟨cur', hc'⟩ := own_typ HWA.out.od _ e.symm; exact ne_typ HVA.out hc' (by decide) rfl)).trans HVA.out)
               have hv0 : (w3.setCell ⟨wb, 6, none⟩ (.slice ao3 (L.length + 1) cap3)).cell? ⟨w.heap.size, 0, none⟩ = some (.string ⟨#[]⟩) := by simp only [World.cell?, HV4.out]; rfl
               have hv1 : (w3.setCell ⟨wb, 6, none⟩ (.slice ao3 (L.length + 1) cap3)).cell? ⟨w.heap.size, 1, none⟩ = some (.int .i64 (9000 + m)) := by simp only [World.cell?, HV4.out]; rfl
               have hown2 := (HWA.out.row6 hg3 (.slice ao3 (L.length + 1) cap3) (by decide) (by decide) HRA.out).alloc (.cells #[.string ⟨#[]⟩, .int .i64 (9000 + m)] 119)
               have hB4 : B ≤ ((w3.setCell ⟨wb, 6, none⟩ (.slice ao3 (L.length + 1) cap3)).alloc (.cells #[.string ⟨#[]⟩, .int .i64 (9000 + m)] 119)).heap.size := by have h1 := HK.out.size; have h2 := hg3.size; have h3 := HB.out; simp [World.setCell] at h2 ⊢; omega
               have hcn := cell_two_new (w3.setCell ⟨wb, 6, none⟩ (.slice ao3 (L.length + 1) cap3)) (.string ⟨#[]⟩) (.int .i64 (9000 + m)) 119
               rw [show (w3.setCell ⟨wb, 6, none⟩ (.slice ao3 (L.length + 1) cap3)).heap.size = w3.heap.size by simp [World.setCell]] at hcn
               clear hown' hg3 hat3 hkp3 er hown1 hone
               go_frame)
            | (at_builtin; refine wpList_append_keeps _ rfl _ _ 115 rfl B 119 i9 (.agg #[.string ⟨#[]⟩, .int .i64 0]) 2 24 Tryz.underlying115 hi9 y0 y1 y2 rfl (by decide) _ _ _ rfl hown2 ⟨w3.heap.size, 0, none⟩ 1 1 [.string ⟨#[]⟩, .int .i64 (9000 + m)] rfl rfl hcn hone2 h63b hbyb hB4 ?_; intro v4 w5 hown4 hg4 hat4 hkp4; go_frame)
            | go_in)
          go_roundw
          case rel =>
            have hsz : w.heap.size < ((w3.setCell ⟨wb, 6, none⟩ (.slice ao3 (L.length + 1) cap3)).alloc (.cells #[.string ⟨#[]⟩, .int .i64 (9000 + m)] 119)).heap.size := by
              have h1 := HK.out.size
              have h2 := HG3.out.size
              simp [World.setCell] at h2 ⊢
              omega
            refine ⟨k + 1, .slice ao3 (L.length + 1) cap3, ns ++ [.slice ad2 (N + k) cap2], by omega, by simp, ?_, ?_, ?_, ?_, ?_, ?_, ?_, ?_, ?_⟩
            · have := hown4
              rw [← repD_succ] at this
              exact this
            · have := (HW4.out.below ((Below.refl _ _).alloc (Nat.le_refl _) (.cells #[.string ⟨#[]⟩, .int .i64 (9000 + m)] 119))).row84 hown2 hg4
              show IsW w5 wb q bw _ ws (ds ++ (ns ++ _))
              rw [← List.append_assoc, ← HL.out]
              exact this
            · show (ns ++ [_]).length = k + 1
              rw [List.length_append, HN.out]; rfl
            · intro x hx
              have old : ∀ {y : Value} {n : Nat}, n ≤ N + k → wr.ownsRow B 119 2 y n (repD n (9000 + m)) → w5.ownsRow B 119 2 y n (repD n (9000 + m)) := by
                intro y n hn ho
                exact hkp4 _ _ _ _ ((HWA.out.row6 HG3.out _ (by decide) (by decide) (ho.alloc _)).alloc _) hn
              rcases List.mem_append.1 hx with hx | hx
              · obtain ⟨n, hn, ho⟩ := HKs.out x hx
                exact ⟨n, by omega, old hn ho⟩
              · simp at hx
                subst hx
                exact ⟨N + k, by omega, old (Nat.le_refl _) HRo.out⟩
            · rcases HAT3.out with e | e
              · refine HO6.out.imp (fun e2 => e.trans e2) (fun h2 j hj => h2 j (e.symm.trans hj))
              · refine Or.inr (fun j hj => ?_)
                have h1 := HK.out.size
                rw [e] at hj
                simp at hj
                omega
            · rcases hat4 with e | e
              · refine HO1.out.imp (fun e2 => e.trans e2) (fun h2 j hj => h2 j (e.symm.trans hj))
              · refine Or.inr (fun j hj => ?_)
                rw [e] at hj
                cases hj
                exact Nat.le_of_lt hsz
            · rcases hat4 with e | e
              · exact fun h2 => HVN.out (e.symm.trans h2)
              · intro h2
                rw [e] at h2
                injection h2 with h2
                omega
            · exact (hg4.block _ hsz (fun e => HVN.out e.symm)).trans ((Below.heap_alloc _ _ _ (Array.getElem?_eq_some_iff.1 HV4.out).1).trans HV4.out)
            · have n6 : ∀ j, (Value.slice ao' L.length cap').ownBlock = some j → ¬ Aside w wb obd ov j := fun j hj hA => HO6.out.elim (fun e => hA.2.2.1 (e.symm.trans hj)) (fun h2 => by have := h2 j hj; have := hA.1; omega)
              have n1 : ∀ j, (Value.slice ad2 (N + k) cap2).ownBlock = some j → ¬ Aside w wb obd ov j := fun j hj hA => HO1.out.elim (fun e => hA.2.2.2 (e.symm.trans hj)) (fun h2 => by have := h2 j hj; have := hA.1; omega)
              exact ((((HK.out.alloc _).grown HG3.out n6).set (a := ⟨wb, 6, none⟩) (fun hA => hA.2.1 rfl) _).alloc _).grown hg4 n1
          case measure => simp [intOf]; omega
        · have hk4e : k = 4 := by omega
          subst hk4e
          go_wp2
          go_end0
          refine ⟨rfl, bd', ns, HW.out, HN.out, fun x hx => ?_, HO6.out, HK.out⟩
          obtain ⟨n, hn, ho⟩ := HKs.out x hx
          exact ⟨n, by omega, ho⟩

end Go.Proofs.YtdgfjneapialdaaGreatDoor
