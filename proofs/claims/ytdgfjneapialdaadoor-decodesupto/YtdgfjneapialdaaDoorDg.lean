import Derived.Test.YtdgfjneapialdaaDoorDf
namespace Go.Proofs.YtdgfjneapialdaaDoor
open Go Go.RowKit Go.Maps Go.Lib Go.Sort

theorem bd_n (N k : Nat) (hN : N ≤ 1000000000000) (hk : k ≤ 4) : N + k + 1 ≤ maxLen ∧ (N + k + 1) * 40 ≤ 140737488355328 ∧ k + 1 ≤ maxLen ∧ (k + 1) * 24 ≤ 140737488355328 := by unfold maxLen; omega
theorem b_set {w W : World} (h : Below w.heap.size w W) {g : Nat} (hg : w.heap.size ≤ g) (o : Nat) (v : Value) : Below w.heap.size w (W.setCell ⟨g, o, none⟩ v) :=
  ⟨h.os, h.tape, h.output, by simpa [World.setCell] using h.size, fun i hi => (Below.heap_setCell _ _ _ _ (by simp; omega)).trans (h.block i hi)⟩

set_option maxRecDepth 100000 in
set_option maxHeartbeats 2000000 in
theorem decodes_any (s t : ByteArray) (hs : s.size ≤ 1000000000000) (ht : t.size ≤ 1000000000000) (w : World) (hT : Tab w) :
    Calls Tryd.prog 3 #[.string s, .string t] w fun e w' => e = .returned (.bool true) ∧ Below w.heap.size w w' := by
  have hc1 := decode_any ⟨#[1, 22, 3, 0]⟩ (by decide) w hT
  rw [dec_w] at hc1
  have HT : Hid (Tab w) := hT
  have HC : Hid (∀ w', Below w.heap.size w w' → Calls Tryd.prog 7 #[.string s] w' fun e w2 => e = .returned (.bool true) ∧ Below w'.heap.size w' w2) := fun w' hb => decoded_any s hs w' (hT.below hb)
  have HCt : Hid (∀ w', Below w.heap.size w w' → Calls Tryd.prog 7 #[.string t] w' fun e w2 => e = .returned (.bool true) ∧ Below w'.heap.size w' w2) := fun w' hb => decoded_any t ht w' (hT.below hb)
  have HDs : Hid (∀ w', Below w.heap.size w w' → Calls Tryd.prog 6 #[.string s] w' fun e w2 => ∃ v, e = .returned v ∧ w2.ownsRow w'.heap.size 25 4 v (decL s.data.toList).length (decL s.data.toList).flatten ∧ Below w'.heap.size w' w2) := fun w' hb => decode_any s hs w' (hT.below hb)
  have HN : Hid ((decL s.data.toList).length ≤ 1000000000000) := decL_bd s hs
  have hq1 := neq25 1 ⟨#[119]⟩ 3 0
  have hgd := guard25
  clear hs ht hT
  go_enter Tryd.func3, Tryd.ntmps3
  go_wp2_with fail
  refine hc1.mono ?_
  rintro e w1 ⟨v1, rfl, r1, hb1⟩
  obtain ⟨g1, cap1, rfl, _, hg1⟩ := r1.form (by decide)
  have a0 : w1.cell? ⟨g1, 0, none⟩ = some (.int .u8 1) := by have := r1.cells (g := g1) rfl 0 _ rfl; rwa [Addr.add_lit] at this
  have a1 : w1.cell? ⟨g1, 1, none⟩ = some (.string ⟨#[119]⟩) := by have := r1.cells (g := g1) rfl 1 _ rfl; rwa [Addr.add_lit] at this
  have a2 : w1.cell? ⟨g1, 2, none⟩ = some (.int .i64 3) := by have := r1.cells (g := g1) rfl 2 _ rfl; rwa [Addr.add_lit] at this
  have a3 : w1.cell? ⟨g1, 3, none⟩ = some (.int .i64 0) := by have := r1.cells (g := g1) rfl 3 _ rfl; rwa [Addr.add_lit] at this
  have hc2 := HC.out w1 hb1
  have HB1 : Hid (Below w.heap.size w w1) := hb1
  clear hc1 r1 hb1
  go_wp2_with fail
  refine hc2.mono ?_
  rintro e w2 ⟨rfl, hb2⟩
  have HB2 : Hid (Below w.heap.size w w2) := HB1.out.trans (hb2.mono HB1.out.size)
  have hc3 := HDs.out w2 HB2.out
  clear hc2 hb2 a0 a1 a2 a3 hq1
  go_wp2_with fail
  refine hc3.mono ?_
  rintro e w3 ⟨v3, rfl, r3, hb3⟩
  generalize hNN : (decL s.data.toList).length = N at *
  generalize (decL s.data.toList).flatten = xs at *
  clear hNN
  have HB3 : Hid (Below w.heap.size w w3) := HB2.out.trans (hb3.mono HB2.out.size)
  obtain ⟨ad, cap, rfl⟩ := own_form r3
  have hBw : w.heap.size ≤ w2.heap.size := HB2.out.size
  have HRo0 : Hid (w3.ownsRow w.heap.size 25 4 (.slice ad N cap) N xs) := own_mono r3 hBw
  have hN := HN.out
  clear hc3 hb3 r3 HDs
  go_wp2
  have HV0 : Hid ((w3.alloc (.cells #[.int .u8 200, .string ⟨#[]⟩, .int .i64 9000, .int .i64 0] 25)).heap[w3.heap.size]? = some (.cells #[.int .u8 200, .string ⟨#[]⟩, .int .i64 9000, .int .i64 0] 25 (0, 0))) := (MapKept.heap_alloc w3 _).1
  have hw3 : w.heap.size ≤ w3.heap.size := HB3.out.size
  go_loopw [9] (fun i wr => ∃ k : Nat, k ≤ N ∧ i = .int .i64 k ∧ Hid (wr.ownsRow w.heap.size 25 4 (.slice ad N cap) N (repV k ++ xs.drop (k * 4))) ∧ Hid (wr.heap[w3.heap.size]? = some (.cells #[.int .u8 200, .string ⟨#[]⟩, .int .i64 9000, .int .i64 0] 25 (0, 0))) ∧ Hid (Below w.heap.size w wr)) (fun i _ => N - (RowKit.intOf i).toNat)
  case atStart => exact ⟨0, Nat.zero_le _, rfl, HRo0.out.alloc _, HV0.out, HB3.out.alloc HB3.out.size _⟩
  case round =>
    clear HV0
    obtain ⟨k, hk, rfl, HRo, HV, HB⟩ := hrel
    have hvl : w3.heap.size < wr.heap.size := (Array.getElem?_eq_some_iff.1 HV.out).1
    have m0 : wr.cell? ⟨w3.heap.size, 0, none⟩ = some (.int .u8 200) := (cell_of_row _ _ _ _ _ _ HV.out).trans rfl
    have m1 : wr.cell? ⟨w3.heap.size, 1, none⟩ = some (.string ⟨#[]⟩) := (cell_of_row _ _ _ _ _ _ HV.out).trans rfl
    have m2 : wr.cell? ⟨w3.heap.size, 2, none⟩ = some (.int .i64 9000) := (cell_of_row _ _ _ _ _ _ HV.out).trans rfl
    have m3 : wr.cell? ⟨w3.heap.size, 3, none⟩ = some (.int .i64 0) := (cell_of_row _ _ _ _ _ _ HV.out).trans rfl
    by_cases hkl : k < N
    · have hg : ∃ g, ad = some ⟨g, 0, none⟩ ∧ g < w3.heap.size ∧ w.heap.size ≤ g := by
        rcases HRo0.out.2 with ⟨_, h2⟩ | ⟨g, cap', cur, h1, hb, _⟩
        · omega
        · injection h1 with a
          exact ⟨g, a, own_lt HRo0.out (by rw [a]; rfl), hb⟩
      obtain ⟨g, rfl, hg3, hgw⟩ := hg
      have hxl : k * 4 + 3 < xs.length := by have := HRo0.out.1; omega
      have rd : ∀ o (ho : o < 4), wr.cell? ⟨g, k * 4 + o, none⟩ = some (xs[k * 4 + o]'(by omega)) := fun o ho => by
        have := HRo.out.cells (g := g) rfl (k * 4 + o) _ (rep_at xs k o ho hxl)
        rwa [Addr.add_lit, Nat.zero_add] at this
      obtain ⟨y0, x0⟩ : ∃ y, wr.cell? ⟨g, k * 4, none⟩ = some y := ⟨_, rd 0 (by omega)⟩
      obtain ⟨y1, x1⟩ : ∃ y, wr.cell? ⟨g, k * 4 + 1, none⟩ = some y := ⟨_, rd 1 (by omega)⟩
      obtain ⟨y2, x2⟩ : ∃ y, wr.cell? ⟨g, k * 4 + 2, none⟩ = some y := ⟨_, rd 2 (by omega)⟩
      obtain ⟨y3, x3⟩ : ∃ y, wr.cell? ⟨g, k * 4 + 3, none⟩ = some y := ⟨_, rd 3 (by omega)⟩
      have hfz := own_frozen HRo.out
      have HXL : Hid (k * 4 + 3 < xs.length) := hxl
      have hki : ((k : Int) < (N : Int)) := by omega
      have HGW : Hid (w.heap.size ≤ g ∧ g < w3.heap.size) := ⟨hgw, hg3⟩
      have hgr : g < wr.heap.size := by omega
      clear rd hxl hgw
      go_wp2
      go_roundw
      case rel =>
        have h1 := own_set HRo.out (k * 4) (.int .u8 200)
        have h2 := own_set h1 (k * 4 + 1) (.string ⟨#[]⟩)
        have h3 := own_set h2 (k * 4 + 2) (.int .i64 9000)
        have h4 := own_set h3 (k * 4 + 3) (.int .i64 0)
        rw [rep_set4 xs k HXL.out] at h4
        have hne : w3.heap.size ≠ g := by have := HGW.out.2; omega
        refine ⟨k + 1, by omega, by simp, h4, ?_, b_set (b_set (b_set (b_set HB.out HGW.out.1 _ _) HGW.out.1 _ _) HGW.out.1 _ _) HGW.out.1 _ _⟩
        exact ((Below.heap_setCell _ _ _ _ hne).trans ((Below.heap_setCell _ _ _ _ hne).trans ((Below.heap_setCell _ _ _ _ hne).trans (Below.heap_setCell _ _ _ _ hne)))).trans HV.out
      case measure => simp [RowKit.intOf]; omega
    · have hkn : N = k := by omega
      subst hkn
      have hki : ¬ ((N : Int) < (N : Int)) := by omega
      have HRo2 : Hid (wr.ownsRow w.heap.size 25 4 (.slice ad N cap) N (repV N)) := by
        have h1 := HRo.out
        have h2 := HRo0.out.1
        rw [List.drop_eq_nil_of_le (by omega), List.append_nil] at h1
        exact h1
      clear HRo
      go_wp2
      obtain ⟨i2, hi2, z20, z21, z22⟩ := info_parts info22
      obtain ⟨i5, hi5, z50, z51, z52⟩ := info_parts info25
      have HVN0 : Hid ((Value.slice ad N cap).ownBlock ≠ some w3.heap.size) := fun e => by have := own_lt HRo0.out e; omega
      clear m0 m1 m2 m3 hvl hk hkl hki HRo0
      go_loopw [7, 10, 11] (fun vr va i wr => ∃ (k : Nat) (ns : List Value), k ≤ 4 ∧ i = .int .i64 k ∧ Hid (wr.ownsRow w.heap.size 25 4 vr (N + k) (repV (N + k))) ∧ Hid (wr.ownsRow w.heap.size 22 1 va k ns) ∧ Hid (∀ x ∈ ns, ∃ n, n ≤ N + k ∧ wr.ownsRow w.heap.size 25 4 x n (repV n)) ∧ Hid (vr.ownBlock ≠ some w3.heap.size) ∧ Hid (wr.heap[w3.heap.size]? = some (.cells #[.int .u8 200, .string ⟨#[]⟩, .int .i64 9000, .int .i64 0] 25 (0, 0))) ∧ Hid (Below w.heap.size w wr)) (fun _ _ i _ => 4 - (RowKit.intOf i).toNat)
      case atStart => exact ⟨0, [], by omega, rfl, HRo2.out, World.ownsRow_nil _ _ _ _, (fun x hx => by simp at hx), HVN0.out, HV.out, HB.out⟩
      case round =>
        clear HRo2 HV HB HVN0
        obtain ⟨k, ns, hk4, rfl, HRo, HAl, HKs, HVN, HV, HB⟩ := hrel
        by_cases hkl : k < 4
        · obtain ⟨ad2, cap2, ev⟩ := own_form HRo.out
          obtain ⟨ada, capa, ea⟩ := own_form HAl.out
          subst ev ea
          have hki : ((k : Int) < 4) := by omega
          have hbd := bd_n N k hN hk4
          have hown1 := HAl.out.alloc (.cells #[.slice ad2 (N + k) cap2] 22)
          have hone : ∀ u ∈ [Value.slice ad2 (N + k) cap2], u.oneCell' = true := by intro u hu; simp at hu; subst hu; rfl
          have hone2 : ∀ u ∈ [Value.int .u8 200, .string ⟨#[]⟩, .int .i64 9000, .int .i64 0], u.oneCell' = true := by
            intro u hu
            simp only [List.mem_cons, List.not_mem_nil, or_false] at hu
            rcases hu with rfl | rfl | rfl | rfl <;> rfl
          have hbase1 : w.heap.size ≤ (wr.alloc (.cells #[.slice ad2 (N + k) cap2] 22)).heap.size := by have := HB.out.size; simp; omega
          have HRA : Hid ((wr.alloc (.cells #[.slice ad2 (N + k) cap2] 22)).ownsRow w.heap.size 25 4 (.slice ad2 (N + k) cap2) (N + k) (repV (N + k))) := HRo.out.alloc _
          have HVA : Hid ((wr.alloc (.cells #[.slice ad2 (N + k) cap2] 22)).heap[w3.heap.size]? = some (.cells #[.int .u8 200, .string ⟨#[]⟩, .int .i64 9000, .int .i64 0] 25 (0, 0))) := (Below.heap_alloc _ _ _ (Array.getElem?_eq_some_iff.1 HV.out).1).trans HV.out
          have HBA : Hid (Below w.heap.size w (wr.alloc (.cells #[.slice ad2 (N + k) cap2] 22))) := HB.out.alloc HB.out.size _
          have nt : ∀ {W W' : World} {v : Value} {n b : Nat} {c : Array Value} {ys : List Value}, W.grownBy W' v.ownBlock → W.ownsRow w.heap.size 22 1 v n ys → W.heap[b]? = some (.cells c 25 (0, 0)) → W'.heap[b]? = W.heap[b]? := fun hg ho hc => hg.block _ (Array.getElem?_eq_some_iff.1 hc).1 (fun e => by obtain ⟨c2, hc2⟩ := own_typ ho _ e.symm; exact ne_typ hc hc2 (by decide) rfl)
          have HNT := (show Hid (∀ {W W' : World} {v : Value} {n b : Nat} {c : Array Value} {ys : List Value}, W.grownBy W' v.ownBlock → W.ownsRow w.heap.size 22 1 v n ys → W.heap[b]? = some (.cells c 25 (0, 0)) → W'.heap[b]? = W.heap[b]?) from nt)
          clear nt
          go_wp2_with (first
            | (at_builtin; refine wpList_append_keeps _ rfl _ _ 27 rfl w.heap.size 22 i2 (.slice none 0 0) 1 24 Tryd.underlying27 hi2 z20 z21 z22 rfl (by decide) _ _ _ rfl hown1 ⟨wr.heap.size, 0, none⟩ 1 1 [.slice ad2 (N + k) cap2] rfl rfl (cell_one_new _ _ _) hone hbd.2.2.1 hbd.2.2.2 hbase1 ?_; intro va2 w4 hownA hgA hatA hkpA
               obtain ⟨ada3, capa3, eva3⟩ := own_form hownA
               subst eva3
               have hV4 : w4.heap[w3.heap.size]? = some (.cells #[.int .u8 200, .string ⟨#[]⟩, .int .i64 9000, .int .i64 0] 25 (0, 0)) := (HNT.out hgA hown1 HVA.out).trans HVA.out
               have hv0 : w4.cell? ⟨w3.heap.size, 0, none⟩ = some (.int .u8 200) := (cell_of_row _ _ _ _ _ _ hV4).trans rfl
               have hv1 : w4.cell? ⟨w3.heap.size, 1, none⟩ = some (.string ⟨#[]⟩) := (cell_of_row _ _ _ _ _ _ hV4).trans rfl
               have hv2 : w4.cell? ⟨w3.heap.size, 2, none⟩ = some (.int .i64 9000) := (cell_of_row _ _ _ _ _ _ hV4).trans rfl
               have hv3 : w4.cell? ⟨w3.heap.size, 3, none⟩ = some (.int .i64 0) := (cell_of_row _ _ _ _ _ _ hV4).trans rfl
               have HV4 : Hid (w4.heap[w3.heap.size]? = some (.cells #[.int .u8 200, .string ⟨#[]⟩, .int .i64 9000, .int .i64 0] 25 (0, 0))) := hV4
               have HOA : Hid (w4.ownsRow w.heap.size 22 1 (.slice ada3 (k + 1) capa3) (k + 1) (ns ++ [.slice ad2 (N + k) cap2])) := hownA
               have HB4 : Hid (Below w.heap.size w w4) := below_grown HBA.out hgA (fun b e => (hown1.lt b e).1)
               have keep4 : ∀ {x : Value} {n : Nat}, wr.ownsRow w.heap.size 25 4 x n (repV n) → w4.ownsRow w.heap.size 25 4 x n (repV n) := fun ho => own_keep (ho.alloc (.cells #[.slice ad2 (N + k) cap2] 22)) (fun b e => by obtain ⟨c, hc⟩ := own_typ (ho.alloc (.cells #[.slice ad2 (N + k) cap2] 22)) b e; exact HNT.out hgA hown1 hc)
               have HK4 : Hid (∀ {x : Value} {n : Nat}, wr.ownsRow w.heap.size 25 4 x n (repV n) → w4.ownsRow w.heap.size 25 4 x n (repV n)) := keep4
               have hown2 := (keep4 HRo.out).alloc (.cells #[.int .u8 200, .string ⟨#[]⟩, .int .i64 9000, .int .i64 0] 25)
               have hcn := cells_new w4 #[.int .u8 200, .string ⟨#[]⟩, .int .i64 9000, .int .i64 0] 25
               have hbase2 : w.heap.size ≤ (w4.alloc (.cells #[.int .u8 200, .string ⟨#[]⟩, .int .i64 9000, .int .i64 0] 25)).heap.size := by have := HB4.out.size; simp; omega
               have hl4 : w3.heap.size < w4.heap.size := (Array.getElem?_eq_some_iff.1 hV4).1
               clear hownA hgA hatA hkpA keep4 hV4 hone
               go_frame)
            | (at_builtin; refine wpList_append_keeps _ rfl _ _ 22 rfl w.heap.size 25 i5 (.agg #[.int .u8 0, .string ⟨#[]⟩, .int .i64 0, .int .i64 0]) 4 40 Tryd.underlying22 hi5 z50 z51 z52 rfl (by decide) _ _ _ rfl hown2 ⟨w4.heap.size, 0, none⟩ 1 1 [.int .u8 200, .string ⟨#[]⟩, .int .i64 9000, .int .i64 0] rfl rfl hcn hone2 hbd.1 hbd.2.1 hbase2 ?_; intro v5 w5 hown5 hg5 hat5 hkp5; go_frame)
            | go_in)
          go_roundw
          case rel =>
            refine ⟨k + 1, ns ++ [.slice ad2 (N + k) cap2], by omega, by simp, ?_, ?_, ?_, ?_, ?_, ?_⟩
            · show w5.ownsRow _ _ _ _ (N + k + 1) (repV (N + k + 1))
              rw [repV_succ]
              exact hown5
            · exact own_keep (HOA.out.alloc (.cells #[.int .u8 200, .string ⟨#[]⟩, .int .i64 9000, .int .i64 0] 25)) (fun b e => hg5.block b (own_lt (HOA.out.alloc (.cells #[.int .u8 200, .string ⟨#[]⟩, .int .i64 9000, .int .i64 0] 25)) e) (fun e2 => by
                obtain ⟨c1, h1⟩ := own_typ (HOA.out.alloc (.cells #[.int .u8 200, .string ⟨#[]⟩, .int .i64 9000, .int .i64 0] 25)) b e
                obtain ⟨c2, h2⟩ := own_typ hown2 b e2.symm
                exact ne_typ h1 h2 (by decide) rfl))
            · intro x hx
              have old : ∀ {y : Value} {n : Nat}, n ≤ N + k → wr.ownsRow w.heap.size 25 4 y n (repV n) → w5.ownsRow w.heap.size 25 4 y n (repV n) := fun hn ho => hkp5 _ _ _ _ ((HK4.out ho).alloc _) hn
              rcases List.mem_append.1 hx with hx | hx
              · obtain ⟨n, hn, ho⟩ := HKs.out x hx
                exact ⟨n, by omega, old hn ho⟩
              · simp at hx
                subst hx
                exact ⟨N + k, by omega, old (Nat.le_refl _) HRo.out⟩
            · rcases hat5 with e | e
              · exact fun h2 => HVN.out (e.symm.trans h2)
              · intro h2
                rw [e] at h2
                injection h2 with h2
                simp at h2
                omega
            · exact (hg5.block _ (by simp; omega) (fun e => HVN.out e.symm)).trans ((Below.heap_alloc _ _ _ hl4).trans HV4.out)
            · exact below_grown (HB4.out.alloc HB4.out.size _) hg5 (fun b e => (hown2.lt b e).1)
          case measure => simp [RowKit.intOf]; omega
        · have hk4e : k = 4 := by omega
          subst hk4e
          obtain ⟨ada, capa, ea⟩ := own_form HAl.out
          subst ea
          have hc6 := HCt.out wr HB.out
          clear hkl hk4
          go_wp2_with fail
          refine hc6.mono ?_
          rintro e w6 ⟨rfl, hb6⟩
          have HB6 : Hid (Below w.heap.size w w6) := HB.out.trans (hb6.mono HB.out.size)
          have hc7 := HC.out w6 HB6.out
          have HP6 : Hid (Below wr.heap.size wr w6) := hb6
          clear hc6 hb6
          go_wp2_with fail
          refine hc7.mono ?_
          rintro e w7 ⟨rfl, hb7⟩
          have HP7 : Hid (Below wr.heap.size wr w7) := HP6.out.trans (hb7.mono HP6.out.size)
          have HB7 : Hid (Below w.heap.size w w7) := HB6.out.trans (hb7.mono HB6.out.size)
          have hV7 : w7.heap[w3.heap.size]? = some (.cells #[.int .u8 200, .string ⟨#[]⟩, .int .i64 9000, .int .i64 0] 25 (0, 0)) := (HP7.out.block _ (Array.getElem?_eq_some_iff.1 HV.out).1).trans HV.out
          have m0 : w7.cell? ⟨w3.heap.size, 0, none⟩ = some (.int .u8 200) := (cell_of_row _ _ _ _ _ _ hV7).trans rfl
          have m1 : w7.cell? ⟨w3.heap.size, 1, none⟩ = some (.string ⟨#[]⟩) := (cell_of_row _ _ _ _ _ _ hV7).trans rfl
          have m2 : w7.cell? ⟨w3.heap.size, 2, none⟩ = some (.int .i64 9000) := (cell_of_row _ _ _ _ _ _ hV7).trans rfl
          have m3 : w7.cell? ⟨w3.heap.size, 3, none⟩ = some (.int .i64 0) := (cell_of_row _ _ _ _ _ _ hV7).trans rfl
          have hvl : w3.heap.size < w7.heap.size := (Array.getElem?_eq_some_iff.1 hV7).1
          obtain ⟨ga, capa2, ega, _, hgal⟩ := HAl.out.form (by decide)
          injection ega with ega _ ecap
          subst ega ecap
          have hA7 := own_keep (w' := w7) HAl.out (fun b e => HP7.out.block b (own_lt HAl.out e))
          have HA7 : Hid (w7.ownsRow w.heap.size 22 1 (.slice (some ⟨ga, 0, none⟩) 4 capa) 4 ns) := hA7
          have HK7 : Hid (∀ x ∈ ns, ∃ n, n ≤ N + 4 ∧ w7.ownsRow w.heap.size 25 4 x n (repV n)) := fun x hx => by
            obtain ⟨n, hn, ho⟩ := HKs.out x hx
            exact ⟨n, hn, own_keep ho (fun b e => HP7.out.block b (own_lt ho e))⟩
          have hnl : ns.length = 4 := by have := HAl.out.1; omega
          have HNL : Hid (ns.length = 4) := hnl
          have heq := eql25 200 ⟨#[]⟩ 9000 0
          have hgal7 : ga < w7.heap.size := own_lt hA7 rfl
          clear hc7 hb7 HP6 HP7 hV7 hA7 hnl hgal HRo HAl HKs HVN HV HB
          go_wp2
          go_loopw [6, 14, 15] (fun okv i _ wr2 => ∃ (k n : Nat), k ≤ 4 ∧ okv = .bool true ∧ i = .int .i64 k ∧ wr2 = w7.drewN n) (fun _ i _ _ => 4 - (RowKit.intOf i).toNat)
          case atStart => exact ⟨0, 0, by omega, rfl, rfl, rfl⟩
          case round =>
            obtain ⟨k, n, hk4, rfl, rfl, rfl⟩ := hrel
            by_cases hkl : k < 4
            · have hki : ((k : Int) < 4) := by omega
              have hkn : k < ns.length := by have := HNL.out; omega
              obtain ⟨nx, hnx, hox⟩ := HK7.out ns[k] (List.getElem_mem hkn)
              obtain ⟨adx, capx, ex⟩ := own_form hox
              have cA : w7.cell? ⟨ga, k, none⟩ = some (.slice adx nx capx) := by
                have := HA7.out.cells (g := ga) rfl k ns[k] (List.getElem?_eq_getElem hkn)
                rw [Addr.add_lit, Nat.zero_add, ex] at this
                exact this
              rw [ex] at hox
              have HOX : Hid (w7.ownsRow w.heap.size 25 4 (.slice adx nx capx) nx (repV nx)) := hox
              have hnb : nx ≤ 1000000000004 := by omega
              clear hox ex hkn hnx
              go_wp2
              go_loopw [6, 15] (fun okv j wr2 => ∃ (i n : Nat), i ≤ nx ∧ okv = .bool true ∧ j = .int .i64 i ∧ wr2 = w7.drewN n) (fun _ j _ => nx - (RowKit.intOf j).toNat)
              case atStart => exact ⟨0, n, Nat.zero_le _, rfl, rfl, rfl⟩
              case round =>
                obtain ⟨i, n2, hi, rfl, rfl, rfl⟩ := hrel
                by_cases hil : i < nx
                · have hii : ((i : Int) < (nx : Int)) := by omega
                  obtain ⟨gx, cx, egx, _, hgx⟩ := HOX.out.form (by omega)
                  injection egx with egx _ ecx
                  subst egx ecx
                  have rd : ∀ o u, o < 4 → markV[o]? = some u → w7.cell? ⟨gx, i * 4 + o, none⟩ = some u := fun o u ho hu => by
                    have := HOX.out.cells (g := gx) rfl (i * 4 + o) u ((repV_get nx i hil o ho).trans hu)
                    rwa [Addr.add_lit, Nat.zero_add] at this
                  have y0 : w7.cell? ⟨gx, i * 4, none⟩ = some (.int .u8 200) := rd 0 _ (by omega) rfl
                  have y1 : w7.cell? ⟨gx, i * 4 + 1, none⟩ = some (.string ⟨#[]⟩) := rd 1 _ (by omega) rfl
                  have y2 : w7.cell? ⟨gx, i * 4 + 2, none⟩ = some (.int .i64 9000) := rd 2 _ (by omega) rfl
                  have y3 : w7.cell? ⟨gx, i * 4 + 3, none⟩ = some (.int .i64 0) := rd 3 _ (by omega) rfl
                  clear rd
                  go_wp2_with fail
                  go_quiet (fail)
                  go_wp2
                  go_roundw
                  case rel => exact ⟨i + 1, _, by omega, rfl, by simp, rfl⟩
                  case measure => simp [RowKit.intOf]; omega
                · have hin : nx = i := by omega
                  subst hin
                  have hii : ¬ ((nx : Int) < (nx : Int)) := by omega
                  go_wp2
                  go_roundw
                  case rel => exact ⟨k + 1, n2, by omega, rfl, by simp, rfl⟩
                  case measure => simp [RowKit.intOf]; omega
            · have hk4e : k = 4 := by omega
              subst hk4e
              go_wp2
              go_ret
              exact ⟨rfl, drewB HB7.out n⟩

end Go.Proofs.YtdgfjneapialdaaDoor
