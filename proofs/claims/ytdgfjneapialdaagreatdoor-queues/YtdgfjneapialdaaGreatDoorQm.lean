import Derived.Test.YtdgfjneapialdaaGreatDoorQl
namespace Go.Proofs.YtdgfjneapialdaaGreatDoor
open Go Go.RowKit Go.Maps Go.Sort Go.Lib

theorem belowAl {w W : World} (h : Below w.heap.size w W) (o : Obj) : Below w.heap.size w (W.alloc o) := h.alloc h.size o
/-- What stands at a key. -/
theorem f_of_at {f : ByteArray → Option Int} {D : DataW Unit} (hr : ∀ s, match f s with | none => has D (slit s) = false | some v => ∀ z, D.atKey (slit s) z = .lit (.int .i64 v)) {s : ByteArray} {c : Int} (h : ∀ z, D.atKey (slit s) z = .lit (.int .i64 c)) : f s = some c := by
  have h1 := hr s
  cases hf : f s with
  | none =>
    rw [hf] at h1
    rw [has_true_of_atKey h] at h1
    cases h1
  | some v =>
    rw [hf] at h1
    have := (h1 .nil).symm.trans (h .nil)
    simp at this
    rw [this]
theorem has_of_f {f : ByteArray → Option Int} {D : DataW Unit} (hr : ∀ s, match f s with | none => has D (slit s) = false | some v => ∀ z, D.atKey (slit s) z = .lit (.int .i64 v)) {s : ByteArray} {c : Int} (h : f s = some c) : has D (slit s) = true := by
  have h1 := hr s
  rw [h] at h1
  exact has_true_of_atKey h1

theorem CollT.nexts {s : QS} {ck : Int} {l ts : List (List UInt8)} (h : CollT s.du (ck + 1) (fun _ => false) l) (hck : ck = s.ck) (hp : ts.Perm l) : Nexts s (ts.map bk) := by
  subst hck
  refine ⟨?_, ?_⟩
  · rw [List.pairwise_map]
    have := (hp.pairwise_iff (fun {_ _} h => Ne.symm h)).2 h.nd
    exact this.imp (fun hne e => hne (bk_inj e))
  · intro k
    rw [List.mem_map]
    constructor
    · rintro ⟨b, hb, rfl⟩
      exact (h.snd b (hp.mem_iff.1 hb)).1
    · intro hk
      refine ⟨k.data.toList, ?_, bk_data k⟩
      rcases h.cmp k.data.toList (by rw [bk_data]; exact hk) with h1 | h1
      · cases h1
      · exact hp.mem_iff.2 h1

section
variable {C : Nat → Prop} {U : List ByteArray} {w : World} {qb pm dm fm : Nat} {rv : Value} {s : QS}

set_option maxRecDepth 100000 in
set_option maxHeartbeats 1000000 in
theorem tick_any (h : IsQ C U w qb pm dm fm rv s) (hC : ∀ b, C b → b < w.heap.size) (hU : U.length ≤ 1000000000000) (hU8 : ∀ k ∈ U, 1 ≤ k.size ∧ k.size ≤ 8) (hO : QOk U s) (h1 : s.ck ≤ 4611686018427387904) :
    Calls Tryz.prog 79 #[.pointer (some ⟨qb, 0, none⟩)] w fun e w' => e = .returned (.tuple #[]) ∧ ∃ ks : List (List UInt8), Nexts s (ks.map bk) ∧ (ks.Pairwise fun a b => a ≤ b) ∧ QIs C U w w' qb pm dm fm (s.ticked (ks.map bk)) := by
  have c0 := h.c0
  have c3 := h.c3
  have f1 := h.fz
  have hqlt := h.lt
  have h0 := hO.c0
  obtain ⟨ck, hck⟩ : ∃ ck, ck = s.ck := ⟨_, rfl⟩
  rw [← hck] at c0 h0 h1
  have HCK : Hid (ck = s.ck) := hck
  have hq0 : Hid (IsQ C U (w.setCell ⟨qb, 0, none⟩ (.int .i64 (ck + 1))) qb pm dm fm rv s.onward) := by
    have := h.setCk (ck + 1)
    rw [hck] at this ⊢
    exact this
  obtain ⟨D, hmap, hkeys, hr⟩ := hq0.out.md
  have HR : Hid (∀ s', match s.du s' with | none => has D (slit s') = false | some v => ∀ z, D.atKey (slit s') z = .lit (.int .i64 v)) := hr
  have HK0 : Hid (KeptC C w (w.setCell ⟨qb, 0, none⟩ (.int .i64 (ck + 1)))) := (KeptC.refl C w).set (a := ⟨qb, 0, none⟩) h.cq _
  have HO : Hid (QOk U s) := hO
  have HC0 : Hid (∀ b, C b → b < w.heap.size) := hC
  have c0' := hq0.out.c0
  rw [show s.onward.ck = ck + 1 by rw [hck]; rfl] at c0'
  have hz0 : (w.setCell ⟨qb, 0, none⟩ (.int .i64 (ck + 1))).heap.size = w.heap.size := by simp [World.setCell]
  obtain ⟨i0, hi, z0, z1, z2⟩ := info_parts info9
  clear hck h hr hkeys hO hC
  go_enter Tryz.func79, Tryz.ntmps79
  go_wp2_with (first
    | (at_range; refine wpList_range_own _ rfl _ 181 rfl 9 3 (string_keyed und9) und40 (plainElem Tryz.prog 3) dm U.length D rfl hmap ?_; intro w0 hrg0 hg0 hs0)
    | go_in)
  go_frame
  generalize hW0 : w.setCell ⟨qb, 0, none⟩ (.int .i64 (ck + 1)) = W0 at *
  have hqlt0 : qb < W0.heap.size := by omega
  have HZ0 : Hid (W0.heap.size = w.heap.size) := hz0
  have HMS : Hid (Maps.size D ≤ U.length) := hmap.size_le
  have hb0 : Below W0.heap.size W0 w0 := (Below.refl W0.heap.size W0).grown hg0 (Nat.le_refl _) (fun j hj => by cases hj)
  clear hW0 hz0 hg0 hmap c0 c3 f1
  go_loopw [2] (fun v wr => ∃ (left : Lit → Bool) (cnt : Nat) (l : List (List UInt8)), wr.ranges Tryz.prog 9 (plainElem Tryz.prog 3) dm W0.heap.size U.length D left cnt ∧ Hid (l.length + cnt ≤ U.length) ∧
      wr.ownsRow (W0.heap.size + 1) 9 1 v l.length (l.map encStr) ∧ Hid (CollT s.du (ck + 1) left l) ∧ Below W0.heap.size W0 wr ∧ Hid (W0.heap.size + 1 ≤ wr.heap.size))
    (fun _ wr => wr.rangeLeft dm W0.heap.size)
  case atStart =>
    exact ⟨_, _, [], hrg0, by have := HMS.out; show 0 + _ ≤ _; omega, ⟨rfl, Or.inl ⟨rfl, rfl⟩⟩, CollT.start (fun b hb => has_of_f HR.out hb), hb0, by show _ ≤ _; omega⟩
  case round =>
    obtain ⟨left, cnt, l, hrg, Hln, hrow, HCo, hnx, Hws⟩ := hrel
    have c0r : wr.cell? ⟨qb, 0, none⟩ = some (.int .i64 (ck + 1)) := (hnx.cell (p := ⟨qb, 0, none⟩) hqlt0).trans c0'
    go_wp2_with (first
      | (at_next; refine wpList_next_ranges _ rfl _ rfl 9 (string_keyed und9) (plainElem Tryz.prog 3) (fun x : ByteArray => .string x) (fun c : Int => .int .i64 c) ?invK ?invV dm W0.heap.size U.length _ _ _ rfl hrg ?_ ?_)
      | go_in)
    · intro key kl hk
      obtain ⟨k, rfl, _⟩ := keyOf9_inv hk
      exact ⟨k, rfl⟩
    · intro v y hv
      obtain ⟨c, rfl, _⟩ := plainElem_int_inv und3 hv
      exact ⟨c, rfl⟩
    · intro hc0 hl0
      have hCo' : CollT s.du (ck + 1) (fun _ => false) l := by
        have e : left = fun _ => false := funext hl0
        have := HCo.out
        rw [e] at this
        exact this
      have hpm : (l.mergeSort fun x y => decide (x ≤ y)).Perm l := List.mergeSort_perm _ _
      have HN : Hid (Nexts s ((l.mergeSort fun x y => decide (x ≤ y)).map bk)) := hCo'.nexts HCK.out hpm
      have HSO : Hid ((l.mergeSort fun x y => decide (x ≤ y)).Pairwise fun a b => a ≤ b) := by
        have h := List.pairwise_mergeSort (le := fun x y : List UInt8 => decide (x ≤ y)) (fun a b c h1 h2 => by simp only [decide_eq_true_eq] at *; exact List.le_trans h1 h2) (fun a b => by simp only [Bool.or_eq_true, decide_eq_true_eq]; exact List.le_total a b) l
        exact h.imp (fun h => by simpa using h)
      have HTL : Hid ((l.mergeSort fun x y => decide (x ≤ y)).length = l.length) := hpm.length_eq
      generalize htse : (l.mergeSort fun x y => decide (x ≤ y)) = ts at *
      have HTS : Hid ((l.mergeSort fun x y => decide (x ≤ y)) = ts) := htse
      clear htse hpm hCo' hl0 hc0
      rcases hrow.2 with ⟨rfl, hl00⟩ | ⟨g, cap, cur, rfl, hbase, hb, hc1, hc2, hc3, hc4⟩
      · have hle : l = [] := List.length_eq_zero_iff.1 hl00
        have hts0 : ts = [] := List.length_eq_zero_iff.1 (by rw [HTL.out, hle]; rfl)
        subst hts0
        subst hle
        have hs := Tryz.slices_Sort_string_none none 0 wr
        have HF : Hid (QIs C U w wr qb pm dm fm s.onward) := ⟨⟨_, hq0.out.below hnx⟩, HK0.out.trans (KeptC.of_below hnx rfl)⟩
        clear hrow hl00
        go_wp2_with fail
        refine hs.mono ?_
        rintro e w' ⟨rfl, rfl⟩
        go_wp2
        go_loopw [38] (fun i wq => i = .int .i64 0 ∧ Hid (QIs C U w wq qb pm dm fm s.onward)) (fun _ _ => 0)
        case atStart => exact ⟨rfl, HF⟩
        case round =>
          obtain ⟨rfl, HQ⟩ := hrel
          go_wp2
          go_end0
          exact ⟨rfl, [], HN.out, List.Pairwise.nil, HQ.out⟩
      · have hgl : g < wr.heap.size := (Array.getElem?_eq_some_iff.1 hb).1
        have hsz : l.length < 4611686018427387904 := by have := Hln.out; omega
        have hs := Tryz.slices_Sort_string g 0 cap l wr (holds_of_block hb (by simpa using hc4)) hgl hsz
        rw [HTS.out] at hs
        go_wp2_with fail
        refine hs.mono ?_
        rintro e w3 ⟨rfl, nn, os, hw3⟩
        have hrow3 := ownsRow_sorted (n := nn) (os := os) (base := W0.heap.size) (ss := l) (ts := ts) HTL.out (by omega) hb hc1 hc2 (by simpa using hc3)
        have hg3 := grownBy_sorted (w := wr) (g := g) (n := nn) (os := os) ts.toArray
        rw [← hw3] at hrow3 hg3
        have hnx3 : Below W0.heap.size W0 w3 := hnx.grown hg3 hnx.size (fun j hj => by cases hj; omega)
        have hgl3 : g < w3.heap.size := Nat.lt_of_lt_of_le hgl hg3.size
        have hcell : ∀ j (hj : j < ts.length), w3.cell? ⟨g, j, none⟩ = some (.string (bk ts[j])) := by
          intro j hj
          have := hrow3.cells (g := g) rfl j (encStr ts[j]) (by simp [hj])
          rwa [Addr.add_lit, Nat.zero_add] at this
        have HCE : Hid (∀ j (hj : j < ts.length), w3.cell? ⟨g, j, none⟩ = some (.string (bk ts[j]))) := hcell
        have HM : Hid (∀ j, j ≤ (ts.map bk).length → QMid U (((ts.map bk).take j).foldl QS.one s.onward) ((ts.map bk).drop j)) :=
          (QMid.start HO.out HN.out).fold (fun k hk => (HO.out.dus k _ ((HN.out.mem k).1 hk)).2)
        have HQ3 : Hid (IsQ (fun b => C b ∨ (W0.heap.size ≤ b ∧ b < w3.heap.size)) U w3 qb pm dm fm rv s.onward) :=
          (hq0.out.more (fun b hb' hc => hc.elim id (fun h => absurd h.1 (by omega)))).below hnx3
        have HKW : Hid (KeptC C w w3) := HK0.out.trans (KeptC.of_below hnx3 rfl)
        have HZ3 : Hid (W0.heap.size ≤ w3.heap.size) := hnx3.size
        have HGB : Hid (W0.heap.size ≤ g ∧ g < w3.heap.size) := ⟨by omega, hgl3⟩
        have hln : l.length ≤ U.length := by have := Hln.out; omega
        clear hw3 hs hcell hrow3 hg3 hnx3 hrow hb hc1 hc2 hc3 hc4 hbase hrg hrg0 hnx c0r hgl hgl3 hsz
        go_wp2
        go_loopw [38] (fun i wq => ∃ j : Nat, j ≤ l.length ∧ i = .int .i64 j ∧ Hid (∃ rv', IsQ (fun b => C b ∨ (W0.heap.size ≤ b ∧ b < w3.heap.size)) U wq qb pm dm fm rv' (((ts.map bk).take j).foldl QS.one s.onward)) ∧ Hid (KeptC (fun b => C b ∨ (W0.heap.size ≤ b ∧ b < w3.heap.size)) w3 wq)) (fun i _ => l.length - (intOf i).toNat)
        case atStart => exact ⟨0, Nat.zero_le _, rfl, ⟨rv, by simpa using HQ3.out⟩, KeptC.refl _ _⟩
        case round =>
          obtain ⟨j, hj, rfl, HQ, HK⟩ := hrel
          by_cases hjl : j < l.length
          · obtain ⟨rv', hq⟩ := HQ.out
            have hjt : j < ts.length := by rw [HTL.out]; exact hjl
            have hcj := HCE.out j hjt
            obtain ⟨kk, hkk⟩ : ∃ kk, kk = bk ts[j] := ⟨_, rfl⟩
            rw [← hkk] at hcj
            have hkm : kk ∈ ts.map bk := by rw [hkk]; exact List.mem_map_of_mem (List.getElem_mem hjt)
            have hkU : kk ∈ U := (HO.out.dus kk _ ((HN.out.mem kk).1 hkm)).2
            have hk8 := (hU8 kk hkU).2
            have hc := (HK.out.cell (a := ⟨g, j, none⟩) (Or.inr HGB.out) HGB.out.2).trans hcj
            have c3q := hq.c3
            have hqq := hq.lt
            have hM := HM.out j (by rw [List.length_map]; omega)
            obtain ⟨w4, hrun, hq4, hk4, hz4⟩ := hq.delDu (k := kk) (by unfold maxLen; omega) 0
            have hC4 : ∀ b, (C b ∨ (W0.heap.size ≤ b ∧ b < w3.heap.size)) → b < w4.heap.size := by
              intro b hb'
              have h1 := HK.out.size
              have h2 := hk4.size
              rcases hb' with hb' | hb'
              · have := HC0.out b hb'
                have := HZ0.out
                have := HZ3.out
                omega
              · omega
            have hadd := add_any hq4 hC4 hU hM.len hM.pls kk hk8 hkU
            have HSt : Hid (QS.add { (((ts.map bk).take j).foldl QS.one s.onward) with du := upd (((ts.map bk).take j).foldl QS.one s.onward).du kk none } kk = ((ts.map bk).take (j + 1)).foldl QS.one s.onward) := by
              unfold Hid
              rw [List.take_succ_eq_append_getElem (by rw [List.length_map]; omega), List.foldl_append, List.getElem_map, ← hkk]
              rfl
            have HK4 : Hid (KeptC (fun b => C b ∨ (W0.heap.size ≤ b ∧ b < w3.heap.size)) w3 w4) := HK.out.trans hk4
            have hjb : ((j : Int) < (l.length : Int)) := by omega
            clear hq4 hk4 hC4 hM hq hkm hkU hk8 hcj hz4 hkk
            go_wp2_with fail
            refine hadd.mono ?_
            rintro e w5 ⟨rfl, ⟨rv5, hq5⟩, hk5⟩
            have HQ5 : Hid (∃ rv', IsQ (fun b => C b ∨ (W0.heap.size ≤ b ∧ b < w3.heap.size)) U w5 qb pm dm fm rv' (((ts.map bk).take (j + 1)).foldl QS.one s.onward)) := ⟨rv5, by rw [← HSt.out]; exact hq5⟩
            have HK5 : Hid (KeptC (fun b => C b ∨ (W0.heap.size ≤ b ∧ b < w3.heap.size)) w3 w5) := HK4.out.trans hk5
            clear hq5 hk5 hadd
            go_wp2
            go_roundw
            case rel => exact ⟨j + 1, by omega, by simp, HQ5, HK5⟩
            case measure => simp [intOf]; omega
          · have hje : j = l.length := by omega
            subst hje
            have hjb : ¬ ((l.length : Int) < (l.length : Int)) := by omega
            go_wp2
            go_end0
            obtain ⟨rv', hq⟩ := HQ.out
            rw [List.take_of_length_le (by rw [List.length_map, HTL.out]; exact Nat.le_refl _)] at hq
            exact ⟨rfl, ts, HN.out, HSO.out, ⟨rv', hq.more (fun b _ hc => Or.inl hc)⟩, HKW.out.trans (HK.out.sub (fun b hb' => Or.inl hb'))⟩
    · intro k' c kl yd yp w2 cnt2 hkey hlk hv hat hrg2 hlt hg2 hs2 hen
      obtain ⟨k1, e1, rfl, hk8⟩ := keyOf9_inv hkey
      simp only [Value.string.injEq] at e1
      subst e1
      obtain ⟨c1, e2, e3, _⟩ := plainElem_int_inv und3 hv
      simp only [Value.int.injEq, true_and] at e2
      subst e2
      have HF : Hid (s.du k' = some c) := f_of_at HR.out (fun z => (hat z).trans (congrArg Prod.fst e3))
      have hrow2 := hrow.kept hg2 (Or.inr (row_ne_iter hrow hrg).symm)
      have hnx2 : Below W0.heap.size W0 w2 := hnx.grown hg2 hnx.size (fun j hj => by cases hj; exact Nat.le_refl _)
      have c0q : w2.cell? ⟨qb, 0, none⟩ = some (.int .i64 (ck + 1)) := (hnx2.cell (p := ⟨qb, 0, none⟩) hqlt0).trans c0'
      have HS2 : Hid (w2.heap.size = wr.heap.size) := hs2
      clear hs2 hat hv hkey e3 c0r
      by_cases hcc : c = ck + 1
      · have hcb : (c == ck + 1) = true := by simpa using hcc
        have HCC : Hid (c = ck + 1) := hcc
        clear hcc
        have hrow4 := hrow2.alloc (.cells #[.string k'] 9)
        have hone : ∀ u ∈ [Value.string k'], u.oneCell' = true := by
          intro u hu
          simp only [List.mem_cons, List.not_mem_nil, or_false] at hu
          subst hu
          rfl
        have h63 : l.length + 1 ≤ maxLen := by have := Hln.out; unfold maxLen; omega
        have hby : (l.length + 1) * 16 ≤ 140737488355328 := by have := Hln.out; omega
        have hbs : W0.heap.size + 1 ≤ (w2.alloc (.cells #[.string k'] 9)).heap.size := by have := Hws.out; have := HS2.out; simp; omega
        go_wp2_with (first
          | (at_builtin; refine wpList_append_own _ rfl _ _ 114 rfl (W0.heap.size + 1) 9 i0 (.string ⟨#[]⟩) 1 16 Tryz.underlying114 hi z0 z1 z2 rfl (by decide) _ _ _ rfl hrow4 ⟨w2.heap.size, 0, none⟩ 1 1 [.string k'] rfl rfl (cell_one_new _ _ _) hone h63 hby hbs ?_; intro v' w3 hown' hg3 hnil3; go_frame)
          | go_in)
        have hrg4 := hrg2.alloc (.cells #[.string k'] 9)
        have hrg3 := hrg4.kept hg3 (row_ne_low hrow4 (by have := hq0.out.md.lt; omega)) (row_ne_iter hrow4 hrg4)
        go_roundw
        case rel =>
          refine ⟨_, cnt2, l ++ [k'.data.toList], hrg3, ?_, ?_, ?_, ?_, ?_⟩
          · have := Hln.out; show (l ++ [k'.data.toList]).length + _ ≤ _; simp; omega
          · have e : (l ++ [k'.data.toList]).map encStr = l.map encStr ++ [Value.string k'] := by
              rw [List.map_append, List.map_singleton, enc_bk, bk_data]
            rw [e]
            simpa using hown'
          · exact HCo.out.step (b := k'.data.toList) (by rw [bk_data, HF.out, HCC.out]) hlk
          · exact (belowAl hnx2 _).grown hg3 (belowAl hnx2 _).size (fun j hj => by have := (hrow4.lt j hj).1; omega)
          · have := hg3.size
            have := Hws.out
            have := HS2.out
            show _ ≤ _
            simp at *
            omega
        case measure => rw [hrg3.left_eq, hrg.left_eq]; exact hlt
      · have hcb : (c == ck + 1) = false := by simpa using hcc
        clear hcc
        go_wp2
        go_roundw
        case rel => exact ⟨_, cnt2, l, hrg2, by have := Hln.out; show _ ≤ _; omega, hrow2, by have := HCo.out.skip (b := k'.data.toList) (by rw [bk_data, HF.out]; intro e; injection e with e; simp [e] at hcb); exact this, hnx2, by have := Hws.out; have := HS2.out; show _ ≤ _; omega⟩
        case measure => rw [hrg2.left_eq, hrg.left_eq]; exact hlt
end

end Go.Proofs.YtdgfjneapialdaaGreatDoor
