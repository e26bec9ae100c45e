import Derived.Test.YtdgfjneapialdaaGreatDoorPk
namespace Go.Proofs.YtdgfjneapialdaaGreatDoor
open Go Go.RowKit Go.Maps Go.Lib Go.Sort

def step8 (w : Int) : Int := if w < 8 then 2 * w else w
def grow8 (w : Int) : Nat → Int
  | 0 => w
  | n + 1 => step8 (grow8 w n)
theorem grow8_bd (w : Int) (h0 : 1 ≤ w) (h1 : w ≤ 15) : ∀ n, 1 ≤ grow8 w n ∧ grow8 w n ≤ 15
  | 0 => ⟨h0, h1⟩
  | n + 1 => by
    have := grow8_bd w h0 h1 n
    unfold grow8 step8
    split <;> omega
theorem grow8_stop (w : Int) (n : Nat) (h : ¬ grow8 w n < 8) : ∀ m, grow8 w (n + m) = grow8 w n
  | 0 => rfl
  | m + 1 => by
    show step8 (grow8 w (n + m)) = _
    rw [grow8_stop w n h m]
    unfold step8
    rw [if_neg h]
def limW (k : List UInt8) (l : List Dk) : Int := l.foldl (fun w x => if x.1 = k then grow8 w x.2.toNat else w) 1
def bump1 (k : List UInt8) (x : Dk) : Dk := if x.1 = k then (x.1, x.2 + 1) else x
def hasK (k : List UInt8) (l : List Dk) : Bool := l.any fun x => decide (x.1 = k)
def RS.limited (r : RS) (k : ByteArray) : RS := RS.dueIn { r with fails := r.fails.map (bump1 k.data.toList) ++ (if hasK k.data.toList r.fails then [] else [(k.data.toList, 1)]) } k (min (limW k.data.toList r.fails) 1000)

theorem limW_snoc (k : List UInt8) (l : List Dk) (j : Nat) (hj : j < l.length) : limW k (l.take (j + 1)) = if l[j].1 = k then grow8 (limW k (l.take j)) l[j].2.toNat else limW k (l.take j) := by
  unfold limW
  rw [List.take_succ_eq_append_getElem hj, List.foldl_append]
  rfl
theorem limW_bd (k : List UInt8) (l : List Dk) : 1 ≤ limW k l ∧ limW k l ≤ 15 := by
  unfold limW
  have : ∀ (l : List Dk) (w : Int), 1 ≤ w → w ≤ 15 → 1 ≤ l.foldl (fun w x => if x.1 = k then grow8 w x.2.toNat else w) w ∧ l.foldl (fun w x => if x.1 = k then grow8 w x.2.toNat else w) w ≤ 15 := by
    intro l
    induction l with
    | nil => intro w h0 h1; exact ⟨h0, h1⟩
    | cons x r ih =>
      intro w h0 h1
      simp only [List.foldl_cons]
      split
      · exact ih _ (grow8_bd w h0 h1 _).1 (grow8_bd w h0 h1 _).2
      · exact ih w h0 h1
  exact this l 1 (by omega) (by omega)
theorem hasK_snoc (k : List UInt8) (l : List Dk) (j : Nat) (hj : j < l.length) : hasK k (l.take (j + 1)) = (hasK k (l.take j) || decide (l[j].1 = k)) := by
  unfold hasK
  rw [List.take_succ_eq_append_getElem hj, List.any_append]
  simp
theorem info160 : (Tryz.prog.info? 201).map (fun i => (i.zero, i.size, i.bytes)) = some (some (.agg #[.string ⟨#[]⟩, .int .i64 0]), 2, 24) := by kernel_rfl

section
variable {C : Nat → Prop} {w : World} {rb : Nat} {v1 v2 v3 v4 v5 : Value} {r : RS}

set_option maxRecDepth 100000 in
set_option maxHeartbeats 1000000 in
theorem rlimited_any (h : IsR C w rb v1 v2 v3 v4 v5 r) (hC : ∀ b, C b → b < w.heap.size) (hl4 : r.dues.length ≤ 1999999999999) (hl5 : r.fails.length ≤ 1999999999999) (hfb : ∀ x ∈ r.fails, 0 ≤ x.2 ∧ x.2 ≤ 4611686018427387904) (h0 : 0 ≤ r.ck) (h1 : r.ck ≤ 4611686018427387904) (k : ByteArray) (hs : k.size ≤ maxLen) (hno : noKeyB k = false) :
    Calls Tryz.prog 72 #[.pointer (some ⟨rb, 0, none⟩), .string k] w fun e w' => e = .returned (.int .i64 0) ∧ RIs C w w' rb (r.limited k) := by
  have h92 := fun w => noKey_any k w hs
  have hno' := hno
  rw [hno] at h92
  have hlt := h.lt
  obtain ⟨ad, cap, e5, hcap, had0⟩ := row_form2 h.o5
  have had : 0 < r.fails.length → ∃ g, ad = some ⟨g, 0, none⟩ := fun hp => by obtain ⟨g, e, _⟩ := had0 hp; exact ⟨g, e⟩
  obtain ⟨i0, hi, z0, z1, z2⟩ := info_parts info160
  subst e5
  have HR0 : Hid (IsR C w rb v1 v2 v3 v4 (.slice ad r.fails.length cap) { r with fails := upto (bump1 k.data.toList) r.fails 0 } ∧ KeptC C w w) := ⟨by simpa [upto] using h, KeptC.refl _ _⟩
  have HC : Hid (∀ b, C b → b < w.heap.size) := hC
  have HFB : Hid (∀ x ∈ r.fails, 0 ≤ x.2 ∧ x.2 ≤ 4611686018427387904) := hfb
  have HNO : Hid (noKeyB k = false ∧ k.size ≤ maxLen) := ⟨hno', hs⟩
  clear h hno hs had0 hC hfb hno'
  go_enter Tryz.func72, Tryz.ntmps72
  go_wp2_with fail
  refine (h92 _).mono ?_
  rintro e w' ⟨rfl, rfl⟩
  go_wp2
  go_loopw [6, 7, 8, 9] (fun wv tv iv _ wr => ∃ j : Nat, j ≤ r.fails.length ∧ iv = .int .i64 j ∧ wv = .int .i64 (limW k.data.toList (r.fails.take j)) ∧ tv = .bool (hasK k.data.toList (r.fails.take j)) ∧ Hid (IsR C wr rb v1 v2 v3 v4 (.slice ad r.fails.length cap) { r with fails := upto (bump1 k.data.toList) r.fails j } ∧ KeptC C w' wr)) (fun _ _ iv _ _ => r.fails.length - (intOf iv).toNat)
  case atStart => exact ⟨0, Nat.zero_le _, rfl, rfl, rfl, HR0⟩
  case round =>
    obtain ⟨j, hj, rfl, rfl, rfl, HR⟩ := hrel
    clear HR0
    obtain ⟨hR, hK⟩ := HR.out
    have hrw := hR.lt
    have q5 := hR.q5
    have hwb := limW_bd k.data.toList (r.fails.take j)
    obtain ⟨wt, hwt⟩ : ∃ wt, wt = limW k.data.toList (r.fails.take j) := ⟨_, rfl⟩
    obtain ⟨th, hth⟩ : ∃ th, th = hasK k.data.toList (r.fails.take j) := ⟨_, rfl⟩
    have HWT : Hid (wt = limW k.data.toList (r.fails.take j)) := hwt
    have HTH : Hid (th = hasK k.data.toList (r.fails.take j)) := hth
    rw [← hwt] at hwb ⊢
    rw [← hth]
    clear hwt hth
    by_cases hjl : j < r.fails.length
    · obtain ⟨g, rfl⟩ := had (by omega)
      have hjlt : ((j : Int) < (r.fails.length : Int)) := by omega
      have hul := upto_len (bump1 k.data.toList) r.fails j
      have ho5 := hR.o5
      obtain ⟨ad2, cap2, ee, _, hcc⟩ := row_form2 ho5
      have hju : j < (upto (bump1 k.data.toList) r.fails j).length := by rw [hul]; exact hjl
      obtain ⟨g2, eg, hgl, hcells⟩ := hcc (by show 0 < (upto (bump1 k.data.toList) r.fails j).length; omega)
      subst eg
      obtain rfl : g = g2 := by
        simp only [Value.slice.injEq] at ee
        simpa using ee.1
      obtain ⟨hx0, hx1⟩ := hcells j hju
      have hug := upto_get (bump1 k.data.toList) r.fails j hjl
      simp only at hx0 hx1
      rw [hug] at hx0 hx1
      have hfz : ∀ o, wr.frozen? ⟨g, o, none⟩ = false := fun o => by
        obtain ⟨cur, hc⟩ := own_typ ho5 g rfl
        simp [World.frozen?, hc]
      obtain ⟨xk, hxk⟩ : ∃ xk, xk = bk r.fails[j].1 := ⟨_, rfl⟩
      obtain ⟨xt, hxt⟩ : ∃ xt, xt = r.fails[j].2 := ⟨_, rfl⟩
      rw [← hxk] at hx0
      rw [← hxt] at hx1
      have HXK : Hid (xk = bk r.fails[j].1) := hxk
      have HXT : Hid (xt = r.fails[j].2) := hxt
      have hxb := HFB.out r.fails[j] (List.getElem_mem hjl)
      rw [← hxt] at hxb
      have HUS : Hid ((upto (bump1 k.data.toList) r.fails j).set j (bump1 k.data.toList r.fails[j]) = upto (bump1 k.data.toList) r.fails (j + 1)) := upto_set _ _ j hjl
      have HUM : Hid (bump1 k.data.toList r.fails[j] = r.fails[j] → upto (bump1 k.data.toList) r.fails (j + 1) = upto (bump1 k.data.toList) r.fails j) := upto_same _ _ j hjl
      have HSF : Hid (IsR C (wr.setCell ⟨g, j * 2 + 1, none⟩ (.int .i64 (xt + 1))) rb v1 v2 v3 v4 (.slice (some ⟨g, 0, none⟩) r.fails.length cap) { r with fails := (upto (bump1 k.data.toList) r.fails j).set j (r.fails[j].1, xt + 1) } ∧ KeptC C w' (wr.setCell ⟨g, j * 2 + 1, none⟩ (.int .i64 (xt + 1)))) := by
        have h5 : IsR C wr rb v1 v2 v3 v4 (.slice (some ⟨g, 0, none⟩) (upto (bump1 k.data.toList) r.fails j).length cap) { r with fails := upto (bump1 k.data.toList) r.fails j } := by rw [hul]; exact hR
        have := IsR.setFail (r := { r with fails := upto (bump1 k.data.toList) r.fails j }) h5 j hju (xt + 1)
        simp only [hug] at this
        simp only [hul] at this
        exact ⟨this, hK.set (a := ⟨g, j * 2 + 1, none⟩) (hR.c5 g rfl) _⟩
      clear hxk hxt hcells hcc hug hul hju ho5 hR hK had ee
      by_cases he : xk.toList = k.toList
      · have hb : (xk.toList == k.toList) = true := by simp [he]
        have HE : Hid (r.fails[j].1 = k.data.toList) := bk_eq_iff.1 (HXK.out.symm.trans ((ba_toList _ _).1 he))
        clear he
        go_wp2
        go_loop [6, 9] (fun wv kv => ∃ m : Nat, (m : Int) ≤ xt ∧ kv = .int .i64 m ∧ wv = .int .i64 (grow8 wt m)) (fun _ kv => (xt - intOf kv).toNat)
        case atStart => exact ⟨0, by omega, rfl, rfl⟩
        case round =>
          obtain ⟨m, hm, rfl, rfl⟩ := hrel
          have hgb := grow8_bd wt hwb.1 hwb.2 m
          have HG1 : Hid (grow8 wt m < 8 → 2 * grow8 wt m = grow8 wt (m + 1)) := fun h => by
            show _ = step8 (grow8 wt m)
            rw [step8, if_pos h]
          have HG2 : Hid (¬ ((m : Int) < xt ∧ grow8 wt m < 8) → grow8 wt m = grow8 wt xt.toNat) := fun h => by
            by_cases hlt8 : grow8 wt m < 8
            · have : xt.toNat = m := by omega
              rw [this]
            · have := grow8_stop wt m hlt8 (xt.toNat - m)
              rw [show m + (xt.toNat - m) = xt.toNat by omega] at this
              exact this.symm
          have HRel : Hid (∀ gw, gw = grow8 wt xt.toNat → ∃ j_1 : Nat, j_1 ≤ r.fails.length ∧ Value.int .i64 ((j : Int) + 1) = .int .i64 j_1 ∧ Value.int .i64 gw = .int .i64 (limW k.data.toList (r.fails.take j_1)) ∧ Value.bool true = .bool (hasK k.data.toList (r.fails.take j_1)) ∧ Hid (IsR C (wr.setCell ⟨g, j * 2 + 1, none⟩ (.int .i64 (xt + 1))) rb v1 v2 v3 v4 (.slice (some ⟨g, 0, none⟩) r.fails.length cap) { r with fails := upto (bump1 k.data.toList) r.fails j_1 } ∧ KeptC C w' (wr.setCell ⟨g, j * 2 + 1, none⟩ (.int .i64 (xt + 1))))) := by
            intro gw hgw
            refine ⟨j + 1, by omega, by simp, ?_, ?_, ?_⟩
            · rw [limW_snoc _ _ j hjl, if_pos HE.out, ← HWT.out, ← HXT.out, hgw]
            · rw [hasK_snoc _ _ j hjl, decide_eq_true HE.out, Bool.or_true]
            · have h1 := HUS.out
              rw [show bump1 k.data.toList r.fails[j] = (r.fails[j].1, xt + 1) by rw [bump1, if_pos HE.out, ← HXT.out]] at h1
              unfold Hid
              rw [← h1]
              exact HSF.out
          obtain ⟨gw, hgw⟩ : ∃ gw, gw = grow8 wt m := ⟨_, rfl⟩
          have HGW : Hid (gw = grow8 wt m) := hgw
          rw [← hgw] at hgb ⊢
          clear hgw
          by_cases hmx : (m : Int) < xt
          · have hmb : decide ((m : Int) < xt) = true := decide_eq_true hmx
            by_cases hg8 : gw < 8
            · have hgb8 : decide (gw < 8) = true := decide_eq_true hg8
              have H8 : Hid (gw < 8) := hg8
              have HMX : Hid ((m : Int) < xt) := hmx
              clear hg8 hmx
              go_wp2
              go_round
              case rel => exact ⟨m + 1, by have := HMX.out; omega, by simp, by have h1 := HG1.out; rw [← HGW.out] at h1; rw [h1 H8.out]⟩
              case measure => have := HMX.out; simp [intOf]; omega
            · have hgb8 : decide (gw < 8) = false := decide_eq_false hg8
              have HEnd : Hid (gw = grow8 wt xt.toNat) := by
                have h2 := HG2.out
                rw [← HGW.out] at h2
                exact h2 (fun h => hg8 h.2)
              clear hg8 hmx
              go_wp2
              go_roundw
              case rel => exact HRel.out gw HEnd.out
              case measure => simp [intOf]; omega
          · have hmb : decide ((m : Int) < xt) = false := decide_eq_false hmx
            have HEnd : Hid (gw = grow8 wt xt.toNat) := by
              have h2 := HG2.out
              rw [← HGW.out] at h2
              exact h2 (fun h => hmx h.1)
            clear hmx
            go_wp2
            go_roundw
            case rel => exact HRel.out gw HEnd.out
            case measure => simp [intOf]; omega
      · have hb : (xk.toList == k.toList) = false := by simp [he]
        have HE : Hid (¬ r.fails[j].1 = k.data.toList) := fun e => he (by rw [HXK.out, bk_eq_iff.2 e])
        clear he
        go_wp2
        go_roundw
        case rel =>
          refine ⟨j + 1, by omega, by simp, ?_, ?_, ?_⟩
          · rw [limW_snoc _ _ j hjl, if_neg HE.out, HWT.out]
          · rw [hasK_snoc _ _ j hjl, decide_eq_false HE.out, Bool.or_false, HTH.out]
          · unfold Hid
            rw [HUM.out (by rw [bump1, if_neg HE.out])]
            exact HR.out
        case measure => simp [intOf]; omega
    · have hjn : ¬ ((j : Int) < (r.fails.length : Int)) := by omega
      have hje : j = r.fails.length := by omega
      rw [hje, upto_all] at hR
      have HWT2 : Hid (wt = limW k.data.toList r.fails) := by
        have := HWT.out
        rw [hje, List.take_length] at this
        exact this
      have HTH2 : Hid (th = hasK k.data.toList r.fails) := by
        have := HTH.out
        rw [hje, List.take_length] at this
        exact this
      have hCr : ∀ b, C b → b < wr.heap.size := fun b hb => Nat.lt_of_lt_of_le (HC.out b hb) hK.size
      have H5 : Hid (IsR C wr rb v1 v2 v3 v4 (.slice ad r.fails.length cap) { r with fails := r.fails.map (bump1 k.data.toList) }) := hR
      have HKr : Hid (KeptC C w' wr) := hK
      have HCr : Hid (∀ b, C b → b < wr.heap.size) := hCr
      have HLim : Hid (r.limited k = RS.dueIn { r with fails := r.fails.map (bump1 k.data.toList) ++ (if th then [] else [(k.data.toList, 1)]) } k (min wt 1000)) := by
        unfold Hid RS.limited
        rw [HWT2.out, HTH2.out]
      clear hje HR had
      cases th with
      | true =>
        have haf := rafter_pos hR hCr hl4 k HNO.out.2 HNO.out.1 wt (by omega) h0 h1
        clear hR hK hCr
        have HLi : Hid (r.limited k = RS.dueIn { r with fails := r.fails.map (bump1 k.data.toList) } k (min wt 1000)) := by
          have := HLim.out
          simp only [if_true, List.append_nil] at this
          exact this
        go_wp2_with fail
        refine haf.mono ?_
        rintro e w2 ⟨rfl, hr2, hk2⟩
        go_wp2
        go_ret
        exact ⟨rfl, by rw [HLi.out]; exact hr2, HKr.out.trans hk2⟩
      | false =>
        have hrow4 := hR.o5.alloc (.cells #[.string k, .int .i64 1] 201)
        have hone := one_two k 1
        have hml : (r.fails.map (bump1 k.data.toList)).length = r.fails.length := List.length_map _
        simp only [hml] at hrow4
        have h63 : r.fails.length + 1 ≤ maxLen := by unfold maxLen; omega
        have hby : (r.fails.length + 1) * 24 ≤ 140737488355328 := by omega
        clear hR hK hCr hml
        have HLi : Hid (r.limited k = RS.dueIn { r with fails := r.fails.map (bump1 k.data.toList) ++ [(k.data.toList, 1)] } k (min wt 1000)) := by
          have := HLim.out
          simp only [Bool.false_eq_true, if_false] at this
          exact this
        go_upto_region 18 with (first
          | (at_builtin; refine wpList_append_lies _ rfl _ _ 126 rfl 0 201 i0 (.agg #[.string ⟨#[]⟩, .int .i64 0]) 2 24 Tryz.underlying126 hi z0 z1 z2 rfl (by decide) (.slice ad r.fails.length cap) _ _ rfl hrow4 ⟨wr.heap.size, 0, none⟩ 1 1 [.string k, .int .i64 1] rfl rfl (cell_two_new _ _ _ _) hone (by decide) h63 hby (Nat.zero_le _) _ rfl ?_; intro g2 cap' w3 hown hgrow hat hglt; have er := grown_rb (H5.out.alloc _).blk hrow4 (by decide) hgrow; have c5' := (cell_of_eq er 5).trans (H5.out.alloc _).q5; have f5' := fun o => (fz_of_eq er o).trans ((H5.out.alloc _).fz o); have HOW : Hid (w3.ownsRow 0 201 2 (.slice (some ⟨g2, 0, none⟩) (r.fails.length + 1) cap') (r.fails.length + 1) (flatD (r.fails.map (bump1 k.data.toList)) ++ [.string k, .int .i64 1])) := hown; have HGR : Hid ((wr.alloc (.cells #[.string k, .int .i64 1] 201)).grownBy w3 (Value.slice ad r.fails.length cap).ownBlock) := hgrow; have HAT : Hid ((Value.slice ad r.fails.length cap).ownBlock = some g2 ∨ g2 = (wr.alloc (.cells #[.string k, .int .i64 1] 201)).heap.size) := hat; clear hown hgrow hat hglt er; go_frame)
          | go_in)
        have hR6 := (H5.out.alloc (.cells #[.string k, .int .i64 1] 201)).set5 HGR.out (l := r.fails.map (bump1 k.data.toList) ++ [(k.data.toList, 1)]) (v' := .slice (some ⟨g2, 0, none⟩) (r.fails.length + 1) cap') (by
          have h1 := HOW.out
          rw [flatD_snoc, List.length_append, List.length_map, show encD (k.data.toList, 1) = [Value.string k, .int .i64 1] by rw [encD, enc_bk, bk_data]]
          exact h1) (fun b e => by
            cases e
            exact HAT.out.imp id (fun e => by rw [e]; exact Nat.le_refl _)) (fun b hb => by
            have := HCr.out b hb
            simp only [World.size_alloc]
            omega)
        have hK6 : KeptC C w' (w3.setCell ⟨rb, 5, none⟩ (.slice (some ⟨g2, 0, none⟩) (r.fails.length + 1) cap')) := ((HKr.out.alloc _).grown HGR.out (fun b e => H5.out.c5 b e)).set (a := ⟨rb, 5, none⟩) H5.out.c0 _
        have haf := rafter_pos hR6 (fun b hb => by
          rw [size_set]
          have h1 := HCr.out b hb
          have h2 := HGR.out.size
          simp only [World.size_alloc] at h2
          omega) hl4 k HNO.out.2 HNO.out.1 wt (by omega) h0 h1
        have HK6 : Hid (KeptC C w' (w3.setCell ⟨rb, 5, none⟩ (.slice (some ⟨g2, 0, none⟩) (r.fails.length + 1) cap'))) := hK6
        clear hR6 hK6
        go_wp2_with fail
        refine haf.mono ?_
        rintro e w2 ⟨rfl, hr2, hk2⟩
        go_wp2
        go_ret
        exact ⟨rfl, by rw [HLi.out]; exact hr2, HK6.out.trans hk2⟩
end

end Go.Proofs.YtdgfjneapialdaaGreatDoor
