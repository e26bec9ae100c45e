import Derived.Test.YtdgfjneapialdaaDoorDc
import Derived.Laws.IdiomStrings
namespace Go.Proofs.YtdgfjneapialdaaDoor
open Go Go.RowKit Go.Maps Go.Lib Go.Sort

theorem letterf : ∀ m : Fin 26, Utf8.encode (97 + (m.val : Int)) = ⟨#[UInt8.ofNat (97 + m.val)]⟩ := by decide +kernel
theorem name_letter {k b : Int} {m : Nat} (h4 : ¬ k = 4) (h5 : ¬ k = 5) (hm : b % 26 = (m : Int)) (hm2 : m ≤ 25) : ⟨#[UInt8.ofNat (97 + m)]⟩ = nameV k b := by
  unfold nameV
  rw [if_neg (fun h => h.elim h4 h5), hm]
  exact (letterf ⟨m, Nat.lt_succ_of_le hm2⟩).symm
theorem dec_step (s : ByteArray) (j : Nat) (h : j + 3 < s.size) : decL (s.data.toList.drop j) = opV s[j] s[j + 1] s[j + 2] s[j + 3] :: decL (s.data.toList.drop (j + 4)) := by
  rw [decL_four (s.data.toList.drop j) (by rw [List.length_drop, len_list]; omega), List.drop_drop]
  simp only [List.getElem_drop]
  rfl
theorem wrap_j (j : Nat) (h : j ≤ 1000000000010) : IntKind.i64.wrap ((j : Int) + 3) = (j : Int) + 3 := by
  rw [IntWalk.i64_left]
  exact IntWalk.wrap64_in _ (by omega)
theorem byte97 (m : Nat) (hm : m ≤ 25) : ((UInt8.ofNat (97 + m)).toNat : Int) = 97 + (m : Int) := by
  rw [UInt8.toNat_ofNat']
  omega

set_option maxRecDepth 100000 in
set_option maxHeartbeats 2000000 in
theorem rdecode_any (s : ByteArray) (hs : s.size ≤ 1000000000000) (w : World) (hT : Tab w) :
    Calls Tryd.prog 19 #[.string s] w fun e w' => ∃ v, e = .returned v ∧ w'.ownsRow w.heap.size 25 4 v (decL s.data.toList).length (decL s.data.toList).flatten ∧ Below w.heap.size w w' := by
  obtain ⟨i0, hi, z0, z1, z2⟩ := info_parts info25
  have HT : Hid (Tab w) := hT
  have HL : Hid ((decL s.data.toList).length ≤ 1000000000000) := Nat.le_trans (decL_len _ _ (Nat.le_refl _)) (by simpa using hs)
  clear hT
  go_enter Tryd.func19, Tryd.ntmps19
  go_wp2
  go_loopw [3, 4, 5, 6] (fun v i _ _ wr => ∃ (j : Nat) (dn : List (List Value)), i = .int .i64 j ∧ j ≤ s.size + 4 ∧ Hid (j % 4 = 0 ∧ j ≤ s.size) ∧ Hid (decL s.data.toList = dn ++ decL (s.data.toList.drop j)) ∧ wr.ownsRow w.heap.size 25 4 v dn.length dn.flatten ∧ Hid (Below w.heap.size w wr)) (fun _ i _ _ _ => s.size + 4 - (RowKit.intOf i).toNat)
  case atStart => exact ⟨0, [], rfl, by omega, ⟨by omega, by omega⟩, rfl, ⟨rfl, Or.inl ⟨rfl, rfl⟩⟩, Below.refl _ _⟩
  case round =>
    obtain ⟨j, dn, rfl, hj, HJ, HD, hrow, HB⟩ := hrel
    obtain ⟨ad, cap, ev⟩ := own_form hrow
    subst ev
    have HR : Hid (wr.ownsRow w.heap.size 25 4 (.slice ad dn.length cap) dn.length dn.flatten) := hrow
    have hdl : dn.length ≤ 1000000000000 := by
      have h1 := HL.out
      rw [HD.out, List.length_append] at h1
      omega
    clear hrow
    by_cases h4 : j + 3 < s.size
    · have hg : (j : Int) + 3 < (s.size : Int) := by omega
      have g0 : (j : Int) < (s.size : Int) := by omega
      have g1 : (j : Int) + 1 < (s.size : Int) := by omega
      have g2 : (j : Int) + 2 < (s.size : Int) := by omega
      have k0 : j < s.size := by omega
      have k1 : j + 1 < s.size := by omega
      have k2 : j + 2 < s.size := by omega
      have b0 : s[j].toNat < 256 := s[j].toNat_lt
      have b1 : s[j + 1].toNat < 256 := s[j + 1].toNat_lt
      have b2 : s[j + 2].toNat < 256 := s[j + 2].toNat_lt
      have b3 : s[j + 3].toNat < 256 := s[j + 3].toNat_lt
      obtain ⟨m, hm0⟩ : ∃ m : Nat, m = s[j + 1].toNat % 26 := ⟨_, rfl⟩
      have HMM : Hid ((s[j + 1].toNat : Int) % 26 = (m : Int)) := by show _ = _; omega
      have hmt : ((s[j + 1].toNat : Int)).tmod 26 = (m : Int) := by rw [Int.tmod_eq_emod_of_nonneg (by omega)]; exact HMM.out
      have hme : ((s[j + 1].toNat : Int)) % 26 = (m : Int) := HMM.out
      have hm : m ≤ 25 := by omega
      clear hm0
      have hcv : Sem.run Tryd.prog (convert 76 9 (.slice (some ⟨wr.heap.size, 0, none⟩) 1 1)) (wr.alloc (.cells #[.int .u8 (97 + (m : Int))] 5)) = .ok (.string ⟨#[UInt8.ofNat (97 + m)]⟩) (wr.alloc (.cells #[.int .u8 (97 + (m : Int))] 5)) := run_convert_bytes_back (P := Tryd.prog) (wr.alloc (.cells #[.int .u8 (97 + (m : Int))] 5)) 76 9 5 ⟨wr.heap.size, 0, none⟩ 1 [UInt8.ofNat (97 + m)] Tryd.underlying76 Tryd.underlying5 Tryd.underlying9 (fun i hi => by
        have hi0 : i = 0 := by simp at hi; omega
        subst hi0
        have := cells_new wr #[.int .u8 (97 + (m : Int))] 5 0 (.int .u8 (97 + (m : Int))) rfl
        rw [this]
        show _ = some (Value.int .u8 ((UInt8.ofNat (97 + m)).toNat : Int))
        rw [byte97 m hm])
      have hw3 : IntKind.i64.wrap ((j : Int) + 3) = (j : Int) + 3 := wrap_j j (by omega)
      have hw4 : (0 : Int) ≤ (j : Int) + 3 := by omega
      have hw5 := w64 s[j + 3]
      have hw6 : ((j : Int) + 3).toNat = j + 3 := by omega
      obtain ⟨nl, hnl⟩ : ∃ nl : ByteArray, nl = ⟨#[UInt8.ofNat (97 + m)]⟩ := ⟨_, rfl⟩
      rw [← hnl] at hcv
      have HNL : Hid (nl = ⟨#[UInt8.ofNat (97 + m)]⟩) := hnl
      clear hnl
      have hit := itoa_any (s[j + 1].toNat : Int) (by omega) (by omega) (wr.alloc (.cells #[.int .u8 (97 + (m : Int))] 5)) (HT.out.below (HB.out.alloc HB.out.size _))
      have hns := numW_size (s[j + 1].toNat : Int) (by omega) (by omega)
      by_cases hc2 : (s[j + 2].toNat : Int) > 127
      · by_cases h4' : (s[j].toNat : Int) = 4
        · have e2 : decide ((s[j + 2].toNat : Int) > 127) = true := decide_eq_true hc2
          have HS : Hid ((s[j + 2].toNat : Int) - 256 = sgn s[j + 2].toNat) := (if_pos hc2).symm
          have e4 : ((s[j].toNat : Int) == 4) = true := by rw [h4']; rfl
          have HN : Hid (⟨#[112]⟩ ++ numW s[j + 1].toNat = nameV s[j].toNat s[j + 1].toNat) := (if_pos (Or.inl h4')).symm
          clear h4'
          go_wp2_with fail
          refine hit.mono ?_
          rintro e WX ⟨rfl, hbx⟩
          have HBX : Hid (Below w.heap.size w WX) := (HB.out.alloc HB.out.size _).trans (hbx.mono (by have := HB.out.size; simp; omega))
          have HRX : Hid (WX.ownsRow w.heap.size 25 4 (.slice ad dn.length cap) dn.length dn.flatten) := own_keep (HR.out.alloc (.cells #[.int .u8 (97 + (m : Int))] 5)) (fun b e => hbx.block b (own_lt (HR.out.alloc _) e))
          clear hit hbx
          go_wp2_with fail
          rw [HN.out, HS.out]
          refine wp_region_held_drew (S := fun _ => True) (by kernel_rfl) trivial (fun _ => ?_)
          refine wpAnyH_take (i := 0) (oi := { dst := some 50, op := Op.move (Operand.tmp 3), type := 22, pos := "plane.go:34", after := #[], guard := none }) (v := ?_) rfl (by kernel_rfl) (by kernel_rfl) (by kernel_rfl) (fun _ _ _ h => h) (Or.inl ⟨by rfl, ?_⟩) trivial ?_
          rotate_left
          · intro w _
            go_simp
            try with_reducible rfl
          simp only [Act.put, List.setIfInBounds_toArray, List.set_cons_zero, List.set_cons_succ]
          refine wpAnyH_take (i := 1) (oi := { dst := some 51, op := Op.move (Operand.tmp 0), type := 9, pos := "plane.go:34", after := #[], guard := none }) (v := ?_) rfl (by kernel_rfl) (by kernel_rfl) (by kernel_rfl) (fun _ _ _ h => h) (Or.inl ⟨by rfl, ?_⟩) trivial ?_
          rotate_left
          · intro w _
            go_simp
            try with_reducible rfl
          simp only [Act.put, List.setIfInBounds_toArray, List.set_cons_zero, List.set_cons_succ]
          refine wpAnyH_take (i := 2) (oi := { dst := some 52, op := Op.move (Operand.tmp 4), type := 3, pos := "plane.go:34", after := #[], guard := none }) (v := ?_) rfl (by kernel_rfl) (by kernel_rfl) (by kernel_rfl) (fun _ _ _ h => h) (Or.inl ⟨by rfl, ?_⟩) trivial ?_
          rotate_left
          · intro w _
            go_simp
            try with_reducible rfl
          simp only [Act.put, List.setIfInBounds_toArray, List.set_cons_zero, List.set_cons_succ]
          refine wpAnyH_take (i := 3) (oi := { dst := some 53, op := Op.index 9 (Operand.tmp 51) (Operand.tmp 52), type := 5, pos := "plane.go:34", after := #[{ on := 1, ground := Ground.data }, { on := 2, ground := Ground.data }], guard := none }) (v := ?_) rfl (by kernel_rfl) (by kernel_rfl) (by kernel_rfl) (fun _ _ _ h => h) (Or.inl ⟨by rfl, ?_⟩) trivial ?_
          rotate_left
          · intro w _
            go_simp
            try with_reducible rfl
          simp only [Act.put, List.setIfInBounds_toArray, List.set_cons_zero, List.set_cons_succ]
          refine wpAnyH_take (i := 4) (oi := { dst := some 54, op := Op.move (Operand.tmp 6), type := 9, pos := "plane.go:34", after := #[], guard := none }) (v := ?_) rfl (by kernel_rfl) (by kernel_rfl) (by kernel_rfl) (fun _ _ _ h => h) (Or.inl ⟨by rfl, ?_⟩) trivial ?_
          rotate_left
          · intro w _
            go_simp
            try with_reducible rfl
          simp only [Act.put, List.setIfInBounds_toArray, List.set_cons_zero, List.set_cons_succ]
          refine wpAnyH_take (i := 5) (oi := { dst := some 55, op := Op.move (Operand.tmp 5), type := 3, pos := "plane.go:34", after := #[], guard := none }) (v := ?_) rfl (by kernel_rfl) (by kernel_rfl) (by kernel_rfl) (fun _ _ _ h => h) (Or.inl ⟨by rfl, ?_⟩) trivial ?_
          rotate_left
          · intro w _
            go_simp
            try with_reducible rfl
          simp only [Act.put, List.setIfInBounds_toArray, List.set_cons_zero, List.set_cons_succ]
          refine wpAnyH_take (i := 6) (oi := { dst := some 56, op := Op.move (Operand.tmp 0), type := 9, pos := "plane.go:34", after := #[], guard := none }) (v := ?_) rfl (by kernel_rfl) (by kernel_rfl) (by kernel_rfl) (fun _ _ _ h => h) (Or.inl ⟨by rfl, ?_⟩) trivial ?_
          rotate_left
          · intro w _
            go_simp
            try with_reducible rfl
          simp only [Act.put, List.setIfInBounds_toArray, List.set_cons_zero, List.set_cons_succ]
          refine wpAnyH_take (i := 7) (oi := { dst := some 57, op := Op.move (Operand.tmp 4), type := 3, pos := "plane.go:34", after := #[], guard := none }) (v := ?_) rfl (by kernel_rfl) (by kernel_rfl) (by kernel_rfl) (fun _ _ _ h => h) (Or.inl ⟨by rfl, ?_⟩) trivial ?_
          rotate_left
          · intro w _
            go_simp
            try with_reducible rfl
          simp only [Act.put, List.setIfInBounds_toArray, List.set_cons_zero, List.set_cons_succ]
          refine wpAnyH_take (i := 8) (oi := { dst := some 58, op := Op.binOp BinOp.add 3 (Operand.tmp 57) (Operand.const (Value.int IntKind.i64 3)) 3, type := 3, pos := "plane.go:34", after := #[{ on := 7, ground := Ground.data }], guard := none }) (v := ?_) rfl (by kernel_rfl) (by kernel_rfl) (by kernel_rfl) (fun _ _ _ h => h) (Or.inl ⟨by rfl, ?_⟩) trivial ?_
          rotate_left
          · intro w _
            go_simp
            try with_reducible rfl
          simp only [Act.put, List.setIfInBounds_toArray, List.set_cons_zero, List.set_cons_succ]
          refine wpAnyH_take (i := 9) (oi := { dst := some 59, op := Op.index 9 (Operand.tmp 56) (Operand.tmp 58), type := 5, pos := "plane.go:34", after := #[{ on := 6, ground := Ground.data }, { on := 8, ground := Ground.data }], guard := none }) (v := ?_) rfl (by kernel_rfl) (by kernel_rfl) (by kernel_rfl) (fun _ _ _ h => h) (Or.inl ⟨by rfl, ?_⟩) trivial ?_
          rotate_left
          · intro w _
            go_simp
            try with_reducible rfl
          simp only [Act.put, List.setIfInBounds_toArray, List.set_cons_zero, List.set_cons_succ]
          refine wpAnyH_take (i := 10) (oi := { dst := some 60, op := Op.convert 5 3 (Operand.tmp 59), type := 3, pos := "plane.go:34", after := #[{ on := 9, ground := Ground.data }], guard := none }) (v := ?_) rfl (by kernel_rfl) (by kernel_rfl) (by kernel_rfl) (fun _ _ _ h => h) (Or.inl ⟨by rfl, ?_⟩) trivial ?_
          rotate_left
          · intro w _
            go_simp
            try with_reducible rfl
          simp only [Act.put, List.setIfInBounds_toArray, List.set_cons_zero, List.set_cons_succ]
          refine wpAnyH_take (i := 11) (oi := { dst := some 61, op := Op.build 25 #[(0, Operand.tmp 53), (1, Operand.tmp 54), (2, Operand.tmp 55), (3, Operand.tmp 60)], type := 25, pos := "plane.go:34", after := #[{ on := 3, ground := Ground.data }, { on := 4, ground := Ground.data }, { on := 5, ground := Ground.data }, { on := 10, ground := Ground.data }], guard := none }) (v := ?_) rfl (by kernel_rfl) (by kernel_rfl) (by kernel_rfl) (fun _ _ _ h => h) (Or.inl ⟨by rfl, ?_⟩) trivial ?_
          rotate_left
          · intro w _
            go_simp
            try with_reducible rfl
          simp only [Act.put, List.setIfInBounds_toArray, List.set_cons_zero, List.set_cons_succ]
          refine wpAnyH_ready (rs := [12]) (by kernel_rfl) (by simp) ?_
          refine AllReadyH.cons rfl (fun K hK => ?_) AllReadyH.nil
          go_simp
          refine hK.out _ _ trivial (fun _ => ?_)
          clear hK K
          have hown : (WX.alloc (.cells #[.int .u8 s[j].toNat, .string (nameV s[j].toNat s[j + 1].toNat), .int .i64 (sgn s[j + 2].toNat), .int .i64 s[j + 3].toNat] 25)).drew.ownsRow w.heap.size 25 4 (.slice ad dn.length cap) dn.length dn.flatten := own_keep (w' := (WX.alloc (.cells #[.int .u8 s[j].toNat, .string (nameV s[j].toNat s[j + 1].toNat), .int .i64 (sgn s[j + 2].toNat), .int .i64 s[j + 3].toNat] 25)).drew) (HRX.out.alloc (.cells #[.int .u8 s[j].toNat, .string (nameV s[j].toNat s[j + 1].toNat), .int .i64 (sgn s[j + 2].toNat), .int .i64 s[j + 3].toNat] 25)) (fun _ _ => rfl)
          have hcn : ∀ i u, [Value.int .u8 s[j].toNat, .string (nameV s[j].toNat s[j + 1].toNat), .int .i64 (sgn s[j + 2].toNat), .int .i64 s[j + 3].toNat][i]? = some u → (WX.alloc (.cells #[.int .u8 s[j].toNat, .string (nameV s[j].toNat s[j + 1].toNat), .int .i64 (sgn s[j + 2].toNat), .int .i64 s[j + 3].toNat] 25)).drew.cell? ((⟨WX.heap.size, 0, none⟩ : Addr).add i) = some u := cells_new WX #[.int .u8 s[j].toNat, .string (nameV s[j].toNat s[j + 1].toNat), .int .i64 (sgn s[j + 2].toNat), .int .i64 s[j + 3].toNat] 25
          have hone : ∀ u ∈ [Value.int .u8 s[j].toNat, .string (nameV s[j].toNat s[j + 1].toNat), .int .i64 (sgn s[j + 2].toNat), .int .i64 s[j + 3].toNat], u.oneCell' = true := by
            intro u hu
            simp only [List.mem_cons, List.not_mem_nil, or_false] at hu
            rcases hu with rfl | rfl | rfl | rfl <;> rfl
          have h63 : dn.length + 1 ≤ maxLen := by unfold maxLen; omega
          have hby : (dn.length + 1) * 40 ≤ 140737488355328 := by omega
          have hbase : w.heap.size ≤ (WX.alloc (.cells #[.int .u8 s[j].toNat, .string (nameV s[j].toNat s[j + 1].toNat), .int .i64 (sgn s[j + 2].toNat), .int .i64 s[j + 3].toNat] 25)).drew.heap.size := by have := HBX.out.size; simp; omega
          refine wpAnyH_ready (rs := [13]) (by kernel_rfl) (by simp) ?_
          refine AllReadyH.cons rfl (fun K hK => ?_) AllReadyH.nil
          refine step_append_lies _ rfl _ _ 22 rfl w.heap.size 25 i0 (.agg #[.int .u8 0, .string ⟨#[]⟩, .int .i64 0, .int .i64 0]) 4 40 Tryd.underlying22 hi z0 z1 z2 rfl (by decide) (.slice ad dn.length cap) _ _ rfl hown ⟨WX.heap.size, 0, none⟩ 1 1 [.int .u8 s[j].toNat, .string (nameV s[j].toNat s[j + 1].toNat), .int .i64 (sgn s[j + 2].toNat), .int .i64 s[j + 3].toNat] rfl rfl hcn hone (by decide) h63 hby hbase _ rfl ?_
          intro g cap' w3 hown' hg3 hat3 hlt3
          refine hK.out _ _ trivial (fun _ => ?_)
          clear hK K
          have HO : Hid (w3.ownsRow w.heap.size 25 4 (.slice (some ⟨g, 0, none⟩) (dn.length + 1) cap') (dn.length + 1) (dn.flatten ++ [.int .u8 s[j].toNat, .string (nameV s[j].toNat s[j + 1].toNat), .int .i64 (sgn s[j + 2].toNat), .int .i64 s[j + 3].toNat])) := hown'
          have HB3 : Hid (Below w.heap.size w w3) := below_grown (HBX.out.alloc HBX.out.size _).drew hg3 (fun b e => (hown.lt b e).1)
          clear hown hcn hone h63 hby hbase hown' hg3 hat3 hlt3
          simp only [Act.put, List.setIfInBounds_toArray]
          refine wpAnyH_take (i := 14) (oi := { dst := some 3, op := Op.assign (Operand.tmp 63), type := 22, pos := "plane.go:34", after := #[{ on := 13, ground := Ground.data }, { on := 13, ground := Ground.chain }, { on := 0, ground := Ground.phase }, { on := 1, ground := Ground.phase }, { on := 2, ground := Ground.phase }, { on := 3, ground := Ground.phase }, { on := 4, ground := Ground.phase }, { on := 5, ground := Ground.phase }, { on := 6, ground := Ground.phase }, { on := 7, ground := Ground.phase }, { on := 8, ground := Ground.phase }, { on := 9, ground := Ground.phase }, { on := 10, ground := Ground.phase }, { on := 11, ground := Ground.phase }, { on := 12, ground := Ground.phase }, { on := 13, ground := Ground.phase }], guard := none }) (v := ?_) rfl (by kernel_rfl) (by kernel_rfl) (by kernel_rfl) (fun _ _ _ h => h) (Or.inl ⟨by rfl, ?_⟩) trivial ?_
          rotate_left
          · intro w _
            go_simp
            try with_reducible rfl
          simp only [Act.put]
          refine wpAnyH_done (by kernel_rfl) ?_ _
          go_wp2
          go_roundw
          case rel =>
            refine ⟨j + 4, dn ++ [opV s[j] s[j + 1] s[j + 2] s[j + 3]], by simp, by omega, ⟨by have := HJ.out.1; omega, by omega⟩, ?_, ?_, HB3.out⟩
            · show _ = _
              rw [HD.out, dec_step s j h4, List.append_assoc]
              rfl
            · rw [List.length_append, List.flatten_append]
              exact HO.out
          case measure => simp [RowKit.intOf]; omega
        · by_cases h5' : (s[j].toNat : Int) = 5
          · have e2 : decide ((s[j + 2].toNat : Int) > 127) = true := decide_eq_true hc2
            have HS : Hid ((s[j + 2].toNat : Int) - 256 = sgn s[j + 2].toNat) := (if_pos hc2).symm
            have e4 : ((s[j].toNat : Int) == 4) = false := by rw [beq_eq_false_iff_ne]; exact h4'
            have e5 : ((s[j].toNat : Int) == 5) = true := by rw [h5']; rfl
            have HN : Hid (⟨#[112]⟩ ++ numW s[j + 1].toNat = nameV s[j].toNat s[j + 1].toNat) := (if_pos (Or.inr h5')).symm
            clear h4' h5'
            go_wp2_with fail
            refine hit.mono ?_
            rintro e WX ⟨rfl, hbx⟩
            have HBX : Hid (Below w.heap.size w WX) := (HB.out.alloc HB.out.size _).trans (hbx.mono (by have := HB.out.size; simp; omega))
            have HRX : Hid (WX.ownsRow w.heap.size 25 4 (.slice ad dn.length cap) dn.length dn.flatten) := own_keep (HR.out.alloc (.cells #[.int .u8 (97 + (m : Int))] 5)) (fun b e => hbx.block b (own_lt (HR.out.alloc _) e))
            clear hit hbx
            go_wp2_with fail
            rw [HN.out, HS.out]
            refine wp_region_held_drew (S := fun _ => True) (by kernel_rfl) trivial (fun _ => ?_)
            refine wpAnyH_take (i := 0) (oi := { dst := some 50, op := Op.move (Operand.tmp 3), type := 22, pos := "plane.go:34", after := #[], guard := none }) (v := ?_) rfl (by kernel_rfl) (by kernel_rfl) (by kernel_rfl) (fun _ _ _ h => h) (Or.inl ⟨by rfl, ?_⟩) trivial ?_
            rotate_left
            · intro w _
              go_simp
              try with_reducible rfl
            simp only [Act.put, List.setIfInBounds_toArray, List.set_cons_zero, List.set_cons_succ]
            refine wpAnyH_take (i := 1) (oi := { dst := some 51, op := Op.move (Operand.tmp 0), type := 9, pos := "plane.go:34", after := #[], guard := none }) (v := ?_) rfl (by kernel_rfl) (by kernel_rfl) (by kernel_rfl) (fun _ _ _ h => h) (Or.inl ⟨by rfl, ?_⟩) trivial ?_
            rotate_left
            · intro w _
              go_simp
              try with_reducible rfl
            simp only [Act.put, List.setIfInBounds_toArray, List.set_cons_zero, List.set_cons_succ]
            refine wpAnyH_take (i := 2) (oi := { dst := some 52, op := Op.move (Operand.tmp 4), type := 3, pos := "plane.go:34", after := #[], guard := none }) (v := ?_) rfl (by kernel_rfl) (by kernel_rfl) (by kernel_rfl) (fun _ _ _ h => h) (Or.inl ⟨by rfl, ?_⟩) trivial ?_
            rotate_left
            · intro w _
              go_simp
              try with_reducible rfl
            simp only [Act.put, List.setIfInBounds_toArray, List.set_cons_zero, List.set_cons_succ]
            refine wpAnyH_take (i := 3) (oi := { dst := some 53, op := Op.index 9 (Operand.tmp 51) (Operand.tmp 52), type := 5, pos := "plane.go:34", after := #[{ on := 1, ground := Ground.data }, { on := 2, ground := Ground.data }], guard := none }) (v := ?_) rfl (by kernel_rfl) (by kernel_rfl) (by kernel_rfl) (fun _ _ _ h => h) (Or.inl ⟨by rfl, ?_⟩) trivial ?_
            rotate_left
            · intro w _
              go_simp
              try with_reducible rfl
            simp only [Act.put, List.setIfInBounds_toArray, List.set_cons_zero, List.set_cons_succ]
            refine wpAnyH_take (i := 4) (oi := { dst := some 54, op := Op.move (Operand.tmp 6), type := 9, pos := "plane.go:34", after := #[], guard := none }) (v := ?_) rfl (by kernel_rfl) (by kernel_rfl) (by kernel_rfl) (fun _ _ _ h => h) (Or.inl ⟨by rfl, ?_⟩) trivial ?_
            rotate_left
            · intro w _
              go_simp
              try with_reducible rfl
            simp only [Act.put, List.setIfInBounds_toArray, List.set_cons_zero, List.set_cons_succ]
            refine wpAnyH_take (i := 5) (oi := { dst := some 55, op := Op.move (Operand.tmp 5), type := 3, pos := "plane.go:34", after := #[], guard := none }) (v := ?_) rfl (by kernel_rfl) (by kernel_rfl) (by kernel_rfl) (fun _ _ _ h => h) (Or.inl ⟨by rfl, ?_⟩) trivial ?_
            rotate_left
            · intro w _
              go_simp
              try with_reducible rfl
            simp only [Act.put, List.setIfInBounds_toArray, List.set_cons_zero, List.set_cons_succ]
            refine wpAnyH_take (i := 6) (oi := { dst := some 56, op := Op.move (Operand.tmp 0), type := 9, pos := "plane.go:34", after := #[], guard := none }) (v := ?_) rfl (by kernel_rfl) (by kernel_rfl) (by kernel_rfl) (fun _ _ _ h => h) (Or.inl ⟨by rfl, ?_⟩) trivial ?_
            rotate_left
            · intro w _
              go_simp
              try with_reducible rfl
            simp only [Act.put, List.setIfInBounds_toArray, List.set_cons_zero, List.set_cons_succ]
            refine wpAnyH_take (i := 7) (oi := { dst := some 57, op := Op.move (Operand.tmp 4), type := 3, pos := "plane.go:34", after := #[], guard := none }) (v := ?_) rfl (by kernel_rfl) (by kernel_rfl) (by kernel_rfl) (fun _ _ _ h => h) (Or.inl ⟨by rfl, ?_⟩) trivial ?_
            rotate_left
            · intro w _
              go_simp
              try with_reducible rfl
            simp only [Act.put, List.setIfInBounds_toArray, List.set_cons_zero, List.set_cons_succ]
            refine wpAnyH_take (i := 8) (oi := { dst := some 58, op := Op.binOp BinOp.add 3 (Operand.tmp 57) (Operand.const (Value.int IntKind.i64 3)) 3, type := 3, pos := "plane.go:34", after := #[{ on := 7, ground := Ground.data }], guard := none }) (v := ?_) rfl (by kernel_rfl) (by kernel_rfl) (by kernel_rfl) (fun _ _ _ h => h) (Or.inl ⟨by rfl, ?_⟩) trivial ?_
            rotate_left
            · intro w _
              go_simp
              try with_reducible rfl
            simp only [Act.put, List.setIfInBounds_toArray, List.set_cons_zero, List.set_cons_succ]
            refine wpAnyH_take (i := 9) (oi := { dst := some 59, op := Op.index 9 (Operand.tmp 56) (Operand.tmp 58), type := 5, pos := "plane.go:34", after := #[{ on := 6, ground := Ground.data }, { on := 8, ground := Ground.data }], guard := none }) (v := ?_) rfl (by kernel_rfl) (by kernel_rfl) (by kernel_rfl) (fun _ _ _ h => h) (Or.inl ⟨by rfl, ?_⟩) trivial ?_
            rotate_left
            · intro w _
              go_simp
              try with_reducible rfl
            simp only [Act.put, List.setIfInBounds_toArray, List.set_cons_zero, List.set_cons_succ]
            refine wpAnyH_take (i := 10) (oi := { dst := some 60, op := Op.convert 5 3 (Operand.tmp 59), type := 3, pos := "plane.go:34", after := #[{ on := 9, ground := Ground.data }], guard := none }) (v := ?_) rfl (by kernel_rfl) (by kernel_rfl) (by kernel_rfl) (fun _ _ _ h => h) (Or.inl ⟨by rfl, ?_⟩) trivial ?_
            rotate_left
            · intro w _
              go_simp
              try with_reducible rfl
            simp only [Act.put, List.setIfInBounds_toArray, List.set_cons_zero, List.set_cons_succ]
            refine wpAnyH_take (i := 11) (oi := { dst := some 61, op := Op.build 25 #[(0, Operand.tmp 53), (1, Operand.tmp 54), (2, Operand.tmp 55), (3, Operand.tmp 60)], type := 25, pos := "plane.go:34", after := #[{ on := 3, ground := Ground.data }, { on := 4, ground := Ground.data }, { on := 5, ground := Ground.data }, { on := 10, ground := Ground.data }], guard := none }) (v := ?_) rfl (by kernel_rfl) (by kernel_rfl) (by kernel_rfl) (fun _ _ _ h => h) (Or.inl ⟨by rfl, ?_⟩) trivial ?_
            rotate_left
            · intro w _
              go_simp
              try with_reducible rfl
            simp only [Act.put, List.setIfInBounds_toArray, List.set_cons_zero, List.set_cons_succ]
            refine wpAnyH_ready (rs := [12]) (by kernel_rfl) (by simp) ?_
            refine AllReadyH.cons rfl (fun K hK => ?_) AllReadyH.nil
            go_simp
            refine hK.out _ _ trivial (fun _ => ?_)
            clear hK K
            have hown : (WX.alloc (.cells #[.int .u8 s[j].toNat, .string (nameV s[j].toNat s[j + 1].toNat), .int .i64 (sgn s[j + 2].toNat), .int .i64 s[j + 3].toNat] 25)).drew.ownsRow w.heap.size 25 4 (.slice ad dn.length cap) dn.length dn.flatten := own_keep (w' := (WX.alloc (.cells #[.int .u8 s[j].toNat, .string (nameV s[j].toNat s[j + 1].toNat), .int .i64 (sgn s[j + 2].toNat), .int .i64 s[j + 3].toNat] 25)).drew) (HRX.out.alloc (.cells #[.int .u8 s[j].toNat, .string (nameV s[j].toNat s[j + 1].toNat), .int .i64 (sgn s[j + 2].toNat), .int .i64 s[j + 3].toNat] 25)) (fun _ _ => rfl)
            have hcn : ∀ i u, [Value.int .u8 s[j].toNat, .string (nameV s[j].toNat s[j + 1].toNat), .int .i64 (sgn s[j + 2].toNat), .int .i64 s[j + 3].toNat][i]? = some u → (WX.alloc (.cells #[.int .u8 s[j].toNat, .string (nameV s[j].toNat s[j + 1].toNat), .int .i64 (sgn s[j + 2].toNat), .int .i64 s[j + 3].toNat] 25)).drew.cell? ((⟨WX.heap.size, 0, none⟩ : Addr).add i) = some u := cells_new WX #[.int .u8 s[j].toNat, .string (nameV s[j].toNat s[j + 1].toNat), .int .i64 (sgn s[j + 2].toNat), .int .i64 s[j + 3].toNat] 25
            have hone : ∀ u ∈ [Value.int .u8 s[j].toNat, .string (nameV s[j].toNat s[j + 1].toNat), .int .i64 (sgn s[j + 2].toNat), .int .i64 s[j + 3].toNat], u.oneCell' = true := by
              intro u hu
              simp only [List.mem_cons, List.not_mem_nil, or_false] at hu
              rcases hu with rfl | rfl | rfl | rfl <;> rfl
            have h63 : dn.length + 1 ≤ maxLen := by unfold maxLen; omega
            have hby : (dn.length + 1) * 40 ≤ 140737488355328 := by omega
            have hbase : w.heap.size ≤ (WX.alloc (.cells #[.int .u8 s[j].toNat, .string (nameV s[j].toNat s[j + 1].toNat), .int .i64 (sgn s[j + 2].toNat), .int .i64 s[j + 3].toNat] 25)).drew.heap.size := by have := HBX.out.size; simp; omega
            refine wpAnyH_ready (rs := [13]) (by kernel_rfl) (by simp) ?_
            refine AllReadyH.cons rfl (fun K hK => ?_) AllReadyH.nil
            refine step_append_lies _ rfl _ _ 22 rfl w.heap.size 25 i0 (.agg #[.int .u8 0, .string ⟨#[]⟩, .int .i64 0, .int .i64 0]) 4 40 Tryd.underlying22 hi z0 z1 z2 rfl (by decide) (.slice ad dn.length cap) _ _ rfl hown ⟨WX.heap.size, 0, none⟩ 1 1 [.int .u8 s[j].toNat, .string (nameV s[j].toNat s[j + 1].toNat), .int .i64 (sgn s[j + 2].toNat), .int .i64 s[j + 3].toNat] rfl rfl hcn hone (by decide) h63 hby hbase _ rfl ?_
            intro g cap' w3 hown' hg3 hat3 hlt3
            refine hK.out _ _ trivial (fun _ => ?_)
            clear hK K
            have HO : Hid (w3.ownsRow w.heap.size 25 4 (.slice (some ⟨g, 0, none⟩) (dn.length + 1) cap') (dn.length + 1) (dn.flatten ++ [.int .u8 s[j].toNat, .string (nameV s[j].toNat s[j + 1].toNat), .int .i64 (sgn s[j + 2].toNat), .int .i64 s[j + 3].toNat])) := hown'
            have HB3 : Hid (Below w.heap.size w w3) := below_grown (HBX.out.alloc HBX.out.size _).drew hg3 (fun b e => (hown.lt b e).1)
            clear hown hcn hone h63 hby hbase hown' hg3 hat3 hlt3
            simp only [Act.put, List.setIfInBounds_toArray]
            refine wpAnyH_take (i := 14) (oi := { dst := some 3, op := Op.assign (Operand.tmp 63), type := 22, pos := "plane.go:34", after := #[{ on := 13, ground := Ground.data }, { on := 13, ground := Ground.chain }, { on := 0, ground := Ground.phase }, { on := 1, ground := Ground.phase }, { on := 2, ground := Ground.phase }, { on := 3, ground := Ground.phase }, { on := 4, ground := Ground.phase }, { on := 5, ground := Ground.phase }, { on := 6, ground := Ground.phase }, { on := 7, ground := Ground.phase }, { on := 8, ground := Ground.phase }, { on := 9, ground := Ground.phase }, { on := 10, ground := Ground.phase }, { on := 11, ground := Ground.phase }, { on := 12, ground := Ground.phase }, { on := 13, ground := Ground.phase }], guard := none }) (v := ?_) rfl (by kernel_rfl) (by kernel_rfl) (by kernel_rfl) (fun _ _ _ h => h) (Or.inl ⟨by rfl, ?_⟩) trivial ?_
            rotate_left
            · intro w _
              go_simp
              try with_reducible rfl
            simp only [Act.put]
            refine wpAnyH_done (by kernel_rfl) ?_ _
            go_wp2
            go_roundw
            case rel =>
              refine ⟨j + 4, dn ++ [opV s[j] s[j + 1] s[j + 2] s[j + 3]], by simp, by omega, ⟨by have := HJ.out.1; omega, by omega⟩, ?_, ?_, HB3.out⟩
              · show _ = _
                rw [HD.out, dec_step s j h4, List.append_assoc]
                rfl
              · rw [List.length_append, List.flatten_append]
                exact HO.out
            case measure => simp [RowKit.intOf]; omega
          · have e2 : decide ((s[j + 2].toNat : Int) > 127) = true := decide_eq_true hc2
            have HS : Hid ((s[j + 2].toNat : Int) - 256 = sgn s[j + 2].toNat) := (if_pos hc2).symm
            have e4 : ((s[j].toNat : Int) == 4) = false := by rw [beq_eq_false_iff_ne]; exact h4'
            have e5 : ((s[j].toNat : Int) == 5) = false := by rw [beq_eq_false_iff_ne]; exact h5'
            have HN : Hid (nl = nameV s[j].toNat s[j + 1].toNat) := HNL.out.trans (name_letter h4' h5' HMM.out hm)
            clear hit
            go_wp2_with fail
            rw [HN.out, HS.out]
            have HBX : Hid (Below w.heap.size w (wr.alloc (.cells #[.int .u8 (97 + (m : Int))] 5))) := HB.out.alloc HB.out.size _
            have HRX : Hid ((wr.alloc (.cells #[.int .u8 (97 + (m : Int))] 5)).ownsRow w.heap.size 25 4 (.slice ad dn.length cap) dn.length dn.flatten) := HR.out.alloc _
            generalize wr.alloc (.cells #[.int .u8 (97 + (m : Int))] 5) = WX at *
            refine wp_region_held_drew (S := fun _ => True) (by kernel_rfl) trivial (fun _ => ?_)
            refine wpAnyH_take (i := 0) (oi := { dst := some 50, op := Op.move (Operand.tmp 3), type := 22, pos := "plane.go:34", after := #[], guard := none }) (v := ?_) rfl (by kernel_rfl) (by kernel_rfl) (by kernel_rfl) (fun _ _ _ h => h) (Or.inl ⟨by rfl, ?_⟩) trivial ?_
            rotate_left
            · intro w _
              go_simp
              try with_reducible rfl
            simp only [Act.put, List.setIfInBounds_toArray, List.set_cons_zero, List.set_cons_succ]
            refine wpAnyH_take (i := 1) (oi := { dst := some 51, op := Op.move (Operand.tmp 0), type := 9, pos := "plane.go:34", after := #[], guard := none }) (v := ?_) rfl (by kernel_rfl) (by kernel_rfl) (by kernel_rfl) (fun _ _ _ h => h) (Or.inl ⟨by rfl, ?_⟩) trivial ?_
            rotate_left
            · intro w _
              go_simp
              try with_reducible rfl
            simp only [Act.put, List.setIfInBounds_toArray, List.set_cons_zero, List.set_cons_succ]
            refine wpAnyH_take (i := 2) (oi := { dst := some 52, op := Op.move (Operand.tmp 4), type := 3, pos := "plane.go:34", after := #[], guard := none }) (v := ?_) rfl (by kernel_rfl) (by kernel_rfl) (by kernel_rfl) (fun _ _ _ h => h) (Or.inl ⟨by rfl, ?_⟩) trivial ?_
            rotate_left
            · intro w _
              go_simp
              try with_reducible rfl
            simp only [Act.put, List.setIfInBounds_toArray, List.set_cons_zero, List.set_cons_succ]
            refine wpAnyH_take (i := 3) (oi := { dst := some 53, op := Op.index 9 (Operand.tmp 51) (Operand.tmp 52), type := 5, pos := "plane.go:34", after := #[{ on := 1, ground := Ground.data }, { on := 2, ground := Ground.data }], guard := none }) (v := ?_) rfl (by kernel_rfl) (by kernel_rfl) (by kernel_rfl) (fun _ _ _ h => h) (Or.inl ⟨by rfl, ?_⟩) trivial ?_
            rotate_left
            · intro w _
              go_simp
              try with_reducible rfl
            simp only [Act.put, List.setIfInBounds_toArray, List.set_cons_zero, List.set_cons_succ]
            refine wpAnyH_take (i := 4) (oi := { dst := some 54, op := Op.move (Operand.tmp 6), type := 9, pos := "plane.go:34", after := #[], guard := none }) (v := ?_) rfl (by kernel_rfl) (by kernel_rfl) (by kernel_rfl) (fun _ _ _ h => h) (Or.inl ⟨by rfl, ?_⟩) trivial ?_
            rotate_left
            · intro w _
              go_simp
              try with_reducible rfl
            simp only [Act.put, List.setIfInBounds_toArray, List.set_cons_zero, List.set_cons_succ]
            refine wpAnyH_take (i := 5) (oi := { dst := some 55, op := Op.move (Operand.tmp 5), type := 3, pos := "plane.go:34", after := #[], guard := none }) (v := ?_) rfl (by kernel_rfl) (by kernel_rfl) (by kernel_rfl) (fun _ _ _ h => h) (Or.inl ⟨by rfl, ?_⟩) trivial ?_
            rotate_left
            · intro w _
              go_simp
              try with_reducible rfl
            simp only [Act.put, List.setIfInBounds_toArray, List.set_cons_zero, List.set_cons_succ]
            refine wpAnyH_take (i := 6) (oi := { dst := some 56, op := Op.move (Operand.tmp 0), type := 9, pos := "plane.go:34", after := #[], guard := none }) (v := ?_) rfl (by kernel_rfl) (by kernel_rfl) (by kernel_rfl) (fun _ _ _ h => h) (Or.inl ⟨by rfl, ?_⟩) trivial ?_
            rotate_left
            · intro w _
              go_simp
              try with_reducible rfl
            simp only [Act.put, List.setIfInBounds_toArray, List.set_cons_zero, List.set_cons_succ]
            refine wpAnyH_take (i := 7) (oi := { dst := some 57, op := Op.move (Operand.tmp 4), type := 3, pos := "plane.go:34", after := #[], guard := none }) (v := ?_) rfl (by kernel_rfl) (by kernel_rfl) (by kernel_rfl) (fun _ _ _ h => h) (Or.inl ⟨by rfl, ?_⟩) trivial ?_
            rotate_left
            · intro w _
              go_simp
              try with_reducible rfl
            simp only [Act.put, List.setIfInBounds_toArray, List.set_cons_zero, List.set_cons_succ]
            refine wpAnyH_take (i := 8) (oi := { dst := some 58, op := Op.binOp BinOp.add 3 (Operand.tmp 57) (Operand.const (Value.int IntKind.i64 3)) 3, type := 3, pos := "plane.go:34", after := #[{ on := 7, ground := Ground.data }], guard := none }) (v := ?_) rfl (by kernel_rfl) (by kernel_rfl) (by kernel_rfl) (fun _ _ _ h => h) (Or.inl ⟨by rfl, ?_⟩) trivial ?_
            rotate_left
            · intro w _
              go_simp
              try with_reducible rfl
            simp only [Act.put, List.setIfInBounds_toArray, List.set_cons_zero, List.set_cons_succ]
            refine wpAnyH_take (i := 9) (oi := { dst := some 59, op := Op.index 9 (Operand.tmp 56) (Operand.tmp 58), type := 5, pos := "plane.go:34", after := #[{ on := 6, ground := Ground.data }, { on := 8, ground := Ground.data }], guard := none }) (v := ?_) rfl (by kernel_rfl) (by kernel_rfl) (by kernel_rfl) (fun _ _ _ h => h) (Or.inl ⟨by rfl, ?_⟩) trivial ?_
            rotate_left
            · intro w _
              go_simp
              try with_reducible rfl
            simp only [Act.put, List.setIfInBounds_toArray, List.set_cons_zero, List.set_cons_succ]
            refine wpAnyH_take (i := 10) (oi := { dst := some 60, op := Op.convert 5 3 (Operand.tmp 59), type := 3, pos := "plane.go:34", after := #[{ on := 9, ground := Ground.data }], guard := none }) (v := ?_) rfl (by kernel_rfl) (by kernel_rfl) (by kernel_rfl) (fun _ _ _ h => h) (Or.inl ⟨by rfl, ?_⟩) trivial ?_
            rotate_left
            · intro w _
              go_simp
              try with_reducible rfl
            simp only [Act.put, List.setIfInBounds_toArray, List.set_cons_zero, List.set_cons_succ]
            refine wpAnyH_take (i := 11) (oi := { dst := some 61, op := Op.build 25 #[(0, Operand.tmp 53), (1, Operand.tmp 54), (2, Operand.tmp 55), (3, Operand.tmp 60)], type := 25, pos := "plane.go:34", after := #[{ on := 3, ground := Ground.data }, { on := 4, ground := Ground.data }, { on := 5, ground := Ground.data }, { on := 10, ground := Ground.data }], guard := none }) (v := ?_) rfl (by kernel_rfl) (by kernel_rfl) (by kernel_rfl) (fun _ _ _ h => h) (Or.inl ⟨by rfl, ?_⟩) trivial ?_
            rotate_left
            · intro w _
              go_simp
              try with_reducible rfl
            simp only [Act.put, List.setIfInBounds_toArray, List.set_cons_zero, List.set_cons_succ]
            refine wpAnyH_ready (rs := [12]) (by kernel_rfl) (by simp) ?_
            refine AllReadyH.cons rfl (fun K hK => ?_) AllReadyH.nil
            go_simp
            refine hK.out _ _ trivial (fun _ => ?_)
            clear hK K
            have hown : (WX.alloc (.cells #[.int .u8 s[j].toNat, .string (nameV s[j].toNat s[j + 1].toNat), .int .i64 (sgn s[j + 2].toNat), .int .i64 s[j + 3].toNat] 25)).drew.ownsRow w.heap.size 25 4 (.slice ad dn.length cap) dn.length dn.flatten := own_keep (w' := (WX.alloc (.cells #[.int .u8 s[j].toNat, .string (nameV s[j].toNat s[j + 1].toNat), .int .i64 (sgn s[j + 2].toNat), .int .i64 s[j + 3].toNat] 25)).drew) (HRX.out.alloc (.cells #[.int .u8 s[j].toNat, .string (nameV s[j].toNat s[j + 1].toNat), .int .i64 (sgn s[j + 2].toNat), .int .i64 s[j + 3].toNat] 25)) (fun _ _ => rfl)
            have hcn : ∀ i u, [Value.int .u8 s[j].toNat, .string (nameV s[j].toNat s[j + 1].toNat), .int .i64 (sgn s[j + 2].toNat), .int .i64 s[j + 3].toNat][i]? = some u → (WX.alloc (.cells #[.int .u8 s[j].toNat, .string (nameV s[j].toNat s[j + 1].toNat), .int .i64 (sgn s[j + 2].toNat), .int .i64 s[j + 3].toNat] 25)).drew.cell? ((⟨WX.heap.size, 0, none⟩ : Addr).add i) = some u := cells_new WX #[.int .u8 s[j].toNat, .string (nameV s[j].toNat s[j + 1].toNat), .int .i64 (sgn s[j + 2].toNat), .int .i64 s[j + 3].toNat] 25
            have hone : ∀ u ∈ [Value.int .u8 s[j].toNat, .string (nameV s[j].toNat s[j + 1].toNat), .int .i64 (sgn s[j + 2].toNat), .int .i64 s[j + 3].toNat], u.oneCell' = true := by
              intro u hu
              simp only [List.mem_cons, List.not_mem_nil, or_false] at hu
              rcases hu with rfl | rfl | rfl | rfl <;> rfl
            have h63 : dn.length + 1 ≤ maxLen := by unfold maxLen; omega
            have hby : (dn.length + 1) * 40 ≤ 140737488355328 := by omega
            have hbase : w.heap.size ≤ (WX.alloc (.cells #[.int .u8 s[j].toNat, .string (nameV s[j].toNat s[j + 1].toNat), .int .i64 (sgn s[j + 2].toNat), .int .i64 s[j + 3].toNat] 25)).drew.heap.size := by have := HBX.out.size; simp; omega
            refine wpAnyH_ready (rs := [13]) (by kernel_rfl) (by simp) ?_
            refine AllReadyH.cons rfl (fun K hK => ?_) AllReadyH.nil
            refine step_append_lies _ rfl _ _ 22 rfl w.heap.size 25 i0 (.agg #[.int .u8 0, .string ⟨#[]⟩, .int .i64 0, .int .i64 0]) 4 40 Tryd.underlying22 hi z0 z1 z2 rfl (by decide) (.slice ad dn.length cap) _ _ rfl hown ⟨WX.heap.size, 0, none⟩ 1 1 [.int .u8 s[j].toNat, .string (nameV s[j].toNat s[j + 1].toNat), .int .i64 (sgn s[j + 2].toNat), .int .i64 s[j + 3].toNat] rfl rfl hcn hone (by decide) h63 hby hbase _ rfl ?_
            intro g cap' w3 hown' hg3 hat3 hlt3
            refine hK.out _ _ trivial (fun _ => ?_)
            clear hK K
            have HO : Hid (w3.ownsRow w.heap.size 25 4 (.slice (some ⟨g, 0, none⟩) (dn.length + 1) cap') (dn.length + 1) (dn.flatten ++ [.int .u8 s[j].toNat, .string (nameV s[j].toNat s[j + 1].toNat), .int .i64 (sgn s[j + 2].toNat), .int .i64 s[j + 3].toNat])) := hown'
            have HB3 : Hid (Below w.heap.size w w3) := below_grown (HBX.out.alloc HBX.out.size _).drew hg3 (fun b e => (hown.lt b e).1)
            clear hown hcn hone h63 hby hbase hown' hg3 hat3 hlt3
            simp only [Act.put, List.setIfInBounds_toArray]
            refine wpAnyH_take (i := 14) (oi := { dst := some 3, op := Op.assign (Operand.tmp 63), type := 22, pos := "plane.go:34", after := #[{ on := 13, ground := Ground.data }, { on := 13, ground := Ground.chain }, { on := 0, ground := Ground.phase }, { on := 1, ground := Ground.phase }, { on := 2, ground := Ground.phase }, { on := 3, ground := Ground.phase }, { on := 4, ground := Ground.phase }, { on := 5, ground := Ground.phase }, { on := 6, ground := Ground.phase }, { on := 7, ground := Ground.phase }, { on := 8, ground := Ground.phase }, { on := 9, ground := Ground.phase }, { on := 10, ground := Ground.phase }, { on := 11, ground := Ground.phase }, { on := 12, ground := Ground.phase }, { on := 13, ground := Ground.phase }], guard := none }) (v := ?_) rfl (by kernel_rfl) (by kernel_rfl) (by kernel_rfl) (fun _ _ _ h => h) (Or.inl ⟨by rfl, ?_⟩) trivial ?_
            rotate_left
            · intro w _
              go_simp
              try with_reducible rfl
            simp only [Act.put]
            refine wpAnyH_done (by kernel_rfl) ?_ _
            go_wp2
            go_roundw
            case rel =>
              refine ⟨j + 4, dn ++ [opV s[j] s[j + 1] s[j + 2] s[j + 3]], by simp, by omega, ⟨by have := HJ.out.1; omega, by omega⟩, ?_, ?_, HB3.out⟩
              · show _ = _
                rw [HD.out, dec_step s j h4, List.append_assoc]
                rfl
              · rw [List.length_append, List.flatten_append]
                exact HO.out
            case measure => simp [RowKit.intOf]; omega
      · by_cases h4' : (s[j].toNat : Int) = 4
        · have e2 : decide ((s[j + 2].toNat : Int) > 127) = false := decide_eq_false hc2
          have HS : Hid ((s[j + 2].toNat : Int) = sgn s[j + 2].toNat) := (if_neg hc2).symm
          have e4 : ((s[j].toNat : Int) == 4) = true := by rw [h4']; rfl
          have HN : Hid (⟨#[112]⟩ ++ numW s[j + 1].toNat = nameV s[j].toNat s[j + 1].toNat) := (if_pos (Or.inl h4')).symm
          clear h4'
          go_wp2_with fail
          refine hit.mono ?_
          rintro e WX ⟨rfl, hbx⟩
          have HBX : Hid (Below w.heap.size w WX) := (HB.out.alloc HB.out.size _).trans (hbx.mono (by have := HB.out.size; simp; omega))
          have HRX : Hid (WX.ownsRow w.heap.size 25 4 (.slice ad dn.length cap) dn.length dn.flatten) := own_keep (HR.out.alloc (.cells #[.int .u8 (97 + (m : Int))] 5)) (fun b e => hbx.block b (own_lt (HR.out.alloc _) e))
          clear hit hbx
          go_wp2_with fail
          rw [HN.out, HS.out]
          refine wp_region_held_drew (S := fun _ => True) (by kernel_rfl) trivial (fun _ => ?_)
          refine wpAnyH_take (i := 0) (oi := { dst := some 50, op := Op.move (Operand.tmp 3), type := 22, pos := "plane.go:34", after := #[], guard := none }) (v := ?_) rfl (by kernel_rfl) (by kernel_rfl) (by kernel_rfl) (fun _ _ _ h => h) (Or.inl ⟨by rfl, ?_⟩) trivial ?_
          rotate_left
          · intro w _
            go_simp
            try with_reducible rfl
          simp only [Act.put, List.setIfInBounds_toArray, List.set_cons_zero, List.set_cons_succ]
          refine wpAnyH_take (i := 1) (oi := { dst := some 51, op := Op.move (Operand.tmp 0), type := 9, pos := "plane.go:34", after := #[], guard := none }) (v := ?_) rfl (by kernel_rfl) (by kernel_rfl) (by kernel_rfl) (fun _ _ _ h => h) (Or.inl ⟨by rfl, ?_⟩) trivial ?_
          rotate_left
          · intro w _
            go_simp
            try with_reducible rfl
          simp only [Act.put, List.setIfInBounds_toArray, List.set_cons_zero, List.set_cons_succ]
          refine wpAnyH_take (i := 2) (oi := { dst := some 52, op := Op.move (Operand.tmp 4), type := 3, pos := "plane.go:34", after := #[], guard := none }) (v := ?_) rfl (by kernel_rfl) (by kernel_rfl) (by kernel_rfl) (fun _ _ _ h => h) (Or.inl ⟨by rfl, ?_⟩) trivial ?_
          rotate_left
          · intro w _
            go_simp
            try with_reducible rfl
          simp only [Act.put, List.setIfInBounds_toArray, List.set_cons_zero, List.set_cons_succ]
          refine wpAnyH_take (i := 3) (oi := { dst := some 53, op := Op.index 9 (Operand.tmp 51) (Operand.tmp 52), type := 5, pos := "plane.go:34", after := #[{ on := 1, ground := Ground.data }, { on := 2, ground := Ground.data }], guard := none }) (v := ?_) rfl (by kernel_rfl) (by kernel_rfl) (by kernel_rfl) (fun _ _ _ h => h) (Or.inl ⟨by rfl, ?_⟩) trivial ?_
          rotate_left
          · intro w _
            go_simp
            try with_reducible rfl
          simp only [Act.put, List.setIfInBounds_toArray, List.set_cons_zero, List.set_cons_succ]
          refine wpAnyH_take (i := 4) (oi := { dst := some 54, op := Op.move (Operand.tmp 6), type := 9, pos := "plane.go:34", after := #[], guard := none }) (v := ?_) rfl (by kernel_rfl) (by kernel_rfl) (by kernel_rfl) (fun _ _ _ h => h) (Or.inl ⟨by rfl, ?_⟩) trivial ?_
          rotate_left
          · intro w _
            go_simp
            try with_reducible rfl
          simp only [Act.put, List.setIfInBounds_toArray, List.set_cons_zero, List.set_cons_succ]
          refine wpAnyH_take (i := 5) (oi := { dst := some 55, op := Op.move (Operand.tmp 5), type := 3, pos := "plane.go:34", after := #[], guard := none }) (v := ?_) rfl (by kernel_rfl) (by kernel_rfl) (by kernel_rfl) (fun _ _ _ h => h) (Or.inl ⟨by rfl, ?_⟩) trivial ?_
          rotate_left
          · intro w _
            go_simp
            try with_reducible rfl
          simp only [Act.put, List.setIfInBounds_toArray, List.set_cons_zero, List.set_cons_succ]
          refine wpAnyH_take (i := 6) (oi := { dst := some 56, op := Op.move (Operand.tmp 0), type := 9, pos := "plane.go:34", after := #[], guard := none }) (v := ?_) rfl (by kernel_rfl) (by kernel_rfl) (by kernel_rfl) (fun _ _ _ h => h) (Or.inl ⟨by rfl, ?_⟩) trivial ?_
          rotate_left
          · intro w _
            go_simp
            try with_reducible rfl
          simp only [Act.put, List.setIfInBounds_toArray, List.set_cons_zero, List.set_cons_succ]
          refine wpAnyH_take (i := 7) (oi := { dst := some 57, op := Op.move (Operand.tmp 4), type := 3, pos := "plane.go:34", after := #[], guard := none }) (v := ?_) rfl (by kernel_rfl) (by kernel_rfl) (by kernel_rfl) (fun _ _ _ h => h) (Or.inl ⟨by rfl, ?_⟩) trivial ?_
          rotate_left
          · intro w _
            go_simp
            try with_reducible rfl
          simp only [Act.put, List.setIfInBounds_toArray, List.set_cons_zero, List.set_cons_succ]
          refine wpAnyH_take (i := 8) (oi := { dst := some 58, op := Op.binOp BinOp.add 3 (Operand.tmp 57) (Operand.const (Value.int IntKind.i64 3)) 3, type := 3, pos := "plane.go:34", after := #[{ on := 7, ground := Ground.data }], guard := none }) (v := ?_) rfl (by kernel_rfl) (by kernel_rfl) (by kernel_rfl) (fun _ _ _ h => h) (Or.inl ⟨by rfl, ?_⟩) trivial ?_
          rotate_left
          · intro w _
            go_simp
            try with_reducible rfl
          simp only [Act.put, List.setIfInBounds_toArray, List.set_cons_zero, List.set_cons_succ]
          refine wpAnyH_take (i := 9) (oi := { dst := some 59, op := Op.index 9 (Operand.tmp 56) (Operand.tmp 58), type := 5, pos := "plane.go:34", after := #[{ on := 6, ground := Ground.data }, { on := 8, ground := Ground.data }], guard := none }) (v := ?_) rfl (by kernel_rfl) (by kernel_rfl) (by kernel_rfl) (fun _ _ _ h => h) (Or.inl ⟨by rfl, ?_⟩) trivial ?_
          rotate_left
          · intro w _
            go_simp
            try with_reducible rfl
          simp only [Act.put, List.setIfInBounds_toArray, List.set_cons_zero, List.set_cons_succ]
          refine wpAnyH_take (i := 10) (oi := { dst := some 60, op := Op.convert 5 3 (Operand.tmp 59), type := 3, pos := "plane.go:34", after := #[{ on := 9, ground := Ground.data }], guard := none }) (v := ?_) rfl (by kernel_rfl) (by kernel_rfl) (by kernel_rfl) (fun _ _ _ h => h) (Or.inl ⟨by rfl, ?_⟩) trivial ?_
          rotate_left
          · intro w _
            go_simp
            try with_reducible rfl
          simp only [Act.put, List.setIfInBounds_toArray, List.set_cons_zero, List.set_cons_succ]
          refine wpAnyH_take (i := 11) (oi := { dst := some 61, op := Op.build 25 #[(0, Operand.tmp 53), (1, Operand.tmp 54), (2, Operand.tmp 55), (3, Operand.tmp 60)], type := 25, pos := "plane.go:34", after := #[{ on := 3, ground := Ground.data }, { on := 4, ground := Ground.data }, { on := 5, ground := Ground.data }, { on := 10, ground := Ground.data }], guard := none }) (v := ?_) rfl (by kernel_rfl) (by kernel_rfl) (by kernel_rfl) (fun _ _ _ h => h) (Or.inl ⟨by rfl, ?_⟩) trivial ?_
          rotate_left
          · intro w _
            go_simp
            try with_reducible rfl
          simp only [Act.put, List.setIfInBounds_toArray, List.set_cons_zero, List.set_cons_succ]
          refine wpAnyH_ready (rs := [12]) (by kernel_rfl) (by simp) ?_
          refine AllReadyH.cons rfl (fun K hK => ?_) AllReadyH.nil
          go_simp
          refine hK.out _ _ trivial (fun _ => ?_)
          clear hK K
          have hown : (WX.alloc (.cells #[.int .u8 s[j].toNat, .string (nameV s[j].toNat s[j + 1].toNat), .int .i64 (sgn s[j + 2].toNat), .int .i64 s[j + 3].toNat] 25)).drew.ownsRow w.heap.size 25 4 (.slice ad dn.length cap) dn.length dn.flatten := own_keep (w' := (WX.alloc (.cells #[.int .u8 s[j].toNat, .string (nameV s[j].toNat s[j + 1].toNat), .int .i64 (sgn s[j + 2].toNat), .int .i64 s[j + 3].toNat] 25)).drew) (HRX.out.alloc (.cells #[.int .u8 s[j].toNat, .string (nameV s[j].toNat s[j + 1].toNat), .int .i64 (sgn s[j + 2].toNat), .int .i64 s[j + 3].toNat] 25)) (fun _ _ => rfl)
          have hcn : ∀ i u, [Value.int .u8 s[j].toNat, .string (nameV s[j].toNat s[j + 1].toNat), .int .i64 (sgn s[j + 2].toNat), .int .i64 s[j + 3].toNat][i]? = some u → (WX.alloc (.cells #[.int .u8 s[j].toNat, .string (nameV s[j].toNat s[j + 1].toNat), .int .i64 (sgn s[j + 2].toNat), .int .i64 s[j + 3].toNat] 25)).drew.cell? ((⟨WX.heap.size, 0, none⟩ : Addr).add i) = some u := cells_new WX #[.int .u8 s[j].toNat, .string (nameV s[j].toNat s[j + 1].toNat), .int .i64 (sgn s[j + 2].toNat), .int .i64 s[j + 3].toNat] 25
          have hone : ∀ u ∈ [Value.int .u8 s[j].toNat, .string (nameV s[j].toNat s[j + 1].toNat), .int .i64 (sgn s[j + 2].toNat), .int .i64 s[j + 3].toNat], u.oneCell' = true := by
            intro u hu
            simp only [List.mem_cons, List.not_mem_nil, or_false] at hu
            rcases hu with rfl | rfl | rfl | rfl <;> rfl
          have h63 : dn.length + 1 ≤ maxLen := by unfold maxLen; omega
          have hby : (dn.length + 1) * 40 ≤ 140737488355328 := by omega
          have hbase : w.heap.size ≤ (WX.alloc (.cells #[.int .u8 s[j].toNat, .string (nameV s[j].toNat s[j + 1].toNat), .int .i64 (sgn s[j + 2].toNat), .int .i64 s[j + 3].toNat] 25)).drew.heap.size := by have := HBX.out.size; simp; omega
          refine wpAnyH_ready (rs := [13]) (by kernel_rfl) (by simp) ?_
          refine AllReadyH.cons rfl (fun K hK => ?_) AllReadyH.nil
          refine step_append_lies _ rfl _ _ 22 rfl w.heap.size 25 i0 (.agg #[.int .u8 0, .string ⟨#[]⟩, .int .i64 0, .int .i64 0]) 4 40 Tryd.underlying22 hi z0 z1 z2 rfl (by decide) (.slice ad dn.length cap) _ _ rfl hown ⟨WX.heap.size, 0, none⟩ 1 1 [.int .u8 s[j].toNat, .string (nameV s[j].toNat s[j + 1].toNat), .int .i64 (sgn s[j + 2].toNat), .int .i64 s[j + 3].toNat] rfl rfl hcn hone (by decide) h63 hby hbase _ rfl ?_
          intro g cap' w3 hown' hg3 hat3 hlt3
          refine hK.out _ _ trivial (fun _ => ?_)
          clear hK K
          have HO : Hid (w3.ownsRow w.heap.size 25 4 (.slice (some ⟨g, 0, none⟩) (dn.length + 1) cap') (dn.length + 1) (dn.flatten ++ [.int .u8 s[j].toNat, .string (nameV s[j].toNat s[j + 1].toNat), .int .i64 (sgn s[j + 2].toNat), .int .i64 s[j + 3].toNat])) := hown'
          have HB3 : Hid (Below w.heap.size w w3) := below_grown (HBX.out.alloc HBX.out.size _).drew hg3 (fun b e => (hown.lt b e).1)
          clear hown hcn hone h63 hby hbase hown' hg3 hat3 hlt3
          simp only [Act.put, List.setIfInBounds_toArray]
          refine wpAnyH_take (i := 14) (oi := { dst := some 3, op := Op.assign (Operand.tmp 63), type := 22, pos := "plane.go:34", after := #[{ on := 13, ground := Ground.data }, { on := 13, ground := Ground.chain }, { on := 0, ground := Ground.phase }, { on := 1, ground := Ground.phase }, { on := 2, ground := Ground.phase }, { on := 3, ground := Ground.phase }, { on := 4, ground := Ground.phase }, { on := 5, ground := Ground.phase }, { on := 6, ground := Ground.phase }, { on := 7, ground := Ground.phase }, { on := 8, ground := Ground.phase }, { on := 9, ground := Ground.phase }, { on := 10, ground := Ground.phase }, { on := 11, ground := Ground.phase }, { on := 12, ground := Ground.phase }, { on := 13, ground := Ground.phase }], guard := none }) (v := ?_) rfl (by kernel_rfl) (by kernel_rfl) (by kernel_rfl) (fun _ _ _ h => h) (Or.inl ⟨by rfl, ?_⟩) trivial ?_
          rotate_left
          · intro w _
            go_simp
            try with_reducible rfl
          simp only [Act.put]
          refine wpAnyH_done (by kernel_rfl) ?_ _
          go_wp2
          go_roundw
          case rel =>
            refine ⟨j + 4, dn ++ [opV s[j] s[j + 1] s[j + 2] s[j + 3]], by simp, by omega, ⟨by have := HJ.out.1; omega, by omega⟩, ?_, ?_, HB3.out⟩
            · show _ = _
              rw [HD.out, dec_step s j h4, List.append_assoc]
              rfl
            · rw [List.length_append, List.flatten_append]
              exact HO.out
          case measure => simp [RowKit.intOf]; omega
        · by_cases h5' : (s[j].toNat : Int) = 5
          · have e2 : decide ((s[j + 2].toNat : Int) > 127) = false := decide_eq_false hc2
            have HS : Hid ((s[j + 2].toNat : Int) = sgn s[j + 2].toNat) := (if_neg hc2).symm
            have e4 : ((s[j].toNat : Int) == 4) = false := by rw [beq_eq_false_iff_ne]; exact h4'
            have e5 : ((s[j].toNat : Int) == 5) = true := by rw [h5']; rfl
            have HN : Hid (⟨#[112]⟩ ++ numW s[j + 1].toNat = nameV s[j].toNat s[j + 1].toNat) := (if_pos (Or.inr h5')).symm
            clear h4' h5'
            go_wp2_with fail
            refine hit.mono ?_
            rintro e WX ⟨rfl, hbx⟩
            have HBX : Hid (Below w.heap.size w WX) := (HB.out.alloc HB.out.size _).trans (hbx.mono (by have := HB.out.size; simp; omega))
            have HRX : Hid (WX.ownsRow w.heap.size 25 4 (.slice ad dn.length cap) dn.length dn.flatten) := own_keep (HR.out.alloc (.cells #[.int .u8 (97 + (m : Int))] 5)) (fun b e => hbx.block b (own_lt (HR.out.alloc _) e))
            clear hit hbx
            go_wp2_with fail
            rw [HN.out, HS.out]
            refine wp_region_held_drew (S := fun _ => True) (by kernel_rfl) trivial (fun _ => ?_)
            refine wpAnyH_take (i := 0) (oi := { dst := some 50, op := Op.move (Operand.tmp 3), type := 22, pos := "plane.go:34", after := #[], guard := none }) (v := ?_) rfl (by kernel_rfl) (by kernel_rfl) (by kernel_rfl) (fun _ _ _ h => h) (Or.inl ⟨by rfl, ?_⟩) trivial ?_
            rotate_left
            · intro w _
              go_simp
              try with_reducible rfl
            simp only [Act.put, List.setIfInBounds_toArray, List.set_cons_zero, List.set_cons_succ]
            refine wpAnyH_take (i := 1) (oi := { dst := some 51, op := Op.move (Operand.tmp 0), type := 9, pos := "plane.go:34", after := #[], guard := none }) (v := ?_) rfl (by kernel_rfl) (by kernel_rfl) (by kernel_rfl) (fun _ _ _ h => h) (Or.inl ⟨by rfl, ?_⟩) trivial ?_
            rotate_left
            · intro w _
              go_simp
              try with_reducible rfl
            simp only [Act.put, List.setIfInBounds_toArray, List.set_cons_zero, List.set_cons_succ]
            refine wpAnyH_take (i := 2) (oi := { dst := some 52, op := Op.move (Operand.tmp 4), type := 3, pos := "plane.go:34", after := #[], guard := none }) (v := ?_) rfl (by kernel_rfl) (by kernel_rfl) (by kernel_rfl) (fun _ _ _ h => h) (Or.inl ⟨by rfl, ?_⟩) trivial ?_
            rotate_left
            · intro w _
              go_simp
              try with_reducible rfl
            simp only [Act.put, List.setIfInBounds_toArray, List.set_cons_zero, List.set_cons_succ]
            refine wpAnyH_take (i := 3) (oi := { dst := some 53, op := Op.index 9 (Operand.tmp 51) (Operand.tmp 52), type := 5, pos := "plane.go:34", after := #[{ on := 1, ground := Ground.data }, { on := 2, ground := Ground.data }], guard := none }) (v := ?_) rfl (by kernel_rfl) (by kernel_rfl) (by kernel_rfl) (fun _ _ _ h => h) (Or.inl ⟨by rfl, ?_⟩) trivial ?_
            rotate_left
            · intro w _
              go_simp
              try with_reducible rfl
            simp only [Act.put, List.setIfInBounds_toArray, List.set_cons_zero, List.set_cons_succ]
            refine wpAnyH_take (i := 4) (oi := { dst := some 54, op := Op.move (Operand.tmp 6), type := 9, pos := "plane.go:34", after := #[], guard := none }) (v := ?_) rfl (by kernel_rfl) (by kernel_rfl) (by kernel_rfl) (fun _ _ _ h => h) (Or.inl ⟨by rfl, ?_⟩) trivial ?_
            rotate_left
            · intro w _
              go_simp
              try with_reducible rfl
            simp only [Act.put, List.setIfInBounds_toArray, List.set_cons_zero, List.set_cons_succ]
            refine wpAnyH_take (i := 5) (oi := { dst := some 55, op := Op.move (Operand.tmp 5), type := 3, pos := "plane.go:34", after := #[], guard := none }) (v := ?_) rfl (by kernel_rfl) (by kernel_rfl) (by kernel_rfl) (fun _ _ _ h => h) (Or.inl ⟨by rfl, ?_⟩) trivial ?_
            rotate_left
            · intro w _
              go_simp
              try with_reducible rfl
            simp only [Act.put, List.setIfInBounds_toArray, List.set_cons_zero, List.set_cons_succ]
            refine wpAnyH_take (i := 6) (oi := { dst := some 56, op := Op.move (Operand.tmp 0), type := 9, pos := "plane.go:34", after := #[], guard := none }) (v := ?_) rfl (by kernel_rfl) (by kernel_rfl) (by kernel_rfl) (fun _ _ _ h => h) (Or.inl ⟨by rfl, ?_⟩) trivial ?_
            rotate_left
            · intro w _
              go_simp
              try with_reducible rfl
            simp only [Act.put, List.setIfInBounds_toArray, List.set_cons_zero, List.set_cons_succ]
            refine wpAnyH_take (i := 7) (oi := { dst := some 57, op := Op.move (Operand.tmp 4), type := 3, pos := "plane.go:34", after := #[], guard := none }) (v := ?_) rfl (by kernel_rfl) (by kernel_rfl) (by kernel_rfl) (fun _ _ _ h => h) (Or.inl ⟨by rfl, ?_⟩) trivial ?_
            rotate_left
            · intro w _
              go_simp
              try with_reducible rfl
            simp only [Act.put, List.setIfInBounds_toArray, List.set_cons_zero, List.set_cons_succ]
            refine wpAnyH_take (i := 8) (oi := { dst := some 58, op := Op.binOp BinOp.add 3 (Operand.tmp 57) (Operand.const (Value.int IntKind.i64 3)) 3, type := 3, pos := "plane.go:34", after := #[{ on := 7, ground := Ground.data }], guard := none }) (v := ?_) rfl (by kernel_rfl) (by kernel_rfl) (by kernel_rfl) (fun _ _ _ h => h) (Or.inl ⟨by rfl, ?_⟩) trivial ?_
            rotate_left
            · intro w _
              go_simp
              try with_reducible rfl
            simp only [Act.put, List.setIfInBounds_toArray, List.set_cons_zero, List.set_cons_succ]
            refine wpAnyH_take (i := 9) (oi := { dst := some 59, op := Op.index 9 (Operand.tmp 56) (Operand.tmp 58), type := 5, pos := "plane.go:34", after := #[{ on := 6, ground := Ground.data }, { on := 8, ground := Ground.data }], guard := none }) (v := ?_) rfl (by kernel_rfl) (by kernel_rfl) (by kernel_rfl) (fun _ _ _ h => h) (Or.inl ⟨by rfl, ?_⟩) trivial ?_
            rotate_left
            · intro w _
              go_simp
              try with_reducible rfl
            simp only [Act.put, List.setIfInBounds_toArray, List.set_cons_zero, List.set_cons_succ]
            refine wpAnyH_take (i := 10) (oi := { dst := some 60, op := Op.convert 5 3 (Operand.tmp 59), type := 3, pos := "plane.go:34", after := #[{ on := 9, ground := Ground.data }], guard := none }) (v := ?_) rfl (by kernel_rfl) (by kernel_rfl) (by kernel_rfl) (fun _ _ _ h => h) (Or.inl ⟨by rfl, ?_⟩) trivial ?_
            rotate_left
            · intro w _
              go_simp
              try with_reducible rfl
            simp only [Act.put, List.setIfInBounds_toArray, List.set_cons_zero, List.set_cons_succ]
            refine wpAnyH_take (i := 11) (oi := { dst := some 61, op := Op.build 25 #[(0, Operand.tmp 53), (1, Operand.tmp 54), (2, Operand.tmp 55), (3, Operand.tmp 60)], type := 25, pos := "plane.go:34", after := #[{ on := 3, ground := Ground.data }, { on := 4, ground := Ground.data }, { on := 5, ground := Ground.data }, { on := 10, ground := Ground.data }], guard := none }) (v := ?_) rfl (by kernel_rfl) (by kernel_rfl) (by kernel_rfl) (fun _ _ _ h => h) (Or.inl ⟨by rfl, ?_⟩) trivial ?_
            rotate_left
            · intro w _
              go_simp
              try with_reducible rfl
            simp only [Act.put, List.setIfInBounds_toArray, List.set_cons_zero, List.set_cons_succ]
            refine wpAnyH_ready (rs := [12]) (by kernel_rfl) (by simp) ?_
            refine AllReadyH.cons rfl (fun K hK => ?_) AllReadyH.nil
            go_simp
            refine hK.out _ _ trivial (fun _ => ?_)
            clear hK K
            have hown : (WX.alloc (.cells #[.int .u8 s[j].toNat, .string (nameV s[j].toNat s[j + 1].toNat), .int .i64 (sgn s[j + 2].toNat), .int .i64 s[j + 3].toNat] 25)).drew.ownsRow w.heap.size 25 4 (.slice ad dn.length cap) dn.length dn.flatten := own_keep (w' := (WX.alloc (.cells #[.int .u8 s[j].toNat, .string (nameV s[j].toNat s[j + 1].toNat), .int .i64 (sgn s[j + 2].toNat), .int .i64 s[j + 3].toNat] 25)).drew) (HRX.out.alloc (.cells #[.int .u8 s[j].toNat, .string (nameV s[j].toNat s[j + 1].toNat), .int .i64 (sgn s[j + 2].toNat), .int .i64 s[j + 3].toNat] 25)) (fun _ _ => rfl)
            have hcn : ∀ i u, [Value.int .u8 s[j].toNat, .string (nameV s[j].toNat s[j + 1].toNat), .int .i64 (sgn s[j + 2].toNat), .int .i64 s[j + 3].toNat][i]? = some u → (WX.alloc (.cells #[.int .u8 s[j].toNat, .string (nameV s[j].toNat s[j + 1].toNat), .int .i64 (sgn s[j + 2].toNat), .int .i64 s[j + 3].toNat] 25)).drew.cell? ((⟨WX.heap.size, 0, none⟩ : Addr).add i) = some u := cells_new WX #[.int .u8 s[j].toNat, .string (nameV s[j].toNat s[j + 1].toNat), .int .i64 (sgn s[j + 2].toNat), .int .i64 s[j + 3].toNat] 25
            have hone : ∀ u ∈ [Value.int .u8 s[j].toNat, .string (nameV s[j].toNat s[j + 1].toNat), .int .i64 (sgn s[j + 2].toNat), .int .i64 s[j + 3].toNat], u.oneCell' = true := by
              intro u hu
              simp only [List.mem_cons, List.not_mem_nil, or_false] at hu
              rcases hu with rfl | rfl | rfl | rfl <;> rfl
            have h63 : dn.length + 1 ≤ maxLen := by unfold maxLen; omega
            have hby : (dn.length + 1) * 40 ≤ 140737488355328 := by omega
            have hbase : w.heap.size ≤ (WX.alloc (.cells #[.int .u8 s[j].toNat, .string (nameV s[j].toNat s[j + 1].toNat), .int .i64 (sgn s[j + 2].toNat), .int .i64 s[j + 3].toNat] 25)).drew.heap.size := by have := HBX.out.size; simp; omega
            refine wpAnyH_ready (rs := [13]) (by kernel_rfl) (by simp) ?_
            refine AllReadyH.cons rfl (fun K hK => ?_) AllReadyH.nil
            refine step_append_lies _ rfl _ _ 22 rfl w.heap.size 25 i0 (.agg #[.int .u8 0, .string ⟨#[]⟩, .int .i64 0, .int .i64 0]) 4 40 Tryd.underlying22 hi z0 z1 z2 rfl (by decide) (.slice ad dn.length cap) _ _ rfl hown ⟨WX.heap.size, 0, none⟩ 1 1 [.int .u8 s[j].toNat, .string (nameV s[j].toNat s[j + 1].toNat), .int .i64 (sgn s[j + 2].toNat), .int .i64 s[j + 3].toNat] rfl rfl hcn hone (by decide) h63 hby hbase _ rfl ?_
            intro g cap' w3 hown' hg3 hat3 hlt3
            refine hK.out _ _ trivial (fun _ => ?_)
            clear hK K
            have HO : Hid (w3.ownsRow w.heap.size 25 4 (.slice (some ⟨g, 0, none⟩) (dn.length + 1) cap') (dn.length + 1) (dn.flatten ++ [.int .u8 s[j].toNat, .string (nameV s[j].toNat s[j + 1].toNat), .int .i64 (sgn s[j + 2].toNat), .int .i64 s[j + 3].toNat])) := hown'
            have HB3 : Hid (Below w.heap.size w w3) := below_grown (HBX.out.alloc HBX.out.size _).drew hg3 (fun b e => (hown.lt b e).1)
            clear hown hcn hone h63 hby hbase hown' hg3 hat3 hlt3
            simp only [Act.put, List.setIfInBounds_toArray]
            refine wpAnyH_take (i := 14) (oi := { dst := some 3, op := Op.assign (Operand.tmp 63), type := 22, pos := "plane.go:34", after := #[{ on := 13, ground := Ground.data }, { on := 13, ground := Ground.chain }, { on := 0, ground := Ground.phase }, { on := 1, ground := Ground.phase }, { on := 2, ground := Ground.phase }, { on := 3, ground := Ground.phase }, { on := 4, ground := Ground.phase }, { on := 5, ground := Ground.phase }, { on := 6, ground := Ground.phase }, { on := 7, ground := Ground.phase }, { on := 8, ground := Ground.phase }, { on := 9, ground := Ground.phase }, { on := 10, ground := Ground.phase }, { on := 11, ground := Ground.phase }, { on := 12, ground := Ground.phase }, { on := 13, ground := Ground.phase }], guard := none }) (v := ?_) rfl (by kernel_rfl) (by kernel_rfl) (by kernel_rfl) (fun _ _ _ h => h) (Or.inl ⟨by rfl, ?_⟩) trivial ?_
            rotate_left
            · intro w _
              go_simp
              try with_reducible rfl
            simp only [Act.put]
            refine wpAnyH_done (by kernel_rfl) ?_ _
            go_wp2
            go_roundw
            case rel =>
              refine ⟨j + 4, dn ++ [opV s[j] s[j + 1] s[j + 2] s[j + 3]], by simp, by omega, ⟨by have := HJ.out.1; omega, by omega⟩, ?_, ?_, HB3.out⟩
              · show _ = _
                rw [HD.out, dec_step s j h4, List.append_assoc]
                rfl
              · rw [List.length_append, List.flatten_append]
                exact HO.out
            case measure => simp [RowKit.intOf]; omega
          · have e2 : decide ((s[j + 2].toNat : Int) > 127) = false := decide_eq_false hc2
            have HS : Hid ((s[j + 2].toNat : Int) = sgn s[j + 2].toNat) := (if_neg hc2).symm
            have e4 : ((s[j].toNat : Int) == 4) = false := by rw [beq_eq_false_iff_ne]; exact h4'
            have e5 : ((s[j].toNat : Int) == 5) = false := by rw [beq_eq_false_iff_ne]; exact h5'
            have HN : Hid (nl = nameV s[j].toNat s[j + 1].toNat) := HNL.out.trans (name_letter h4' h5' HMM.out hm)
            clear hit
            go_wp2_with fail
            rw [HN.out, HS.out]
            have HBX : Hid (Below w.heap.size w (wr.alloc (.cells #[.int .u8 (97 + (m : Int))] 5))) := HB.out.alloc HB.out.size _
            have HRX : Hid ((wr.alloc (.cells #[.int .u8 (97 + (m : Int))] 5)).ownsRow w.heap.size 25 4 (.slice ad dn.length cap) dn.length dn.flatten) := HR.out.alloc _
            generalize wr.alloc (.cells #[.int .u8 (97 + (m : Int))] 5) = WX at *
            refine wp_region_held_drew (S := fun _ => True) (by kernel_rfl) trivial (fun _ => ?_)
            refine wpAnyH_take (i := 0) (oi := { dst := some 50, op := Op.move (Operand.tmp 3), type := 22, pos := "plane.go:34", after := #[], guard := none }) (v := ?_) rfl (by kernel_rfl) (by kernel_rfl) (by kernel_rfl) (fun _ _ _ h => h) (Or.inl ⟨by rfl, ?_⟩) trivial ?_
            rotate_left
            · intro w _
              go_simp
              try with_reducible rfl
            simp only [Act.put, List.setIfInBounds_toArray, List.set_cons_zero, List.set_cons_succ]
            refine wpAnyH_take (i := 1) (oi := { dst := some 51, op := Op.move (Operand.tmp 0), type := 9, pos := "plane.go:34", after := #[], guard := none }) (v := ?_) rfl (by kernel_rfl) (by kernel_rfl) (by kernel_rfl) (fun _ _ _ h => h) (Or.inl ⟨by rfl, ?_⟩) trivial ?_
            rotate_left
            · intro w _
              go_simp
              try with_reducible rfl
            simp only [Act.put, List.setIfInBounds_toArray, List.set_cons_zero, List.set_cons_succ]
            refine wpAnyH_take (i := 2) (oi := { dst := some 52, op := Op.move (Operand.tmp 4), type := 3, pos := "plane.go:34", after := #[], guard := none }) (v := ?_) rfl (by kernel_rfl) (by kernel_rfl) (by kernel_rfl) (fun _ _ _ h => h) (Or.inl ⟨by rfl, ?_⟩) trivial ?_
            rotate_left
            · intro w _
              go_simp
              try with_reducible rfl
            simp only [Act.put, List.setIfInBounds_toArray, List.set_cons_zero, List.set_cons_succ]
            refine wpAnyH_take (i := 3) (oi := { dst := some 53, op := Op.index 9 (Operand.tmp 51) (Operand.tmp 52), type := 5, pos := "plane.go:34", after := #[{ on := 1, ground := Ground.data }, { on := 2, ground := Ground.data }], guard := none }) (v := ?_) rfl (by kernel_rfl) (by kernel_rfl) (by kernel_rfl) (fun _ _ _ h => h) (Or.inl ⟨by rfl, ?_⟩) trivial ?_
            rotate_left
            · intro w _
              go_simp
              try with_reducible rfl
            simp only [Act.put, List.setIfInBounds_toArray, List.set_cons_zero, List.set_cons_succ]
            refine wpAnyH_take (i := 4) (oi := { dst := some 54, op := Op.move (Operand.tmp 6), type := 9, pos := "plane.go:34", after := #[], guard := none }) (v := ?_) rfl (by kernel_rfl) (by kernel_rfl) (by kernel_rfl) (fun _ _ _ h => h) (Or.inl ⟨by rfl, ?_⟩) trivial ?_
            rotate_left
            · intro w _
              go_simp
              try with_reducible rfl
            simp only [Act.put, List.setIfInBounds_toArray, List.set_cons_zero, List.set_cons_succ]
            refine wpAnyH_take (i := 5) (oi := { dst := some 55, op := Op.move (Operand.tmp 5), type := 3, pos := "plane.go:34", after := #[], guard := none }) (v := ?_) rfl (by kernel_rfl) (by kernel_rfl) (by kernel_rfl) (fun _ _ _ h => h) (Or.inl ⟨by rfl, ?_⟩) trivial ?_
            rotate_left
            · intro w _
              go_simp
              try with_reducible rfl
            simp only [Act.put, List.setIfInBounds_toArray, List.set_cons_zero, List.set_cons_succ]
            refine wpAnyH_take (i := 6) (oi := { dst := some 56, op := Op.move (Operand.tmp 0), type := 9, pos := "plane.go:34", after := #[], guard := none }) (v := ?_) rfl (by kernel_rfl) (by kernel_rfl) (by kernel_rfl) (fun _ _ _ h => h) (Or.inl ⟨by rfl, ?_⟩) trivial ?_
            rotate_left
            · intro w _
              go_simp
              try with_reducible rfl
            simp only [Act.put, List.setIfInBounds_toArray, List.set_cons_zero, List.set_cons_succ]
            refine wpAnyH_take (i := 7) (oi := { dst := some 57, op := Op.move (Operand.tmp 4), type := 3, pos := "plane.go:34", after := #[], guard := none }) (v := ?_) rfl (by kernel_rfl) (by kernel_rfl) (by kernel_rfl) (fun _ _ _ h => h) (Or.inl ⟨by rfl, ?_⟩) trivial ?_
            rotate_left
            · intro w _
              go_simp
              try with_reducible rfl
            simp only [Act.put, List.setIfInBounds_toArray, List.set_cons_zero, List.set_cons_succ]
            refine wpAnyH_take (i := 8) (oi := { dst := some 58, op := Op.binOp BinOp.add 3 (Operand.tmp 57) (Operand.const (Value.int IntKind.i64 3)) 3, type := 3, pos := "plane.go:34", after := #[{ on := 7, ground := Ground.data }], guard := none }) (v := ?_) rfl (by kernel_rfl) (by kernel_rfl) (by kernel_rfl) (fun _ _ _ h => h) (Or.inl ⟨by rfl, ?_⟩) trivial ?_
            rotate_left
            · intro w _
              go_simp
              try with_reducible rfl
            simp only [Act.put, List.setIfInBounds_toArray, List.set_cons_zero, List.set_cons_succ]
            refine wpAnyH_take (i := 9) (oi := { dst := some 59, op := Op.index 9 (Operand.tmp 56) (Operand.tmp 58), type := 5, pos := "plane.go:34", after := #[{ on := 6, ground := Ground.data }, { on := 8, ground := Ground.data }], guard := none }) (v := ?_) rfl (by kernel_rfl) (by kernel_rfl) (by kernel_rfl) (fun _ _ _ h => h) (Or.inl ⟨by rfl, ?_⟩) trivial ?_
            rotate_left
            · intro w _
              go_simp
              try with_reducible rfl
            simp only [Act.put, List.setIfInBounds_toArray, List.set_cons_zero, List.set_cons_succ]
            refine wpAnyH_take (i := 10) (oi := { dst := some 60, op := Op.convert 5 3 (Operand.tmp 59), type := 3, pos := "plane.go:34", after := #[{ on := 9, ground := Ground.data }], guard := none }) (v := ?_) rfl (by kernel_rfl) (by kernel_rfl) (by kernel_rfl) (fun _ _ _ h => h) (Or.inl ⟨by rfl, ?_⟩) trivial ?_
            rotate_left
            · intro w _
              go_simp
              try with_reducible rfl
            simp only [Act.put, List.setIfInBounds_toArray, List.set_cons_zero, List.set_cons_succ]
            refine wpAnyH_take (i := 11) (oi := { dst := some 61, op := Op.build 25 #[(0, Operand.tmp 53), (1, Operand.tmp 54), (2, Operand.tmp 55), (3, Operand.tmp 60)], type := 25, pos := "plane.go:34", after := #[{ on := 3, ground := Ground.data }, { on := 4, ground := Ground.data }, { on := 5, ground := Ground.data }, { on := 10, ground := Ground.data }], guard := none }) (v := ?_) rfl (by kernel_rfl) (by kernel_rfl) (by kernel_rfl) (fun _ _ _ h => h) (Or.inl ⟨by rfl, ?_⟩) trivial ?_
            rotate_left
            · intro w _
              go_simp
              try with_reducible rfl
            simp only [Act.put, List.setIfInBounds_toArray, List.set_cons_zero, List.set_cons_succ]
            refine wpAnyH_ready (rs := [12]) (by kernel_rfl) (by simp) ?_
            refine AllReadyH.cons rfl (fun K hK => ?_) AllReadyH.nil
            go_simp
            refine hK.out _ _ trivial (fun _ => ?_)
            clear hK K
            have hown : (WX.alloc (.cells #[.int .u8 s[j].toNat, .string (nameV s[j].toNat s[j + 1].toNat), .int .i64 (sgn s[j + 2].toNat), .int .i64 s[j + 3].toNat] 25)).drew.ownsRow w.heap.size 25 4 (.slice ad dn.length cap) dn.length dn.flatten := own_keep (w' := (WX.alloc (.cells #[.int .u8 s[j].toNat, .string (nameV s[j].toNat s[j + 1].toNat), .int .i64 (sgn s[j + 2].toNat), .int .i64 s[j + 3].toNat] 25)).drew) (HRX.out.alloc (.cells #[.int .u8 s[j].toNat, .string (nameV s[j].toNat s[j + 1].toNat), .int .i64 (sgn s[j + 2].toNat), .int .i64 s[j + 3].toNat] 25)) (fun _ _ => rfl)
            have hcn : ∀ i u, [Value.int .u8 s[j].toNat, .string (nameV s[j].toNat s[j + 1].toNat), .int .i64 (sgn s[j + 2].toNat), .int .i64 s[j + 3].toNat][i]? = some u → (WX.alloc (.cells #[.int .u8 s[j].toNat, .string (nameV s[j].toNat s[j + 1].toNat), .int .i64 (sgn s[j + 2].toNat), .int .i64 s[j + 3].toNat] 25)).drew.cell? ((⟨WX.heap.size, 0, none⟩ : Addr).add i) = some u := cells_new WX #[.int .u8 s[j].toNat, .string (nameV s[j].toNat s[j + 1].toNat), .int .i64 (sgn s[j + 2].toNat), .int .i64 s[j + 3].toNat] 25
            have hone : ∀ u ∈ [Value.int .u8 s[j].toNat, .string (nameV s[j].toNat s[j + 1].toNat), .int .i64 (sgn s[j + 2].toNat), .int .i64 s[j + 3].toNat], u.oneCell' = true := by
              intro u hu
              simp only [List.mem_cons, List.not_mem_nil, or_false] at hu
              rcases hu with rfl | rfl | rfl | rfl <;> rfl
            have h63 : dn.length + 1 ≤ maxLen := by unfold maxLen; omega
            have hby : (dn.length + 1) * 40 ≤ 140737488355328 := by omega
            have hbase : w.heap.size ≤ (WX.alloc (.cells #[.int .u8 s[j].toNat, .string (nameV s[j].toNat s[j + 1].toNat), .int .i64 (sgn s[j + 2].toNat), .int .i64 s[j + 3].toNat] 25)).drew.heap.size := by have := HBX.out.size; simp; omega
            refine wpAnyH_ready (rs := [13]) (by kernel_rfl) (by simp) ?_
            refine AllReadyH.cons rfl (fun K hK => ?_) AllReadyH.nil
            refine step_append_lies _ rfl _ _ 22 rfl w.heap.size 25 i0 (.agg #[.int .u8 0, .string ⟨#[]⟩, .int .i64 0, .int .i64 0]) 4 40 Tryd.underlying22 hi z0 z1 z2 rfl (by decide) (.slice ad dn.length cap) _ _ rfl hown ⟨WX.heap.size, 0, none⟩ 1 1 [.int .u8 s[j].toNat, .string (nameV s[j].toNat s[j + 1].toNat), .int .i64 (sgn s[j + 2].toNat), .int .i64 s[j + 3].toNat] rfl rfl hcn hone (by decide) h63 hby hbase _ rfl ?_
            intro g cap' w3 hown' hg3 hat3 hlt3
            refine hK.out _ _ trivial (fun _ => ?_)
            clear hK K
            have HO : Hid (w3.ownsRow w.heap.size 25 4 (.slice (some ⟨g, 0, none⟩) (dn.length + 1) cap') (dn.length + 1) (dn.flatten ++ [.int .u8 s[j].toNat, .string (nameV s[j].toNat s[j + 1].toNat), .int .i64 (sgn s[j + 2].toNat), .int .i64 s[j + 3].toNat])) := hown'
            have HB3 : Hid (Below w.heap.size w w3) := below_grown (HBX.out.alloc HBX.out.size _).drew hg3 (fun b e => (hown.lt b e).1)
            clear hown hcn hone h63 hby hbase hown' hg3 hat3 hlt3
            simp only [Act.put, List.setIfInBounds_toArray]
            refine wpAnyH_take (i := 14) (oi := { dst := some 3, op := Op.assign (Operand.tmp 63), type := 22, pos := "plane.go:34", after := #[{ on := 13, ground := Ground.data }, { on := 13, ground := Ground.chain }, { on := 0, ground := Ground.phase }, { on := 1, ground := Ground.phase }, { on := 2, ground := Ground.phase }, { on := 3, ground := Ground.phase }, { on := 4, ground := Ground.phase }, { on := 5, ground := Ground.phase }, { on := 6, ground := Ground.phase }, { on := 7, ground := Ground.phase }, { on := 8, ground := Ground.phase }, { on := 9, ground := Ground.phase }, { on := 10, ground := Ground.phase }, { on := 11, ground := Ground.phase }, { on := 12, ground := Ground.phase }, { on := 13, ground := Ground.phase }], guard := none }) (v := ?_) rfl (by kernel_rfl) (by kernel_rfl) (by kernel_rfl) (fun _ _ _ h => h) (Or.inl ⟨by rfl, ?_⟩) trivial ?_
            rotate_left
            · intro w _
              go_simp
              try with_reducible rfl
            simp only [Act.put]
            refine wpAnyH_done (by kernel_rfl) ?_ _
            go_wp2
            go_roundw
            case rel =>
              refine ⟨j + 4, dn ++ [opV s[j] s[j + 1] s[j + 2] s[j + 3]], by simp, by omega, ⟨by have := HJ.out.1; omega, by omega⟩, ?_, ?_, HB3.out⟩
              · show _ = _
                rw [HD.out, dec_step s j h4, List.append_assoc]
                rfl
              · rw [List.length_append, List.flatten_append]
                exact HO.out
            case measure => simp [RowKit.intOf]; omega
    · have hg : ¬ ((j : Int) + 3 < (s.size : Int)) := by omega
      obtain ⟨r4, hr0⟩ : ∃ r4 : Nat, r4 = s.size % 4 := ⟨_, rfl⟩
      have hqe : (s.size : Int) % 4 = (r4 : Int) := by omega
      have hqt : ((s.size : Int)).tmod 4 = (r4 : Int) := by rw [Int.tmod_eq_emod_of_nonneg (by omega)]; exact hqe
      have hr4 : r4 ≤ 3 := by omega
      have HJR : Hid (r4 = s.size - j) := by have := HJ.out; show _ = _; omega
      clear hr0
      by_cases h0 : r4 = 0
      · have HF : Hid (decL s.data.toList = dn) := by
          show _ = _
          rw [HD.out, decL_none (s.data.toList.drop j) (by have := HJR.out; rw [List.length_drop, len_list]; omega), List.append_nil]
        have HRR : Hid (r4 = s.size - j) := HJR
        clear HJR HRR
        subst h0
        go_wp2
        go_ret
        refine ⟨_, rfl, ?_, HB.out⟩
        rw [HF.out]
        exact HR.out
      · have hn0 : ((r4 : Int) == 0) = false := by rw [beq_eq_false_iff_ne]; omega
        have hn1 : ¬ (r4 : Int) = 0 := by omega
        have HF : Hid (decL s.data.toList = dn ++ [zeroV]) := by
          show _ = _
          rw [HD.out, decL_some (s.data.toList.drop j) (by have := HJR.out; rw [List.length_drop, len_list]; omega) (by have := HJR.out; rw [List.length_drop, len_list]; omega)]
        have hown := HR.out.alloc (.cells #[.int .u8 0, .string ⟨#[]⟩, .int .i64 0, .int .i64 0] 25)
        have hcn := cells_new wr #[.int .u8 0, .string ⟨#[]⟩, .int .i64 0, .int .i64 0] 25
        have hone : ∀ u ∈ [Value.int .u8 0, .string ⟨#[]⟩, .int .i64 0, .int .i64 0], u.oneCell' = true := by
          intro u hu
          simp only [List.mem_cons, List.not_mem_nil, or_false] at hu
          rcases hu with rfl | rfl | rfl | rfl <;> rfl
        have h63 : dn.length + 1 ≤ maxLen := by unfold maxLen; omega
        have hby : (dn.length + 1) * 40 ≤ 140737488355328 := by omega
        have hbase : w.heap.size ≤ (wr.alloc (.cells #[.int .u8 0, .string ⟨#[]⟩, .int .i64 0, .int .i64 0] 25)).heap.size := by have := HB.out.size; simp; omega
        clear h0
        go_wp2_with (first
          | (at_builtin; refine wpList_append_keeps _ rfl _ _ 22 rfl w.heap.size 25 i0 (.agg #[.int .u8 0, .string ⟨#[]⟩, .int .i64 0, .int .i64 0]) 4 40 Tryd.underlying22 hi z0 z1 z2 rfl (by decide) _ _ _ rfl hown ⟨wr.heap.size, 0, none⟩ 1 1 [.int .u8 0, .string ⟨#[]⟩, .int .i64 0, .int .i64 0] rfl rfl hcn hone h63 hby hbase ?_; intro v' w3 hown' hg3 hat3 _; go_frame)
          | go_in)
        go_ret
        refine ⟨_, rfl, ?_, below_grown (HB.out.alloc HB.out.size _) hg3 (fun b e => (hown.lt b e).1)⟩
        rw [HF.out, List.length_append, List.flatten_append]
        exact hown'
end Go.Proofs.YtdgfjneapialdaaDoor
