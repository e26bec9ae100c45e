import Derived.Test.YtdgfjneapialdaaGreatDoorPg
namespace Go.Proofs.YtdgfjneapialdaaGreatDoor
open Go Go.RowKit Go.Maps Go.Lib Go.Sort

/-- What a tick of the reference does, the clock having gone on to c. -/
inductive TickR (c : Int) : RS → RS → Prop
  | stop {r : RS} (bb : Int) (hb : Best r.dues r.dues.length bb) (h : ∀ b (hb : b < r.dues.length), bb = (b : Int) → r.dues[b].2 ≠ c) : TickR c r r
  | step {r r' : RS} (i : Nat) (hi : i < r.dues.length) (hm : ∀ j (hj : j < r.dues.length), ¬ ltP r.dues[j] r.dues[i]) (hc : r.dues[i].2 = c) (h : TickR c (RS.add { r with dues := withoutL r.dues i } (bk r.dues[i].1)) r') : TickR c r r'

def duesLeft (rb : Nat) (w : World) : Nat :=
  match w.cell? ⟨rb, 4, none⟩ with
  | some (.slice _ n _) => n
  | _ => 0
theorem IsR.left {C : Nat → Prop} {w : World} {rb : Nat} {v1 v2 v3 v4 v5 : Value} {r : RS} (h : IsR C w rb v1 v2 v3 v4 v5 r) : duesLeft rb w = r.dues.length := by
  obtain ⟨ao, cap, e⟩ := own_form h.o4
  have := h.q4
  rw [e] at this
  unfold duesLeft
  rw [this]

theorem add_dues (r : RS) (k : ByteArray) : (r.add k).dues = r.dues ∧ (r.add k).ck = r.ck ∧ (r.add k).fails = r.fails ∧ (r.add k).hand = r.hand ∧ (r.add k).row.length ≤ r.row.length + 1 ∧ (r.add k).again.length ≤ r.again.length + 1 := by
  unfold RS.add
  split
  · split
    · exact ⟨rfl, rfl, rfl, rfl, by omega, by omega⟩
    · exact ⟨rfl, rfl, rfl, rfl, by simp, by simp⟩
  · split
    · exact ⟨rfl, rfl, rfl, rfl, by omega, by omega⟩
    · exact ⟨rfl, rfl, rfl, rfl, by simp, by simp⟩

/-- How long the rows may be. -/
def Fits (r : RS) : Prop := r.row.length + r.dues.length ≤ 1999999999998 ∧ r.hand.length ≤ 1999999999998 ∧ r.again.length + r.dues.length ≤ 1999999999998 ∧ ∀ x ∈ r.dues, noKeyB (bk x.1) = false ∧ (bk x.1).size ≤ maxLen
theorem withoutL_mem {l : List Dk} {i : Nat} {x : Dk} (h : x ∈ withoutL l i) : x ∈ l := by
  unfold withoutL at h
  rcases List.mem_append.1 h with h | h
  · exact List.mem_of_mem_take h
  · exact List.mem_of_mem_drop h

section
variable {C : Nat → Prop} {w : World} {rb : Nat} {v1 v2 v3 v4 v5 : Value} {r : RS}

set_option maxRecDepth 100000 in
set_option maxHeartbeats 1000000 in
theorem rtick_any (h : IsR C w rb v1 v2 v3 v4 v5 r) (hC : ∀ b, C b → b < w.heap.size) (hF : Fits r) (h0 : 0 ≤ r.ck) (h1 : r.ck ≤ 4611686018427387904) :
    Calls Tryz.prog 80 #[.pointer (some ⟨rb, 0, none⟩)] w fun e w' => e = .returned (.tuple #[]) ∧ ∃ r', TickR (r.ck + 1) { r with ck := r.ck + 1 } r' ∧ RIs C w w' rb r' := by
  have q0 := h.q0
  have f0 := h.fz
  have hlt := h.lt
  obtain ⟨ck, hck⟩ : ∃ ck, ck = r.ck := ⟨_, rfl⟩
  rw [← hck] at q0 h0 h1 ⊢
  have HR0 : Hid (IsR C (w.setCell ⟨rb, 0, none⟩ (.int .i64 (ck + 1))) rb v1 v2 v3 v4 v5 { r with ck := ck + 1 }) := h.setCk (ck + 1)
  have HK0 : Hid (KeptC C w (w.setCell ⟨rb, 0, none⟩ (.int .i64 (ck + 1)))) := (KeptC.refl C w).set (a := ⟨rb, 0, none⟩) h.c0 _
  have HF : Hid (Fits { r with ck := ck + 1 }) := hF
  have HC : Hid (∀ b, C b → b < w.heap.size) := hC
  have hd0 : r.dues.length ≤ 2000000000000 := by have := hF.1; omega
  have hf0 := first_any (l := r.dues) HR0.out.o4 hd0
  obtain ⟨ao4, cap4, e4⟩ := own_form h.o4
  have q4 := HR0.out.q4
  subst e4
  clear h hC hF hck
  generalize hr0 : ({ r with ck := ck + 1 } : RS) = r0 at *
  have HDU : Hid (r0.dues = r.dues) := by unfold Hid; rw [← hr0]
  have HCK0 : Hid (r0.ck = ck + 1) := by unfold Hid; rw [← hr0]
  clear hr0
  go_enter Tryz.func80, Tryz.ntmps80
  go_wp2_with fail
  refine hf0.mono ?_
  rintro e w1 ⟨bb0, rfl, hbest0, nn0, rfl⟩
  have HB0 : Hid (Best r0.dues r0.dues.length bb0) := by unfold Hid; rw [HDU.out]; exact hbest0
  have HRS : Hid (RIs C w ((w.setCell ⟨rb, 0, none⟩ (.int .i64 (ck + 1))).drewN nn0) rb r0) := ⟨⟨_, _, _, _, _, HR0.out.drewN nn0⟩, HK0.out.drewN nn0⟩
  generalize (w.setCell ⟨rb, 0, none⟩ (.int .i64 (ck + 1))).drewN nn0 = W1 at *
  clear hf0 hbest0 HR0 HK0 q0 q4 f0
  go_wp2
  go_loopw [2, 3] (fun iv _ wr => ∃ (bb : Int) (r1 : RS), iv = .int .i64 bb ∧ Hid (RIs C w wr rb r1) ∧ Hid (Best r1.dues r1.dues.length bb) ∧ Hid (∀ r', TickR (ck + 1) r1 r' → TickR (ck + 1) r0 r') ∧ Hid (Fits r1) ∧ Hid (r1.ck = ck + 1)) (fun _ _ wr => duesLeft rb wr)
  case atStart => exact ⟨bb0, r0, rfl, HRS, HB0, fun _ h => h, HF, HCK0⟩
  case round =>
    obtain ⟨bb, r1, rfl, HR, HBe, HT, HFi, HCk⟩ := hrel
    obtain ⟨⟨a1, a2, a3, a4, a5, hR⟩, hK⟩ := HR.out
    have hrw := hR.lt
    have q0 := hR.q0
    have q4 := hR.q4
    have fz := hR.fz
    rw [HCk.out] at q0
    obtain ⟨ad, cap, e4, hcap, had⟩ := row_form2 hR.o4
    subst e4
    rcases HBe.out with ⟨hz, rfl⟩ | ⟨b, hbl, _, rfl, hmin⟩
    · have HE : Hid (TickR (ck + 1) r0 r1) := HT.out r1 (TickR.stop (-1) HBe.out (fun b hb e => by omega))
      clear hR hK had hz
      go_wp2_with fail
      go_quiet (fail)
      go_wp2
      go_end0
      obtain ⟨⟨c1, c2, c3, c4, c5, hR'⟩, hK'⟩ := HR.out
      exact ⟨rfl, r1, HE.out, ⟨_, _, _, _, _, hR'.drewN nq⟩, hK'.drewN nq⟩
    · obtain ⟨g, rfl, hgl, hcc⟩ := had (by omega)
      obtain ⟨hx0, hx1⟩ := hcc b hbl
      have hb0 : decide ((b : Int) ≥ 0) = true := decide_eq_true (by omega)
      have hblt : ((b : Int) < (r1.dues.length : Int)) := by omega
      obtain ⟨xk, hxk⟩ : ∃ xk, xk = bk r1.dues[b].1 := ⟨_, rfl⟩
      obtain ⟨xt, hxt⟩ : ∃ xt, xt = r1.dues[b].2 := ⟨_, rfl⟩
      rw [← hxk] at hx0
      rw [← hxt] at hx1
      have HXK : Hid (xk = bk r1.dues[b].1) := hxk
      have HXT : Hid (xt = r1.dues[b].2) := hxt
      by_cases hc : xt = ck + 1
      · have hcb : (xt == ck + 1) = true := by simp [hc]
        have hF1 := HFi.out
        have hlen : r1.dues.length ≤ 2000000000000 := by have := hF1.1; omega
        have hw := fun n => without_any (own_drewN hR.o4 n) hlen b hbl
        have HCC : Hid (xt = ck + 1) := hc
        have HR1 : Hid (IsR C wr rb a1 a2 a3 (.slice (some ⟨g, 0, none⟩) r1.dues.length cap) a5 r1) := hR
        have HKr : Hid (KeptC C w wr) := hK
        clear hc hxk hxt hcc had hR hK
        go_wp2_with fail
        go_quiet (fail)
        have hw' := hw nq
        clear hw
        go_wp2_with fail
        refine hw'.mono ?_
        rintro e w2 ⟨vn, rfl, hon, hbn⟩
        have hCr : ∀ b, C b → b < (wr.drewN nq).heap.size := fun b hb => Nat.lt_of_lt_of_le (HC.out b hb) HKr.out.size
        obtain ⟨aon, capn, en⟩ := own_form hon
        subst en
        have hR2 := (HR1.out.drewN nq).set4 (grown_below hbn _) (own_mono hon (Nat.zero_le _)) (fun b e => Or.inr (hon.lt b e).1) hCr
        have hK2 : KeptC C w (w2.setCell ⟨rb, 4, none⟩ (.slice aon (withoutL r1.dues b).length capn)) := ((HKr.out.drewN nq).trans (KeptC.of_below hbn rfl)).set (a := ⟨rb, 4, none⟩) HR1.out.c0 _
        have hC2 : ∀ z, C z → z < (w2.setCell ⟨rb, 4, none⟩ (.slice aon (withoutL r1.dues b).length capn)).heap.size := fun z hz => by
          rw [size_set]
          exact Nat.lt_of_lt_of_le (hCr z hz) hbn.size
        have hwl := withoutL_len r1.dues b hbl
        have hkey := hF1.2.2.2 r1.dues[b] (List.getElem_mem hbl)
        rw [← HXK.out] at hkey
        have hadd := radd_any hR2 hC2 (by have := hF1.1; show r1.row.length ≤ _; omega) (by have := hF1.2.1; show r1.hand.length ≤ _; omega) (by have := hF1.2.2.1; show r1.again.length ≤ _; omega) xk hkey.2 hkey.1
        have c4' := ((HR1.out.drewN nq).below hbn).q4
        have f4' := ((HR1.out.drewN nq).below hbn).fz
        have HK2 : Hid (KeptC C w (w2.setCell ⟨rb, 4, none⟩ (.slice aon (withoutL r1.dues b).length capn))) := hK2
        have HWL : Hid ((withoutL r1.dues b).length + 1 = r1.dues.length) := hwl
        have HF1 : Hid (Fits r1) := hF1
        have HST : Hid (∀ r', TickR (ck + 1) (RS.add { r1 with dues := withoutL r1.dues b } xk) r' → TickR (ck + 1) r0 r') := fun r' h' => HT.out r' (TickR.step b hbl (fun j hj => hmin j hj hj) (by rw [← HXT.out]; exact HCC.out) (by rw [← HXK.out]; exact h'))
        have HLF : Hid (duesLeft rb wr = r1.dues.length) := HR1.out.left
        clear hon hbn hR2 hK2 hC2 hCr hwl hkey hw' hF1 hmin hblt
        go_wp2_with fail
        refine hadd.mono ?_
        rintro e w4 ⟨rfl, ⟨b1, b2, b3, b4, b5, hR4⟩, hK4⟩
        obtain ⟨ed, ec, ef, eh, er, ea⟩ := add_dues { r1 with dues := withoutL r1.dues b } xk
        have hq4 := hR4.q4
        have hl4 := hR4.lt
        obtain ⟨ao5, cap5, e5⟩ := own_form hR4.o4
        subst e5
        have hdl : (RS.add { r1 with dues := withoutL r1.dues b } xk).dues.length ≤ 2000000000000 := by
          rw [ed]
          have h1 := HF1.out.1
          have h2 := HWL.out
          show (withoutL r1.dues b).length ≤ _
          omega
        have hf4 := first_any hR4.o4 hdl
        have HRI : Hid (∀ n, RIs C w (w4.drewN n) rb (RS.add { r1 with dues := withoutL r1.dues b } xk)) := fun n => ⟨⟨_, _, _, _, _, hR4.drewN n⟩, (HK2.out.trans hK4).drewN n⟩
        have HFn : Hid (Fits (RS.add { r1 with dues := withoutL r1.dues b } xk)) := by
          obtain ⟨g1, g2, g3, g4⟩ := HF1.out
          have h2 := HWL.out
          refine ⟨?_, ?_, ?_, ?_⟩
          · rw [ed]
            show _ + (withoutL r1.dues b).length ≤ _
            have : (RS.add { r1 with dues := withoutL r1.dues b } xk).row.length ≤ r1.row.length + 1 := er
            omega
          · rw [eh]
            exact g2
          · rw [ed]
            show _ + (withoutL r1.dues b).length ≤ _
            have : (RS.add { r1 with dues := withoutL r1.dues b } xk).again.length ≤ r1.again.length + 1 := ea
            omega
          · intro x hx
            rw [ed] at hx
            exact g4 x (withoutL_mem hx)
        have HCn : Hid ((RS.add { r1 with dues := withoutL r1.dues b } xk).ck = ck + 1) := ec.trans HCk.out
        have HDn : Hid (∀ n, duesLeft rb (w4.drewN n) < duesLeft rb wr) := fun n => by
          rw [(hR4.drewN n).left, HLF.out, ed]
          have h2 := HWL.out
          show (withoutL r1.dues b).length < _
          omega
        clear hadd hR4 hK4 ed ec ef eh er ea c4' f4'
        generalize RS.add { r1 with dues := withoutL r1.dues b } xk = r2 at *
        go_wp2_with fail
        refine hf4.mono ?_
        rintro e w5 ⟨bb5, rfl, hbest5, n5, rfl⟩
        have HB5 : Hid (Best r2.dues r2.dues.length bb5) := hbest5
        clear hbest5 hf4
        go_wp2
        go_roundw
        case rel => exact ⟨bb5, r2, rfl, HRI.out n5, HB5, HST, HFn, HCn⟩
        case measure => exact HDn.out n5
      · have hcb : (xt == ck + 1) = false := beq_eq_false_iff_ne.2 hc
        have HE : Hid (TickR (ck + 1) r0 r1) := HT.out r1 (TickR.stop (b : Int) HBe.out (fun b' hb' e => by
          have : b' = b := by omega
          subst this
          rw [← hxt]
          exact hc))
        clear hR hK had hcc hc hxk hxt
        go_wp2_with fail
        go_quiet (fail)
        go_wp2
        go_end0
        obtain ⟨⟨c1, c2, c3, c4, c5, hR'⟩, hK'⟩ := HR.out
        exact ⟨rfl, r1, HE.out, ⟨_, _, _, _, _, hR'.drewN nq⟩, hK'.drewN nq⟩
end

end Go.Proofs.YtdgfjneapialdaaGreatDoor
