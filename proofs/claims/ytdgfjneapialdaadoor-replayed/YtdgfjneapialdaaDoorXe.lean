import Derived.Test.YtdgfjneapialdaaDoorXd
import Derived.Test.YtdgfjneapialdaaDoorCards
import Derived.Test.YtdgfjneapialdaaDoorTie
import Derived.ProofKit
import Derived.LaidMore
import Derived.OpenShut
import Derived.Stop.Joined
import Derived.Stop.LaidErr
import Derived.Deep.Slices
import Derived.Deep.Strs
import Derived.SevenTiedAt
namespace Go.Proofs.YtdgfjneapialdaaDoor
open Go Go.ChangeShapes Go.WideShapes Go.ChangeAt Go.RowKit

theorem own : ownKnob Tryd.prog.godebug = none := by kernel_rfl
theorem tPow : (Tryd.prog.globals[1]?).map (·.type) = some 115 := by kernel_rfl
theorem cells82 : Tryd.prog.cellsOf 95 = 1 := by kernel_rfl
theorem cells102 : Tryd.prog.cellsOf 115 = 20 := by kernel_rfl
theorem cells3 : Tryd.prog.cellsOf 3 = 1 := by kernel_rfl
theorem cells35 : Tryd.prog.cellsOf 42 = 3 := by kernel_rfl

theorem tab_of_laid {W : World} (h : laidMetH Tryd.prog Rows.swappedRow.laid W) : Tab W := by
  rw [MakeChecks.laidMetH_plain _ _ _ (by kernel_rfl)] at h
  exact Lib.tabIs_of_head g1 tPow Tryd.underlying115 Tryd.underlying95 cells82 cells102 (laidMet.tail (laidMet.tail h))
theorem tab_size {W : World} (h : Tab W) : 1 < W.heap.size := by
  unfold Tab Lib.TabIs World.var? at h
  rw [g1] at h
  simp only [Option.bind_some] at h
  split at h
  · rename_i e
    exact (Array.getElem?_eq_some_iff.1 e).1
  · cases h

theorem i64_bd {k : Int} (h : (Lit.int .i64 k).wf = true) : -9223372036854775808 ≤ k ∧ k ≤ 9223372036854775807 := by
  have h1 : IntKind.i64.min = -9223372036854775808 := rfl
  have h2 : IntKind.i64.max = 9223372036854775807 := rfl
  simp [Lit.wf, h1, h2] at h
  omega

theorem struct35 : ∃ f0 f1 f2, Tryd.prog.underlying 42 = some (.struct #[f0, f1, f2]) ∧ f0.type = 3 ∧ f1.type = 3 ∧ f2.type = 3 ∧ f0.offset = 0 ∧ f1.offset = 1 ∧ f2.offset = 2 := ⟨_, _, _, Tryd.underlying42, rfl, rfl, rfl, rfl, rfl, rfl⟩

/-- One act's three cells. -/
theorem act_at {H : Type} {enc : TypeId × Value → H} {W : World} {base : Nat} {sp : Nat → Bool} {held : Bool} {n : Nat} {a : Addr} {cs : List Value} {x : DataW H × List MemPlace} (hc : W.cells? base a 3 = some cs) (h : DataW.trod enc Tryd.prog W base sp held n 42 cs = some x) :
    ∃ q0 q1 q2 : Int, W.cell? (a.add 0) = some (.int .i64 q0) ∧ W.cell? (a.add 1) = some (.int .i64 q1) ∧ W.cell? (a.add 2) = some (.int .i64 q2) ∧ (-9223372036854775808 ≤ q0 ∧ q0 ≤ 9223372036854775807) ∧ (-9223372036854775808 ≤ q1 ∧ q1 ≤ 9223372036854775807) ∧ (-9223372036854775808 ≤ q2 ∧ q2 ≤ 9223372036854775807) := by
  obtain ⟨f0, f1, f2, hu, t0, t1, t2, o0, o1, o2⟩ := struct35
  obtain ⟨_, hlen, hcell⟩ := World.cells?_some hc
  obtain ⟨y0, y1, y2, m, _, _, r0, r1, r2⟩ := Deep.trod_struct3 hu h
  rw [t0, o0, cells3] at r0
  rw [t1, o1, cells3] at r1
  rw [t2, o2, cells3] at r2
  obtain ⟨q0, e0, _, w0⟩ := DataW.trod_int Tryd.underlying3 r0
  obtain ⟨q1, e1, _, w1⟩ := DataW.trod_int Tryd.underlying3 r1
  obtain ⟨q2, e2, _, w2⟩ := DataW.trod_int Tryd.underlying3 r2
  rcases cs with _ | ⟨c0, _ | ⟨c1, _ | ⟨c2, _ | ⟨c3, r⟩⟩⟩⟩
  · simp at hlen
  · simp at hlen
  · simp at hlen
  · simp at e0 e1 e2
    subst e0 e1 e2
    exact ⟨q0, q1, q2, by simpa using hcell 0 (by omega), by simpa using hcell 1 (by omega), by simpa using hcell 2 (by omega), i64_bd w0, i64_bd w1, i64_bd w2⟩
  · simp at hlen

theorem acts_of {H : Type} {enc : TypeId × Value → H} {W : World} {base n len : Nat} {sp : Nat → Bool} {held : Bool} {a : Addr} {D : Nat → DataW H} {Pl : Nat → List MemPlace} (hpos : 0 < len)
    (hx : ∀ i, i < len → ∃ cs', W.cells? base (a.add (i * Tryd.prog.cellsOf 42)) (Tryd.prog.cellsOf 42) = some cs' ∧ DataW.trod enc Tryd.prog W base sp held n 42 cs' = some (D i, Pl i)) :
    ∃ b off ac, a = ⟨b, off, none⟩ ∧ ActsAt W b off len ac := by
  have each : ∀ i, i < len → ∃ q : Int × Int × Int, W.cell? ((a.add (i * 3)).add 0) = some (.int .i64 q.1) ∧ W.cell? ((a.add (i * 3)).add 1) = some (.int .i64 q.2.1) ∧ W.cell? ((a.add (i * 3)).add 2) = some (.int .i64 q.2.2) ∧ (-9223372036854775808 ≤ q.1 ∧ q.1 ≤ 9223372036854775807) ∧ (-9223372036854775808 ≤ q.2.1 ∧ q.2.1 ≤ 9223372036854775807) ∧ (-9223372036854775808 ≤ q.2.2 ∧ q.2.2 ≤ 9223372036854775807) := by
    intro i hi
    obtain ⟨cs', h1, h2⟩ := hx i hi
    rw [cells35] at h1
    obtain ⟨q0, q1, q2, r⟩ := act_at h1 h2
    exact ⟨(q0, q1, q2), r⟩
  obtain ⟨ac, hac⟩ := Deep.choose_lt each
  obtain ⟨b, off, spot⟩ := a
  have hspot : spot = none := by
    have := (hac 0 hpos).1
    cases spot
    · rfl
    · exfalso
      revert this
      simp [World.cell?, Addr.add]
      split <;> simp
  subst hspot
  have ea : ∀ i j : Nat, ((⟨b, off, none⟩ : Addr).add i).add j = ⟨b, off + i + j, none⟩ := by
    intro i j
    unfold Addr.add
    by_cases hi : i = 0 <;> by_cases hj : j = 0 <;> simp [hi, hj]
  refine ⟨b, off, ac, rfl, ?_, ?_, ?_, ?_, ?_, ?_, ?_⟩
  · have := (hac 0 hpos).1
    rw [ea] at this
    unfold World.cell? at this
    split at this
    · rename_i e
      exact (Array.getElem?_eq_some_iff.1 e).1
    · cases this
  · intro i hi; have := (hac i hi).1; rw [ea] at this; simpa using this
  · intro i hi; have := (hac i hi).2.1; rw [ea] at this; exact this
  · intro i hi; have := (hac i hi).2.2.1; rw [ea] at this; exact this
  · intro i hi; exact (hac i hi).2.2.2.1
  · intro i hi; exact (hac i hi).2.2.2.2.1
  · intro i hi; exact (hac i hi).2.2.2.2.2

/-- The door's own heap meets the condition. -/
theorem door_met (os : Os) (args : Array Value) : laidMetH Tryd.prog Rows.swappedRow.laid ((World.doorLaid Tryd.prog 400 os).forCall (fun _ _ => 0) ⟨#[], args, []⟩).memory :=
  laidMetH_of_parts3 (fuel := 8) (laidMet_of_run' 8 (by kernel_rfl) (by kernel_rfl)) (by kernel_rfl) (by kernel_rfl)

set_option maxRecDepth 100000 in
theorem swapped_lifted (os : Os) (started : os.Started) (H : Type) (enc : TypeId × Value → H) :
    ReturnsInHanded {} Tryd.checked os 5 .any (fun w args => (Rows.swappedSpec.pre enc Tryd.prog Tryd.f5 [] false w args ∧ laidMetH Tryd.prog Rows.swappedRow.laid w) ∧ sizedMet enc Tryd.prog Tryd.f5 (OpenSpec.ofChange Rows.swappedSpec) false w args)
      (Rows.swappedSpec.post enc Tryd.prog Tryd.f5 false true false false) := by
  refine returnsInHanded_of_change_and (C := Tryd.checked) (X := fun w _ => laidMetH Tryd.prog Rows.swappedRow.laid w) (fun _ _ _ hh h => h.of_heap hh) own started (by kernel_rfl) Tryd.func5
    (ChangeSpec.witness_shaped (enc := enc) (C := Tryd.checked) (os := os) (X := fun w _ => laidMetH Tryd.prog Rows.swappedRow.laid w) false (World.doorLaid Tryd.prog 400 os) #[.int .i64 0, .slice none 0 0, .int .i64 0] 8 rfl (World.shaped_of_RefB (by kernel_rfl) (by kernel_rfl)) (by kernel_rfl) (by kernel_rfl) (by kernel_rfl) (door_met os _)) ?_
  intro W base args ds gs before hval0 hW _ _ hL _
  have hval : ∀ (j : Nat) t v, Tryd.f5.params[j]? = some t → args[j]? = some v → Value.okWide Tryd.prog W .any base t v := hval0
  have hW' := hW
  obtain ⟨p, q, hA0, hV, rfl, hfz, hnd⟩ := hW
  have hA : DataW.TrodAll enc Tryd.prog W 0 (fun _ => true) true Tryd.f5.params.toList args.toList ds p := hA0
  rw [Tryd.params5] at hA hval
  obtain ⟨v0, v1, v2, d0, d1, d2, p0, p1, p2, rfl, rfl, rfl, h0, h1, h2⟩ := trodAll_three hA
  obtain ⟨rfl, rfl⟩ := trodVars_none hV
  have h0k := h0
  have h1k := h1
  have h2k := h2
  obtain ⟨lim, rfl, rfl, rfl, wl⟩ := open_int Tryd.underlying3 (hval 0 3 v0 rfl rfl) h0
  obtain ⟨nn, rfl, rfl, rfl, wn⟩ := open_int Tryd.underlying3 (hval 2 3 v2 rfl rfl) h2
  obtain ⟨a0, len, cap, rfl⟩ := okWide_slice Tryd.underlying29 (hval 1 29 v1 rfl rfl)
  obtain ⟨fuel, hf⟩ := h1
  clear hA0 hval0
  simp only [List.append_nil] at hW'
  have hlt : ∀ y ∈ p1, y.block < W.heap.size := fun y hy => by simpa using hW'.lt y (by simp [hy])
  have hT := tab_of_laid hL
  have hB := tab_size hT
  have bl := i64_bd wl
  have bn := i64_bd wn
  have fin : ∀ W' : World, Below W.heap.size W W' → ∃ v, Ending.returned (.bool true) = .returned v ∧ Rows.swappedSpec.post enc Tryd.prog Tryd.f5 false true false false W #[.int .i64 lim, .slice a0 len cap, .int .i64 nn] v W' := by
    intro W' hn
    refine ⟨_, rfl, _, _, _, [], [] ++ (p1 ++ []), [], hW', trodAll_mk1 (shut_bool Tryd.underlying4 true), trodAll_mk3 ?_ ?_ ?_, rfl, hn.frame _, fun h => by cases h⟩
    · exact Below.trod laidOut (by kernel_rfl) (of_decide_eq_true (by kernel_rfl)) h0k hn (fun y hy => by cases hy)
    · exact Below.trod laidOut (by kernel_rfl) (of_decide_eq_true (by kernel_rfl)) h1k hn hlt
    · exact Below.trod laidOut (by kernel_rfl) (of_decide_eq_true (by kernel_rfl)) h2k hn (fun y hy => by cases hy)
  rcases Nat.eq_zero_or_pos len with e0 | hpos
  · subst e0
    exact (swapped_zero lim nn a0 cap W hB bl.1 bl.2 bn.1 bn.2).mono fun e W' ⟨he, hn⟩ => by subst he; exact fin W' hn
  · rcases Deep.open_slice Tryd.underlying29 hf with ⟨hcs, hx⟩ | ⟨a, len', cap', m, n, D, Pl, hcs, hb, hl, hm, hmm, hx, hel⟩
    · simp [Value.cells] at hcs
      omega
    · simp [Value.cells] at hcs
      obtain ⟨rfl, rfl, rfl⟩ := hcs
      simp only [if_true] at hmm
      obtain ⟨b, off, ac, rfl, hac⟩ := acts_of hpos (fun i hi => hel i (by omega))
      have iO : Inhabited (Obk 1) := ⟨⟨{ Ob.zero with kind := 1 }, rfl⟩⟩
      exact (swapped_some lim nn b off len cap ac W hac (by omega) hT hB bl.1 bl.2 bn.1 bn.2).mono fun e W' ⟨he, hn⟩ => by subst he; exact fin W' hn

theorem swapped_holds : Rows.SwappedSaid :=
  OpenClaim.holds_of_wide 5 Tryd.f5 rfl rfl rfl rfl rfl rfl rfl ⟨rfl, rfl, rfl, rfl, rfl⟩ rfl rfl rfl rfl rfl (by kernel_rfl) Tryd.func5 (by kernel_rfl)
    (of_decide_eq_true (by kernel_rfl)) (by unfold Func.isWrapper; first | (rw [if_pos (by decide +kernel)]; kernel_rfl) | (rw [if_neg (by decide +kernel)]; exact ⟨rfl, rfl⟩))
    (fun os started H enc _ => swapped_lifted os started H enc)

theorem swapped_plain (f : FuncId) (fn : Func) (hf : Tryd.pinned.checked.prog.funcNamed "tender/tenderkeep.Swapped" = some f) (hfn : Tryd.pinned.checked.prog.funcs[f]? = some fn) :
    false = Tryd.pinned.checked.prog.looks [] ∧ ∀ (j : Nat) t, fn.params[j]? = some t → Tryd.pinned.checked.prog.wantsStandIn t = false := by
  obtain rfl : f = 5 := Option.some.inj ((show Tryd.prog.funcNamed "tender/tenderkeep.Swapped" = some 5 by kernel_rfl).symm.trans hf) |>.symm
  obtain rfl : fn = Tryd.f5 := (Option.some.inj (Tryd.func5.symm.trans hfn)).symm
  refine ⟨by kernel_rfl, fun j t ht => ?_⟩
  rw [Tryd.params5] at ht
  have hm : t ∈ [3, 29, 3] := by simpa using Array.mem_of_getElem? ht
  have hall : ([3, 29, 3].all fun u => !Tryd.prog.wantsStandIn u) = true := by kernel_rfl
  exact (show Tryd.prog.wantsStandIn t = false by simpa using List.all_eq_true.1 hall t hm)

theorem swapped_card : Rows.SwappedCardSaid :=
  Claim7.holds_tied_plain_at .later [] _ _ _ _ swapped_holds (fun _ h => by cases h) (by kernel_rfl) (fun _ h => by cases h) swapped_row_tie rfl ⟨rfl, rfl⟩ (by kernel_rfl) rfl swapped_plain (by kernel_rfl)

#print axioms swapped_card
end Go.Proofs.YtdgfjneapialdaaDoor
