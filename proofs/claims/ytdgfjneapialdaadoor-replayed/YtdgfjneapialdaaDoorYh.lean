import Derived.Test.YtdgfjneapialdaaDoorXe
import Derived.Test.YtdgfjneapialdaaDoorYf
namespace Go.Proofs.YtdgfjneapialdaaDoor
open Go Go.ChangeShapes Go.WideShapes Go.ChangeAt Go.RowKit

theorem tab_of_laidR {W : World} (h : laidMetH Tryd.prog Rows.replayedRow.laid W) : Tab W := by
  rw [MakeChecks.laidMetH_plain _ _ _ (by kernel_rfl)] at h
  exact Lib.tabIs_of_head g1 tPow Tryd.underlying115 Tryd.underlying95 cells82 cells102 (laidMet.tail (laidMet.tail h))

/-- The door's own heap meets the condition. -/
theorem door_metR (os : Os) (args : Array Value) : laidMetH Tryd.prog Rows.replayedRow.laid ((World.doorLaid Tryd.prog 400 os).forCall (fun _ _ => 0) ⟨#[], args, []⟩).memory :=
  laidMetH_of_parts3 (fuel := 8) (laidMet_of_run' 8 (by kernel_rfl) (by kernel_rfl)) (by kernel_rfl) (by kernel_rfl)

set_option maxRecDepth 100000 in
theorem replayed_lifted (os : Os) (started : os.Started) (H : Type) (enc : TypeId × Value → H) :
    ReturnsInHanded {} Tryd.checked os 4 .any (fun w args => (Rows.replayedSpec.pre enc Tryd.prog Tryd.f4 [] false w args ∧ laidMetH Tryd.prog Rows.replayedRow.laid w) ∧ sizedMet enc Tryd.prog Tryd.f4 (OpenSpec.ofChange Rows.replayedSpec) false w args)
      (Rows.replayedSpec.post enc Tryd.prog Tryd.f4 false true false false) := by
  refine returnsInHanded_of_change_and (C := Tryd.checked) (X := fun w _ => laidMetH Tryd.prog Rows.replayedRow.laid w) (fun _ _ _ hh h => h.of_heap hh) own started (by kernel_rfl) Tryd.func4
    (ChangeSpec.witness_shaped (enc := enc) (C := Tryd.checked) (os := os) (X := fun w _ => laidMetH Tryd.prog Rows.replayedRow.laid w) false (World.doorLaid Tryd.prog 400 os) #[.int .i64 0, .slice none 0 0, .int .i64 0] 8 rfl (World.shaped_of_RefB (by kernel_rfl) (by kernel_rfl)) (by kernel_rfl) (by kernel_rfl) (by kernel_rfl) (door_metR os _)) ?_
  intro W base args ds gs before hval0 hW _ _ hL _
  have hval : ∀ (j : Nat) t v, Tryd.f4.params[j]? = some t → args[j]? = some v → Value.okWide Tryd.prog W .any base t v := hval0
  have hW' := hW
  obtain ⟨p, q, hA0, hV, rfl, hfz, hnd⟩ := hW
  have hA : DataW.TrodAll enc Tryd.prog W 0 (fun _ => true) true Tryd.f4.params.toList args.toList ds p := hA0
  rw [Tryd.params4] at hA hval
  obtain ⟨v0, v1, v2, d0, d1, d2, p0, p1, p2, rfl, rfl, rfl, h0, h1, h2⟩ := trodAll_three hA
  obtain ⟨rfl, rfl⟩ := trodVars_none hV
  have h0k := h0
  have h1k := h1
  have h2k := h2
  obtain ⟨lim, rfl, rfl, rfl, wl⟩ := open_int Tryd.underlying3 (hval 0 3 v0 rfl rfl) h0
  obtain ⟨nn, rfl, rfl, rfl, wn⟩ := open_int Tryd.underlying3 (hval 2 3 v2 rfl rfl) h2
  obtain ⟨a0, len, cap, rfl⟩ := okWide_slice Tryd.underlying29 (hval 1 29 v1 rfl rfl)
  obtain ⟨fuel, hf⟩ := h1
  clear hA0 hval0
  simp only [List.append_nil] at hW'
  have hlt : ∀ y ∈ p1, y.block < W.heap.size := fun y hy => by simpa using hW'.lt y (by simp [hy])
  have hT := tab_of_laidR hL
  have hB := tab_size hT
  have bl := i64_bd wl
  have bn := i64_bd wn
  have fin : ∀ W' : World, Below W.heap.size W W' → ∃ v, Ending.returned (.bool true) = .returned v ∧ Rows.replayedSpec.post enc Tryd.prog Tryd.f4 false true false false W #[.int .i64 lim, .slice a0 len cap, .int .i64 nn] v W' := by
    intro W' hn
    refine ⟨_, rfl, _, _, _, [], [] ++ (p1 ++ []), [], hW', trodAll_mk1 (shut_bool Tryd.underlying4 true), trodAll_mk3 ?_ ?_ ?_, rfl, hn.frame _, fun h => by cases h⟩
    · exact Below.trod laidOut (by kernel_rfl) (of_decide_eq_true (by kernel_rfl)) h0k hn (fun y hy => by cases hy)
    · exact Below.trod laidOut (by kernel_rfl) (of_decide_eq_true (by kernel_rfl)) h1k hn hlt
    · exact Below.trod laidOut (by kernel_rfl) (of_decide_eq_true (by kernel_rfl)) h2k hn (fun y hy => by cases hy)
  have iO0 : Inhabited (Obk 0) := ⟨⟨{ Ob.zero with kind := 0 }, rfl⟩⟩
  have iO1 : Inhabited (Obk 1) := ⟨⟨{ Ob.zero with kind := 1 }, rfl⟩⟩
  rcases Nat.eq_zero_or_pos len with e0 | hpos
  · subst e0
    exact (replayed_any lim nn a0 0 cap (fun _ => (0, 0, 0)) W (fun h => by omega) (Nat.zero_le _) hT hB bl.1 bl.2 bn.1 bn.2).mono fun e W' ⟨he, hn⟩ => by subst he; exact fin W' hn
  · rcases Deep.open_slice Tryd.underlying29 hf with ⟨hcs, hx⟩ | ⟨a, len', cap', m, n, D, Pl, hcs, hb, hl, hm, hmm, hx, hel⟩
    · simp [Value.cells] at hcs
      omega
    · simp [Value.cells] at hcs
      obtain ⟨rfl, rfl, rfl⟩ := hcs
      simp only [if_true] at hmm
      obtain ⟨b, off, ac, rfl, hac⟩ := acts_of hpos (fun i hi => hel i (by omega))
      exact (replayed_any lim nn _ len cap ac W (fun _ => ⟨b, off, rfl, hac⟩) (by omega) hT hB bl.1 bl.2 bn.1 bn.2).mono fun e W' ⟨he, hn⟩ => by subst he; exact fin W' hn

theorem replayed_holds : Rows.ReplayedSaid :=
  OpenClaim.holds_of_wide 4 Tryd.f4 rfl rfl rfl rfl rfl rfl rfl ⟨rfl, rfl, rfl, rfl, rfl⟩ rfl rfl rfl rfl rfl (by kernel_rfl) Tryd.func4 (by kernel_rfl)
    (of_decide_eq_true (by kernel_rfl)) (by unfold Func.isWrapper; first | (rw [if_pos (by decide +kernel)]; kernel_rfl) | (rw [if_neg (by decide +kernel)]; exact ⟨rfl, rfl⟩))
    (fun os started H enc _ => replayed_lifted os started H enc)

theorem replayed_plain (f : FuncId) (fn : Func) (hf : Tryd.pinned.checked.prog.funcNamed "tender/tenderkeep.Replayed" = some f) (hfn : Tryd.pinned.checked.prog.funcs[f]? = some fn) :
    false = Tryd.pinned.checked.prog.looks [] ∧ ∀ (j : Nat) t, fn.params[j]? = some t → Tryd.pinned.checked.prog.wantsStandIn t = false := by
  obtain rfl : f = 4 := Option.some.inj ((show Tryd.prog.funcNamed "tender/tenderkeep.Replayed" = some 4 by kernel_rfl).symm.trans hf) |>.symm
  obtain rfl : fn = Tryd.f4 := (Option.some.inj (Tryd.func4.symm.trans hfn)).symm
  refine ⟨by kernel_rfl, fun j t ht => ?_⟩
  rw [Tryd.params4] at ht
  have hm : t ∈ [3, 29, 3] := by simpa using Array.mem_of_getElem? ht
  have hall : ([3, 29, 3].all fun u => !Tryd.prog.wantsStandIn u) = true := by kernel_rfl
  exact (show Tryd.prog.wantsStandIn t = false by simpa using List.all_eq_true.1 hall t hm)

theorem replayed_card : Rows.ReplayedCardSaid :=
  Claim7.holds_tied_plain_at .later [] _ _ _ _ replayed_holds (fun _ h => by cases h) (by kernel_rfl) (fun _ h => by cases h) replayed_row_tie rfl ⟨rfl, rfl⟩ (by kernel_rfl) rfl replayed_plain (by kernel_rfl)

#print axioms replayed_card
end Go.Proofs.YtdgfjneapialdaaDoor
