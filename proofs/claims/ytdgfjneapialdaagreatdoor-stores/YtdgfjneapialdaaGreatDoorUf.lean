import Derived.Test.YtdgfjneapialdaaGreatDoorUe
import Derived.Test.YtdgfjneapialdaaGreatDoorUd
namespace Go.Proofs.YtdgfjneapialdaaGreatDoor.S
open Go Go.ChangeShapes Go.WideShapes Go.ChangeAt Go.RowKit

set_option maxRecDepth 100000 in
theorem stores_any (ad : Option Addr) (len cap : Nat) (st : Nat → St) (w : World) (hS : ∀ i, i < len → StOk (st i)) (hA : 0 < len → ∃ b off, ad = some ⟨b, off, none⟩ ∧ StepsAt w b off len st) (hlen : len ≤ 765000000000) (hT : Tab w) :
    Calls Tryz.prog 3 #[.slice ad len cap] w fun e w' => e = .returned (.bool true) ∧ Below w.heap.size w w' := by
  have hc := plays_any ad len cap st w hS hA hlen hT (tab_size hT)
  clear hS hA hT
  go_enter Tryz.func3, Tryz.ntmps3
  go_wp2_with fail
  refine hc.mono ?_
  rintro e w' ⟨rfl, hb⟩
  go_wp2
  go_ret
  exact ⟨rfl, hb⟩

/-- The door's own heap meets the condition. -/
theorem door_met (os : Os) (args : Array Value) : laidMetH Tryz.prog Rows.storesRow.laid ((World.doorLaid Tryz.prog 400 os).forCall (fun _ _ => 0) ⟨#[], args, []⟩).memory :=
  laidMetH_of_parts3 (fuel := 8) (laidMet_of_run' 8 (by kernel_rfl) (by kernel_rfl)) (by kernel_rfl) (by kernel_rfl)

set_option maxRecDepth 100000 in
theorem stores_lifted (os : Os) (started : os.Started) (H : Type) (enc : TypeId × Value → H) :
    ReturnsInHanded {} Tryz.checked os 3 .any (fun w args => (Rows.storesSpec.pre enc Tryz.prog Tryz.f3 [] false w args ∧ laidMetH Tryz.prog Rows.storesRow.laid w) ∧ sizedMet enc Tryz.prog Tryz.f3 (OpenSpec.ofChange Rows.storesSpec) false w args)
      (Rows.storesSpec.post enc Tryz.prog Tryz.f3 false true false false) := by
  refine returnsInHanded_of_change_and (C := Tryz.checked) (X := fun w _ => laidMetH Tryz.prog Rows.storesRow.laid w) (fun _ _ _ hh h => h.of_heap hh) own started (by kernel_rfl) Tryz.func3
    (ChangeSpec.witness_shaped (enc := enc) (C := Tryz.checked) (os := os) (X := fun w _ => laidMetH Tryz.prog Rows.storesRow.laid w) false (World.doorLaid Tryz.prog 400 os) #[.slice none 0 0] 8 rfl (World.shaped_of_RefB (by kernel_rfl) (by kernel_rfl)) (by kernel_rfl) (by kernel_rfl) (by kernel_rfl) (door_met os _)) ?_
  intro W base args ds gs before hval0 hW _ hz hL _
  have hval : ∀ (j : Nat) t v, Tryz.f3.params[j]? = some t → args[j]? = some v → Value.okWide Tryz.prog W .any base t v := hval0
  have hW' := hW
  obtain ⟨p, q, hA0, hV, rfl, hfz, hnd⟩ := hW
  have hA : DataW.TrodAll enc Tryz.prog W 0 (fun _ => true) true Tryz.f3.params.toList args.toList ds p := hA0
  rw [Tryz.params3] at hA hval hz
  obtain ⟨v1, d1, rfl, rfl, fuel, hf⟩ := trodAll_one hA
  obtain ⟨rfl, rfl⟩ := trodVars_none hV
  have h1k : ∃ fuel, DataW.trod enc Tryz.prog W 0 (fun _ => true) true fuel 22 v1.cells.toList = some (d1, p) := ⟨fuel, hf⟩
  obtain ⟨a0, len, cap, rfl⟩ := okWide_slice Tryz.underlying22 (hval 0 22 v1 rfl rfl)
  clear hA0 hval0
  simp only [List.append_nil] at hW'
  have hlt : ∀ y ∈ p, y.block < W.heap.size := fun y hy => by simpa using hW'.lt y (by simp [hy])
  have hT := tab_of_laid hL
  have fin : ∀ W' : World, Below W.heap.size W W' → ∃ v, Ending.returned (.bool true) = .returned v ∧ Rows.storesSpec.post enc Tryz.prog Tryz.f3 false true false false W #[.slice a0 len cap] v W' := by
    intro W' hn
    refine ⟨_, rfl, _, _, _, [], p, [], hW', trodAll_mk1 (shut_bool Tryz.underlying4 true), trodAll_mk1 ?_, rfl, hn.frame _, fun h => by cases h⟩
    exact Below.trod laidOut (by kernel_rfl) (of_decide_eq_true (by kernel_rfl)) h1k hn hlt
  rcases Nat.eq_zero_or_pos len with e0 | hpos
  · subst e0
    exact (stores_any a0 0 cap (fun _ => ⟨0, 0, 0, 0, ⟨#[]⟩, 0, ⟨#[]⟩, 0, 0, 0, 0, 0, 0, false, 0, 0, 0, 0, ⟨#[]⟩, 0, 0⟩) W (fun i hi => by omega) (fun h => by omega) (Nat.zero_le _) hT).mono fun e W' ⟨he, hn⟩ => by subst he; exact fin W' hn
  · rcases Deep.open_slice Tryz.underlying22 hf with ⟨hcs, hx⟩ | ⟨a, len', cap', m, n, D, Pl, hcs, hb, hl, hm, hmm, hx, hel⟩
    · simp [Value.cells] at hcs
      omega
    · simp [Value.cells] at hcs
      obtain ⟨rfl, rfl, rfl⟩ := hcs
      have hd : d1 = .slice ((List.range len).map D) ((List.range (m - len)).map fun j => D (len + j)) := congrArg Prod.fst hx
      simp only [if_true] at hmm
      obtain ⟨b, off, st, rfl, hst, hbd⟩ := steps_of hpos (fun i hi => hel i (by omega))
      have hlen : len ≤ 765000000000 := by
        have := sized_slice hz (j := 0) (t := 22) rfl (by rw [hd]; rfl) Tryz.underlying22
        rw [show Tryz.checked.prog.bytesOf 86 = 184 from bytes47] at this
        simp at this
        have hr : reachBytes = 140737488351232 := rfl
        omega
      exact (stores_any _ len cap st W hbd (fun _ => ⟨b, off, rfl, hst⟩) hlen hT).mono fun e W' ⟨he, hn⟩ => by subst he; exact fin W' hn

theorem stores_holds : Rows.StoresSaid :=
  OpenClaim.holds_of_wide 3 Tryz.f3 rfl rfl rfl rfl rfl rfl rfl ⟨rfl, rfl, rfl, rfl, rfl⟩ rfl rfl rfl rfl rfl (by kernel_rfl) Tryz.func3 stores_closed
    (of_decide_eq_true (by kernel_rfl)) (by unfold Func.isWrapper; first | (rw [if_pos (by decide +kernel)]; kernel_rfl) | (rw [if_neg (by decide +kernel)]; exact ⟨rfl, rfl⟩))
    (fun os started H enc _ => stores_lifted os started H enc)

theorem stores_plain (f : FuncId) (fn : Func) (hf : Tryz.pinned.checked.prog.funcNamed "tender/tenderlaw.Stores" = some f) (hfn : Tryz.pinned.checked.prog.funcs[f]? = some fn) :
    false = Tryz.pinned.checked.prog.looks [] ∧ ∀ (j : Nat) t, fn.params[j]? = some t → Tryz.pinned.checked.prog.wantsStandIn t = false := by
  obtain rfl : f = 3 := Option.some.inj ((show Tryz.prog.funcNamed "tender/tenderlaw.Stores" = some 3 by kernel_rfl).symm.trans hf) |>.symm
  obtain rfl : fn = Tryz.f3 := (Option.some.inj (Tryz.func3.symm.trans hfn)).symm
  refine ⟨by kernel_rfl, fun j t ht => ?_⟩
  rw [Tryz.params3] at ht
  have hm : t ∈ [22] := by simpa using Array.mem_of_getElem? ht
  have hall : ([22].all fun u => !Tryz.prog.wantsStandIn u) = true := by kernel_rfl
  exact (show Tryz.prog.wantsStandIn t = false by simpa using List.all_eq_true.1 hall t hm)

theorem stores_tied : Rows.StoresCardSaid :=
  ⟨Claim7.tied_new_at .later [.data, .data, .data] true (Claim7.new_of_sixth stores_holds _ _ rfl ⟨rfl, rfl⟩ (by kernel_rfl) rfl stores_plain) (by kernel_rfl), (fun _ h => by cases h), stores_row_tie, (fun h => by cases h), by kernel_rfl⟩

end Go.Proofs.YtdgfjneapialdaaGreatDoor.S

namespace Go.Proofs.YtdgfjneapialdaaGreatDoor
/-- The card. -/
theorem stores_card : Rows.StoresCardSaid := S.stores_tied

#print axioms stores_card
end Go.Proofs.YtdgfjneapialdaaGreatDoor
