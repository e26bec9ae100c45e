import Derived.Test.YtdgfjneapialdaaGreatDoorMj
namespace Go.Proofs.YtdgfjneapialdaaGreatDoor
open Go Go.ChangeShapes Go.WideShapes Go.ChangeAt Go.RowKit

theorem and2 {a b : Bool} (h : a = true) (k : b = true) : (a && b) = true := by rw [h, k]; rfl
theorem queues_k0 : (Rows.queuesRow.wf (OpenSpec.ofChange Rows.queuesSpec)) = true := by kernel_rfl
theorem queues_k1 : (laidOutB Tryz.pinned.checked.prog) = true := by kernel_rfl
theorem queues_k2 : (mapsRowed Tryz.pinned.checked.prog) = true := by kernel_rfl
theorem queues_k3 : (Tryz.f4.params.all (Tryz.pinned.checked.prog.readableRec ·)) = true := by kernel_rfl
theorem queues_k4 : (namedTie Tryz.pinned.checked.prog Rows.queuesRow.named Rows.queuesSpec.vars) = true := by kernel_rfl
theorem queues_k5 : ((Rows.queuesRow.stops == [])) = true := by kernel_rfl
theorem queues_k6 : ((Tryz.pinned.checked.prog.stops == [])) = true := by kernel_rfl
theorem queues_k7 : ((Rows.queuesRow.knobs == [])) = true := by kernel_rfl
theorem queues_k8 : ((Tryz.pinned.checked.prog.stopKnobs == [])) = true := by kernel_rfl
theorem queues_k9 : ((Rows.queuesRow.inPlace == Tryz.pinned.checked.prog.inPlace 4)) = true := by kernel_rfl
theorem queues_k10 : ((Rows.queuesRow.unfollowed == Tryz.pinned.checked.prog.unfollowed 4)) = true := by kernel_rfl
theorem queues_k11 : ((Rows.queuesRow.recurses == Tryz.pinned.checked.prog.recurses 4)) = true := by kernel_rfl
theorem queues_k12 : ((Rows.queuesRow.named == Tryz.pinned.checked.prog.varsNamed 4)) = true := by kernel_rfl
theorem queues_k13 : ((Rows.queuesRow.maps == (Tryz.f4.params.toList ++ Rows.queuesSpec.plain.varTypes Tryz.pinned.checked.prog).any (Tryz.pinned.checked.prog.mapsRec ·))) = true := by kernel_rfl
theorem queues_k14 : ((Rows.queuesRow.ifaces == (Tryz.f4.params.toList ++ Rows.queuesSpec.plain.varTypes Tryz.pinned.checked.prog).any (Tryz.pinned.checked.prog.ifacesRec ·))) = true := by kernel_rfl
theorem queues_k15 : ((Rows.queuesRow.mapsOut == Tryz.pinned.checked.prog.mapsAmong Tryz.f4.resultTypes.toList)) = true := by kernel_rfl
theorem queues_k16 : ((Rows.queuesRow.loops == (Tryz.f4.params.toList ++ Rows.queuesSpec.plain.varTypes Tryz.pinned.checked.prog).any (Tryz.pinned.checked.prog.loopsFrom ·))) = true := by kernel_rfl
theorem queues_k17 : ((Rows.queuesRow.wideKeys == (Tryz.f4.params.toList ++ Rows.queuesSpec.plain.varTypes Tryz.pinned.checked.prog ++ Tryz.f4.resultTypes.toList).any (Tryz.pinned.checked.prog.wideKeysFrom ·))) = true := by kernel_rfl
theorem queues_k18 : (Rows.queuesSpec.vars.all (Tryz.pinned.checked.prog.varReadable ·)) = true := by kernel_rfl
theorem queues_k19 : (Tryz.f4.resultTypes.all (fun t => Tryz.pinned.checked.prog.readableRec t && decide (t < Tryz.pinned.checked.prog.types.size))) = true := by kernel_rfl
theorem queues_k20 : ((Rows.queuesRow.ifacesOut == Tryz.f4.resultTypes.toList.any (Tryz.pinned.checked.prog.ifacesRec ·))) = true := by kernel_rfl
theorem queues_k21 : ((Rows.queuesRow.loopsOut == Tryz.f4.resultTypes.toList.any (Tryz.pinned.checked.prog.loopsFrom ·))) = true := by kernel_rfl
theorem queues_k22 : ((Rows.queuesRow.plainKeys == Tryz.pinned.checked.prog.plainKeys)) = true := by kernel_rfl
theorem queues_k23 : (Rows.queuesRow.shortTexts.isNone) = true := by kernel_rfl
theorem queues_k24 : (Tryz.pinned.checked.prog.stopsHeard) = true := by kernel_rfl
theorem queues_k25 : (Tryz.pinned.checked.prog.mayEnter) = true := by kernel_rfl
theorem queues_k26 : ((Rows.queuesRow.lifted == Tryz.pinned.checked.prog.liftsFinal)) = true := by kernel_rfl
theorem queues_k27 : ((Tryz.pinned.checked.prog.make == some Rows.queuesRow.make)) = true := by kernel_rfl
theorem queues_k28 : ((Rows.queuesRow.kinds == (if Rows.queuesRow.domain.isEmpty then [] else Tryz.f4.params.toList.map fun t => match Tryz.pinned.checked.prog.underlying t with | some (.int k) => some k | _ => none))) = true := by kernel_rfl
theorem queues_k29 : ((Rows.queuesRow.pinned == Rows.queuesRow.pinnedBy)) = true := by kernel_rfl
theorem queues_k30 : ((Rows.queuesRow.veiled == (Tryz.f4.params.toList ++ Rows.queuesSpec.plain.varTypes Tryz.pinned.checked.prog ++ Tryz.f4.resultTypes.toList).any (Tryz.pinned.checked.prog.veiledRec ·))) = true := by kernel_rfl
theorem queues_k31 : (Rows.queuesRow.veiledFits Tryz.pinned.checked.prog Tryz.f4.params.toList (Tryz.f4.params.toList ++ Rows.queuesSpec.plain.varTypes Tryz.pinned.checked.prog ++ Tryz.f4.resultTypes.toList)) = true := by kernel_rfl
set_option maxRecDepth 100000 in
theorem queues_closed : joinedFacts Tryz.pinned.checked.prog 4 Tryz.f4 Rows.queuesSpec Rows.queuesRow = true := by
  unfold joinedFacts
  exact and2 (and2 (and2 (and2 (and2 (and2 (and2 (and2 (and2 (and2 (and2 (and2 (and2 (and2 (and2 (and2 (and2 (and2 (and2 (and2 (and2 (and2 (and2 (and2 (and2 (and2 (and2 (and2 (and2 (and2 (and2 queues_k0 queues_k1) queues_k2) queues_k3) queues_k4) queues_k5) queues_k6) queues_k7) queues_k8) queues_k9) queues_k10) queues_k11) queues_k12) queues_k13) queues_k14) queues_k15) queues_k16) queues_k17) queues_k18) queues_k19) queues_k20) queues_k21) queues_k22) queues_k23) queues_k24) queues_k25) queues_k26) queues_k27) queues_k28) queues_k29) queues_k30) queues_k31

end Go.Proofs.YtdgfjneapialdaaGreatDoor
