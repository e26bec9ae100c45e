import Derived.Test.YtdgfjneapialdaaGreatDoorRows
import Derived.Test.YtdgfjneapialdaaGreatDoorCards
import Derived.Test.YtdgfjneapialdaaGreatDoorTie
import Derived.ProofKit
import Derived.LaidMore
import Derived.OpenShut
import Derived.SizedLaws
import Derived.Stop.Joined
import Derived.Stop.LaidErr
import Derived.Deep.Slices
import Derived.Deep.Strs
import Derived.SevenTiedAt
namespace Go.Proofs.YtdgfjneapialdaaGreatDoor.S
open Go Go.ChangeShapes Go.WideShapes Go.ChangeAt Go.RowKit

theorem and2 {a b : Bool} (h : a = true) (k : b = true) : (a && b) = true := by rw [h, k]; rfl
theorem stores_k0 : (Rows.storesRow.wf (OpenSpec.ofChange Rows.storesSpec)) = true := by kernel_rfl
theorem stores_k1 : (laidOutB Tryz.pinned.checked.prog) = true := by kernel_rfl
theorem stores_k2 : (mapsRowed Tryz.pinned.checked.prog) = true := by kernel_rfl
theorem stores_k3 : (Tryz.f3.params.all (Tryz.pinned.checked.prog.readableRec ·)) = true := by kernel_rfl
theorem stores_k4 : (namedTie Tryz.pinned.checked.prog Rows.storesRow.named Rows.storesSpec.vars) = true := by kernel_rfl
theorem stores_k5 : ((Rows.storesRow.stops == [])) = true := by kernel_rfl
theorem stores_k6 : ((Tryz.pinned.checked.prog.stops == [])) = true := by kernel_rfl
theorem stores_k7 : ((Rows.storesRow.knobs == [])) = true := by kernel_rfl
theorem stores_k8 : ((Tryz.pinned.checked.prog.stopKnobs == [])) = true := by kernel_rfl
theorem stores_k9 : ((Rows.storesRow.inPlace == Tryz.pinned.checked.prog.inPlace 3)) = true := by kernel_rfl
theorem stores_k10 : ((Rows.storesRow.unfollowed == Tryz.pinned.checked.prog.unfollowed 3)) = true := by kernel_rfl
theorem stores_k11 : ((Rows.storesRow.recurses == Tryz.pinned.checked.prog.recurses 3)) = true := by kernel_rfl
theorem stores_k12 : ((Rows.storesRow.named == Tryz.pinned.checked.prog.varsNamed 3)) = true := by kernel_rfl
theorem stores_k13 : ((Rows.storesRow.maps == (Tryz.f3.params.toList ++ Rows.storesSpec.plain.varTypes Tryz.pinned.checked.prog).any (Tryz.pinned.checked.prog.mapsRec ·))) = true := by kernel_rfl
theorem stores_k14 : ((Rows.storesRow.ifaces == (Tryz.f3.params.toList ++ Rows.storesSpec.plain.varTypes Tryz.pinned.checked.prog).any (Tryz.pinned.checked.prog.ifacesRec ·))) = true := by kernel_rfl
theorem stores_k15 : ((Rows.storesRow.mapsOut == Tryz.pinned.checked.prog.mapsAmong Tryz.f3.resultTypes.toList)) = true := by kernel_rfl
theorem stores_k16 : ((Rows.storesRow.loops == (Tryz.f3.params.toList ++ Rows.storesSpec.plain.varTypes Tryz.pinned.checked.prog).any (Tryz.pinned.checked.prog.loopsFrom ·))) = true := by kernel_rfl
theorem stores_k17 : ((Rows.storesRow.wideKeys == (Tryz.f3.params.toList ++ Rows.storesSpec.plain.varTypes Tryz.pinned.checked.prog ++ Tryz.f3.resultTypes.toList).any (Tryz.pinned.checked.prog.wideKeysFrom ·))) = true := by kernel_rfl
theorem stores_k18 : (Rows.storesSpec.vars.all (Tryz.pinned.checked.prog.varReadable ·)) = true := by kernel_rfl
theorem stores_k19 : (Tryz.f3.resultTypes.all (fun t => Tryz.pinned.checked.prog.readableRec t && decide (t < Tryz.pinned.checked.prog.types.size))) = true := by kernel_rfl
theorem stores_k20 : ((Rows.storesRow.ifacesOut == Tryz.f3.resultTypes.toList.any (Tryz.pinned.checked.prog.ifacesRec ·))) = true := by kernel_rfl
theorem stores_k21 : ((Rows.storesRow.loopsOut == Tryz.f3.resultTypes.toList.any (Tryz.pinned.checked.prog.loopsFrom ·))) = true := by kernel_rfl
theorem stores_k22 : ((Rows.storesRow.plainKeys == Tryz.pinned.checked.prog.plainKeys)) = true := by kernel_rfl
theorem stores_k23 : (Rows.storesRow.shortTexts.isNone) = true := by kernel_rfl
theorem stores_k24 : (Tryz.pinned.checked.prog.stopsHeard) = true := by kernel_rfl
theorem stores_k25 : (Tryz.pinned.checked.prog.mayEnter) = true := by kernel_rfl
theorem stores_k26 : ((Rows.storesRow.lifted == Tryz.pinned.checked.prog.liftsFinal)) = true := by kernel_rfl
theorem stores_k27 : ((Tryz.pinned.checked.prog.make == some Rows.storesRow.make)) = true := by kernel_rfl
theorem stores_k28 : ((Rows.storesRow.kinds == (if Rows.storesRow.domain.isEmpty then [] else Tryz.f3.params.toList.map fun t => match Tryz.pinned.checked.prog.underlying t with | some (.int k) => some k | _ => none))) = true := by kernel_rfl
theorem stores_k29 : ((Rows.storesRow.pinned == Rows.storesRow.pinnedBy)) = true := by kernel_rfl
theorem stores_k30 : ((Rows.storesRow.veiled == (Tryz.f3.params.toList ++ Rows.storesSpec.plain.varTypes Tryz.pinned.checked.prog ++ Tryz.f3.resultTypes.toList).any (Tryz.pinned.checked.prog.veiledRec ·))) = true := by kernel_rfl
theorem stores_k31 : (Rows.storesRow.veiledFits Tryz.pinned.checked.prog Tryz.f3.params.toList (Tryz.f3.params.toList ++ Rows.storesSpec.plain.varTypes Tryz.pinned.checked.prog ++ Tryz.f3.resultTypes.toList)) = true := by kernel_rfl
set_option maxRecDepth 100000 in
theorem stores_closed : joinedFacts Tryz.pinned.checked.prog 3 Tryz.f3 Rows.storesSpec Rows.storesRow = true := by
  unfold joinedFacts
  exact and2 (and2 (and2 (and2 (and2 (and2 (and2 (and2 (and2 (and2 (and2 (and2 (and2 (and2 (and2 (and2 (and2 (and2 (and2 (and2 (and2 (and2 (and2 (and2 (and2 (and2 (and2 (and2 (and2 (and2 (and2 stores_k0 stores_k1) stores_k2) stores_k3) stores_k4) stores_k5) stores_k6) stores_k7) stores_k8) stores_k9) stores_k10) stores_k11) stores_k12) stores_k13) stores_k14) stores_k15) stores_k16) stores_k17) stores_k18) stores_k19) stores_k20) stores_k21) stores_k22) stores_k23) stores_k24) stores_k25) stores_k26) stores_k27) stores_k28) stores_k29) stores_k30) stores_k31

end Go.Proofs.YtdgfjneapialdaaGreatDoor.S
