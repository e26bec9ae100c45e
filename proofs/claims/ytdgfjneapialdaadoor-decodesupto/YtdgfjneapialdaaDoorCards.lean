/-
  DERIVED. GIVEN WITH THE SEED: THE CARDS: each row of YtdgfjneapialdaaDoorRows.lean that lists a variable, with what it lists TIED to the program's text (the seventh form; the later family's looks); each row that meets fmt, with fmt's text TOLD by the authors' own Lean function (tested against real Go, not proved from fmt's source: count such statements apart). THE CARD IS WHAT COUNTS. Prove the row's statement (the work); the ties are given (YtdgfjneapialdaaDoorTie.lean); close each card by the builder's one call (the guide's Derived/Test/ToyasCard.lean, 'card_holds'). Laid BY PROGRAM, IN A SANDBOX (cutbox-door.mjs). By AI agents, Wed Nov 11 2026. No macro, syntax, notation, axiom, sorry.
-/
import Derived.Test.YtdgfjneapialdaaDoorRows
import GoSem.ClaimSeven
namespace Go.Proofs.YtdgfjneapialdaaDoor
namespace Rows

/-- THE TIED CARD OF 'tenderlaw.Decodes'. -/
def decodesCard : Claim7 := { stood := { row := decodesRow, standIns := [], harness := (true, "629a0a6198d20a1f6c0eb7bfde79a5de0e264eae97114ad2352e5578a4312be2"), looks := false }, kinds := [], alts := [], laidByText := true, laidKinds := [.data, .data, .data], laidTests := true, laidLooks := .later }
def DecodesCardSaid : Prop := Claim7.holds Tryd.pinned (.plain (OpenSpec.ofChange decodesSpec)) decodesCard

/-- THE TIED CARD OF 'tenderkeep.Replayed'. -/
def replayedCard : Claim7 := { stood := { row := replayedRow, standIns := [], harness := (true, "629a0a6198d20a1f6c0eb7bfde79a5de0e264eae97114ad2352e5578a4312be2"), looks := false }, kinds := [], alts := [], laidByText := true, laidKinds := [.data, .data, .data], laidTests := true, laidLooks := .later }
def ReplayedCardSaid : Prop := Claim7.holds Tryd.pinned (.plain (OpenSpec.ofChange replayedSpec)) replayedCard

/-- THE TIED CARD OF 'tenderkeep.Swapped'. -/
def swappedCard : Claim7 := { stood := { row := swappedRow, standIns := [], harness := (true, "629a0a6198d20a1f6c0eb7bfde79a5de0e264eae97114ad2352e5578a4312be2"), looks := false }, kinds := [], alts := [], laidByText := true, laidKinds := [.data, .data, .data], laidTests := true, laidLooks := .later }
def SwappedCardSaid : Prop := Claim7.holds Tryd.pinned (.plain (OpenSpec.ofChange swappedSpec)) swappedCard

/-- THE SECOND FORM's CARD OF 'tenderlaw.Decodes'. -/
def decodesUptoCard : Claim7 := { stood := { row := decodesUptoRow, standIns := [], harness := (true, "629a0a6198d20a1f6c0eb7bfde79a5de0e264eae97114ad2352e5578a4312be2"), looks := false }, kinds := [], alts := [], laidByText := true, laidKinds := [.data, .data, .data], laidTests := true, laidLooks := .later }
def DecodesUptoCardSaid : Prop := Claim7.holds Tryd.pinned (.plain (OpenSpec.upto decodesSpec)) decodesUptoCard

/-- THE SECOND FORM's CARD OF 'tenderkeep.Replayed'. -/
def replayedUptoCard : Claim7 := { stood := { row := replayedUptoRow, standIns := [], harness := (true, "629a0a6198d20a1f6c0eb7bfde79a5de0e264eae97114ad2352e5578a4312be2"), looks := false }, kinds := [], alts := [], laidByText := true, laidKinds := [.data, .data, .data], laidTests := true, laidLooks := .later }
def ReplayedUptoCardSaid : Prop := Claim7.holds Tryd.pinned (.plain (OpenSpec.upto replayedSpec)) replayedUptoCard

/-- THE SECOND FORM's CARD OF 'tenderkeep.Swapped'. -/
def swappedUptoCard : Claim7 := { stood := { row := swappedUptoRow, standIns := [], harness := (true, "629a0a6198d20a1f6c0eb7bfde79a5de0e264eae97114ad2352e5578a4312be2"), looks := false }, kinds := [], alts := [], laidByText := true, laidKinds := [.data, .data, .data], laidTests := true, laidLooks := .later }
def SwappedUptoCardSaid : Prop := Claim7.holds Tryd.pinned (.plain (OpenSpec.upto swappedSpec)) swappedUptoCard
end Rows
end Go.Proofs.YtdgfjneapialdaaDoor
