/-
  DERIVED. GIVEN WITH THE SEED: THE CARDS: each row of YtdinbbcillcdcaaGreatDoorRows.lean that lists a variable, with what it lists TIED to the program's text (the seventh form; the later family's looks); each row that meets fmt, with fmt's text TOLD by the authors' own Lean function (tested against real Go, not proved from fmt's source: count such statements apart). THE CARD IS WHAT COUNTS. Prove the row's statement (the work); the ties are given (YtdinbbcillcdcaaGreatDoorTie.lean); close each card by the builder's one call (the guide's Derived/Test/ToyasCard.lean, 'card_holds'). Laid BY PROGRAM, IN A SANDBOX (cutbox-door.mjs). By AI agents, Wed Nov 11 2026. No macro, syntax, notation, axiom, sorry.
-/
import Derived.Test.YtdinbbcillcdcaaGreatDoorRows
import GoSem.ClaimSeven
namespace Go.Proofs.YtdinbbcillcdcaaGreatDoor
namespace Rows

/-- THE TIED CARD OF 'tenderlaw.Stores'. -/
def storesCard : Claim7 := { stood := { row := storesRow, standIns := [], harness := (true, "f8f23e5a1111c707cfd566ebb2772f4ad9096da7eb7b43f04bc796cca382e182"), looks := false }, kinds := [], alts := [], goes := true, laidByText := true, laidKinds := [.data, .data, .data], laidTests := true, laidLooks := .later }
def StoresCardSaid : Prop := Claim7.holds Tryz.pinned (.plain (OpenSpec.ofChange storesSpec)) storesCard

/-- THE TIED CARD OF 'tenderlaw.Queues'. -/
def queuesCard : Claim7 := { stood := { row := queuesRow, standIns := [], harness := (true, "f8f23e5a1111c707cfd566ebb2772f4ad9096da7eb7b43f04bc796cca382e182"), looks := false }, kinds := [], alts := [], goes := true, laidByText := true, laidKinds := [.data, .data, .data], laidTests := true, laidLooks := .later }
def QueuesCardSaid : Prop := Claim7.holds Tryz.pinned (.plain (OpenSpec.ofChange queuesSpec)) queuesCard

/-- THE TIED CARD OF 'tenderlaw.Clients'. -/
def clientsCard : Claim7 := { stood := { row := clientsRow, standIns := [], harness := (true, "f8f23e5a1111c707cfd566ebb2772f4ad9096da7eb7b43f04bc796cca382e182"), looks := false }, kinds := [], alts := [], goes := true, laidByText := true, laidKinds := [.data, .data, .data], laidTests := true, laidLooks := .later }
def ClientsCardSaid : Prop := Claim7.holds Tryz.pinned (.plain (OpenSpec.ofChange clientsSpec)) clientsCard

/-- THE TIED CARD OF 'tenderlaw.All'. -/
def allCard : Claim7 := { stood := { row := allRow, standIns := [], harness := (true, "f8f23e5a1111c707cfd566ebb2772f4ad9096da7eb7b43f04bc796cca382e182"), looks := false }, kinds := [], alts := [], goes := true, laidByText := true, laidKinds := [.data, .data, .data], laidTests := true, laidLooks := .later }
def AllCardSaid : Prop := Claim7.holds Tryz.pinned (.plain (OpenSpec.ofChange allSpec)) allCard

/-- THE SECOND FORM's CARD OF 'tenderlaw.Stores'. -/
def storesUptoCard : Claim7 := { stood := { row := storesUptoRow, standIns := [], harness := (true, "f8f23e5a1111c707cfd566ebb2772f4ad9096da7eb7b43f04bc796cca382e182"), looks := false }, kinds := [], alts := [], goes := true, laidByText := true, laidKinds := [.data, .data, .data], laidTests := true, laidLooks := .later }
def StoresUptoCardSaid : Prop := Claim7.holds Tryz.pinned (.plain (OpenSpec.upto storesSpec)) storesUptoCard

/-- THE SECOND FORM's CARD OF 'tenderlaw.Queues'. -/
def queuesUptoCard : Claim7 := { stood := { row := queuesUptoRow, standIns := [], harness := (true, "f8f23e5a1111c707cfd566ebb2772f4ad9096da7eb7b43f04bc796cca382e182"), looks := false }, kinds := [], alts := [], goes := true, laidByText := true, laidKinds := [.data, .data, .data], laidTests := true, laidLooks := .later }
def QueuesUptoCardSaid : Prop := Claim7.holds Tryz.pinned (.plain (OpenSpec.upto queuesSpec)) queuesUptoCard

/-- THE SECOND FORM's CARD OF 'tenderlaw.Clients'. -/
def clientsUptoCard : Claim7 := { stood := { row := clientsUptoRow, standIns := [], harness := (true, "f8f23e5a1111c707cfd566ebb2772f4ad9096da7eb7b43f04bc796cca382e182"), looks := false }, kinds := [], alts := [], goes := true, laidByText := true, laidKinds := [.data, .data, .data], laidTests := true, laidLooks := .later }
def ClientsUptoCardSaid : Prop := Claim7.holds Tryz.pinned (.plain (OpenSpec.upto clientsSpec)) clientsUptoCard

/-- THE SECOND FORM's CARD OF 'tenderlaw.All'. -/
def allUptoCard : Claim7 := { stood := { row := allUptoRow, standIns := [], harness := (true, "f8f23e5a1111c707cfd566ebb2772f4ad9096da7eb7b43f04bc796cca382e182"), looks := false }, kinds := [], alts := [], goes := true, laidByText := true, laidKinds := [.data, .data, .data], laidTests := true, laidLooks := .later }
def AllUptoCardSaid : Prop := Claim7.holds Tryz.pinned (.plain (OpenSpec.upto allSpec)) allUptoCard
end Rows
end Go.Proofs.YtdinbbcillcdcaaGreatDoor
