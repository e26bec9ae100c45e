/-
  DERIVED. GIVEN WITH THE SEED: THE CARDS: each row of YtdgfjneapialdaaGreatDoorRows.lean that lists a variable, with what it lists TIED to the program's text (the seventh form; the later family's looks); each row that meets fmt, with fmt's text TOLD by the authors' own Lean function (tested against real Go, not proved from fmt's source: count such statements apart). THE CARD IS WHAT COUNTS. Prove the row's statement (the work); the ties are given (YtdgfjneapialdaaGreatDoorTie.lean); close each card by the builder's one call (the guide's Derived/Test/ToyasCard.lean, 'card_holds'). Laid BY PROGRAM, IN A SANDBOX (cutbox-door.mjs). By AI agents, Wed Nov 11 2026. No macro, syntax, notation, axiom, sorry.
-/
import Derived.Test.YtdgfjneapialdaaGreatDoorRows
import GoSem.ClaimSeven
namespace Go.Proofs.YtdgfjneapialdaaGreatDoor
namespace Rows

/-- THE TIED CARD OF 'tenderlaw.Stores'. -/
def storesCard : Claim7 := { stood := { row := storesRow, standIns := [], harness := (true, "e605031ae31f40ee2b99d97b434dcaf558195707136f0be181beab923e9f8768"), looks := false }, kinds := [], alts := [], goes := true, laidByText := true, laidKinds := [.data, .data, .data], laidTests := true, laidLooks := .later }
def StoresCardSaid : Prop := Claim7.holds Tryz.pinned (.plain (OpenSpec.ofChange storesSpec)) storesCard

/-- THE TIED CARD OF 'tenderlaw.Queues'. -/
def queuesCard : Claim7 := { stood := { row := queuesRow, standIns := [], harness := (true, "e605031ae31f40ee2b99d97b434dcaf558195707136f0be181beab923e9f8768"), looks := false }, kinds := [], alts := [], goes := true, laidByText := true, laidKinds := [.data, .data, .data], laidTests := true, laidLooks := .later }
def QueuesCardSaid : Prop := Claim7.holds Tryz.pinned (.plain (OpenSpec.ofChange queuesSpec)) queuesCard

/-- THE TIED CARD OF 'tenderlaw.Clients'. -/
def clientsCard : Claim7 := { stood := { row := clientsRow, standIns := [], harness := (true, "e605031ae31f40ee2b99d97b434dcaf558195707136f0be181beab923e9f8768"), looks := false }, kinds := [], alts := [], goes := true, laidByText := true, laidKinds := [.data, .data, .data], laidTests := true, laidLooks := .later }
def ClientsCardSaid : Prop := Claim7.holds Tryz.pinned (.plain (OpenSpec.ofChange clientsSpec)) clientsCard

/-- THE TIED CARD OF 'tenderlaw.All'. -/
def allCard : Claim7 := { stood := { row := allRow, standIns := [], harness := (true, "e605031ae31f40ee2b99d97b434dcaf558195707136f0be181beab923e9f8768"), looks := false }, kinds := [], alts := [], goes := true, laidByText := true, laidKinds := [.data, .data, .data], laidTests := true, laidLooks := .later }
def AllCardSaid : Prop := Claim7.holds Tryz.pinned (.plain (OpenSpec.ofChange allSpec)) allCard

/-- THE TIED CARD OF 'tenderkeep.Echo'. -/
def echoCard : Claim7 := { stood := { row := echoRow, standIns := [], harness := (true, "e605031ae31f40ee2b99d97b434dcaf558195707136f0be181beab923e9f8768"), looks := false }, kinds := [], alts := [], goes := true, laidByText := true, laidKinds := [.data, .data, .data], laidTests := true, laidLooks := .later }
def EchoCardSaid : Prop := Claim7.holds Tryz.pinned (.plain (OpenSpec.ofChange echoSpec)) echoCard

/-- THE TIED CARD OF 'tenderkeep.Twins'. -/
def twinsCard : Claim7 := { stood := { row := twinsRow, standIns := [], harness := (true, "e605031ae31f40ee2b99d97b434dcaf558195707136f0be181beab923e9f8768"), looks := false }, kinds := [], alts := [], goes := true, laidByText := true, laidKinds := [.data, .data, .data], laidTests := true, laidLooks := .later }
def TwinsCardSaid : Prop := Claim7.holds Tryz.pinned (.plain (OpenSpec.ofChange twinsSpec)) twinsCard

/-- THE TIED CARD OF 'tenderkeep.Never'. -/
def neverCard : Claim7 := { stood := { row := neverRow, standIns := [], harness := (true, "e605031ae31f40ee2b99d97b434dcaf558195707136f0be181beab923e9f8768"), looks := false }, kinds := [], alts := [], goes := true, laidByText := true, laidKinds := [.data, .data, .data], laidTests := true, laidLooks := .later }
def NeverCardSaid : Prop := Claim7.holds Tryz.pinned (.plain (OpenSpec.ofChange neverSpec)) neverCard

/-- THE TIED CARD OF 'tenderkeep.Ends'. -/
def endsCard : Claim7 := { stood := { row := endsRow, standIns := [], harness := (true, "e605031ae31f40ee2b99d97b434dcaf558195707136f0be181beab923e9f8768"), looks := false }, kinds := [], alts := [], goes := true, laidByText := true, laidKinds := [.data, .data, .data], laidTests := true, laidLooks := .later }
def EndsCardSaid : Prop := Claim7.holds Tryz.pinned (.plain (OpenSpec.ofChange endsSpec)) endsCard

/-- THE SECOND FORM's CARD OF 'tenderlaw.Stores'. -/
def storesUptoCard : Claim7 := { stood := { row := storesUptoRow, standIns := [], harness := (true, "e605031ae31f40ee2b99d97b434dcaf558195707136f0be181beab923e9f8768"), looks := false }, kinds := [], alts := [], goes := true, laidByText := true, laidKinds := [.data, .data, .data], laidTests := true, laidLooks := .later }
def StoresUptoCardSaid : Prop := Claim7.holds Tryz.pinned (.plain (OpenSpec.upto storesSpec)) storesUptoCard

/-- THE SECOND FORM's CARD OF 'tenderlaw.Queues'. -/
def queuesUptoCard : Claim7 := { stood := { row := queuesUptoRow, standIns := [], harness := (true, "e605031ae31f40ee2b99d97b434dcaf558195707136f0be181beab923e9f8768"), looks := false }, kinds := [], alts := [], goes := true, laidByText := true, laidKinds := [.data, .data, .data], laidTests := true, laidLooks := .later }
def QueuesUptoCardSaid : Prop := Claim7.holds Tryz.pinned (.plain (OpenSpec.upto queuesSpec)) queuesUptoCard

/-- THE SECOND FORM's CARD OF 'tenderlaw.Clients'. -/
def clientsUptoCard : Claim7 := { stood := { row := clientsUptoRow, standIns := [], harness := (true, "e605031ae31f40ee2b99d97b434dcaf558195707136f0be181beab923e9f8768"), looks := false }, kinds := [], alts := [], goes := true, laidByText := true, laidKinds := [.data, .data, .data], laidTests := true, laidLooks := .later }
def ClientsUptoCardSaid : Prop := Claim7.holds Tryz.pinned (.plain (OpenSpec.upto clientsSpec)) clientsUptoCard

/-- THE SECOND FORM's CARD OF 'tenderlaw.All'. -/
def allUptoCard : Claim7 := { stood := { row := allUptoRow, standIns := [], harness := (true, "e605031ae31f40ee2b99d97b434dcaf558195707136f0be181beab923e9f8768"), looks := false }, kinds := [], alts := [], goes := true, laidByText := true, laidKinds := [.data, .data, .data], laidTests := true, laidLooks := .later }
def AllUptoCardSaid : Prop := Claim7.holds Tryz.pinned (.plain (OpenSpec.upto allSpec)) allUptoCard

/-- THE SECOND FORM's CARD OF 'tenderkeep.Echo'. -/
def echoUptoCard : Claim7 := { stood := { row := echoUptoRow, standIns := [], harness := (true, "e605031ae31f40ee2b99d97b434dcaf558195707136f0be181beab923e9f8768"), looks := false }, kinds := [], alts := [], goes := true, laidByText := true, laidKinds := [.data, .data, .data], laidTests := true, laidLooks := .later }
def EchoUptoCardSaid : Prop := Claim7.holds Tryz.pinned (.plain (OpenSpec.upto echoSpec)) echoUptoCard

/-- THE SECOND FORM's CARD OF 'tenderkeep.Twins'. -/
def twinsUptoCard : Claim7 := { stood := { row := twinsUptoRow, standIns := [], harness := (true, "e605031ae31f40ee2b99d97b434dcaf558195707136f0be181beab923e9f8768"), looks := false }, kinds := [], alts := [], goes := true, laidByText := true, laidKinds := [.data, .data, .data], laidTests := true, laidLooks := .later }
def TwinsUptoCardSaid : Prop := Claim7.holds Tryz.pinned (.plain (OpenSpec.upto twinsSpec)) twinsUptoCard

/-- THE SECOND FORM's CARD OF 'tenderkeep.Never'. -/
def neverUptoCard : Claim7 := { stood := { row := neverUptoRow, standIns := [], harness := (true, "e605031ae31f40ee2b99d97b434dcaf558195707136f0be181beab923e9f8768"), looks := false }, kinds := [], alts := [], goes := true, laidByText := true, laidKinds := [.data, .data, .data], laidTests := true, laidLooks := .later }
def NeverUptoCardSaid : Prop := Claim7.holds Tryz.pinned (.plain (OpenSpec.upto neverSpec)) neverUptoCard

/-- THE SECOND FORM's CARD OF 'tenderkeep.Ends'. -/
def endsUptoCard : Claim7 := { stood := { row := endsUptoRow, standIns := [], harness := (true, "e605031ae31f40ee2b99d97b434dcaf558195707136f0be181beab923e9f8768"), looks := false }, kinds := [], alts := [], goes := true, laidByText := true, laidKinds := [.data, .data, .data], laidTests := true, laidLooks := .later }
def EndsUptoCardSaid : Prop := Claim7.holds Tryz.pinned (.plain (OpenSpec.upto endsSpec)) endsUptoCard
end Rows
end Go.Proofs.YtdgfjneapialdaaGreatDoor
