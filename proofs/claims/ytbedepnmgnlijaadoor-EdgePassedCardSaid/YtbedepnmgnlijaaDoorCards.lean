/-
  DERIVED. GIVEN WITH THE SEED: THE CARDS: each row of YtbedepnmgnlijaaDoorRows.lean that lists a variable, with what it lists TIED to the program's text (the seventh form; the later family's looks); each row that meets fmt, with fmt's text TOLD by the authors' own Lean function (tested against real Go, not proved from fmt's source: count such statements apart). THE CARD IS WHAT COUNTS. Prove the row's statement (the work); the ties are given (YtbedepnmgnlijaaDoorTie.lean); close each card by the builder's one call (the guide's Derived/Test/ToyasCard.lean, 'card_holds'). Laid BY PROGRAM, IN A SANDBOX (cutbox-door.mjs). By AI agents, Wed Nov 11 2026. No macro, syntax, notation, axiom, sorry.
-/
import Derived.Test.YtbedepnmgnlijaaDoorRows
import GoSem.ClaimSeven
namespace Go.Proofs.YtbedepnmgnlijaaDoor
namespace Rows

/-- THE TIED CARD OF 'palmerlaw12.EdgeOnes'. -/
def edgeOnesCard : Claim7 := { stood := { row := edgeOnesRow, standIns := [], harness := (true, "183fa1ae3bdabf8da4eedaa81e1dc8a6204b53098dcb5e3e5ab955ffde1bbcfc"), looks := true }, kinds := [], alts := [], laidByText := true, laidKinds := [.data, .data, .data, .sentinel, .sentinel, .data, .data], laidTests := true, laidLooks := .later }
def EdgeOnesCardSaid : Prop := Claim7.holds Tryd.pinned (.plain (OpenSpec.ofChange edgeOnesSpec)) edgeOnesCard

/-- THE TIED CARD OF 'palmerlaw12.EdgeReads'. -/
def edgeReadsCard : Claim7 := { stood := { row := edgeReadsRow, standIns := [], harness := (true, "183fa1ae3bdabf8da4eedaa81e1dc8a6204b53098dcb5e3e5ab955ffde1bbcfc"), looks := true }, kinds := [], alts := [], laidByText := true, laidKinds := [.data, .data, .data, .sentinel, .sentinel, .data, .data], laidTests := true, laidLooks := .later }
def EdgeReadsCardSaid : Prop := Claim7.holds Tryd.pinned (.plain (OpenSpec.ofChange edgeReadsSpec)) edgeReadsCard

/-- THE TIED CARD OF 'palmerlaw12.EdgePrints'. -/
def edgePrintsCard : Claim7 := { stood := { row := edgePrintsRow, standIns := [], harness := (true, "183fa1ae3bdabf8da4eedaa81e1dc8a6204b53098dcb5e3e5ab955ffde1bbcfc"), looks := true }, kinds := [], alts := [], laidByText := true, laidKinds := [.data, .data, .data, .sentinel, .sentinel, .data, .data], laidTests := true, laidLooks := .later }
def EdgePrintsCardSaid : Prop := Claim7.holds Tryd.pinned (.plain (OpenSpec.ofChange edgePrintsSpec)) edgePrintsCard

/-- THE TIED CARD OF 'palmerlaw12.EdgePassed'. -/
def edgePassedCard : Claim7 := { stood := { row := edgePassedRow, standIns := [], harness := (true, "183fa1ae3bdabf8da4eedaa81e1dc8a6204b53098dcb5e3e5ab955ffde1bbcfc"), looks := true }, kinds := [], alts := [], laidByText := true, laidKinds := [.data, .data, .data, .sentinel, .sentinel, .data, .data], laidTests := true, laidLooks := .later }
def EdgePassedCardSaid : Prop := Claim7.holds Tryd.pinned (.plain (OpenSpec.ofChange edgePassedSpec)) edgePassedCard

/-- THE TIED CARD OF 'palmerlaw12.EdgeJoins'. -/
def edgeJoinsCard : Claim7 := { stood := { row := edgeJoinsRow, standIns := [], harness := (true, "183fa1ae3bdabf8da4eedaa81e1dc8a6204b53098dcb5e3e5ab955ffde1bbcfc"), looks := true }, kinds := [], alts := [], laidByText := true, laidKinds := [.data, .data, .data, .sentinel, .sentinel, .data, .data], laidTests := true, laidLooks := .later }
def EdgeJoinsCardSaid : Prop := Claim7.holds Tryd.pinned (.plain (OpenSpec.ofChange edgeJoinsSpec)) edgeJoinsCard

/-- THE TIED CARD OF 'palmerlaw12.EdgeLong'. -/
def edgeLongCard : Claim7 := { stood := { row := edgeLongRow, standIns := [], harness := (true, "183fa1ae3bdabf8da4eedaa81e1dc8a6204b53098dcb5e3e5ab955ffde1bbcfc"), looks := true }, kinds := [], alts := [], laidByText := true, laidKinds := [.data, .data, .data, .sentinel, .sentinel, .data, .data], laidTests := true, laidLooks := .later }
def EdgeLongCardSaid : Prop := Claim7.holds Tryd.pinned (.plain (OpenSpec.ofChange edgeLongSpec)) edgeLongCard

/-- THE SECOND FORM's CARD OF 'palmerlaw12.EdgeOnes'. -/
def edgeOnesUptoCard : Claim7 := { stood := { row := edgeOnesUptoRow, standIns := [], harness := (true, "183fa1ae3bdabf8da4eedaa81e1dc8a6204b53098dcb5e3e5ab955ffde1bbcfc"), looks := true }, kinds := [], alts := [], laidByText := true, laidKinds := [.data, .data, .data, .sentinel, .sentinel, .data, .data], laidTests := true, laidLooks := .later }
def EdgeOnesUptoCardSaid : Prop := Claim7.holds Tryd.pinned (.plain (OpenSpec.upto edgeOnesSpec)) edgeOnesUptoCard

/-- THE SECOND FORM's CARD OF 'palmerlaw12.EdgeReads'. -/
def edgeReadsUptoCard : Claim7 := { stood := { row := edgeReadsUptoRow, standIns := [], harness := (true, "183fa1ae3bdabf8da4eedaa81e1dc8a6204b53098dcb5e3e5ab955ffde1bbcfc"), looks := true }, kinds := [], alts := [], laidByText := true, laidKinds := [.data, .data, .data, .sentinel, .sentinel, .data, .data], laidTests := true, laidLooks := .later }
def EdgeReadsUptoCardSaid : Prop := Claim7.holds Tryd.pinned (.plain (OpenSpec.upto edgeReadsSpec)) edgeReadsUptoCard

/-- THE SECOND FORM's CARD OF 'palmerlaw12.EdgePrints'. -/
def edgePrintsUptoCard : Claim7 := { stood := { row := edgePrintsUptoRow, standIns := [], harness := (true, "183fa1ae3bdabf8da4eedaa81e1dc8a6204b53098dcb5e3e5ab955ffde1bbcfc"), looks := true }, kinds := [], alts := [], laidByText := true, laidKinds := [.data, .data, .data, .sentinel, .sentinel, .data, .data], laidTests := true, laidLooks := .later }
def EdgePrintsUptoCardSaid : Prop := Claim7.holds Tryd.pinned (.plain (OpenSpec.upto edgePrintsSpec)) edgePrintsUptoCard

/-- THE SECOND FORM's CARD OF 'palmerlaw12.EdgePassed'. -/
def edgePassedUptoCard : Claim7 := { stood := { row := edgePassedUptoRow, standIns := [], harness := (true, "183fa1ae3bdabf8da4eedaa81e1dc8a6204b53098dcb5e3e5ab955ffde1bbcfc"), looks := true }, kinds := [], alts := [], laidByText := true, laidKinds := [.data, .data, .data, .sentinel, .sentinel, .data, .data], laidTests := true, laidLooks := .later }
def EdgePassedUptoCardSaid : Prop := Claim7.holds Tryd.pinned (.plain (OpenSpec.upto edgePassedSpec)) edgePassedUptoCard

/-- THE SECOND FORM's CARD OF 'palmerlaw12.EdgeJoins'. -/
def edgeJoinsUptoCard : Claim7 := { stood := { row := edgeJoinsUptoRow, standIns := [], harness := (true, "183fa1ae3bdabf8da4eedaa81e1dc8a6204b53098dcb5e3e5ab955ffde1bbcfc"), looks := true }, kinds := [], alts := [], laidByText := true, laidKinds := [.data, .data, .data, .sentinel, .sentinel, .data, .data], laidTests := true, laidLooks := .later }
def EdgeJoinsUptoCardSaid : Prop := Claim7.holds Tryd.pinned (.plain (OpenSpec.upto edgeJoinsSpec)) edgeJoinsUptoCard

/-- THE SECOND FORM's CARD OF 'palmerlaw12.EdgeLong'. -/
def edgeLongUptoCard : Claim7 := { stood := { row := edgeLongUptoRow, standIns := [], harness := (true, "183fa1ae3bdabf8da4eedaa81e1dc8a6204b53098dcb5e3e5ab955ffde1bbcfc"), looks := true }, kinds := [], alts := [], laidByText := true, laidKinds := [.data, .data, .data, .sentinel, .sentinel, .data, .data], laidTests := true, laidLooks := .later }
def EdgeLongUptoCardSaid : Prop := Claim7.holds Tryd.pinned (.plain (OpenSpec.upto edgeLongSpec)) edgeLongUptoCard
end Rows
end Go.Proofs.YtbedepnmgnlijaaDoor
