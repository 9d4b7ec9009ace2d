/-
  DERIVED. GIVEN WITH THE SEED: THE CARDS: each row of YtcdkopbjlakebaaGreatDoorRows.lean that lists a variable, with what it lists TIED to the program's text (the seventh form; the later family's looks); each row that meets fmt, with fmt's text TOLD by the authors' own Lean function (tested against real Go, not proved from fmt's source: count such statements apart). THE CARD IS WHAT COUNTS. Prove the row's statement (the work); the ties are given (YtcdkopbjlakebaaGreatDoorTie.lean); close each card by the builder's one call (the guide's Derived/Test/ToyasCard.lean, 'card_holds'). Laid BY PROGRAM, IN A SANDBOX (cutbox-door.mjs). By AI agents, Wed Nov 11 2026. No macro, syntax, notation, axiom, sorry.
-/
import Derived.Test.YtcdkopbjlakebaaGreatDoorRows
import GoSem.ClaimSeven
namespace Go.Proofs.YtcdkopbjlakebaaGreatDoor
namespace Rows

/-- THE TIED CARD OF 'palmerlaw13.RunsPlays'. -/
def runsPlaysCard : Claim7 := { stood := { row := runsPlaysRow, standIns := [], harness := (true, "db3e117f07041da1c949e1bd99dc5f458fdcbbdd1828054459f625ed035250fc"), looks := true }, kinds := [], alts := [], laidByText := true, laidKinds := [.data, .data, .data], laidTests := true, laidLooks := .later }
def RunsPlaysCardSaid : Prop := Claim7.holds Tryz.pinned (.plain (OpenSpec.ofChange runsPlaysSpec)) runsPlaysCard

/-- THE TIED CARD OF 'palmerlaw13.RunsSorts'. -/
def runsSortsCard : Claim7 := { stood := { row := runsSortsRow, standIns := [], harness := (true, "db3e117f07041da1c949e1bd99dc5f458fdcbbdd1828054459f625ed035250fc"), looks := true }, kinds := [], alts := [], laidByText := true, laidKinds := [.data, .data, .data], laidTests := true, laidLooks := .later }
def RunsSortsCardSaid : Prop := Claim7.holds Tryz.pinned (.plain (OpenSpec.ofChange runsSortsSpec)) runsSortsCard

/-- THE TIED CARD OF 'palmerlaw13.RunsStops'. -/
def runsStopsCard : Claim7 := { stood := { row := runsStopsRow, standIns := [], harness := (true, "db3e117f07041da1c949e1bd99dc5f458fdcbbdd1828054459f625ed035250fc"), looks := true }, kinds := [], alts := [], laidByText := true, laidKinds := [.data, .data, .data], laidTests := true, laidLooks := .later }
def RunsStopsCardSaid : Prop := Claim7.holds Tryz.pinned (.plain (OpenSpec.ofChange runsStopsSpec)) runsStopsCard

/-- THE TIED CARD OF 'palmerlaw13.RunsNil'. -/
def runsNilCard : Claim7 := { stood := { row := runsNilRow, standIns := [], harness := (true, "db3e117f07041da1c949e1bd99dc5f458fdcbbdd1828054459f625ed035250fc"), looks := true }, kinds := [], alts := [], laidByText := true, laidKinds := [.data, .data, .data], laidTests := true, laidLooks := .later }
def RunsNilCardSaid : Prop := Claim7.holds Tryz.pinned (.plain (OpenSpec.ofChange runsNilSpec)) runsNilCard

/-- THE SECOND FORM's CARD OF 'palmerlaw13.RunsPlays'. -/
def runsPlaysUptoCard : Claim7 := { stood := { row := runsPlaysUptoRow, standIns := [], harness := (true, "db3e117f07041da1c949e1bd99dc5f458fdcbbdd1828054459f625ed035250fc"), looks := true }, kinds := [], alts := [], laidByText := true, laidKinds := [.data, .data, .data], laidTests := true, laidLooks := .later }
def RunsPlaysUptoCardSaid : Prop := Claim7.holds Tryz.pinned (.plain (OpenSpec.upto runsPlaysSpec)) runsPlaysUptoCard

/-- THE SECOND FORM's CARD OF 'palmerlaw13.RunsSorts'. -/
def runsSortsUptoCard : Claim7 := { stood := { row := runsSortsUptoRow, standIns := [], harness := (true, "db3e117f07041da1c949e1bd99dc5f458fdcbbdd1828054459f625ed035250fc"), looks := true }, kinds := [], alts := [], laidByText := true, laidKinds := [.data, .data, .data], laidTests := true, laidLooks := .later }
def RunsSortsUptoCardSaid : Prop := Claim7.holds Tryz.pinned (.plain (OpenSpec.upto runsSortsSpec)) runsSortsUptoCard

/-- THE SECOND FORM's CARD OF 'palmerlaw13.RunsStops'. -/
def runsStopsUptoCard : Claim7 := { stood := { row := runsStopsUptoRow, standIns := [], harness := (true, "db3e117f07041da1c949e1bd99dc5f458fdcbbdd1828054459f625ed035250fc"), looks := true }, kinds := [], alts := [], laidByText := true, laidKinds := [.data, .data, .data], laidTests := true, laidLooks := .later }
def RunsStopsUptoCardSaid : Prop := Claim7.holds Tryz.pinned (.plain (OpenSpec.upto runsStopsSpec)) runsStopsUptoCard

/-- THE SECOND FORM's CARD OF 'palmerlaw13.RunsNil'. -/
def runsNilUptoCard : Claim7 := { stood := { row := runsNilUptoRow, standIns := [], harness := (true, "db3e117f07041da1c949e1bd99dc5f458fdcbbdd1828054459f625ed035250fc"), looks := true }, kinds := [], alts := [], laidByText := true, laidKinds := [.data, .data, .data], laidTests := true, laidLooks := .later }
def RunsNilUptoCardSaid : Prop := Claim7.holds Tryz.pinned (.plain (OpenSpec.upto runsNilSpec)) runsNilUptoCard
end Rows
end Go.Proofs.YtcdkopbjlakebaaGreatDoor
