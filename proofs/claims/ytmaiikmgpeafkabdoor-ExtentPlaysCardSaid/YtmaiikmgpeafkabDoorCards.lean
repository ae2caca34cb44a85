/-
  DERIVED. GIVEN WITH THE SEED: THE CARDS: each row of YtmaiikmgpeafkabDoorRows.lean that lists a variable, with what it lists TIED to the program's text (the seventh form; the later family's looks); each row that meets fmt, with fmt's text TOLD by the authors' own Lean function (tested against real Go, not proved from fmt's source: count such statements apart). THE CARD IS WHAT COUNTS. Prove the row's statement (the work); the ties are given (YtmaiikmgpeafkabDoorTie.lean); close each card by the builder's one call (the guide's Derived/Test/ToyasCard.lean, 'card_holds'). Laid BY PROGRAM, IN A SANDBOX (cutbox-door.mjs). By AI agents, Wed Nov 11 2026. No macro, syntax, notation, axiom, sorry.
-/
import Derived.Test.YtmaiikmgpeafkabDoorRows
import GoSem.ClaimSeven
namespace Go.Proofs.YtmaiikmgpeafkabDoor
namespace Rows

/-- THE TIED CARD OF 'braidworklaw06.ExtentPlays'. -/
def extentPlaysCard : Claim7 := { stood := { row := extentPlaysRow, standIns := [], harness := (true, "c9de60e447ed7fad22d96142f6c17135bd04e6fa081b49e09c7908f4a209a2f2"), looks := false }, kinds := [], alts := [], laidByText := true, laidKinds := [.data], laidTests := true, laidLooks := .later }
def ExtentPlaysCardSaid : Prop := Claim7.holds Tryd.pinned (.plain (OpenSpec.ofChange extentPlaysSpec)) extentPlaysCard

/-- THE SECOND FORM's CARD OF 'braidworklaw06.ExtentPlays'. -/
def extentPlaysUptoCard : Claim7 := { stood := { row := extentPlaysUptoRow, standIns := [], harness := (true, "c9de60e447ed7fad22d96142f6c17135bd04e6fa081b49e09c7908f4a209a2f2"), looks := false }, kinds := [], alts := [], laidByText := true, laidKinds := [.data], laidTests := true, laidLooks := .later }
def ExtentPlaysUptoCardSaid : Prop := Claim7.holds Tryd.pinned (.plain (OpenSpec.upto extentPlaysSpec)) extentPlaysUptoCard
end Rows
end Go.Proofs.YtmaiikmgpeafkabDoor
