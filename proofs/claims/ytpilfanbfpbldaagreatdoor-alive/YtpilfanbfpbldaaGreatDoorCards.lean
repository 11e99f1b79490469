/-
  DERIVED. GIVEN WITH THE SEED: THE CARDS: each row of YtpilfanbfpbldaaGreatDoorRows.lean that lists a variable, with what it lists TIED to the program's text (the seventh form; the later family's looks); each row that meets fmt, with fmt's text TOLD by the authors' own Lean function (tested against real Go, not proved from fmt's source: count such statements apart). THE CARD IS WHAT COUNTS. Prove the row's statement (the work); the ties are given (YtpilfanbfpbldaaGreatDoorTie.lean); close each card by the builder's one call (the guide's Derived/Test/ToyasCard.lean, 'card_holds'). Laid BY PROGRAM, IN A SANDBOX (cutbox-door.mjs). By AI agents, Wed Nov 11 2026. No macro, syntax, notation, axiom, sorry.
-/
import Derived.Test.YtpilfanbfpbldaaGreatDoorRows
import GoSem.ClaimSeven
namespace Go.Proofs.YtpilfanbfpbldaaGreatDoor
namespace Rows

/-- THE TIED CARD OF 'porterkeep.Alive'. -/
def aliveCard : Claim7 := { stood := { row := aliveRow, standIns := [], harness := (true, "9714c7be0a851bc8ffe70bcef8896ad5df2d7c628072a6eca8eca2ceed7a476d"), looks := false }, kinds := [], alts := [], laidByText := true, laidKinds := [.data, .data, .data, .data, .pinned], laidTests := true, laidLooks := .later }
def AliveCardSaid : Prop := Claim7.holds Tryz.pinned (.plain (OpenSpec.ofChange aliveSpec)) aliveCard

/-- THE SECOND FORM's CARD OF 'porterkeep.Alive'. -/
def aliveUptoCard : Claim7 := { stood := { row := aliveUptoRow, standIns := [], harness := (true, "9714c7be0a851bc8ffe70bcef8896ad5df2d7c628072a6eca8eca2ceed7a476d"), looks := false }, kinds := [], alts := [], laidByText := true, laidKinds := [.data, .data, .data, .data, .pinned], laidTests := true, laidLooks := .later }
def AliveUptoCardSaid : Prop := Claim7.holds Tryz.pinned (.plain (OpenSpec.upto aliveSpec)) aliveUptoCard
end Rows
end Go.Proofs.YtpilfanbfpbldaaGreatDoor
