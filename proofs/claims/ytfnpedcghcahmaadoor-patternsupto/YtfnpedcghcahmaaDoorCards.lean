/-
  DERIVED. GIVEN WITH THE SEED: THE CARDS: each row of YtfnpedcghcahmaaDoorRows.lean that lists a variable, with what it lists TIED to the program's text (the seventh form; the later family's looks); each row that meets fmt, with fmt's text TOLD by the authors' own Lean function (tested against real Go, not proved from fmt's source: count such statements apart). THE CARD IS WHAT COUNTS. Prove the row's statement (the work); the ties are given (YtfnpedcghcahmaaDoorTie.lean); close each card by the builder's one call (the guide's Derived/Test/ToyasCard.lean, 'card_holds'). Laid BY PROGRAM, IN A SANDBOX (cutbox-door.mjs). By AI agents, Wed Nov 11 2026. No macro, syntax, notation, axiom, sorry.
-/
import Derived.Test.YtfnpedcghcahmaaDoorRows
import GoSem.ClaimSeven
namespace Go.Proofs.YtfnpedcghcahmaaDoor
namespace Rows

/-- THE TIED CARD OF 'porterlaw.Patterns'. -/
def patternsCard : Claim7 := { stood := { row := patternsRow, standIns := [], harness := (true, "8ab72ecb39cbf288c0f0471a3446189b7d2121adde7d4154ab2f9ca025ac3591"), looks := false }, kinds := [], alts := [], laidByText := true, laidKinds := [.data, .pinned], laidTests := true, laidLooks := .later }
def PatternsCardSaid : Prop := Claim7.holds Tryd.pinned (.plain (OpenSpec.ofChange patternsSpec)) patternsCard

/-- THE SECOND FORM's CARD OF 'porterlaw.Patterns'. -/
def patternsUptoCard : Claim7 := { stood := { row := patternsUptoRow, standIns := [], harness := (true, "8ab72ecb39cbf288c0f0471a3446189b7d2121adde7d4154ab2f9ca025ac3591"), looks := false }, kinds := [], alts := [], laidByText := true, laidKinds := [.data, .pinned], laidTests := true, laidLooks := .later }
def PatternsUptoCardSaid : Prop := Claim7.holds Tryd.pinned (.plain (OpenSpec.upto patternsSpec)) patternsUptoCard
end Rows
end Go.Proofs.YtfnpedcghcahmaaDoor
