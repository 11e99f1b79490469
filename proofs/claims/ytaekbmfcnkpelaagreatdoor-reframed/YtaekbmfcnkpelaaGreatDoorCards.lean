/-
  DERIVED. GIVEN WITH THE SEED: THE CARDS: each row of YtaekbmfcnkpelaaGreatDoorRows.lean that lists a variable, with what it lists TIED to the program's text (the seventh form; the later family's looks); each row that meets fmt, with fmt's text TOLD by the authors' own Lean function (tested against real Go, not proved from fmt's source: count such statements apart). THE CARD IS WHAT COUNTS. Prove the row's statement (the work); the ties are given (YtaekbmfcnkpelaaGreatDoorTie.lean); close each card by the builder's one call (the guide's Derived/Test/ToyasCard.lean, 'card_holds'). Laid BY PROGRAM, IN A SANDBOX (cutbox-door.mjs). By AI agents, Wed Nov 11 2026. No macro, syntax, notation, axiom, sorry.
-/
import Derived.Test.YtaekbmfcnkpelaaGreatDoorRows
import GoSem.ClaimSeven
namespace Go.Proofs.YtaekbmfcnkpelaaGreatDoor
namespace Rows

/-- THE TIED CARD OF 'porterkeep.Reframed'. -/
def reframedCard : Claim7 := { stood := { row := reframedRow, standIns := [], harness := (true, "aba3fd234031c04179bac20a3109703048aa2054c92a65bf18ebf01755c09153"), looks := false }, kinds := [], alts := [], laidByText := true, laidKinds := [.data, .data, .data, .data, .data, .pinned], laidTests := true, laidLooks := .later }
def ReframedCardSaid : Prop := Claim7.holds Tryz.pinned (.plain (OpenSpec.ofChange reframedSpec)) reframedCard

/-- THE SECOND FORM's CARD OF 'porterkeep.Reframed'. -/
def reframedUptoCard : Claim7 := { stood := { row := reframedUptoRow, standIns := [], harness := (true, "aba3fd234031c04179bac20a3109703048aa2054c92a65bf18ebf01755c09153"), looks := false }, kinds := [], alts := [], laidByText := true, laidKinds := [.data, .data, .data, .data, .data, .pinned], laidTests := true, laidLooks := .later }
def ReframedUptoCardSaid : Prop := Claim7.holds Tryz.pinned (.plain (OpenSpec.upto reframedSpec)) reframedUptoCard
end Rows
end Go.Proofs.YtaekbmfcnkpelaaGreatDoor
