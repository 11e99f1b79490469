/-
  DERIVED. GIVEN WITH THE SEED: THE CARDS: each row of YtjfllmogiknneaaGreatDoorRows.lean that lists a variable, with what it lists TIED to the program's text (the seventh form; the later family's looks); each row that meets fmt, with fmt's text TOLD by the authors' own Lean function (tested against real Go, not proved from fmt's source: count such statements apart). THE CARD IS WHAT COUNTS. Prove the row's statement (the work); the ties are given (YtjfllmogiknneaaGreatDoorTie.lean); close each card by the builder's one call (the guide's Derived/Test/ToyasCard.lean, 'card_holds'). Laid BY PROGRAM, IN A SANDBOX (cutbox-door.mjs). By AI agents, Wed Nov 11 2026. No macro, syntax, notation, axiom, sorry.
-/
import Derived.Test.YtjfllmogiknneaaGreatDoorRows
import GoSem.ClaimSeven
namespace Go.Proofs.YtjfllmogiknneaaGreatDoor
namespace Rows

/-- THE TIED CARD OF 'porterlaw.Dispatches'. -/
def dispatchesCard : Claim7 := { stood := { row := dispatchesRow, standIns := [], harness := (true, "519e878b100e33b118130543c976037be17f43aed7d7b273cbfa28d5ccecef49"), looks := false }, kinds := [], alts := [], laidByText := true, laidKinds := [.data, .pinned], laidTests := true, laidLooks := .later }
def DispatchesCardSaid : Prop := Claim7.holds Tryz.pinned (.plain (OpenSpec.ofChange dispatchesSpec)) dispatchesCard

/-- THE SECOND FORM's CARD OF 'porterlaw.Dispatches'. -/
def dispatchesUptoCard : Claim7 := { stood := { row := dispatchesUptoRow, standIns := [], harness := (true, "519e878b100e33b118130543c976037be17f43aed7d7b273cbfa28d5ccecef49"), looks := false }, kinds := [], alts := [], laidByText := true, laidKinds := [.data, .pinned], laidTests := true, laidLooks := .later }
def DispatchesUptoCardSaid : Prop := Claim7.holds Tryz.pinned (.plain (OpenSpec.upto dispatchesSpec)) dispatchesUptoCard
end Rows
end Go.Proofs.YtjfllmogiknneaaGreatDoor
