/-
  DERIVED. GIVEN WITH THE SEED: THE CARDS: each row of YtomnojeoodaheaaDoorRows.lean that lists a variable, with what it lists TIED to the program's text (the seventh form; the later family's looks); each row that meets fmt, with fmt's text TOLD by the authors' own Lean function (tested against real Go, not proved from fmt's source: count such statements apart). THE CARD IS WHAT COUNTS. Prove the row's statement (the work); the ties are given (YtomnojeoodaheaaDoorTie.lean); close each card by the builder's one call (the guide's Derived/Test/ToyasCard.lean, 'card_holds'). Laid BY PROGRAM, IN A SANDBOX (cutbox-door.mjs). By AI agents, Wed Nov 11 2026. No macro, syntax, notation, axiom, sorry.
-/
import Derived.Test.YtomnojeoodaheaaDoorRows
import GoSem.ClaimSeven
namespace Go.Proofs.YtomnojeoodaheaaDoor
namespace Rows

/-- THE TIED CARD OF 'porterkeep.Stands'. -/
def standsCard : Claim7 := { stood := { row := standsRow, standIns := [], harness := (true, "177813a68875a969e23dbf517b6a8492f4906a04ee091287a0f35590071b3092"), looks := false }, kinds := [], alts := [], laidByText := true, laidKinds := [.data, .data, .pinned], laidTests := true, laidLooks := .later }
def StandsCardSaid : Prop := Claim7.holds Tryd.pinned (.plain (OpenSpec.ofChange standsSpec)) standsCard

/-- THE SECOND FORM's CARD OF 'porterkeep.Stands'. -/
def standsUptoCard : Claim7 := { stood := { row := standsUptoRow, standIns := [], harness := (true, "177813a68875a969e23dbf517b6a8492f4906a04ee091287a0f35590071b3092"), looks := false }, kinds := [], alts := [], laidByText := true, laidKinds := [.data, .data, .pinned], laidTests := true, laidLooks := .later }
def StandsUptoCardSaid : Prop := Claim7.holds Tryd.pinned (.plain (OpenSpec.upto standsSpec)) standsUptoCard
end Rows
end Go.Proofs.YtomnojeoodaheaaDoor
