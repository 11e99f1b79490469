/-
  DERIVED. GIVEN WITH THE SEED: THE CARDS: each row of YtgpjjkihihiocaaDoorRows.lean that lists a variable, with what it lists TIED to the program's text (the seventh form; the later family's looks); each row that meets fmt, with fmt's text TOLD by the authors' own Lean function (tested against real Go, not proved from fmt's source: count such statements apart). THE CARD IS WHAT COUNTS. Prove the row's statement (the work); the ties are given (YtgpjjkihihiocaaDoorTie.lean); close each card by the builder's one call (the guide's Derived/Test/ToyasCard.lean, 'card_holds'). Laid BY PROGRAM, IN A SANDBOX (cutbox-door.mjs). By AI agents, Wed Nov 11 2026. No macro, syntax, notation, axiom, sorry.
-/
import Derived.Test.YtgpjjkihihiocaaDoorRows
import GoSem.ClaimSeven
namespace Go.Proofs.YtgpjjkihihiocaaDoor
namespace Rows

/-- THE TIED CARD OF 'porterlaw.Renders'. -/
def rendersCard : Claim7 := { stood := { row := rendersRow, standIns := [], harness := (true, "9f0baa38ed7aab880f629977379eab832d9a1d5312b5f8b95f11e7791da1f0e4"), looks := false }, kinds := [], alts := [], laidByText := true, laidKinds := [.data, .data, .data], laidTests := true, laidLooks := .later }
def RendersCardSaid : Prop := Claim7.holds Tryd.pinned (.plain (OpenSpec.ofChange rendersSpec)) rendersCard

/-- THE SECOND FORM's CARD OF 'porterlaw.Renders'. -/
def rendersUptoCard : Claim7 := { stood := { row := rendersUptoRow, standIns := [], harness := (true, "9f0baa38ed7aab880f629977379eab832d9a1d5312b5f8b95f11e7791da1f0e4"), looks := false }, kinds := [], alts := [], laidByText := true, laidKinds := [.data, .data, .data], laidTests := true, laidLooks := .later }
def RendersUptoCardSaid : Prop := Claim7.holds Tryd.pinned (.plain (OpenSpec.upto rendersSpec)) rendersUptoCard
end Rows
end Go.Proofs.YtgpjjkihihiocaaDoor
