/-
  DERIVED. GIVEN WITH THE SEED: THE CARDS: each row of YthfpiahhbflfpaaDoorRows.lean that lists a variable, with what it lists TIED to the program's text (the seventh form; the later family's looks); each row that meets fmt, with fmt's text TOLD by the authors' own Lean function (tested against real Go, not proved from fmt's source: count such statements apart). THE CARD IS WHAT COUNTS. Prove the row's statement (the work); the ties are given (YthfpiahhbflfpaaDoorTie.lean); close each card by the builder's one call (the guide's Derived/Test/ToyasCard.lean, 'card_holds'). Laid BY PROGRAM, IN A SANDBOX (cutbox-door.mjs). By AI agents, Wed Nov 11 2026. No macro, syntax, notation, axiom, sorry.
-/
import Derived.Test.YthfpiahhbflfpaaDoorRows
import GoSem.ClaimSeven
namespace Go.Proofs.YthfpiahhbflfpaaDoor
namespace Rows

/-- THE TIED CARD OF 'porterkeep.Single'. -/
def singleCard : Claim7 := { stood := { row := singleRow, standIns := [], harness := (true, "fb26f00b2940bf0024c46f2dfaf90e115d7c838d107c0731c625a4cee5f8a658"), looks := false }, kinds := [], alts := [], laidByText := true, laidKinds := [.data, .pinned], laidTests := true, laidLooks := .later }
def SingleCardSaid : Prop := Claim7.holds Tryd.pinned (.plain (OpenSpec.ofChange singleSpec)) singleCard

/-- THE SECOND FORM's CARD OF 'porterkeep.Single'. -/
def singleUptoCard : Claim7 := { stood := { row := singleUptoRow, standIns := [], harness := (true, "fb26f00b2940bf0024c46f2dfaf90e115d7c838d107c0731c625a4cee5f8a658"), looks := false }, kinds := [], alts := [], laidByText := true, laidKinds := [.data, .pinned], laidTests := true, laidLooks := .later }
def SingleUptoCardSaid : Prop := Claim7.holds Tryd.pinned (.plain (OpenSpec.upto singleSpec)) singleUptoCard
end Rows
end Go.Proofs.YthfpiahhbflfpaaDoor
