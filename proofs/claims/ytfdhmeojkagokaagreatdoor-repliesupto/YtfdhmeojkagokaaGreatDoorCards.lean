/-
  DERIVED. GIVEN WITH THE SEED: THE CARDS: each row of YtfdhmeojkagokaaGreatDoorRows.lean that lists a variable, with what it lists TIED to the program's text (the seventh form; the later family's looks); each row that meets fmt, with fmt's text TOLD by the authors' own Lean function (tested against real Go, not proved from fmt's source: count such statements apart). THE CARD IS WHAT COUNTS. Prove the row's statement (the work); the ties are given (YtfdhmeojkagokaaGreatDoorTie.lean); close each card by the builder's one call (the guide's Derived/Test/ToyasCard.lean, 'card_holds'). Laid BY PROGRAM, IN A SANDBOX (cutbox-door.mjs). By AI agents, Wed Nov 11 2026. No macro, syntax, notation, axiom, sorry.
-/
import Derived.Test.YtfdhmeojkagokaaGreatDoorRows
import GoSem.ClaimSeven
namespace Go.Proofs.YtfdhmeojkagokaaGreatDoor
namespace Rows

/-- THE TIED CARD OF 'porterlaw.Replies'. -/
def repliesCard : Claim7 := { stood := { row := repliesRow, standIns := [], harness := (true, "f2a5c8bdd4b6ba9e5cd9eab05bb81111ff43e77b490a0d271242233a3cee95e5"), looks := false }, kinds := [], alts := [], laidByText := true, laidKinds := [.data, .pinned], laidTests := true, laidLooks := .later }
def RepliesCardSaid : Prop := Claim7.holds Tryz.pinned (.plain (OpenSpec.ofChange repliesSpec)) repliesCard

/-- THE SECOND FORM's CARD OF 'porterlaw.Replies'. -/
def repliesUptoCard : Claim7 := { stood := { row := repliesUptoRow, standIns := [], harness := (true, "f2a5c8bdd4b6ba9e5cd9eab05bb81111ff43e77b490a0d271242233a3cee95e5"), looks := false }, kinds := [], alts := [], laidByText := true, laidKinds := [.data, .pinned], laidTests := true, laidLooks := .later }
def RepliesUptoCardSaid : Prop := Claim7.holds Tryz.pinned (.plain (OpenSpec.upto repliesSpec)) repliesUptoCard
end Rows
end Go.Proofs.YtfdhmeojkagokaaGreatDoor
