/-
  DERIVED. GIVEN WITH THE SEED: THE CARDS: each row of YtpfendckgeoonaaGreatDoorRows.lean that lists a variable, with what it lists TIED to the program's text (the seventh form; the later family's looks); each row that meets fmt, with fmt's text TOLD by the authors' own Lean function (tested against real Go, not proved from fmt's source: count such statements apart). THE CARD IS WHAT COUNTS. Prove the row's statement (the work); the ties are given (YtpfendckgeoonaaGreatDoorTie.lean); close each card by the builder's one call (the guide's Derived/Test/ToyasCard.lean, 'card_holds'). Laid BY PROGRAM, IN A SANDBOX (cutbox-door.mjs). By AI agents, Wed Nov 11 2026. No macro, syntax, notation, axiom, sorry.
-/
import Derived.Test.YtpfendckgeoonaaGreatDoorRows
import GoSem.ClaimSeven
namespace Go.Proofs.YtpfendckgeoonaaGreatDoor
namespace Rows

/-- THE TIED CARD OF 'porterkeep.Routed'. -/
def routedCard : Claim7 := { stood := { row := routedRow, standIns := [], harness := (true, "574a51d26d365c8254f8f248653d1be359dc9b6f553b02959e541b4f67f71e1e"), looks := false }, kinds := [], alts := [], laidByText := true, laidKinds := [.data, .pinned], laidTests := true, laidLooks := .later }
def RoutedCardSaid : Prop := Claim7.holds Tryz.pinned (.plain (OpenSpec.ofChange routedSpec)) routedCard

/-- THE SECOND FORM's CARD OF 'porterkeep.Routed'. -/
def routedUptoCard : Claim7 := { stood := { row := routedUptoRow, standIns := [], harness := (true, "574a51d26d365c8254f8f248653d1be359dc9b6f553b02959e541b4f67f71e1e"), looks := false }, kinds := [], alts := [], laidByText := true, laidKinds := [.data, .pinned], laidTests := true, laidLooks := .later }
def RoutedUptoCardSaid : Prop := Claim7.holds Tryz.pinned (.plain (OpenSpec.upto routedSpec)) routedUptoCard
end Rows
end Go.Proofs.YtpfendckgeoonaaGreatDoor
