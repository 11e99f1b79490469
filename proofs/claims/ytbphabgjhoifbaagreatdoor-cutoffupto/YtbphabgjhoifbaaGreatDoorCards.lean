/-
  DERIVED. GIVEN WITH THE SEED: THE CARDS: each row of YtbphabgjhoifbaaGreatDoorRows.lean that lists a variable, with what it lists TIED to the program's text (the seventh form; the later family's looks); each row that meets fmt, with fmt's text TOLD by the authors' own Lean function (tested against real Go, not proved from fmt's source: count such statements apart). THE CARD IS WHAT COUNTS. Prove the row's statement (the work); the ties are given (YtbphabgjhoifbaaGreatDoorTie.lean); close each card by the builder's one call (the guide's Derived/Test/ToyasCard.lean, 'card_holds'). Laid BY PROGRAM, IN A SANDBOX (cutbox-door.mjs). By AI agents, Wed Nov 11 2026. No macro, syntax, notation, axiom, sorry.
-/
import Derived.Test.YtbphabgjhoifbaaGreatDoorRows
import GoSem.ClaimSeven
namespace Go.Proofs.YtbphabgjhoifbaaGreatDoor
namespace Rows

/-- THE TIED CARD OF 'porterkeep.Cuts'. -/
def cutsCard : Claim7 := { stood := { row := cutsRow, standIns := [], harness := (true, "717b28bf8246dfa3c59e5a50ac096b3b80e06726d9f5d91b512e9bfa48765a2a"), looks := false }, kinds := [], alts := [], laidByText := true, laidKinds := [.data, .data, .data, .data, .pinned], laidTests := true, laidLooks := .later }
def CutsCardSaid : Prop := Claim7.holds Tryz.pinned (.plain (OpenSpec.ofChange cutsSpec)) cutsCard

/-- THE TIED CARD OF 'porterkeep.Counted'. -/
def countedCard : Claim7 := { stood := { row := countedRow, standIns := [], harness := (true, "717b28bf8246dfa3c59e5a50ac096b3b80e06726d9f5d91b512e9bfa48765a2a"), looks := false }, kinds := [], alts := [], laidByText := true, laidKinds := [.data, .data, .data, .data, .pinned], laidTests := true, laidLooks := .later }
def CountedCardSaid : Prop := Claim7.holds Tryz.pinned (.plain (OpenSpec.ofChange countedSpec)) countedCard

/-- THE TIED CARD OF 'porterkeep.Cutoff'. -/
def cutoffCard : Claim7 := { stood := { row := cutoffRow, standIns := [], harness := (true, "717b28bf8246dfa3c59e5a50ac096b3b80e06726d9f5d91b512e9bfa48765a2a"), looks := false }, kinds := [], alts := [], laidByText := true, laidKinds := [.data, .data, .data, .data, .pinned], laidTests := true, laidLooks := .later }
def CutoffCardSaid : Prop := Claim7.holds Tryz.pinned (.plain (OpenSpec.ofChange cutoffSpec)) cutoffCard

/-- THE SECOND FORM's CARD OF 'porterkeep.Cuts'. -/
def cutsUptoCard : Claim7 := { stood := { row := cutsUptoRow, standIns := [], harness := (true, "717b28bf8246dfa3c59e5a50ac096b3b80e06726d9f5d91b512e9bfa48765a2a"), looks := false }, kinds := [], alts := [], laidByText := true, laidKinds := [.data, .data, .data, .data, .pinned], laidTests := true, laidLooks := .later }
def CutsUptoCardSaid : Prop := Claim7.holds Tryz.pinned (.plain (OpenSpec.upto cutsSpec)) cutsUptoCard

/-- THE SECOND FORM's CARD OF 'porterkeep.Counted'. -/
def countedUptoCard : Claim7 := { stood := { row := countedUptoRow, standIns := [], harness := (true, "717b28bf8246dfa3c59e5a50ac096b3b80e06726d9f5d91b512e9bfa48765a2a"), looks := false }, kinds := [], alts := [], laidByText := true, laidKinds := [.data, .data, .data, .data, .pinned], laidTests := true, laidLooks := .later }
def CountedUptoCardSaid : Prop := Claim7.holds Tryz.pinned (.plain (OpenSpec.upto countedSpec)) countedUptoCard

/-- THE SECOND FORM's CARD OF 'porterkeep.Cutoff'. -/
def cutoffUptoCard : Claim7 := { stood := { row := cutoffUptoRow, standIns := [], harness := (true, "717b28bf8246dfa3c59e5a50ac096b3b80e06726d9f5d91b512e9bfa48765a2a"), looks := false }, kinds := [], alts := [], laidByText := true, laidKinds := [.data, .data, .data, .data, .pinned], laidTests := true, laidLooks := .later }
def CutoffUptoCardSaid : Prop := Claim7.holds Tryz.pinned (.plain (OpenSpec.upto cutoffSpec)) cutoffUptoCard
end Rows
end Go.Proofs.YtbphabgjhoifbaaGreatDoor
