/-
  DERIVED. GIVEN WITH THE SEED: THE CARDS: each row of YtnohadlihgjppaaDoorRows.lean that lists a variable, with what it lists TIED to the program's text (the seventh form; the later family's looks); each row that meets fmt, with fmt's text TOLD by the authors' own Lean function (tested against real Go, not proved from fmt's source: count such statements apart). THE CARD IS WHAT COUNTS. Prove the row's statement (the work); the ties are given (YtnohadlihgjppaaDoorTie.lean); close each card by the builder's one call (the guide's Derived/Test/ToyasCard.lean, 'card_holds'). Laid BY PROGRAM, IN A SANDBOX (cutbox-door.mjs). By AI agents, Wed Nov 11 2026. No macro, syntax, notation, axiom, sorry.
-/
import Derived.Test.YtnohadlihgjppaaDoorRows
import GoSem.ClaimSeven
namespace Go.Proofs.YtnohadlihgjppaaDoor
namespace Rows

/-- THE TIED CARD OF 'porterkeep.Stands'. -/
def standsCard : Claim7 := { stood := { row := standsRow, standIns := [], harness := (true, "0807cb20b1d9a23767a4ff99a1bd9b8aaa97dc0ed6575ab44bdc2bcd05a77f7e"), looks := false }, kinds := [], alts := [], laidByText := true, laidKinds := [.data, .data, .pinned], laidTests := true, laidLooks := .later }
def StandsCardSaid : Prop := Claim7.holds Tryd.pinned (.plain (OpenSpec.ofChange standsSpec)) standsCard

/-- THE TIED CARD OF 'porterlaw.Patterns'. -/
def patternsCard : Claim7 := { stood := { row := patternsRow, standIns := [], harness := (true, "0807cb20b1d9a23767a4ff99a1bd9b8aaa97dc0ed6575ab44bdc2bcd05a77f7e"), looks := false }, kinds := [], alts := [], laidByText := true, laidKinds := [.data, .pinned], laidTests := true, laidLooks := .later }
def PatternsCardSaid : Prop := Claim7.holds Tryd.pinned (.plain (OpenSpec.ofChange patternsSpec)) patternsCard

/-- THE TIED CARD OF 'porterlaw.Renders'. -/
def rendersCard : Claim7 := { stood := { row := rendersRow, standIns := [], harness := (true, "0807cb20b1d9a23767a4ff99a1bd9b8aaa97dc0ed6575ab44bdc2bcd05a77f7e"), looks := false }, kinds := [], alts := [], laidByText := true, laidKinds := [.data, .data, .data], laidTests := true, laidLooks := .later }
def RendersCardSaid : Prop := Claim7.holds Tryd.pinned (.plain (OpenSpec.ofChange rendersSpec)) rendersCard

/-- THE SECOND FORM's CARD OF 'porterkeep.Stands'. -/
def standsUptoCard : Claim7 := { stood := { row := standsUptoRow, standIns := [], harness := (true, "0807cb20b1d9a23767a4ff99a1bd9b8aaa97dc0ed6575ab44bdc2bcd05a77f7e"), looks := false }, kinds := [], alts := [], laidByText := true, laidKinds := [.data, .data, .pinned], laidTests := true, laidLooks := .later }
def StandsUptoCardSaid : Prop := Claim7.holds Tryd.pinned (.plain (OpenSpec.upto standsSpec)) standsUptoCard

/-- THE SECOND FORM's CARD OF 'porterlaw.Patterns'. -/
def patternsUptoCard : Claim7 := { stood := { row := patternsUptoRow, standIns := [], harness := (true, "0807cb20b1d9a23767a4ff99a1bd9b8aaa97dc0ed6575ab44bdc2bcd05a77f7e"), looks := false }, kinds := [], alts := [], laidByText := true, laidKinds := [.data, .pinned], laidTests := true, laidLooks := .later }
def PatternsUptoCardSaid : Prop := Claim7.holds Tryd.pinned (.plain (OpenSpec.upto patternsSpec)) patternsUptoCard

/-- THE SECOND FORM's CARD OF 'porterlaw.Renders'. -/
def rendersUptoCard : Claim7 := { stood := { row := rendersUptoRow, standIns := [], harness := (true, "0807cb20b1d9a23767a4ff99a1bd9b8aaa97dc0ed6575ab44bdc2bcd05a77f7e"), looks := false }, kinds := [], alts := [], laidByText := true, laidKinds := [.data, .data, .data], laidTests := true, laidLooks := .later }
def RendersUptoCardSaid : Prop := Claim7.holds Tryd.pinned (.plain (OpenSpec.upto rendersSpec)) rendersUptoCard
end Rows
end Go.Proofs.YtnohadlihgjppaaDoor
