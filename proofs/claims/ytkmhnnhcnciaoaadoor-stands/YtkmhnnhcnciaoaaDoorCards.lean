/-
  DERIVED. GIVEN WITH THE SEED: THE CARDS: each row of YtkmhnnhcnciaoaaDoorRows.lean that lists a variable, with what it lists TIED to the program's text (the seventh form; the later family's looks); each row that meets fmt, with fmt's text TOLD by the authors' own Lean function (tested against real Go, not proved from fmt's source: count such statements apart). THE CARD IS WHAT COUNTS. Prove the row's statement (the work); the ties are given (YtkmhnnhcnciaoaaDoorTie.lean); close each card by the builder's one call (the guide's Derived/Test/ToyasCard.lean, 'card_holds'). Laid BY PROGRAM, IN A SANDBOX (cutbox-door.mjs). By AI agents, Wed Nov 11 2026. No macro, syntax, notation, axiom, sorry.
-/
import Derived.Test.YtkmhnnhcnciaoaaDoorRows
import GoSem.ClaimSeven
namespace Go.Proofs.YtkmhnnhcnciaoaaDoor
namespace Rows

/-- THE TIED CARD OF 'porterlaw.Prints'. -/
def printsCard : Claim7 := { stood := { row := printsRow, standIns := [], harness := (true, "8bc851b3e2f075ee459c4d2c66b54f407b9e42c2c9463a3d5946843b8004a04b"), looks := false }, kinds := [], alts := [], laidByText := true, laidKinds := [.data, .data, .data, .data, .pinned], laidTests := true, laidLooks := .later }
def PrintsCardSaid : Prop := Claim7.holds Tryd.pinned (.plain (OpenSpec.ofChange printsSpec)) printsCard

/-- THE TIED CARD OF 'porterkeep.Stands'. -/
def standsCard : Claim7 := { stood := { row := standsRow, standIns := [], harness := (true, "8bc851b3e2f075ee459c4d2c66b54f407b9e42c2c9463a3d5946843b8004a04b"), looks := false }, kinds := [], alts := [], laidByText := true, laidKinds := [.data, .data, .pinned], laidTests := true, laidLooks := .later }
def StandsCardSaid : Prop := Claim7.holds Tryd.pinned (.plain (OpenSpec.ofChange standsSpec)) standsCard

/-- THE TIED CARD OF 'porterlaw.Patterns'. -/
def patternsCard : Claim7 := { stood := { row := patternsRow, standIns := [], harness := (true, "8bc851b3e2f075ee459c4d2c66b54f407b9e42c2c9463a3d5946843b8004a04b"), looks := false }, kinds := [], alts := [], laidByText := true, laidKinds := [.data, .pinned], laidTests := true, laidLooks := .later }
def PatternsCardSaid : Prop := Claim7.holds Tryd.pinned (.plain (OpenSpec.ofChange patternsSpec)) patternsCard

/-- THE TIED CARD OF 'porterkeep.Single'. -/
def singleCard : Claim7 := { stood := { row := singleRow, standIns := [], harness := (true, "8bc851b3e2f075ee459c4d2c66b54f407b9e42c2c9463a3d5946843b8004a04b"), looks := false }, kinds := [], alts := [], laidByText := true, laidKinds := [.data, .pinned], laidTests := true, laidLooks := .later }
def SingleCardSaid : Prop := Claim7.holds Tryd.pinned (.plain (OpenSpec.ofChange singleSpec)) singleCard

/-- THE SECOND FORM's CARD OF 'porterlaw.Prints'. -/
def printsUptoCard : Claim7 := { stood := { row := printsUptoRow, standIns := [], harness := (true, "8bc851b3e2f075ee459c4d2c66b54f407b9e42c2c9463a3d5946843b8004a04b"), looks := false }, kinds := [], alts := [], laidByText := true, laidKinds := [.data, .data, .data, .data, .pinned], laidTests := true, laidLooks := .later }
def PrintsUptoCardSaid : Prop := Claim7.holds Tryd.pinned (.plain (OpenSpec.upto printsSpec)) printsUptoCard

/-- THE SECOND FORM's CARD OF 'porterkeep.Stands'. -/
def standsUptoCard : Claim7 := { stood := { row := standsUptoRow, standIns := [], harness := (true, "8bc851b3e2f075ee459c4d2c66b54f407b9e42c2c9463a3d5946843b8004a04b"), looks := false }, kinds := [], alts := [], laidByText := true, laidKinds := [.data, .data, .pinned], laidTests := true, laidLooks := .later }
def StandsUptoCardSaid : Prop := Claim7.holds Tryd.pinned (.plain (OpenSpec.upto standsSpec)) standsUptoCard

/-- THE SECOND FORM's CARD OF 'porterlaw.Patterns'. -/
def patternsUptoCard : Claim7 := { stood := { row := patternsUptoRow, standIns := [], harness := (true, "8bc851b3e2f075ee459c4d2c66b54f407b9e42c2c9463a3d5946843b8004a04b"), looks := false }, kinds := [], alts := [], laidByText := true, laidKinds := [.data, .pinned], laidTests := true, laidLooks := .later }
def PatternsUptoCardSaid : Prop := Claim7.holds Tryd.pinned (.plain (OpenSpec.upto patternsSpec)) patternsUptoCard

/-- THE SECOND FORM's CARD OF 'porterkeep.Single'. -/
def singleUptoCard : Claim7 := { stood := { row := singleUptoRow, standIns := [], harness := (true, "8bc851b3e2f075ee459c4d2c66b54f407b9e42c2c9463a3d5946843b8004a04b"), looks := false }, kinds := [], alts := [], laidByText := true, laidKinds := [.data, .pinned], laidTests := true, laidLooks := .later }
def SingleUptoCardSaid : Prop := Claim7.holds Tryd.pinned (.plain (OpenSpec.upto singleSpec)) singleUptoCard
end Rows
end Go.Proofs.YtkmhnnhcnciaoaaDoor
