/-
  DERIVED. GIVEN WITH THE SEED: THE CARDS: each row of YtkmhnnhcnciaoaaGreatDoorRows.lean that lists a variable, with what it lists TIED to the program's text (the seventh form; the later family's looks); each row that meets fmt, with fmt's text TOLD by the authors' own Lean function (tested against real Go, not proved from fmt's source: count such statements apart). THE CARD IS WHAT COUNTS. Prove the row's statement (the work); the ties are given (YtkmhnnhcnciaoaaGreatDoorTie.lean); close each card by the builder's one call (the guide's Derived/Test/ToyasCard.lean, 'card_holds'). Laid BY PROGRAM, IN A SANDBOX (cutbox-door.mjs). By AI agents, Wed Nov 11 2026. No macro, syntax, notation, axiom, sorry.
-/
import Derived.Test.YtkmhnnhcnciaoaaGreatDoorRows
import GoSem.ClaimSeven
namespace Go.Proofs.YtkmhnnhcnciaoaaGreatDoor
namespace Rows

/-- THE TIED CARD OF 'porterlaw.Frames'. -/
def framesCard : Claim7 := { stood := { row := framesRow, standIns := [], harness := (true, "72149b29bf63be86286606455910b94958e0bf3e4020f29b90e3cc1493f6f9a1"), looks := false }, kinds := [], alts := [], laidByText := true, laidKinds := [.data, .pinned], laidTests := true, laidLooks := .later }
def FramesCardSaid : Prop := Claim7.holds Tryz.pinned (.plain (OpenSpec.ofChange framesSpec)) framesCard

/-- THE TIED CARD OF 'porterkeep.Reframed'. -/
def reframedCard : Claim7 := { stood := { row := reframedRow, standIns := [], harness := (true, "72149b29bf63be86286606455910b94958e0bf3e4020f29b90e3cc1493f6f9a1"), looks := false }, kinds := [], alts := [], laidByText := true, laidKinds := [.data, .data, .data, .data, .data, .pinned], laidTests := true, laidLooks := .later }
def ReframedCardSaid : Prop := Claim7.holds Tryz.pinned (.plain (OpenSpec.ofChange reframedSpec)) reframedCard

/-- THE TIED CARD OF 'porterkeep.Spoilt'. -/
def spoiltCard : Claim7 := { stood := { row := spoiltRow, standIns := [], harness := (true, "72149b29bf63be86286606455910b94958e0bf3e4020f29b90e3cc1493f6f9a1"), looks := false }, kinds := [], alts := [], laidByText := true, laidKinds := [.data, .data, .data, .data, .data, .pinned], laidTests := true, laidLooks := .later }
def SpoiltCardSaid : Prop := Claim7.holds Tryz.pinned (.plain (OpenSpec.ofChange spoiltSpec)) spoiltCard

/-- THE TIED CARD OF 'porterlaw.Tables'. -/
def tablesCard : Claim7 := { stood := { row := tablesRow, standIns := [], harness := (true, "72149b29bf63be86286606455910b94958e0bf3e4020f29b90e3cc1493f6f9a1"), looks := false }, kinds := [], alts := [], laidByText := true, laidKinds := [.data, .data, .data, .data, .pinned], laidTests := true, laidLooks := .later }
def TablesCardSaid : Prop := Claim7.holds Tryz.pinned (.plain (OpenSpec.ofChange tablesSpec)) tablesCard

/-- THE SECOND FORM's CARD OF 'porterlaw.Frames'. -/
def framesUptoCard : Claim7 := { stood := { row := framesUptoRow, standIns := [], harness := (true, "72149b29bf63be86286606455910b94958e0bf3e4020f29b90e3cc1493f6f9a1"), looks := false }, kinds := [], alts := [], laidByText := true, laidKinds := [.data, .pinned], laidTests := true, laidLooks := .later }
def FramesUptoCardSaid : Prop := Claim7.holds Tryz.pinned (.plain (OpenSpec.upto framesSpec)) framesUptoCard

/-- THE SECOND FORM's CARD OF 'porterkeep.Reframed'. -/
def reframedUptoCard : Claim7 := { stood := { row := reframedUptoRow, standIns := [], harness := (true, "72149b29bf63be86286606455910b94958e0bf3e4020f29b90e3cc1493f6f9a1"), looks := false }, kinds := [], alts := [], laidByText := true, laidKinds := [.data, .data, .data, .data, .data, .pinned], laidTests := true, laidLooks := .later }
def ReframedUptoCardSaid : Prop := Claim7.holds Tryz.pinned (.plain (OpenSpec.upto reframedSpec)) reframedUptoCard

/-- THE SECOND FORM's CARD OF 'porterkeep.Spoilt'. -/
def spoiltUptoCard : Claim7 := { stood := { row := spoiltUptoRow, standIns := [], harness := (true, "72149b29bf63be86286606455910b94958e0bf3e4020f29b90e3cc1493f6f9a1"), looks := false }, kinds := [], alts := [], laidByText := true, laidKinds := [.data, .data, .data, .data, .data, .pinned], laidTests := true, laidLooks := .later }
def SpoiltUptoCardSaid : Prop := Claim7.holds Tryz.pinned (.plain (OpenSpec.upto spoiltSpec)) spoiltUptoCard

/-- THE SECOND FORM's CARD OF 'porterlaw.Tables'. -/
def tablesUptoCard : Claim7 := { stood := { row := tablesUptoRow, standIns := [], harness := (true, "72149b29bf63be86286606455910b94958e0bf3e4020f29b90e3cc1493f6f9a1"), looks := false }, kinds := [], alts := [], laidByText := true, laidKinds := [.data, .data, .data, .data, .pinned], laidTests := true, laidLooks := .later }
def TablesUptoCardSaid : Prop := Claim7.holds Tryz.pinned (.plain (OpenSpec.upto tablesSpec)) tablesUptoCard
end Rows
end Go.Proofs.YtkmhnnhcnciaoaaGreatDoor
