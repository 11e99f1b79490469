/-
  DERIVED. GIVEN WITH THE SEED: THE CARDS: each row of YtbiggccolpchcaaGreatDoorRows.lean that lists a variable, with what it lists TIED to the program's text (the seventh form; the later family's looks); each row that meets fmt, with fmt's text TOLD by the authors' own Lean function (tested against real Go, not proved from fmt's source: count such statements apart). THE CARD IS WHAT COUNTS. Prove the row's statement (the work); the ties are given (YtbiggccolpchcaaGreatDoorTie.lean); close each card by the builder's one call (the guide's Derived/Test/ToyasCard.lean, 'card_holds'). Laid BY PROGRAM, IN A SANDBOX (cutbox-door.mjs). By AI agents, Wed Nov 11 2026. No macro, syntax, notation, axiom, sorry.
-/
import Derived.Test.YtbiggccolpchcaaGreatDoorRows
import GoSem.ClaimSeven
namespace Go.Proofs.YtbiggccolpchcaaGreatDoor
namespace Rows

/-- THE TIED CARD OF 'porterlaw.Tables'. -/
def tablesCard : Claim7 := { stood := { row := tablesRow, standIns := [], harness := (true, "67ea018b9d4961832fceeaac199600f5fb0a5717d709a2368f578eec3a7b409a"), looks := false }, kinds := [], alts := [], laidByText := true, laidKinds := [.data, .data, .data, .data, .pinned], laidTests := true, laidLooks := .later }
def TablesCardSaid : Prop := Claim7.holds Tryz.pinned (.plain (OpenSpec.ofChange tablesSpec)) tablesCard

/-- THE TIED CARD OF 'porterlaw.Serves'. -/
def servesCard : Claim7 := { stood := { row := servesRow, standIns := [], harness := (true, "67ea018b9d4961832fceeaac199600f5fb0a5717d709a2368f578eec3a7b409a"), looks := false }, kinds := [], alts := [], laidByText := true, laidKinds := [.data, .data, .data, .data, .pinned], laidTests := true, laidLooks := .later }
def ServesCardSaid : Prop := Claim7.holds Tryz.pinned (.plain (OpenSpec.ofChange servesSpec)) servesCard

/-- THE TIED CARD OF 'porterlaw.All'. -/
def allCard : Claim7 := { stood := { row := allRow, standIns := [], harness := (true, "67ea018b9d4961832fceeaac199600f5fb0a5717d709a2368f578eec3a7b409a"), looks := false }, kinds := [], alts := [], laidByText := true, laidKinds := [.data, .data, .data, .data, .pinned], laidTests := true, laidLooks := .later }
def AllCardSaid : Prop := Claim7.holds Tryz.pinned (.plain (OpenSpec.ofChange allSpec)) allCard

/-- THE SECOND FORM's CARD OF 'porterlaw.Tables'. -/
def tablesUptoCard : Claim7 := { stood := { row := tablesUptoRow, standIns := [], harness := (true, "67ea018b9d4961832fceeaac199600f5fb0a5717d709a2368f578eec3a7b409a"), looks := false }, kinds := [], alts := [], laidByText := true, laidKinds := [.data, .data, .data, .data, .pinned], laidTests := true, laidLooks := .later }
def TablesUptoCardSaid : Prop := Claim7.holds Tryz.pinned (.plain (OpenSpec.upto tablesSpec)) tablesUptoCard

/-- THE SECOND FORM's CARD OF 'porterlaw.Serves'. -/
def servesUptoCard : Claim7 := { stood := { row := servesUptoRow, standIns := [], harness := (true, "67ea018b9d4961832fceeaac199600f5fb0a5717d709a2368f578eec3a7b409a"), looks := false }, kinds := [], alts := [], laidByText := true, laidKinds := [.data, .data, .data, .data, .pinned], laidTests := true, laidLooks := .later }
def ServesUptoCardSaid : Prop := Claim7.holds Tryz.pinned (.plain (OpenSpec.upto servesSpec)) servesUptoCard

/-- THE SECOND FORM's CARD OF 'porterlaw.All'. -/
def allUptoCard : Claim7 := { stood := { row := allUptoRow, standIns := [], harness := (true, "67ea018b9d4961832fceeaac199600f5fb0a5717d709a2368f578eec3a7b409a"), looks := false }, kinds := [], alts := [], laidByText := true, laidKinds := [.data, .data, .data, .data, .pinned], laidTests := true, laidLooks := .later }
def AllUptoCardSaid : Prop := Claim7.holds Tryz.pinned (.plain (OpenSpec.upto allSpec)) allUptoCard
end Rows
end Go.Proofs.YtbiggccolpchcaaGreatDoor
