/- The program's Render and what it calls; nothing old in memory turns. -/
import Derived.Test.YtnohadlihgjppaaGreatDoorRnB
import Derived.Test.YtnohadlihgjppaaGreatDoorWalkG
import Derived.Test.YtnohadlihgjppaaGreatDoorWalkJ
import Derived.Lib.ItoaMem
namespace Go.Proofs.YtnohadlihgjppaaGreatDoor
open Go.RowKit

def fldL (n v : List UInt8) : List UInt8 := n ++ [58, 32] ++ v ++ [13, 10]
abbrev BuAt (B g : Nat) (l : List UInt8) (w : World) : Prop := Lib.IsBuilder 88 5 B g (Lib.byteCells l) w
theorem bu_next {B g : Nat} {l : List UInt8} {s : ByteArray} {w : World} (h : Lib.BuilderAt 88 5 B g (.pointer (some ⟨g, 0, none⟩)) (Lib.byteCells l ++ Lib.strCells s) w) : BuAt B g (l ++ s.data.toList) w := by
  unfold BuAt
  rw [Lib.byteCells_append]
  exact .inr h
theorem bcells_len (l : List UInt8) : (Lib.byteCells l).length = l.length := by simp [Lib.byteCells]

set_option maxHeartbeats 1000000 in
theorem writeField_any (B g : Nat) (l : List UInt8) (n v : ByteArray) (w : World) (h : BuAt B g l w) (hl : l.length + n.size + v.size + 4 ≤ 140737488355328) (hB : B ≤ w.heap.size) :
    Calls Tryz.prog 48 #[.pointer (some ⟨g, 0, none⟩), .string n, .string v] w fun e w' => e = .returned (.tuple #[]) ∧ BuAt B g (l ++ fldL n.data.toList v.data.toList) w' ∧ Below B w w' := by
  have c58 : (⟨#[58, 32]⟩ : ByteArray).size = 2 := rfl
  have c13 : (⟨#[13, 10]⟩ : ByteArray).size = 2 := rfl
  have HL := hid (@bcells_len)
  go_enter Tryz.func48, Tryz.ntmps48
  go_wp2_with fail
  refine (Tryz.Builder_WriteString _ _ _ n _ h (by rw [HL.out]; omega) hB).mono ?_
  rintro e w1 ⟨rfl, h1, hb1⟩
  have b1 := bu_next h1
  have s1 := hb1.size
  go_wp2_with fail
  refine (Tryz.Builder_WriteString _ _ _ ⟨#[58, 32]⟩ _ b1 (by rw [HL.out]; simp; omega) (by omega)).mono ?_
  rintro e w2 ⟨rfl, h2, hb2⟩
  have b2 := bu_next h2
  have s2 := hb2.size
  go_wp2_with fail
  refine (Tryz.Builder_WriteString _ _ _ v _ b2 (by rw [HL.out]; simp; omega) (by omega)).mono ?_
  rintro e w3 ⟨rfl, h3, hb3⟩
  have b3 := bu_next h3
  have s3 := hb3.size
  go_wp2_with fail
  refine (Tryz.Builder_WriteString _ _ _ ⟨#[13, 10]⟩ _ b3 (by rw [HL.out]; simp; omega) (by omega)).mono ?_
  rintro e w4 ⟨rfl, h4, hb4⟩
  have b4 := bu_next h4
  have BF : Hid (BuAt B g (l ++ fldL n.data.toList v.data.toList) w4 ∧ Below B w w4) := by
    refine ⟨?_, ((hb1.trans hb2).trans hb3).trans hb4⟩
    unfold fldL
    simpa [List.append_assoc] using b4
  clear b1 b2 b3 b4 h1 h2 h3 h4 hb1 hb2 hb3 hb4 h
  go_wp2
  refine bodyPost_end (v := .tuple #[]) (by simp [results, Tryz.results48, go_sem]) rfl ?_
  exact ⟨rfl, BF.out.1, BF.out.2⟩
end Go.Proofs.YtnohadlihgjppaaGreatDoor
