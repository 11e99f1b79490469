/- Texts that follow one another, joined. -/
import Derived.Test.YtpilfanbfpbldaaGreatDoorJoin26
import Derived.Test.YtpilfanbfpbldaaGreatDoorJoin06
/- The reference's Pieces, in new memory; nothing old in memory turns. -/
namespace Go.Proofs.YtpilfanbfpbldaaGreatDoor
open Go.RowKit

def pcs (l : List UInt8) : List (List UInt8) := if l = [] then [] else Lib.split (l.drop 1) [47]
theorem pcs_step {l : List UInt8} (h : l ≠ []) : pcs l = Pm.ahead 47 (l.drop 1) :: pcs (Pm.behind 47 (l.drop 1)) := by
  rw [pcs, if_neg h]
  rcases Pm.behind_cases 47 (l.drop 1) with hb | ⟨r, hb⟩
  · rw [Pm.split_none hb, hb, pcs, if_pos rfl, (Pm.index_no hb).2]
  · rw [Pm.split_some hb, hb, pcs, if_neg (by simp)]; rfl
theorem behind_le (c : UInt8) (l : List UInt8) : (Pm.behind c l).length ≤ l.length := by
  have h := congrArg List.length (Pm.ahead_behind c l)
  rw [List.length_append] at h; omega
end Go.Proofs.YtpilfanbfpbldaaGreatDoor

/- The reference's takes; nothing old in memory turns. -/
namespace Go.Proofs.YtpilfanbfpbldaaGreatDoor
open Go.RowKit

end Go.Proofs.YtpilfanbfpbldaaGreatDoor

/- The reference's join, of texts that lie anywhere in a block; nothing old in memory turns. -/
namespace Go.Proofs.YtpilfanbfpbldaaGreatDoor
open Go.RowKit

def StO (ts : List ByteArray) (a : Option Addr) (w : World) : Prop :=
  ∀ i (h : i < ts.length), ∃ g o, a = some ⟨g, o, none⟩ ∧ g < w.heap.size ∧ w.cell? ⟨g, o + i, none⟩ = some (.string ts[i])
theorem StO.below {ts : List ByteArray} {a : Option Addr} {w w' : World} (h : StO ts a w) (hb : Below w.heap.size w w') : StO ts a w' := fun i hi => by
  obtain ⟨g, o, h1, h2, h3⟩ := h i hi
  exact ⟨g, o, h1, Nat.lt_of_lt_of_le h2 hb.size, cell_later hb h3⟩
def joinL : List (List UInt8) → List UInt8
  | [] => []
  | a :: r => a ++ r.flatMap (fun x => 47 :: x)
end Go.Proofs.YtpilfanbfpbldaaGreatDoor

/- The reference's IsPattern; nothing old in memory turns. -/
namespace Go.Proofs.YtpilfanbfpbldaaGreatDoor
open Go.RowKit

def alN : ByteArray := ⟨#[48, 49, 50, 51, 52, 53, 54, 55, 56, 57, 97, 98, 99, 100, 101, 102, 103, 104, 105, 106, 107, 108, 109, 110, 111, 112, 113, 114, 115, 116, 117, 118, 119, 120, 121, 122]⟩
def alF : List UInt8 := [48, 49, 50, 51, 52, 53, 54, 55, 56, 57, 97, 98, 99, 100, 101, 102, 103, 104, 105, 106, 107, 108, 109, 110, 111, 112, 113, 114, 115, 116, 117, 118, 119, 120, 121, 122, 65, 66, 67, 68, 69, 70, 71, 72, 73, 74, 75, 76, 77, 78, 79, 80, 81, 82, 83, 84, 85, 86, 87, 88, 89, 90, 45, 46, 95, 126]
theorem pcs_le : ∀ (n : Nat) (l : List UInt8), l.length ≤ n → (pcs l).length ≤ l.length ∧ ∀ x ∈ pcs l, x.length ≤ l.length
  | 0, l, h => by
    have : l = [] := List.eq_nil_of_length_eq_zero (by omega)
    rw [this, pcs, if_pos rfl]; simp
  | n + 1, l, h => by
    by_cases hl : l = []
    · rw [hl, pcs, if_pos rfl]; simp
    · have hp : 0 < l.length := List.length_pos_iff.mpr hl
      have h1 := behind_le 47 (l.drop 1)
      have h2 := (ahead_le 47 (l.drop 1)).1
      rw [List.length_drop] at h1 h2
      obtain ⟨i1, i2⟩ := pcs_le n (Pm.behind 47 (l.drop 1)) (by omega)
      rw [pcs_step hl]
      refine ⟨by rw [List.length_cons]; omega, fun x hx => ?_⟩
      rcases List.mem_cons.mp hx with rfl | hx
      · omega
      · have := i2 x hx; omega
def okN (n : ByteArray) (rest : Bool) (last : Bool) : Bool := (Pm.allP (Pm.inB alN.data.toList) n.data.toList && !n.toList.isEmpty) && (!rest || last)
def okP (ts : List ByteArray) (t : ByteArray) (k : Nat) : Bool :=
  if Pm.pieceK t.data.toList = 0 then Pm.allP (Pm.inB alF) t.data.toList
  else okN (nameOf t) (Pm.pieceK t.data.toList == 2) (decide (k + 1 = ts.length)) && (ts.take k).all (fun o => !((nameOf o).toList == (nameOf t).toList))

end Go.Proofs.YtpilfanbfpbldaaGreatDoor
