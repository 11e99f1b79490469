/- Texts that follow one another, joined. -/
import Derived.Test.YthfpiahhbflfpaaDoorJoin23
/- The reference's takes; nothing old in memory turns. -/
namespace Go.Proofs.YthfpiahhbflfpaaDoor
open Go.RowKit

def tkR (p s : ByteArray) : Bool := if Pm.pieceK p.data.toList = 0 then p.toList == s.toList else ((Pm.pieceK p.data.toList == 2) || !s.toList.isEmpty)
end Go.Proofs.YthfpiahhbflfpaaDoor

/- The reference's join, of texts that lie anywhere in a block; nothing old in memory turns. -/
namespace Go.Proofs.YthfpiahhbflfpaaDoor
open Go.RowKit

def StO (ts : List ByteArray) (a : Option Addr) (w : World) : Prop :=
  ∀ i (h : i < ts.length), ∃ g o, a = some ⟨g, o, none⟩ ∧ g < w.heap.size ∧ w.cell? ⟨g, o + i, none⟩ = some (.string ts[i])
theorem StO.below {ts : List ByteArray} {a : Option Addr} {w w' : World} (h : StO ts a w) (hb : Below w.heap.size w w') : StO ts a w' := fun i hi => by
  obtain ⟨g, o, h1, h2, h3⟩ := h i hi
  exact ⟨g, o, h1, Nat.lt_of_lt_of_le h2 hb.size, cell_later hb h3⟩
def joinL : List (List UInt8) → List UInt8
  | [] => []
  | a :: r => a ++ r.flatMap (fun x => 47 :: x)
theorem joinL_snoc (l : List (List UInt8)) (x : List UInt8) : joinL (l ++ [x]) = if l.length = 0 then x else joinL l ++ 47 :: x := by
  cases l with
  | nil => simp [joinL]
  | cons a r => simp [joinL, List.flatMap_append]
theorem joinL_take (l : List (List UInt8)) (k : Nat) : (joinL (l.take k)).length ≤ (joinL l).length := by
  have h : joinL l = joinL (l.take k ++ l.drop k) := by rw [List.take_append_drop]
  rw [h]
  cases l.take k with
  | nil => simp [joinL]
  | cons a r => simp [joinL, List.flatMap_append]

end Go.Proofs.YthfpiahhbflfpaaDoor
