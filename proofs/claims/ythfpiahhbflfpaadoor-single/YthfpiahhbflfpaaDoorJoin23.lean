/- Texts that follow one another, joined. -/
import Derived.Test.YthfpiahhbflfpaaDoorJoin22
import Derived.Test.YthfpiahhbflfpaaDoorJoin11
import Derived.Test.YthfpiahhbflfpaaDoorJoin03
/- The reference's values of the fields that are named alike, in new memory; nothing old in memory turns. -/
namespace Go.Proofs.YthfpiahhbflfpaaDoor
open Go.RowKit

end Go.Proofs.YthfpiahhbflfpaaDoor

/- The reference's Pieces, in new memory; nothing old in memory turns. -/
namespace Go.Proofs.YthfpiahhbflfpaaDoor
open Go.RowKit

def pcs (l : List UInt8) : List (List UInt8) := if l = [] then [] else Lib.split (l.drop 1) [47]
theorem pcs_step {l : List UInt8} (h : l ≠ []) : pcs l = Pm.ahead 47 (l.drop 1) :: pcs (Pm.behind 47 (l.drop 1)) := by
  rw [pcs, if_neg h]
  rcases Pm.behind_cases 47 (l.drop 1) with hb | ⟨r, hb⟩
  · rw [Pm.split_none hb, hb, pcs, if_pos rfl, (Pm.index_no hb).2]
  · rw [Pm.split_some hb, hb, pcs, if_neg (by simp)]; rfl
theorem behind_le (c : UInt8) (l : List UInt8) : (Pm.behind c l).length ≤ l.length := by
  have h := congrArg List.length (Pm.ahead_behind c l)
  rw [List.length_append] at h; omega
def szOf : Value → Nat
  | .string b => b.size
  | _ => 0
theorem data_ne {s : ByteArray} (h : 0 < s.size) : s.data.toList ≠ [] := fun h' => by
  have hl : s.data.toList.length = s.size := by simp
  rw [h'] at hl; simp at hl; omega

end Go.Proofs.YthfpiahhbflfpaaDoor
