/- The reference's Render: the same bytes; nothing old in memory turns. -/
import Derived.Test.YtnohadlihgjppaaGreatDoorRnD
namespace Go.Proofs.YtnohadlihgjppaaGreatDoor
open Go.RowKit

theorem pre_le {st : Int} (s0 : -9223372036854775808 ≤ st) (s1 : st ≤ 9223372036854775807) : (preL st).length ≤ 200 := by
  have h1 := numT_le (b := 10) (n := st) (by omega) s0 s1
  have h2 := reason_le st
  have h3 : (Pm.reasonB st).data.toList.length = (Pm.reasonB st).size := by simp
  unfold preL
  simp only [List.length_append, List.length_cons, List.length_nil]; omega
end Go.Proofs.YtnohadlihgjppaaGreatDoor
