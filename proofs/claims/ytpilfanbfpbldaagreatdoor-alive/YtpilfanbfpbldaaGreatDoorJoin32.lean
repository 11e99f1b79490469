/- Texts that follow one another, joined. -/
import Derived.Test.YtpilfanbfpbldaaGreatDoorJoin05
import Derived.Test.YtpilfanbfpbldaaGreatDoorJoin06
import Derived.Test.YtpilfanbfpbldaaGreatDoorJoin26
import Derived.Test.YtpilfanbfpbldaaGreatDoorJoin10
/- Plain mathematics, twelfth part: the form of a version, byte by byte; lists of names that differ in the case of letters alone. -/
namespace Go.Proofs.YtpilfanbfpbldaaGreatDoor.Pm

/- nine bytes that begin as a version does -/
theorem nine {v : List UInt8} (h : v.length = 9) (h6 : v.take 6 = [32, 72, 84, 84, 80, 47]) : ∃ a b c, v = [32, 72, 84, 84, 80, 47, a, b, c] := by
  match v, h with
  | [x0, x1, x2, x3, x4, x5, a, b, c], _ =>
    simp at h6
    obtain ⟨rfl, rfl, rfl, rfl, rfl, rfl⟩ := h6
    exact ⟨a, b, c, rfl⟩
end Go.Proofs.YtpilfanbfpbldaaGreatDoor.Pm

/- Plain mathematics, tenth part: a line, told byte by byte. -/
namespace Go.Proofs.YtpilfanbfpbldaaGreatDoor.Pm

end Go.Proofs.YtpilfanbfpbldaaGreatDoor.Pm

/- The reference's lines: where one ends, and what it tells; each call answers what the plain mathematics says; nothing old in memory turns. -/
namespace Go.Proofs.YtpilfanbfpbldaaGreatDoor
open Go.RowKit

end Go.Proofs.YtpilfanbfpbldaaGreatDoor

/- The reference's first line: it tells what the plain mathematics says; nothing old in memory turns. -/
namespace Go.Proofs.YtpilfanbfpbldaaGreatDoor
open Go.RowKit

/- what stands behind the target is no version's -/
end Go.Proofs.YtpilfanbfpbldaaGreatDoor
