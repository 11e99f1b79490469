/- Texts that follow one another, joined. -/
import Derived.Test.YtpilfanbfpbldaaGreatDoorJoin33
import Derived.Deep.AppendLies
/- The reference's Frame at right limits: the request, how many bytes it has, the error, as the plain mathematics says; nothing old in memory turns. -/
namespace Go.Proofs.YtpilfanbfpbldaaGreatDoor
open Go.RowKit

end Go.Proofs.YtpilfanbfpbldaaGreatDoor

/- The book's small calls: marks, and whether two lists of fields are the same; Frame at limits that are not right. Nothing old in memory turns. -/
namespace Go.Proofs.YtpilfanbfpbldaaGreatDoor
open Go.RowKit

/- the mark of the n-th list, for the few lists that there are -/
end Go.Proofs.YtpilfanbfpbldaaGreatDoor

/- A list full of one mark, appended to: what was marked stays marked. -/
namespace Go.Proofs.YtpilfanbfpbldaaGreatDoor
open Go.RowKit

/- the cells of k marks -/
section
variable {P : Program} (w : World)
end
end Go.Proofs.YtpilfanbfpbldaaGreatDoor

/- keepFields: a list that came out is written full of a mark and appended to, three times; all lists that the book holds read as they were written. -/
namespace Go.Proofs.YtpilfanbfpbldaaGreatDoor
open Go.RowKit

/- the book's block and the row of its lists -/
/- a list of the book: it reads as the i-th was written; its block is its own -/
/- what holds while the list is appended to -/
end Go.Proofs.YtpilfanbfpbldaaGreatDoor
