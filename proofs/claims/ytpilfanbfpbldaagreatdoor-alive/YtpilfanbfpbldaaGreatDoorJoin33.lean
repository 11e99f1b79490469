/- Texts that follow one another, joined. -/
import Derived.Test.YtpilfanbfpbldaaGreatDoorJoin32
import Derived.Test.YtpilfanbfpbldaaGreatDoorJoin10
/- The reference's lines behind the last chunk, and its chunks: they tell what the plain mathematics says; nothing old in memory turns. -/
namespace Go.Proofs.YtpilfanbfpbldaaGreatDoor
open Go.RowKit

/- chunks, told from one place on: what is told before is laid ahead of it -/
end Go.Proofs.YtpilfanbfpbldaaGreatDoor

/- The reference's chunks: they tell what the plain mathematics says; nothing old in memory turns. -/
namespace Go.Proofs.YtpilfanbfpbldaaGreatDoor
open Go.RowKit

end Go.Proofs.YtpilfanbfpbldaaGreatDoor

/- The reference's head: method, target, fields, where it ends, the error, as the plain mathematics says; nothing old in memory turns. -/
namespace Go.Proofs.YtpilfanbfpbldaaGreatDoor
open Go.RowKit

structure RInv (w : World) (hd : Nat) (s : ByteArray) (H : Pm.HeadR) (gq g u : Nat) (m t : List UInt8) (fs : List Pm.Fld) (v : Value) (wr : World) : Prop where
  u1 : u ≤ hd
  g1 : hd - u + 1 ≤ g
  k1 : u ≤ s.size
  n1 : fs.length ≤ u
  eq : Pm.headS g false (s.data.toList.drop u) (hd - u) m t fs u = H
  rb : RqB w.heap.size [] [] (.slice none 0 0) wr
  qb : RqB gq m t v wr
  ow : wr.ownsRow (gq + 1) 134 2 v fs.length (flat fs)
  sz : gq + 1 ≤ wr.heap.size
  bl : Below w.heap.size w wr

end Go.Proofs.YtpilfanbfpbldaaGreatDoor

/- The reference's word of how a body is told: as the plain mathematics says of the fields; nothing old in memory turns. -/
namespace Go.Proofs.YtpilfanbfpbldaaGreatDoor
open Go.RowKit

end Go.Proofs.YtpilfanbfpbldaaGreatDoor
