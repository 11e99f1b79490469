/- Texts that follow one another, joined. -/
import Derived.Test.YtpfendckgeoonaaGreatDoorJoin12
/- A reader's bytes, size and chunk: the error, what is read, the new place, as the plain mathematics says; no other block turns. -/
namespace Go.Proofs.YtpfendckgeoonaaGreatDoor
open Go.RowKit

def sizeN (l : List UInt8) : Int := if (Pm.lineS l 10 3).1 = 0 then Pm.numN 16 8 (Pm.lineS l 10 3).2.1 else 0
def sizeE (l : List UInt8) : Int := if (Pm.lineS l 10 3).1 = 0 then (if Pm.numE 16 8 (Pm.lineS l 10 3).2.1 = 0 then 0 else 3) else (Pm.lineS l 10 3).1

end Go.Proofs.YtpfendckgeoonaaGreatDoor

/- A reader's chunk: the error, the bytes, the new place, as the plain mathematics says; no other block turns. -/
namespace Go.Proofs.YtpfendckgeoonaaGreatDoor
open Go.RowKit


/- a chunk's bytes: the error, the bytes, how many are used up -/
def chunkS (l : List UInt8) (size : Nat) (room : Int) : Int × List UInt8 × Nat :=
  if room < size then (4, [], 0)
  else if l.length < size + 2 then (2, [], 0)
  else if Lib.hasSuffix (l.take (size + 2)) [13, 10] = true then (0, Lib.trimSuffix (l.take (size + 2)) [13, 10], size + 2)
  else (3, [], size + 2)

end Go.Proofs.YtpfendckgeoonaaGreatDoor
