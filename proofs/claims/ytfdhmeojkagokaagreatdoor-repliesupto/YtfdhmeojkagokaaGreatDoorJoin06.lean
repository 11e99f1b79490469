/- Texts that follow one another, joined. -/
import Derived.Test.YtfdhmeojkagokaaGreatDoorJoin01
import Derived.Test.YtfdhmeojkagokaaGreatDoorJoin05
/- oneNumber and framingOf answer what the plain mathematics says of the values; nothing old in memory turns. -/
namespace Go.Proofs.YtfdhmeojkagokaaGreatDoor
open Go.RowKit

end Go.Proofs.YtfdhmeojkagokaaGreatDoor

/- framingOf answers what the plain mathematics says of the fields; nothing old in memory turns. -/
namespace Go.Proofs.YtfdhmeojkagokaaGreatDoor
open Go.RowKit

/- the error; whether the body is told in chunks; its length -/
end Go.Proofs.YtfdhmeojkagokaaGreatDoor

/- A reader's bytes, size and chunk: the error, what is read, the new place, as the plain mathematics says; no other block turns. -/
namespace Go.Proofs.YtfdhmeojkagokaaGreatDoor
open Go.RowKit

end Go.Proofs.YtfdhmeojkagokaaGreatDoor

/- A reader's chunk: the error, the bytes, the new place, as the plain mathematics says; no other block turns. -/
namespace Go.Proofs.YtfdhmeojkagokaaGreatDoor
open Go.RowKit


/- a chunk's bytes: the error, the bytes, how many are used up -/
end Go.Proofs.YtfdhmeojkagokaaGreatDoor
