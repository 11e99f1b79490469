/- Plain mathematics, seventh part: the lines behind the last chunk. -/
import Derived.Test.YtnohadlihgjppaaGreatDoorPlainF
namespace Go.Proofs.YtnohadlihgjppaaGreatDoor.Pm

/- the error, and how many bytes are used up -/
def trailS : Nat → List UInt8 → Nat → Nat → Int × Nat
  | 0, _, _, _ => (2, 0)
  | f + 1, l, lim, u =>
    if (lineS l lim 5).1 ≠ 0 then ((lineS l lim 5).1, 0)
    else if (lineS l lim 5).2.1 = [] then (0, u + (lineS l lim 5).2.2)
    else if (fieldS (lineS l lim 5).2.1).isSome = true then trailS f (l.drop (lineS l lim 5).2.2) (lim - (lineS l lim 5).2.2) (u + (lineS l lim 5).2.2)
    else (3, 0)
theorem trailS_succ (f : Nat) (l : List UInt8) (lim u : Nat) : trailS (f + 1) l lim u =
    if (lineS l lim 5).1 ≠ 0 then ((lineS l lim 5).1, 0)
    else if (lineS l lim 5).2.1 = [] then (0, u + (lineS l lim 5).2.2)
    else if (fieldS (lineS l lim 5).2.1).isSome = true then trailS f (l.drop (lineS l lim 5).2.2) (lim - (lineS l lim 5).2.2) (u + (lineS l lim 5).2.2)
    else (3, 0) := rfl

end Go.Proofs.YtnohadlihgjppaaGreatDoor.Pm
