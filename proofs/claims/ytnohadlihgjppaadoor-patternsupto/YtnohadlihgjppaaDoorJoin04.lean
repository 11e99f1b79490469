/- Texts that follow one another, joined. -/
import Derived.Test.YtnohadlihgjppaaDoorJoin01
import Derived.Test.YtnohadlihgjppaaDoorJoin03
/- Plain mathematics, thirteenth part: the pieces of a pattern. -/
namespace Go.Proofs.YtnohadlihgjppaaDoor.Pm

def fixMarks : List UInt8 := [45, 46, 95, 126]
def fixB (c : UInt8) : Bool := letB c || digB c || decide (0 ≤ Lib.indexByte fixMarks c)
def nameB (c : UInt8) : Bool := (decide (97 ≤ (c.toNat : Int)) && decide ((c.toNat : Int) ≤ 122)) || digB c
def isName (l : List UInt8) : Bool := !l.isEmpty && allP nameB l
/- a piece: its kind (0 fixed, 1 a parameter, 2 a rest), its text, and whether it is one -/
abbrev Pce := Int × List UInt8
def pieceK (l : List UInt8) : Int := if Lib.hasPrefix l [58] = true then 1 else if Lib.hasPrefix l [42] = true then 2 else 0
def pieceT (l : List UInt8) : List UInt8 := if Lib.hasPrefix l [58] = true then l.drop 1 else if Lib.hasPrefix l [42] = true then l.drop 1 else l
def pieceOk (l : List UInt8) : Bool := if pieceK l = 0 then allP fixB l else isName (pieceT l)
def hasNm (ps : List Pce) (q : Pce) : Bool := ps.any fun p => decide (p.1 ≠ 0) && (decide (q.1 ≠ 0) && (p.2 == q.2))
end Go.Proofs.YtnohadlihgjppaaDoor.Pm

/- Plain mathematics, seventh part: the lines behind the last chunk. -/
namespace Go.Proofs.YtnohadlihgjppaaDoor.Pm

/- the error, and how many bytes are used up -/
def trailS : Nat → List UInt8 → Nat → Nat → Int × Nat
  | 0, _, _, _ => (2, 0)
  | f + 1, l, lim, u =>
    if (lineS l lim 5).1 ≠ 0 then ((lineS l lim 5).1, 0)
    else if (lineS l lim 5).2.1 = [] then (0, u + (lineS l lim 5).2.2)
    else if (fieldS (lineS l lim 5).2.1).isSome = true then trailS f (l.drop (lineS l lim 5).2.2) (lim - (lineS l lim 5).2.2) (u + (lineS l lim 5).2.2)
    else (3, 0)
theorem trailS_succ (f : Nat) (l : List UInt8) (lim u : Nat) : trailS (f + 1) l lim u =
    if (lineS l lim 5).1 ≠ 0 then ((lineS l lim 5).1, 0)
    else if (lineS l lim 5).2.1 = [] then (0, u + (lineS l lim 5).2.2)
    else if (fieldS (lineS l lim 5).2.1).isSome = true then trailS f (l.drop (lineS l lim 5).2.2) (lim - (lineS l lim 5).2.2) (u + (lineS l lim 5).2.2)
    else (3, 0) := rfl

end Go.Proofs.YtnohadlihgjppaaDoor.Pm
