/- ReadField tells the field that a line is; own copies a field: each answers what the plain mathematics says; nothing old in memory turns. -/
import Derived.Test.YtbngakfndhkcnaaGreatDoorWalkJ
namespace Go.Proofs.YtbngakfndhkcnaaGreatDoor
open Go.RowKit

theorem trim_le (l : List UInt8) : (Lib.trimS l Pm.blanks).length ≤ l.length := by
  unfold Lib.trimS Lib.trimLeftS Lib.trimRightS
  have h1 := (List.dropWhile_sublist (fun x => Pm.blanks.contains x) (l := l.reverse)).length_le
  have h2 := (List.dropWhile_sublist (fun x => Pm.blanks.contains x) (l := (l.reverse.dropWhile (fun x => Pm.blanks.contains x)).reverse)).length_le
  rw [List.length_reverse] at h1 h2
  omega

theorem cell_old {w : World} {o : Obj} {a : Addr} {v : Value} (h : w.cell? a = some v) : (w.alloc o).cell? a = some v := cell_later ((Below.refl _ _).alloc (Nat.le_refl _) _) h

def fldV (o : Option (List UInt8 × List UInt8)) : Value := match o with
  | some (n, v) => .agg #[.string ⟨n.toArray⟩, .string ⟨v.toArray⟩]
  | none => .agg #[.string ⟨#[]⟩, .string ⟨#[]⟩]

end Go.Proofs.YtbngakfndhkcnaaGreatDoor
