/- Texts that follow one another, joined. -/
import Derived.Test.YtpfendckgeoonaaGreatDoorJoin09
import Derived.Test.YtpfendckgeoonaaGreatDoorJoin02
/- ReadField tells the field that a line is; own copies a field: each answers what the plain mathematics says; nothing old in memory turns. -/
namespace Go.Proofs.YtpfendckgeoonaaGreatDoor
open Go.RowKit

theorem trim_le (l : List UInt8) : (Lib.trimS l Pm.blanks).length ≤ l.length := by
  unfold Lib.trimS Lib.trimLeftS Lib.trimRightS
  have h1 := (List.dropWhile_sublist (fun x => Pm.blanks.contains x) (l := l.reverse)).length_le
  have h2 := (List.dropWhile_sublist (fun x => Pm.blanks.contains x) (l := (l.reverse.dropWhile (fun x => Pm.blanks.contains x)).reverse)).length_le
  rw [List.length_reverse] at h1 h2
  omega

theorem cell_old {w : World} {o : Obj} {a : Addr} {v : Value} (h : w.cell? a = some v) : (w.alloc o).cell? a = some v := cell_later ((Below.refl _ _).alloc (Nat.le_refl _) _) h

def fldV (o : Option (List UInt8 × List UInt8)) : Value := match o with
  | some (n, v) => .agg #[.string ⟨n.toArray⟩, .string ⟨v.toArray⟩]
  | none => .agg #[.string ⟨#[]⟩, .string ⟨#[]⟩]

end Go.Proofs.YtpfendckgeoonaaGreatDoor

/- A reader's line: the error, the line, the new place, as the plain mathematics says; no other block turns. -/
namespace Go.Proofs.YtpfendckgeoonaaGreatDoor
open Go.RowKit

/- the reader lies in block b: its limits, its text, its place -/
/- every old block but b is as it was -/
def Kp (b : Nat) (w w' : World) : Prop :=
  w'.os = w.os ∧ w'.tape = w.tape ∧ w'.output = w.output ∧ w.heap.size ≤ w'.heap.size ∧ ∀ k, k < w.heap.size → k ≠ b → w'.heap[k]? = w.heap[k]?
theorem Kp.refl (b : Nat) (w : World) : Kp b w w := ⟨rfl, rfl, rfl, Nat.le_refl _, fun _ _ _ => rfl⟩
theorem Kp.trans {b : Nat} {w w1 w2 : World} (h : Kp b w w1) (k : Kp b w1 w2) : Kp b w w2 :=
  ⟨k.1.trans h.1, k.2.1.trans h.2.1, k.2.2.1.trans h.2.2.1, Nat.le_trans h.2.2.2.1 k.2.2.2.1, fun j hj hb => (k.2.2.2.2 j (Nat.lt_of_lt_of_le hj h.2.2.2.1) hb).trans (h.2.2.2.2 j hj hb)⟩
theorem Kp.of {b : Nat} {w w' : World} (h : Below w.heap.size w w') : Kp b w w' := ⟨h.os, h.tape, h.output, h.size, fun k hk _ => h.block k hk⟩
theorem Kp.set (b o : Nat) (v : Value) (w : World) : Kp b w (w.setCell ⟨b, o, none⟩ v) :=
  ⟨by simp [World.setCell], by simp [World.setCell], by simp [World.setCell], by simp, fun k _ hk => Below.heap_setCell w ⟨b, o, none⟩ v k hk⟩
end Go.Proofs.YtpfendckgeoonaaGreatDoor
