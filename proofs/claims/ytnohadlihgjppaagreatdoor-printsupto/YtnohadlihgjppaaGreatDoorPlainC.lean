/- Plain mathematics on lists of bytes, third part: methods, targets, versions, fields, names that are alike. -/
import Derived.Test.YtnohadlihgjppaaGreatDoorPlainB
import Derived.Lib.Strings
import Derived.Lib.SlTrimSet
namespace Go.Proofs.YtnohadlihgjppaaGreatDoor.Pm

def allP (p : UInt8 → Bool) (l : List UInt8) : Bool := l.all p
theorem allP_snoc (p : UInt8 → Bool) (l : List UInt8) (c : UInt8) : allP p (l ++ [c]) = (allP p l && p c) := by simp [allP]
theorem allP_take {p : UInt8 → Bool} {l : List UInt8} {k : Nat} (h : allP p (l.take k) = false) : allP p l = false := by
  cases hc : allP p l
  · rfl
  · have h2 : allP p (l.take k) = true := List.all_eq_true.2 fun x hx => List.all_eq_true.1 hc x (List.mem_of_mem_take hx)
    rw [h] at h2; exact h2.symm

def tgtB (c : UInt8) : Bool := decide (33 ≤ (c.toNat : Int)) && decide ((c.toNat : Int) ≤ 126) && decide ((c.toNat : Int) ≠ 35)
def valB (c : UInt8) : Bool := decide ((c.toNat : Int) = 9) || (decide (32 ≤ (c.toNat : Int)) && decide ((c.toNat : Int) ≠ 127))
def low (c : UInt8) : UInt8 := if 65 ≤ c.toNat ∧ c.toNat ≤ 90 then c + 32 else c
theorem low_nat (c : UInt8) : (low c).toNat = if 65 ≤ c.toNat ∧ c.toNat ≤ 90 then c.toNat + 32 else c.toNat := by
  have := all256 (p := fun c => (low c).toNat == if 65 ≤ c.toNat ∧ c.toNat ≤ 90 then c.toNat + 32 else c.toNat) (by decide +kernel) c
  simpa using this
def alike (a b : List UInt8) : Bool := a.map low == b.map low
def isMethod (l : List UInt8) : Bool := decide (l.length ≤ 16) && isTok l
def isTarget (l : List UInt8) : Bool := Lib.hasPrefix l [47] && (allP tgtB l && (unesc (ahead 63 l)).isSome)
def http : List UInt8 := [72, 84, 84, 80, 47]
def verTail (l : List UInt8) : Bool := match l with
  | [a, b, c] => digB a && (b == 46 && digB c)
  | _ => false
def isVersion (l : List UInt8) : Bool := Lib.hasPrefix l http && verTail (Lib.trimPrefix l http)
def blanks : List UInt8 := [32, 9]
def isValue (v : List UInt8) : Bool := allP valB v && (Lib.trimS v blanks == v)
def isField (n v : List UInt8) : Bool := isTok n && isValue v
/- the field that a line is -/
def fieldS (l : List UInt8) : Option (List UInt8 × List UInt8) :=
  if (!(behind 58 l).isEmpty && isField (ahead 58 l) (Lib.trimS ((behind 58 l).drop 1) blanks)) = true then some (ahead 58 l, Lib.trimS ((behind 58 l).drop 1) blanks) else none

def isPath (l : List UInt8) : Bool := (unesc l).isSome && Lib.hasPrefix l [47]
theorem isTarget_path (l : List UInt8) : isTarget l = (isPath (ahead 63 l) && allP tgtB l) := by
  have h : Lib.hasPrefix (ahead 63 l) [47] = Lib.hasPrefix l [47] := by
    cases l with
    | nil => rfl
    | cons c l =>
      unfold ahead Lib.hasPrefix
      by_cases hc : c = 63
      · subst hc; simp [List.isPrefixOf]
      · rw [List.takeWhile_cons_of_pos (by simpa using hc)]; simp [List.isPrefixOf]
  unfold isTarget isPath
  rw [h]
  cases Lib.hasPrefix l [47] <;> cases allP tgtB l <;> cases (unesc (ahead 63 l)).isSome <;> rfl
theorem unE_iff (l : List UInt8) : decide (unE l = 0) = (unesc l).isSome := by
  unfold unE; cases (unesc l).isSome <;> simp
theorem take_eq_of {a b : List UInt8} {k : Nat} (hl : a.length = b.length) (h : a.length ≤ k) (he : (a.take k).map low = (b.take k).map low) : alike a b = true := by
  rw [List.take_of_length_le h, List.take_of_length_le (by omega)] at he
  simp [alike, he]
theorem alike_ne {a b : List UInt8} (h : a.length ≠ b.length) : alike a b = false := by
  rw [alike, beq_eq_false_iff_ne]; intro he; have := congrArg List.length he; simp at this; exact h this
theorem alike_at {a b : ByteArray} {k : Nat} (ha : k < a.size) (hb : k < b.size) (h : low a[k] ≠ low b[k]) : alike a.data.toList b.data.toList = false := by
  rw [alike, beq_eq_false_iff_ne]; intro he
  have h1 : (a.data.toList.map low)[k]? = (b.data.toList.map low)[k]? := by rw [he]
  rw [List.getElem?_map, List.getElem?_map, List.getElem?_eq_getElem (by simpa using ha), List.getElem?_eq_getElem (by simpa using hb)] at h1
  simp only [Option.map_some, Option.some.injEq] at h1
  exact h h1
theorem mapLow_snoc {a b : ByteArray} {k : Nat} (ha : k < a.size) (hb : k < b.size) (h : low a[k] = low b[k]) (he : (a.data.toList.take k).map low = (b.data.toList.take k).map low) :
    (a.data.toList.take (k + 1)).map low = (b.data.toList.take (k + 1)).map low := by
  rw [take_snoc a k ha, take_snoc b k hb, List.map_append, List.map_append, he]; simp [h]

end Go.Proofs.YtnohadlihgjppaaGreatDoor.Pm
