/- Texts that follow one another, joined. -/
import Derived.Test.YtaekbmfcnkpelaaGreatDoorJoin00
import Derived.Lib.Strings
import Derived.Lib.SlTrimSet
import Derived.Lib.Split
import Derived.Lib.SplitLaws
/- Plain mathematics on lists of bytes, third part: methods, targets, versions, fields, names that are alike. -/
namespace Go.Proofs.YtaekbmfcnkpelaaGreatDoor.Pm

def allP (p : UInt8 → Bool) (l : List UInt8) : Bool := l.all p
theorem allP_snoc (p : UInt8 → Bool) (l : List UInt8) (c : UInt8) : allP p (l ++ [c]) = (allP p l && p c) := by simp [allP]
theorem allP_take {p : UInt8 → Bool} {l : List UInt8} {k : Nat} (h : allP p (l.take k) = false) : allP p l = false := by
  cases hc : allP p l
  · rfl
  · have h2 : allP p (l.take k) = true := List.all_eq_true.2 fun x hx => List.all_eq_true.1 hc x (List.mem_of_mem_take hx)
    rw [h] at h2; exact h2.symm

def tgtB (c : UInt8) : Bool := decide (33 ≤ (c.toNat : Int)) && decide ((c.toNat : Int) ≤ 126) && decide ((c.toNat : Int) ≠ 35)
def valB (c : UInt8) : Bool := decide ((c.toNat : Int) = 9) || (decide (32 ≤ (c.toNat : Int)) && decide ((c.toNat : Int) ≠ 127))
def low (c : UInt8) : UInt8 := if 65 ≤ c.toNat ∧ c.toNat ≤ 90 then c + 32 else c
theorem low_nat (c : UInt8) : (low c).toNat = if 65 ≤ c.toNat ∧ c.toNat ≤ 90 then c.toNat + 32 else c.toNat := by
  have := all256 (p := fun c => (low c).toNat == if 65 ≤ c.toNat ∧ c.toNat ≤ 90 then c.toNat + 32 else c.toNat) (by decide +kernel) c
  simpa using this
def alike (a b : List UInt8) : Bool := a.map low == b.map low
def isMethod (l : List UInt8) : Bool := decide (l.length ≤ 16) && isTok l
def isTarget (l : List UInt8) : Bool := Lib.hasPrefix l [47] && (allP tgtB l && (unesc (ahead 63 l)).isSome)
def http : List UInt8 := [72, 84, 84, 80, 47]
def verTail (l : List UInt8) : Bool := match l with
  | [a, b, c] => digB a && (b == 46 && digB c)
  | _ => false
def isVersion (l : List UInt8) : Bool := Lib.hasPrefix l http && verTail (Lib.trimPrefix l http)
def blanks : List UInt8 := [32, 9]
def isValue (v : List UInt8) : Bool := allP valB v && (Lib.trimS v blanks == v)
def isField (n v : List UInt8) : Bool := isTok n && isValue v
/- the field that a line is -/
def fieldS (l : List UInt8) : Option (List UInt8 × List UInt8) :=
  if (!(behind 58 l).isEmpty && isField (ahead 58 l) (Lib.trimS ((behind 58 l).drop 1) blanks)) = true then some (ahead 58 l, Lib.trimS ((behind 58 l).drop 1) blanks) else none

def isPath (l : List UInt8) : Bool := (unesc l).isSome && Lib.hasPrefix l [47]
theorem isTarget_path (l : List UInt8) : isTarget l = (isPath (ahead 63 l) && allP tgtB l) := by
  have h : Lib.hasPrefix (ahead 63 l) [47] = Lib.hasPrefix l [47] := by
    cases l with
    | nil => rfl
    | cons c l =>
      unfold ahead Lib.hasPrefix
      by_cases hc : c = 63
      · subst hc; simp [List.isPrefixOf]
      · rw [List.takeWhile_cons_of_pos (by simpa using hc)]; simp [List.isPrefixOf]
  unfold isTarget isPath
  rw [h]
  cases Lib.hasPrefix l [47] <;> cases allP tgtB l <;> cases (unesc (ahead 63 l)).isSome <;> rfl
theorem unE_iff (l : List UInt8) : decide (unE l = 0) = (unesc l).isSome := by
  unfold unE; cases (unesc l).isSome <;> simp
theorem take_eq_of {a b : List UInt8} {k : Nat} (hl : a.length = b.length) (h : a.length ≤ k) (he : (a.take k).map low = (b.take k).map low) : alike a b = true := by
  rw [List.take_of_length_le h, List.take_of_length_le (by omega)] at he
  simp [alike, he]
theorem alike_ne {a b : List UInt8} (h : a.length ≠ b.length) : alike a b = false := by
  rw [alike, beq_eq_false_iff_ne]; intro he; have := congrArg List.length he; simp at this; exact h this
theorem alike_at {a b : ByteArray} {k : Nat} (ha : k < a.size) (hb : k < b.size) (h : low a[k] ≠ low b[k]) : alike a.data.toList b.data.toList = false := by
  rw [alike, beq_eq_false_iff_ne]; intro he
  have h1 : (a.data.toList.map low)[k]? = (b.data.toList.map low)[k]? := by rw [he]
  rw [List.getElem?_map, List.getElem?_map, List.getElem?_eq_getElem (by simpa using ha), List.getElem?_eq_getElem (by simpa using hb)] at h1
  simp only [Option.map_some, Option.some.injEq] at h1
  exact h h1
theorem mapLow_snoc {a b : ByteArray} {k : Nat} (ha : k < a.size) (hb : k < b.size) (h : low a[k] = low b[k]) (he : (a.data.toList.take k).map low = (b.data.toList.take k).map low) :
    (a.data.toList.take (k + 1)).map low = (b.data.toList.take (k + 1)).map low := by
  rw [take_snoc a k ha, take_snoc b k hb, List.map_append, List.map_append, he]; simp [h]

end Go.Proofs.YtaekbmfcnkpelaaGreatDoor.Pm

/- Plain mathematics, fourth part: a line of a head, told by what is left of the bytes and by how far its end may be. -/
namespace Go.Proofs.YtaekbmfcnkpelaaGreatDoor.Pm

/- the error, the line, and how many bytes it takes -/
def lineS (l : List UInt8) (lim : Nat) (long : Int) : Int × List UInt8 × Nat :=
  if (behind 10 (l.take lim)).isEmpty = true then (if l.length < lim then 2 else long, [], 0)
  else if Lib.hasSuffix (ahead 10 (l.take lim)) [13] = true then (0, Lib.trimSuffix (ahead 10 (l.take lim)) [13], (ahead 10 (l.take lim)).length + 1)
  else (3, [], 0)

theorem lineS_none {l : List UInt8} {lim : Nat} {long : Int} (h : behind 10 (l.take lim) = []) : lineS l lim long = (if l.length < lim then 2 else long, [], 0) := by
  unfold lineS; rw [h]; rfl
theorem lineS_cr {l r : List UInt8} {lim : Nat} {long : Int} (h : behind 10 (l.take lim) = 10 :: r) (hs : Lib.hasSuffix (ahead 10 (l.take lim)) [13] = true) :
    lineS l lim long = (0, Lib.trimSuffix (ahead 10 (l.take lim)) [13], (ahead 10 (l.take lim)).length + 1) := by
  unfold lineS; rw [h, hs]; rfl
theorem lineS_no {l r : List UInt8} {lim : Nat} {long : Int} (h : behind 10 (l.take lim) = 10 :: r) (hs : Lib.hasSuffix (ahead 10 (l.take lim)) [13] = false) :
    lineS l lim long = (3, [], 0) := by
  unfold lineS; rw [h, hs]; rfl
theorem near_eq (s : ByteArray) (k e : Nat) (hk : k ≤ s.size) : (s.extract k (min e s.size)).data.toList = (s.data.toList.drop k).take (e - k) := by
  obtain ⟨⟨l⟩⟩ := s
  rw [ByteArray.extract_mk]
  show (l.drop k).take (min e l.length - k) = (l.drop k).take (e - k)
  rw [List.take_eq_take_iff]
  simp only [List.length_drop]
  have : k ≤ l.length := hk
  omega

/- the first line: the error, the method, the target -/
def http11 : List UInt8 := [72, 84, 84, 80, 47, 49, 46, 49]
def firstS (l : List UInt8) : Int × List UInt8 × List UInt8 := match Lib.split l [32] with
  | [a, b, c] => if (isMethod a && (isTarget b && isVersion c)) = true then (if c = http11 then (0, a, b) else (7, [], [])) else (3, [], [])
  | _ => (3, [], [])
def partsB (s : ByteArray) : List ByteArray := Lib.splitB ⟨#[32]⟩ 0 (Lib.countB s ⟨#[32]⟩) s
theorem partsB_data (s : ByteArray) : (partsB s).map (·.data.toList) = Lib.split s.data.toList [32] := Lib.splitB_data _ _ _ _
theorem partsB_length (s : ByteArray) : (partsB s).length = Lib.countB s ⟨#[32]⟩ + 1 := Lib.splitB_all _ (by decide) _ _ _ rfl
theorem splitB_le (sep : ByteArray) : ∀ (k : Nat) (s x : ByteArray), x ∈ Lib.splitB sep 0 k s → x.size ≤ s.size
  | 0, s, x, h => by
    simp only [Lib.splitB, List.mem_singleton] at h; rw [h]; exact Nat.le_refl _
  | k + 1, s, x, h => by
    unfold Lib.splitB at h
    split at h
    · simp only [List.mem_singleton] at h; rw [h]; exact Nat.le_refl _
    · simp only [List.mem_cons] at h
      rcases h with rfl | h
      · simp; omega
      · have := splitB_le sep k _ x h
        simp at this; omega
theorem partsB_le {s x : ByteArray} (h : x ∈ partsB s) : x.size ≤ s.size := splitB_le _ _ _ _ h
theorem firstS_len {s : ByteArray} (h : ¬ (partsB s).length = 3) : firstS s.data.toList = (3, [], []) := by
  unfold firstS
  rw [← partsB_data]
  match hp : partsB s, h with
  | [], _ => rfl
  | [_], _ => rfl
  | [_, _], _ => rfl
  | [_, _, _], h => exact absurd rfl h
  | _ :: _ :: _ :: _ :: _, _ => rfl
theorem firstS_three {s a b c : ByteArray} (h : partsB s = [a, b, c]) : firstS s.data.toList = if (isMethod a.data.toList && (isTarget b.data.toList && isVersion c.data.toList)) = true then (if c.data.toList = http11 then (0, a.data.toList, b.data.toList) else (7, [], [])) else (3, [], []) := by
  unfold firstS
  rw [← partsB_data, h]; rfl

end Go.Proofs.YtaekbmfcnkpelaaGreatDoor.Pm
