/- Texts that follow one another, joined. -/
import Derived.Test.YtfdhmeojkagokaaGreatDoorJoin00
import Derived.Lib.Split
import Derived.Lib.SplitLaws
/- Plain mathematics, fourth part: a line of a head, told by what is left of the bytes and by how far its end may be. -/
namespace Go.Proofs.YtfdhmeojkagokaaGreatDoor.Pm

/- the error, the line, and how many bytes it takes -/
def lineS (l : List UInt8) (lim : Nat) (long : Int) : Int × List UInt8 × Nat :=
  if (behind 10 (l.take lim)).isEmpty = true then (if l.length < lim then 2 else long, [], 0)
  else if Lib.hasSuffix (ahead 10 (l.take lim)) [13] = true then (0, Lib.trimSuffix (ahead 10 (l.take lim)) [13], (ahead 10 (l.take lim)).length + 1)
  else (3, [], 0)

/- the first line: the error, the method, the target -/
def http11 : List UInt8 := [72, 84, 84, 80, 47, 49, 46, 49]
def firstS (l : List UInt8) : Int × List UInt8 × List UInt8 := match Lib.split l [32] with
  | [a, b, c] => if (isMethod a && (isTarget b && isVersion c)) = true then (if c = http11 then (0, a, b) else (7, [], [])) else (3, [], [])
  | _ => (3, [], [])
theorem splitB_le (sep : ByteArray) : ∀ (k : Nat) (s x : ByteArray), x ∈ Lib.splitB sep 0 k s → x.size ≤ s.size
  | 0, s, x, h => by
    simp only [Lib.splitB, List.mem_singleton] at h; rw [h]; exact Nat.le_refl _
  | k + 1, s, x, h => by
    unfold Lib.splitB at h
    split at h
    · simp only [List.mem_singleton] at h; rw [h]; exact Nat.le_refl _
    · simp only [List.mem_cons] at h
      rcases h with rfl | h
      · simp; omega
      · have := splitB_le sep k _ x h
        simp at this; omega
end Go.Proofs.YtfdhmeojkagokaaGreatDoor.Pm

/- Plain mathematics, fifth part: the number that all values tell. -/
namespace Go.Proofs.YtfdhmeojkagokaaGreatDoor.Pm

end Go.Proofs.YtfdhmeojkagokaaGreatDoor.Pm

/- Plain mathematics, sixth part: a head, line by line. -/
namespace Go.Proofs.YtfdhmeojkagokaaGreatDoor.Pm

abbrev Fld := List UInt8 × List UInt8
abbrev HeadR := Int × List UInt8 × List UInt8 × List Fld × Nat
def headBad (e : Int) : HeadR := (e, [], [], [], 0)
/- fuel; is it the first line; what is left of the bytes; how far a line's end may be; method, target, fields so far; how many bytes are used up -/
def headS : Nat → Bool → List UInt8 → Nat → List UInt8 → List UInt8 → List Fld → Nat → HeadR
  | 0, _, _, _, _, _, _, _ => headBad 2
  | f + 1, first, l, lim, m, t, fs, u =>
    if (lineS l lim 5).1 ≠ 0 then headBad (lineS l lim 5).1
    else if first = true then
      (if (firstS (lineS l lim 5).2.1).1 ≠ 0 then headBad (firstS (lineS l lim 5).2.1).1
       else headS f false (l.drop (lineS l lim 5).2.2) (lim - (lineS l lim 5).2.2) (firstS (lineS l lim 5).2.1).2.1 (firstS (lineS l lim 5).2.1).2.2 fs (u + (lineS l lim 5).2.2))
    else if (lineS l lim 5).2.1 = [] then (0, m, t, fs, u + (lineS l lim 5).2.2)
    else match fieldS (lineS l lim 5).2.1 with
      | none => headBad 3
      | some f' => headS f false (l.drop (lineS l lim 5).2.2) (lim - (lineS l lim 5).2.2) m t (fs ++ [f']) (u + (lineS l lim 5).2.2)

end Go.Proofs.YtfdhmeojkagokaaGreatDoor.Pm

/- Plain mathematics, eleventh part: a text split at a byte, piece by piece; the first line as the reference reads it. -/
namespace Go.Proofs.YtfdhmeojkagokaaGreatDoor.Pm

theorem index1 (c : UInt8) (l : List UInt8) : Lib.index l [c] = if behind c l = [] then -1 else ((ahead c l).length : Int) := by
  induction l with
  | nil => rfl
  | cons b l ih =>
    rw [Lib.index]
    by_cases h : b = c
    · subst h
      unfold behind ahead
      simp [List.isPrefixOf]
    · have hp : ([c] : List UInt8).isPrefixOf (b :: l) = false := by simp [List.isPrefixOf, Ne.symm h]
      have h1 : behind c (b :: l) = behind c l := by unfold behind; rw [List.dropWhile_cons_of_pos (by simpa using h)]
      have h2 : ahead c (b :: l) = b :: ahead c l := by unfold ahead; rw [List.takeWhile_cons_of_pos (by simpa using h)]
      rw [hp, h1, h2, ih]
      by_cases h3 : behind c l = []
      · simp [h3]
      · rw [if_neg h3, if_neg h3]
        simp only [Bool.false_eq_true, if_false]
        rw [if_neg (by simp <;> omega)]; simp
theorem split_none {c : UInt8} {l : List UInt8} (h : behind c l = []) : Lib.split l [c] = [l] := by
  unfold Lib.split
  cases Lib.count l [c] with
  | zero => rfl
  | succ k => rw [Lib.splitK, index1, if_pos h]; rfl
theorem split_some {c : UInt8} {l r : List UInt8} (h : behind c l = c :: r) : Lib.split l [c] = ahead c l :: Lib.split r [c] := by
  have hi : Lib.index l [c] = ((ahead c l).length : Int) := by rw [index1, if_neg (by rw [h]; simp)]
  have hd : l.drop ((ahead c l).length + 1) = r := by
    rw [← List.drop_drop, drop_ahead, h]; rfl
  have hc : Lib.count l [c] = 1 + Lib.count r [c] := by
    have := Lib.count_hit (s := l) (sub := [c]) (by simp) hi
    rw [List.length_singleton, hd] at this; exact this
  unfold Lib.split
  rw [hc, Nat.add_comm, Lib.splitK, hi, if_neg (by simp <;> omega)]
  simp only [Int.toNat_natCast, Nat.add_zero, List.length_singleton]
  rw [hd, take_ahead]

/- the first line, as it is read from its blanks on -/
end Go.Proofs.YtfdhmeojkagokaaGreatDoor.Pm
