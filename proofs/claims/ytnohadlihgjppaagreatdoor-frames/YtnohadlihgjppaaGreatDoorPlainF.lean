/- Plain mathematics, sixth part: a head, line by line. -/
import Derived.Test.YtnohadlihgjppaaGreatDoorPlainE
namespace Go.Proofs.YtnohadlihgjppaaGreatDoor.Pm

abbrev Fld := List UInt8 × List UInt8
abbrev HeadR := Int × List UInt8 × List UInt8 × List Fld × Nat
def headBad (e : Int) : HeadR := (e, [], [], [], 0)
/- fuel; is it the first line; what is left of the bytes; how far a line's end may be; method, target, fields so far; how many bytes are used up -/
def headS : Nat → Bool → List UInt8 → Nat → List UInt8 → List UInt8 → List Fld → Nat → HeadR
  | 0, _, _, _, _, _, _, _ => headBad 2
  | f + 1, first, l, lim, m, t, fs, u =>
    if (lineS l lim 5).1 ≠ 0 then headBad (lineS l lim 5).1
    else if first = true then
      (if (firstS (lineS l lim 5).2.1).1 ≠ 0 then headBad (firstS (lineS l lim 5).2.1).1
       else headS f false (l.drop (lineS l lim 5).2.2) (lim - (lineS l lim 5).2.2) (firstS (lineS l lim 5).2.1).2.1 (firstS (lineS l lim 5).2.1).2.2 fs (u + (lineS l lim 5).2.2))
    else if (lineS l lim 5).2.1 = [] then (0, m, t, fs, u + (lineS l lim 5).2.2)
    else match fieldS (lineS l lim 5).2.1 with
      | none => headBad 3
      | some f' => headS f false (l.drop (lineS l lim 5).2.2) (lim - (lineS l lim 5).2.2) m t (fs ++ [f']) (u + (lineS l lim 5).2.2)

theorem lineS_ok {l : List UInt8} {lim : Nat} {long : Int} (hl : long ≠ 0) (h : (lineS l lim long).1 = 0) :
    1 ≤ (lineS l lim long).2.2 ∧ (lineS l lim long).2.2 ≤ lim ∧ (lineS l lim long).2.2 ≤ l.length ∧ (lineS l lim long).2.1.length + 2 ≤ (lineS l lim long).2.2 + 1 := by
  unfold lineS at h ⊢
  split at h
  · simp only at h; split at h
    · omega
    · exact absurd h hl
  · rename_i h1
    split at h
    · rename_i h2
      rw [if_neg h1, if_pos h2]
      simp only
      have h3 := congrArg List.length (ahead_behind 10 (l.take lim))
      rw [List.length_append, List.length_take] at h3
      have h4 : 1 ≤ (behind 10 (l.take lim)).length := by
        cases hb : behind 10 (l.take lim) with
        | nil => rw [hb] at h1; simp at h1
        | cons => simp
      have h5 : (Lib.trimSuffix (ahead 10 (l.take lim)) [13]).length + 1 ≤ (ahead 10 (l.take lim)).length := by
        unfold Lib.trimSuffix; rw [if_pos h2, List.length_take]
        unfold Lib.hasSuffix at h2
        have := (List.isSuffixOf_iff_suffix.1 h2).length_le
        simp at this ⊢; omega
      omega
    · simp at h

end Go.Proofs.YtnohadlihgjppaaGreatDoor.Pm
