/- Texts that follow one another, joined. -/
import Derived.Test.YtnohadlihgjppaaDoorJoin02
/- Plain mathematics, sixth part: a head, line by line. -/
namespace Go.Proofs.YtnohadlihgjppaaDoor.Pm

abbrev Fld := List UInt8 × List UInt8
abbrev HeadR := Int × List UInt8 × List UInt8 × List Fld × Nat
def headBad (e : Int) : HeadR := (e, [], [], [], 0)
/- fuel; is it the first line; what is left of the bytes; how far a line's end may be; method, target, fields so far; how many bytes are used up -/
def headS : Nat → Bool → List UInt8 → Nat → List UInt8 → List UInt8 → List Fld → Nat → HeadR
  | 0, _, _, _, _, _, _, _ => headBad 2
  | f + 1, first, l, lim, m, t, fs, u =>
    if (lineS l lim 5).1 ≠ 0 then headBad (lineS l lim 5).1
    else if first = true then
      (if (firstS (lineS l lim 5).2.1).1 ≠ 0 then headBad (firstS (lineS l lim 5).2.1).1
       else headS f false (l.drop (lineS l lim 5).2.2) (lim - (lineS l lim 5).2.2) (firstS (lineS l lim 5).2.1).2.1 (firstS (lineS l lim 5).2.1).2.2 fs (u + (lineS l lim 5).2.2))
    else if (lineS l lim 5).2.1 = [] then (0, m, t, fs, u + (lineS l lim 5).2.2)
    else match fieldS (lineS l lim 5).2.1 with
      | none => headBad 3
      | some f' => headS f false (l.drop (lineS l lim 5).2.2) (lim - (lineS l lim 5).2.2) m t (fs ++ [f']) (u + (lineS l lim 5).2.2)

theorem lineS_ok {l : List UInt8} {lim : Nat} {long : Int} (hl : long ≠ 0) (h : (lineS l lim long).1 = 0) :
    1 ≤ (lineS l lim long).2.2 ∧ (lineS l lim long).2.2 ≤ lim ∧ (lineS l lim long).2.2 ≤ l.length ∧ (lineS l lim long).2.1.length + 2 ≤ (lineS l lim long).2.2 + 1 := by
  unfold lineS at h ⊢
  split at h
  · simp only at h; split at h
    · omega
    · exact absurd h hl
  · rename_i h1
    split at h
    · rename_i h2
      rw [if_neg h1, if_pos h2]
      simp only
      have h3 := congrArg List.length (ahead_behind 10 (l.take lim))
      rw [List.length_append, List.length_take] at h3
      have h4 : 1 ≤ (behind 10 (l.take lim)).length := by
        cases hb : behind 10 (l.take lim) with
        | nil => rw [hb] at h1; simp at h1
        | cons => simp
      have h5 : (Lib.trimSuffix (ahead 10 (l.take lim)) [13]).length + 1 ≤ (ahead 10 (l.take lim)).length := by
        unfold Lib.trimSuffix; rw [if_pos h2, List.length_take]
        unfold Lib.hasSuffix at h2
        have := (List.isSuffixOf_iff_suffix.1 h2).length_le
        simp at this ⊢; omega
      omega
    · simp at h

end Go.Proofs.YtnohadlihgjppaaDoor.Pm

/- Plain mathematics, eleventh part: a text split at a byte, piece by piece; the first line as the reference reads it. -/
namespace Go.Proofs.YtnohadlihgjppaaDoor.Pm

theorem index1 (c : UInt8) (l : List UInt8) : Lib.index l [c] = if behind c l = [] then -1 else ((ahead c l).length : Int) := by
  induction l with
  | nil => rfl
  | cons b l ih =>
    rw [Lib.index]
    by_cases h : b = c
    · subst h
      unfold behind ahead
      simp [List.isPrefixOf]
    · have hp : ([c] : List UInt8).isPrefixOf (b :: l) = false := by simp [List.isPrefixOf, Ne.symm h]
      have h1 : behind c (b :: l) = behind c l := by unfold behind; rw [List.dropWhile_cons_of_pos (by simpa using h)]
      have h2 : ahead c (b :: l) = b :: ahead c l := by unfold ahead; rw [List.takeWhile_cons_of_pos (by simpa using h)]
      rw [hp, h1, h2, ih]
      by_cases h3 : behind c l = []
      · simp [h3]
      · rw [if_neg h3, if_neg h3]
        simp only [Bool.false_eq_true, if_false]
        rw [if_neg (by simp <;> omega)]; simp
theorem split_none {c : UInt8} {l : List UInt8} (h : behind c l = []) : Lib.split l [c] = [l] := by
  unfold Lib.split
  cases Lib.count l [c] with
  | zero => rfl
  | succ k => rw [Lib.splitK, index1, if_pos h]; rfl
theorem split_some {c : UInt8} {l r : List UInt8} (h : behind c l = c :: r) : Lib.split l [c] = ahead c l :: Lib.split r [c] := by
  have hi : Lib.index l [c] = ((ahead c l).length : Int) := by rw [index1, if_neg (by rw [h]; simp)]
  have hd : l.drop ((ahead c l).length + 1) = r := by
    rw [← List.drop_drop, drop_ahead, h]; rfl
  have hc : Lib.count l [c] = 1 + Lib.count r [c] := by
    have := Lib.count_hit (s := l) (sub := [c]) (by simp) hi
    rw [List.length_singleton, hd] at this; exact this
  unfold Lib.split
  rw [hc, Nat.add_comm, Lib.splitK, hi, if_neg (by simp <;> omega)]
  simp only [Int.toNat_natCast, Nat.add_zero, List.length_singleton]
  rw [hd, take_ahead]

/- the first line, as it is read from its blanks on -/
def firstR (l : List UInt8) : Int × List UInt8 × List UInt8 :=
  let m := ahead 32 l
  let r := (behind 32 l).drop 1
  let t := ahead 32 r
  let v := behind 32 r
  if behind 32 l = [] then (3, [], [])
  else if (isMethod m && (isTarget t && isVersion (v.drop 1)) && !v.isEmpty) = true then (if v.drop 1 = http11 then (0, m, t) else (7, [], []))
  else (3, [], [])
theorem ver_no32 {l : List UInt8} (h : isVersion l = true) : behind 32 l = [] := by
  unfold isVersion at h
  rw [Bool.and_eq_true] at h
  obtain ⟨h1, h2⟩ := h
  unfold Lib.hasPrefix at h1
  obtain ⟨r, hr⟩ := List.isPrefixOf_iff_prefix.1 h1
  subst hr
  have h3 : Lib.trimPrefix (http ++ r) http = r := by
    unfold Lib.trimPrefix Lib.hasPrefix
    rw [if_pos (List.isPrefixOf_iff_prefix.2 ⟨r, rfl⟩)]
    simp
  rw [h3] at h2
  unfold verTail at h2
  match r, h2 with
  | [a, b, c], h2 =>
    simp only [Bool.and_eq_true, beq_iff_eq] at h2
    obtain ⟨ha, rfl, hc⟩ := h2
    have na : a ≠ 32 := by rintro rfl; exact absurd ha (by decide)
    have nc : c ≠ 32 := by rintro rfl; exact absurd hc (by decide)
    simp [behind, http, na, nc]
theorem firstS_R (l : List UInt8) : firstS l = firstR l := by
  unfold firstS firstR
  simp only
  rcases behind_cases 32 l with h | ⟨r, h⟩
  · rw [split_none h, if_pos h]
  · rw [if_neg (by rw [h]; simp), split_some h, h]
    simp only [List.drop_one, List.tail_cons]
    rcases behind_cases 32 r with h2 | ⟨v, h2⟩
    · rw [split_none h2, h2]; simp
    · rw [split_some h2, h2]
      simp only [List.tail_cons, List.isEmpty_cons, Bool.not_false, Bool.and_true]
      rcases behind_cases 32 v with h3 | ⟨x, h3⟩
      · rw [split_none h3]; rfl
      · rw [split_some h3]
        have hv : isVersion v = false := by
          cases hv : isVersion v
          · rfl
          · rw [ver_no32 hv] at h3; simp at h3
        rw [hv]
        simp only [Bool.and_false, Bool.false_eq_true, if_false]
        have hne : Lib.split x [32] ≠ [] := by
          rcases behind_cases 32 x with h4 | ⟨y, h4⟩
          · rw [split_none h4]; simp
          · rw [split_some h4]; simp
        cases hs : Lib.split x [32] with
        | nil => exact absurd hs hne
        | cons y ys => rfl
end Go.Proofs.YtnohadlihgjppaaDoor.Pm
