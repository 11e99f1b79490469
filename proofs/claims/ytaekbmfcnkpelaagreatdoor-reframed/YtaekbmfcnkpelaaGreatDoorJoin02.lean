/- Texts that follow one another, joined. -/
import Derived.Test.YtaekbmfcnkpelaaGreatDoorJoin01
/- Plain mathematics, fifth part: the number that all values tell. -/
namespace Go.Proofs.YtaekbmfcnkpelaaGreatDoor.Pm

def onePre (l : List (List UInt8)) : Int := match l with
  | [] => 0
  | x :: _ => numv 10 x
def oneOk (l : List (List UInt8)) : Bool := l.all fun v => numOk 10 9 v && (numv 10 v == onePre l)
def oneN (l : List (List UInt8)) : Int := if oneOk l = true then onePre l else 0
def oneE (l : List (List UInt8)) : Int := if oneOk l = true then 0 else 3

theorem onePre_take {l : List (List UInt8)} {k : Nat} (h : 0 < k) : onePre (l.take k) = onePre l := by
  cases l with
  | nil => simp
  | cons x r => cases k with
    | zero => omega
    | succ k => rfl
theorem oneOk_bad1 {l : List (List UInt8)} {k : Nat} (h : k < l.length) (hn : numOk 10 9 l[k] = false) : oneOk l = false := by
  cases hc : oneOk l
  · rfl
  · have := List.all_eq_true.1 hc l[k] (List.getElem_mem h)
    rw [hn] at this; simp at this
theorem oneOk_bad2 {l : List (List UInt8)} {k : Nat} (h : k < l.length) (hk : 0 < k) (hn : numv 10 l[k] ≠ onePre (l.take k)) : oneOk l = false := by
  cases hc : oneOk l
  · rfl
  · have := List.all_eq_true.1 hc l[k] (List.getElem_mem h)
    rw [onePre_take hk] at hn
    simp at this; exact absurd this.2 hn
theorem onePre_step0 {l : List (List UInt8)} (h : 0 < l.length) : onePre (l.take 1) = numv 10 l[0] := by
  cases l with
  | nil => simp at h
  | cons x r => rfl
theorem oneOk_step {l : List (List UInt8)} {k : Nat} (h : k < l.length) (ho : oneOk (l.take k) = true) (hn : numOk 10 9 l[k] = true) (he : k = 0 ∨ numv 10 l[k] = onePre (l.take k)) :
    oneOk (l.take (k + 1)) = true ∧ onePre (l.take (k + 1)) = numv 10 l[k] := by
  by_cases hk : k = 0
  · subst hk
    have h1 := onePre_step0 h
    refine ⟨?_, h1⟩
    unfold oneOk
    rw [h1, List.take_succ_eq_append_getElem h]
    simp [hn]
  · have he' : numv 10 l[k] = onePre (l.take k) := he.resolve_left hk
    have e1 : onePre (l.take (k + 1)) = onePre (l.take k) := by rw [onePre_take (by omega), onePre_take (by omega)]
    refine ⟨?_, by rw [e1, he']⟩
    unfold oneOk at ho ⊢
    rw [e1, List.take_succ_eq_append_getElem h, List.all_append, ho, Bool.true_and]
    simp [hn, he']

end Go.Proofs.YtaekbmfcnkpelaaGreatDoor.Pm

/- Plain mathematics, sixth part: a head, line by line. -/
namespace Go.Proofs.YtaekbmfcnkpelaaGreatDoor.Pm

abbrev Fld := List UInt8 × List UInt8
abbrev HeadR := Int × List UInt8 × List UInt8 × List Fld × Nat
def headBad (e : Int) : HeadR := (e, [], [], [], 0)
/- fuel; is it the first line; what is left of the bytes; how far a line's end may be; method, target, fields so far; how many bytes are used up -/
def headS : Nat → Bool → List UInt8 → Nat → List UInt8 → List UInt8 → List Fld → Nat → HeadR
  | 0, _, _, _, _, _, _, _ => headBad 2
  | f + 1, first, l, lim, m, t, fs, u =>
    if (lineS l lim 5).1 ≠ 0 then headBad (lineS l lim 5).1
    else if first = true then
      (if (firstS (lineS l lim 5).2.1).1 ≠ 0 then headBad (firstS (lineS l lim 5).2.1).1
       else headS f false (l.drop (lineS l lim 5).2.2) (lim - (lineS l lim 5).2.2) (firstS (lineS l lim 5).2.1).2.1 (firstS (lineS l lim 5).2.1).2.2 fs (u + (lineS l lim 5).2.2))
    else if (lineS l lim 5).2.1 = [] then (0, m, t, fs, u + (lineS l lim 5).2.2)
    else match fieldS (lineS l lim 5).2.1 with
      | none => headBad 3
      | some f' => headS f false (l.drop (lineS l lim 5).2.2) (lim - (lineS l lim 5).2.2) m t (fs ++ [f']) (u + (lineS l lim 5).2.2)

theorem lineS_ok {l : List UInt8} {lim : Nat} {long : Int} (hl : long ≠ 0) (h : (lineS l lim long).1 = 0) :
    1 ≤ (lineS l lim long).2.2 ∧ (lineS l lim long).2.2 ≤ lim ∧ (lineS l lim long).2.2 ≤ l.length ∧ (lineS l lim long).2.1.length + 2 ≤ (lineS l lim long).2.2 + 1 := by
  unfold lineS at h ⊢
  split at h
  · simp only at h; split at h
    · omega
    · exact absurd h hl
  · rename_i h1
    split at h
    · rename_i h2
      rw [if_neg h1, if_pos h2]
      simp only
      have h3 := congrArg List.length (ahead_behind 10 (l.take lim))
      rw [List.length_append, List.length_take] at h3
      have h4 : 1 ≤ (behind 10 (l.take lim)).length := by
        cases hb : behind 10 (l.take lim) with
        | nil => rw [hb] at h1; simp at h1
        | cons => simp
      have h5 : (Lib.trimSuffix (ahead 10 (l.take lim)) [13]).length + 1 ≤ (ahead 10 (l.take lim)).length := by
        unfold Lib.trimSuffix; rw [if_pos h2, List.length_take]
        unfold Lib.hasSuffix at h2
        have := (List.isSuffixOf_iff_suffix.1 h2).length_le
        simp at this ⊢; omega
      omega
    · simp at h

end Go.Proofs.YtaekbmfcnkpelaaGreatDoor.Pm
