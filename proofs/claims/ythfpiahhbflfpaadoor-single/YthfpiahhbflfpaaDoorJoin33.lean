/- Texts that follow one another, joined. -/
import Derived.Test.YthfpiahhbflfpaaDoorJoin28
import Derived.Test.YthfpiahhbflfpaaDoorJoin32
import Derived.Test.YthfpiahhbflfpaaDoorJoin31
import Derived.Test.YthfpiahhbflfpaaDoorJoin22
/- Plain mathematics: the patterns and the paths that Single makes of numbers. -/
namespace Go.Proofs.YthfpiahhbflfpaaDoor

def pcOf (last : Bool) (i : Nat) (p : Nat) : List UInt8 :=
  if p = 0 then [97] else if p = 1 then [98] else if p = 2 ∨ p = 3 then [58, 112, digU i] else if p = 4 then [97, 46, 98] else if p = 5 then (if last = true then [42, 114] else [58, 113, digU i]) else []
def lastAt (zs : List Int) (i : Nat) : Bool := decide (i = 7 ∨ i + 1 = zs.length)
def patCs (zs : List Int) (k : Nat) : List (List UInt8) := (List.range k).map fun i => pcOf (lastAt zs i) i (pickN (zs.getD i 0) 7).toNat
def patP (zs : List Int) : List (List UInt8) := if zs = [] then [[]] else patCs zs (min zs.length 8)
theorem flatP_snoc (cs : List (List UInt8)) (c : List UInt8) : flatP (cs ++ [c]) = flatP cs ++ 47 :: c := by
  unfold flatP; rw [List.flatMap_append]; simp
theorem patCs_next (zs : List Int) (k : Nat) (h : k < zs.length) : patCs zs (k + 1) = patCs zs k ++ [pcOf (lastAt zs k) k (pickN zs[k] 7).toNat] := by
  unfold patCs
  rw [List.range_succ, List.map_append, List.map_cons, List.map_nil, List.getD_eq_getElem?_getD, List.getElem?_eq_getElem h]; rfl
theorem pcOf_at (last : Bool) (i p : Nat) : pcAt i (pcOf last i p) := by
  unfold pcOf pcAt
  repeat' split
  all_goals simp
theorem pcOf_rest {last : Bool} {i p : Nat} (h : pcOf last i p = [42, 114]) : last = true := by
  unfold pcOf at h
  repeat' split at h
  all_goals first | (simp at h; done) | assumption
theorem patCs_len (zs : List Int) (k : Nat) : (patCs zs k).length = k := by unfold patCs; simp
theorem patCs_get (zs : List Int) (k i : Nat) (h : i < (patCs zs k).length) : (patCs zs k)[i] = pcOf (lastAt zs i) i (pickN (zs.getD i 0) 7).toNat := by simp [patCs]
theorem patP_made (zs : List Int) : Made (patP zs) := by
  unfold patP
  by_cases h : zs = []
  · rw [if_pos h]
    exact ⟨by simp, by simp, fun i hi => by
      have : i = 0 := by simp at hi; omega
      subst this; simp [pcAt], fun i hi he => by
      have : i = 0 := by simp at hi; omega
      subst this; simp at he⟩
  · rw [if_neg h]
    have hl : 0 < zs.length := List.length_pos_iff.mpr h
    refine ⟨fun e => ?_, ?_, fun i hi => ?_, fun i hi he => ?_⟩
    · have := congrArg List.length e
      rw [patCs_len, List.length_nil] at this; omega
    · rw [patCs_len]; omega
    · rw [patCs_get]; exact pcOf_at _ _ _
    · rw [patCs_get] at he
      rw [patCs_len] at hi ⊢
      have := of_decide_eq_true (pcOf_rest he)
      omega
def ptOf (p : Nat) : List UInt8 :=
  if p = 0 then [97] else if p = 1 then [98] else if p = 2 then [37, 54, 49] else if p = 3 then [120, 37, 50, 70, 121] else if p = 4 then [97, 46, 98] else if p = 5 then [97, 37, 48, 100, 37, 48, 97] else []
def ptCs (zs : List Int) (k : Nat) : List (List UInt8) := (List.range k).map fun i => ptOf (pickN (zs.getD i 0) 7).toNat
def pathL (zs : List Int) : List UInt8 := if zs = [] then [47] else flatP (ptCs zs (min zs.length 10))
theorem ptCs_next (zs : List Int) (k : Nat) (h : k < zs.length) : ptCs zs (k + 1) = ptCs zs k ++ [ptOf (pickN zs[k] 7).toNat] := by
  unfold ptCs
  rw [List.range_succ, List.map_append, List.map_cons, List.map_nil, List.getD_eq_getElem?_getD, List.getElem?_eq_getElem h]; rfl
theorem ptOf_un (p : Nat) (r : List UInt8) (h : (Pm.unesc r).isSome) : (Pm.unesc (47 :: ptOf p ++ r)).isSome := by
  obtain ⟨o, ho⟩ := Option.isSome_iff_exists.1 h
  have e1 : ∀ (c : UInt8) (l : List UInt8), c ≠ 37 → (Pm.unesc l).isSome → (Pm.unesc (c :: l)).isSome := fun c l hc hl => by
    rw [Pm.unesc_plain c l hc]; simpa using hl
  have e2 : ∀ (a b : UInt8) (l : List UInt8), Pm.digsB 16 [a, b] = true → (Pm.unesc l).isSome → (Pm.unesc (37 :: a :: b :: l)).isSome := fun a b l hc hl => by
    rw [Pm.unesc_esc a b l, if_pos hc]; simpa using hl
  unfold ptOf
  refine e1 47 _ (by decide) ?_
  split
  · exact e1 97 _ (by decide) h
  split
  · exact e1 98 _ (by decide) h
  split
  · exact e2 54 49 _ (by decide) h
  split
  · exact e1 120 _ (by decide) (e2 50 70 _ (by decide) (e1 121 _ (by decide) h))
  split
  · exact e1 97 _ (by decide) (e1 46 _ (by decide) (e1 98 _ (by decide) h))
  split
  · exact e1 97 _ (by decide) (e2 48 100 _ (by decide) (e2 48 97 _ (by decide) h))
  · exact h
theorem flat_un (l : List Nat) : (Pm.unesc (flatP (l.map ptOf))).isSome := by
  induction l with
  | nil => rfl
  | cons p l ih =>
    have e : flatP ((p :: l).map ptOf) = 47 :: ptOf p ++ flatP (l.map ptOf) := by simp [flatP]
    rw [e]; exact ptOf_un p _ ih
theorem path_ok (zs : List Int) : Pm.isPath (pathL zs) = true := by
  unfold pathL
  by_cases h : zs = []
  · rw [if_pos h]; decide
  · rw [if_neg h]
    have hl : 0 < zs.length := List.length_pos_iff.mpr h
    have e : ptCs zs (min zs.length 10) = ((List.range (min zs.length 10)).map fun i => (pickN (zs.getD i 0) 7).toNat).map ptOf := by unfold ptCs; rw [List.map_map]; rfl
    unfold Pm.isPath
    rw [e, flat_un]
    obtain ⟨n, hn⟩ : ∃ n, min zs.length 10 = n + 1 := ⟨min zs.length 10 - 1, by omega⟩
    rw [hn, List.range_succ_eq_map]
    simp [flatP, Lib.hasPrefix]
theorem ptOf_len (p : Nat) : (ptOf p).length ≤ 7 := by
  unfold ptOf
  repeat' split
  all_goals simp
theorem ptCs_size (zs : List Int) (k : Nat) : (flatP (ptCs zs k)).length ≤ 8 * k := by
  induction k with
  | zero => simp [ptCs, flatP]
  | succ k ih =>
    have e : ptCs zs (k + 1) = ptCs zs k ++ [ptOf (pickN (zs.getD k 0) 7).toNat] := by unfold ptCs; rw [List.range_succ, List.map_append]; rfl
    have := ptOf_len (pickN (zs.getD k 0) 7).toNat
    rw [e, flatP_snoc, List.length_append, List.length_cons]; omega
theorem patCs_size (zs : List Int) (k : Nat) : (flatP (patCs zs k)).length ≤ 4 * k := by
  induction k with
  | zero => simp [patCs, flatP]
  | succ k ih =>
    have e : patCs zs (k + 1) = patCs zs k ++ [pcOf (lastAt zs k) k (pickN (zs.getD k 0) 7).toNat] := by unfold patCs; rw [List.range_succ, List.map_append]; rfl
    have := at_len (pcOf_at (lastAt zs k) k (pickN (zs.getD k 0) 7).toNat)
    rw [e, flatP_snoc, List.length_append, List.length_cons]; omega
end Go.Proofs.YthfpiahhbflfpaaDoor

/- The reference's Printable, of fields that lie anywhere in a block; nothing old in memory turns. -/
namespace Go.Proofs.YthfpiahhbflfpaaDoor
open Go.RowKit

theorem valsA (fs : List Pr2) {a b : List UInt8} (h : a.map Pm.low = b.map Pm.low) : valsOf fs a = valsOf fs b := by
  unfold valsOf Pm.alike; rw [h]
end Go.Proofs.YthfpiahhbflfpaaDoor
