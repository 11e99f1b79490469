/- Plain mathematics, fifth part: the number that all values tell. -/
import Derived.Test.YtnohadlihgjppaaGreatDoorPlainD
namespace Go.Proofs.YtnohadlihgjppaaGreatDoor.Pm

def onePre (l : List (List UInt8)) : Int := match l with
  | [] => 0
  | x :: _ => numv 10 x
def oneOk (l : List (List UInt8)) : Bool := l.all fun v => numOk 10 9 v && (numv 10 v == onePre l)
def oneN (l : List (List UInt8)) : Int := if oneOk l = true then onePre l else 0
def oneE (l : List (List UInt8)) : Int := if oneOk l = true then 0 else 3

theorem onePre_take {l : List (List UInt8)} {k : Nat} (h : 0 < k) : onePre (l.take k) = onePre l := by
  cases l with
  | nil => simp
  | cons x r => cases k with
    | zero => omega
    | succ k => rfl
theorem oneOk_bad1 {l : List (List UInt8)} {k : Nat} (h : k < l.length) (hn : numOk 10 9 l[k] = false) : oneOk l = false := by
  cases hc : oneOk l
  · rfl
  · have := List.all_eq_true.1 hc l[k] (List.getElem_mem h)
    rw [hn] at this; simp at this
theorem oneOk_bad2 {l : List (List UInt8)} {k : Nat} (h : k < l.length) (hk : 0 < k) (hn : numv 10 l[k] ≠ onePre (l.take k)) : oneOk l = false := by
  cases hc : oneOk l
  · rfl
  · have := List.all_eq_true.1 hc l[k] (List.getElem_mem h)
    rw [onePre_take hk] at hn
    simp at this; exact absurd this.2 hn
theorem onePre_step0 {l : List (List UInt8)} (h : 0 < l.length) : onePre (l.take 1) = numv 10 l[0] := by
  cases l with
  | nil => simp at h
  | cons x r => rfl
theorem oneOk_step {l : List (List UInt8)} {k : Nat} (h : k < l.length) (ho : oneOk (l.take k) = true) (hn : numOk 10 9 l[k] = true) (he : k = 0 ∨ numv 10 l[k] = onePre (l.take k)) :
    oneOk (l.take (k + 1)) = true ∧ onePre (l.take (k + 1)) = numv 10 l[k] := by
  by_cases hk : k = 0
  · subst hk
    have h1 := onePre_step0 h
    refine ⟨?_, h1⟩
    unfold oneOk
    rw [h1, List.take_succ_eq_append_getElem h]
    simp [hn]
  · have he' : numv 10 l[k] = onePre (l.take k) := he.resolve_left hk
    have e1 : onePre (l.take (k + 1)) = onePre (l.take k) := by rw [onePre_take (by omega), onePre_take (by omega)]
    refine ⟨?_, by rw [e1, he']⟩
    unfold oneOk at ho ⊢
    rw [e1, List.take_succ_eq_append_getElem h, List.all_append, ho, Bool.true_and]
    simp [hn, he']

end Go.Proofs.YtnohadlihgjppaaGreatDoor.Pm
