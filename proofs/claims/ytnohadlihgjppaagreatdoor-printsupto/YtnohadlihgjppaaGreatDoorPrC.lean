/- Plain mathematics: chunks that are told from the last one back. -/
import Derived.Test.YtnohadlihgjppaaGreatDoorPrB
namespace Go.Proofs.YtnohadlihgjppaaGreatDoor

def Back (l : List Int) (body : List UInt8) (j : Nat) (e : Int) (tail : List UInt8) : Prop :=
  (∀ s ∈ l.drop j, 1 ≤ s) ∧ e = (body.length : Int) - (l.drop j).sum ∧ 0 ≤ e ∧ tail = chL (l.drop j) (body.drop e.toNat)
theorem Back.start (l : List Int) (body : List UInt8) : Back l body l.length body.length endC := by
  refine ⟨?_, ?_, by omega, ?_⟩
  · rw [List.drop_length]; intro s hs; cases hs
  · rw [List.drop_length]; simp
  · rw [List.drop_length]; rfl
theorem drop_at_int (l : List Int) (j : Nat) (h : j < l.length) : l.drop j = l[j] :: l.drop (j + 1) := List.drop_eq_getElem_cons h
theorem Back.bad {l : List Int} {body : List UInt8} {j : Nat} {e : Int} {tail : List UInt8} (h : Back l body (j + 1) e tail) (hj : j < l.length) (hs : l[j] < 1 ∨ e < l[j]) : sizesOk l body.length = false := by
  obtain ⟨h1, h2, h3, _⟩ := h
  cases hk : sizesOk l body.length
  · rfl
  · obtain ⟨k1, k2⟩ := (sizesOk_iff l body.length (by omega)).mp hk
    have hm := k1 l[j] (List.getElem_mem hj)
    have hsum : l.sum = (l.take j).sum + (l[j] + (l.drop (j + 1)).sum) := by
      rw [← List.sum_cons, ← drop_at_int l j hj, ← List.sum_append, List.take_append_drop]
    have hp := sum_pos (l.take j) (fun x hx => k1 x (List.mem_of_mem_take hx))
    omega
theorem Back.next {l : List Int} {body : List UInt8} {j : Nat} {e : Int} {tail : List UInt8} (h : Back l body (j + 1) e tail) (hj : j < l.length) (h0 : ¬ l[j] < 1) (h4 : ¬ e < l[j]) :
    Back l body j (e - l[j]) (numT 16 l[j] ++ [13, 10] ++ (body.drop (e - l[j]).toNat).take l[j].toNat ++ [13, 10] ++ tail) := by
  obtain ⟨h1, h2, h3, h5⟩ := h
  refine ⟨?_, ?_, by omega, ?_⟩
  · rw [drop_at_int l j hj]; intro s hs
    rcases List.mem_cons.mp hs with rfl | hs
    · omega
    · exact h1 s hs
  · rw [drop_at_int l j hj, List.sum_cons]; omega
  · rw [drop_at_int l j hj, chL, h5, List.drop_drop]
    rw [show (e - l[j]).toNat + l[j].toNat = e.toNat from by omega]
theorem Back.done {l : List Int} {body : List UInt8} {e : Int} {tail : List UInt8} (h : Back l body 0 e tail) : (e = 0 → sizesOk l body.length = true ∧ tail = chL l body) ∧ (e ≠ 0 → sizesOk l body.length = false) := by
  obtain ⟨h1, h2, h3, h5⟩ := h
  rw [List.drop_zero] at h1 h2 h5
  constructor
  · intro he
    refine ⟨(sizesOk_iff l body.length (by omega)).mpr ⟨h1, by omega⟩, ?_⟩
    rw [h5, he]; rfl
  · intro he
    cases hk : sizesOk l body.length
    · rfl
    · obtain ⟨_, k2⟩ := (sizesOk_iff l body.length (by omega)).mp hk
      omega
end Go.Proofs.YtnohadlihgjppaaGreatDoor
