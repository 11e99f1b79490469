/- Plain mathematics, tenth part: a line, told byte by byte. -/
import Derived.Test.YtnohadlihgjppaaGreatDoorPlainF
namespace Go.Proofs.YtnohadlihgjppaaGreatDoor.Pm

def noLF (l : List UInt8) (j : Nat) : Prop := ∀ x ∈ l.take j, x ≠ 10
theorem noLF_zero (l : List UInt8) : noLF l 0 := fun x hx => by simp at hx
theorem noLF_succ {l : List UInt8} {j : Nat} (h : j < l.length) (hn : noLF l j) (hc : l[j] ≠ 10) : noLF l (j + 1) := by
  intro x hx
  rw [List.take_succ_eq_append_getElem h, List.mem_append] at hx
  rcases hx with hx | hx
  · exact hn x hx
  · simp at hx; subst hx; exact hc
theorem noLF_split {l : List UInt8} (h : ∀ x ∈ l, x ≠ 10) : ahead 10 l = l ∧ behind 10 l = [] := by
  induction l with
  | nil => exact ⟨rfl, rfl⟩
  | cons c l ih =>
    have hc : c ≠ 10 := h c (by simp)
    obtain ⟨h1, h2⟩ := ih fun x hx => h x (by simp [hx])
    unfold ahead behind at *
    rw [List.takeWhile_cons_of_pos (by simpa using hc), List.dropWhile_cons_of_pos (by simpa using hc), h1, h2]
    exact ⟨rfl, rfl⟩
theorem LF_split {a r : List UInt8} (h : ∀ x ∈ a, x ≠ 10) : ahead 10 (a ++ 10 :: r) = a ∧ behind 10 (a ++ 10 :: r) = 10 :: r := by
  induction a with
  | nil => unfold ahead behind; exact ⟨by simp, by simp⟩
  | cons c l ih =>
    have hc : c ≠ 10 := h c (by simp)
    obtain ⟨h1, h2⟩ := ih fun x hx => h x (by simp [hx])
    unfold ahead behind at *
    rw [List.cons_append, List.takeWhile_cons_of_pos (by simpa using hc), List.dropWhile_cons_of_pos (by simpa using hc), h1, h2]
    exact ⟨rfl, rfl⟩
theorem line_over {l : List UInt8} {lim : Nat} {long : Int} (hn : noLF l lim) (h : lim ≤ l.length) : lineS l lim long = (long, [], 0) := by
  rw [lineS_none (noLF_split hn).2, if_neg (by omega)]
theorem line_more {l : List UInt8} {lim : Nat} {long : Int} (hn : noLF l l.length) (h : l.length < lim) : lineS l lim long = (2, [], 0) := by
  unfold noLF at hn
  rw [List.take_of_length_le (Nat.le_refl _)] at hn
  rw [lineS_none (by rw [List.take_of_length_le (by omega)]; exact (noLF_split hn).2), if_pos h]
theorem line_at {l : List UInt8} {j lim : Nat} (hn : noLF l j) (h : j < l.length) (hc : l[j] = 10) (hl : j < lim) :
    ahead 10 (l.take lim) = l.take j ∧ ∃ r, behind 10 (l.take lim) = 10 :: r := by
  have e : l.take lim = l.take j ++ 10 :: ((l.drop (j + 1)).take (lim - (j + 1))) := by
    have h1 : l = l.take j ++ 10 :: l.drop (j + 1) := by
      rw [← hc, List.getElem_cons_drop, List.take_append_drop]
    have hj : (l.take j).length = j := by simp; omega
    conv => lhs; rw [h1]
    rw [List.take_append, hj, List.take_of_length_le (by omega : (l.take j).length ≤ lim)]
    rw [show lim - j = (lim - (j + 1)) + 1 from by omega, List.take_succ_cons]
  rw [e]
  obtain ⟨h1, h2⟩ := LF_split (r := (l.drop (j + 1)).take (lim - (j + 1))) hn
  exact ⟨h1, _, h2⟩
theorem line_bad0 {l : List UInt8} {lim : Nat} {long : Int} (h : 0 < l.length) (hc : l[0] = 10) (hl : 0 < lim) : lineS l lim long = (3, [], 0) := by
  obtain ⟨h1, r, h2⟩ := line_at (noLF_zero l) h hc hl
  exact lineS_no h2 (by rw [h1]; rfl)
theorem suf13 {l : List UInt8} {j : Nat} (h : j < l.length) : Lib.hasSuffix (l.take (j + 1)) [13] = (l[j] == 13) := by
  rw [List.take_succ_eq_append_getElem h]
  unfold Lib.hasSuffix
  rw [Bool.eq_iff_iff, List.isSuffixOf_iff_suffix]
  constructor
  · intro ⟨t, ht⟩
    have := (List.append_inj' ht rfl).2
    simp at this; simp [← this]
  · intro h2
    simp at h2; rw [h2]; exact ⟨_, rfl⟩
theorem line_bad {l : List UInt8} {j lim : Nat} {long : Int} (hn : noLF l (j + 1)) (h : j + 1 < l.length) (hc : l[j + 1] = 10) (hl : j + 1 < lim) (hr : l[j] ≠ 13) : lineS l lim long = (3, [], 0) := by
  obtain ⟨h1, r, h2⟩ := line_at hn h hc hl
  exact lineS_no h2 (by rw [h1, suf13 (by omega)]; simpa using hr)
theorem line_good {l : List UInt8} {j lim : Nat} {long : Int} (hn : noLF l (j + 1)) (h : j + 1 < l.length) (hc : l[j + 1] = 10) (hl : j + 1 < lim) (hr : l[j] = 13) : lineS l lim long = (0, l.take j, j + 2) := by
  obtain ⟨h1, r, h2⟩ := line_at hn h hc hl
  have hs : Lib.hasSuffix (ahead 10 (l.take lim)) [13] = true := by rw [h1, suf13 (by omega)]; simpa using hr
  rw [lineS_cr h2 hs]
  unfold Lib.trimSuffix
  rw [if_pos hs, h1]
  have hj : (l.take (j + 1)).length = j + 1 := by simp; omega
  rw [hj, List.take_take]
  simp only [List.length_singleton]
  rw [show min (j + 1 - 1) (j + 1) = j from by omega]
end Go.Proofs.YtnohadlihgjppaaGreatDoor.Pm
