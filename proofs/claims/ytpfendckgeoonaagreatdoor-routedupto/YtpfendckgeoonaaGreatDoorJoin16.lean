/- Texts that follow one another, joined. -/
import Derived.Test.YtpfendckgeoonaaGreatDoorJoin15
/- What a reader makes of a body, told in one piece or in chunks, as the plain mathematics says it; and what a framing without error tells. -/
namespace Go.Proofs.YtpfendckgeoonaaGreatDoor
open Go.RowKit

theorem oneN_nonneg (l : List (List UInt8)) : 0 ≤ Pm.oneN l := by
  unfold Pm.oneN
  split
  · rename_i h
    unfold Pm.onePre
    cases l with
    | nil => simp
    | cons x r =>
      have h2 := List.all_eq_true.1 h x (by simp)
      simp only [Pm.numOk, Bool.and_eq_true, decide_eq_true_eq] at h2
      exact (Pm.numv_bd 10 x (by omega) (by omega) h2.1.2 (by omega)).1
  · exact Int.le_refl _
theorem framOf_len {fs : List (ByteArray × ByteArray)} {bd : Int} (h : (framOf fs bd).1 = 0) : 0 ≤ (framOf fs bd).2.2 ∧ (framOf fs bd).2.2 ≤ bd := by
  unfold framOf framS at h ⊢
  split at h <;> rename_i h1
  · simp at h
  rw [if_neg h1]
  split at h <;> rename_i h2
  · simp at h
  rw [if_neg h2]
  split at h <;> rename_i h3
  · simp at h
  rw [if_neg h3]
  split at h <;> rename_i h4
  · simp at h
  rw [if_neg h4]
  split at h <;> rename_i h5
  · simp at h
  rw [if_neg h5]
  exact ⟨oneN_nonneg _, by simpa using h5⟩

end Go.Proofs.YtpfendckgeoonaaGreatDoor

/- A reader's request, from the beginning of its bytes, is what the plain mathematics says; no old block but the reader's turns. -/
namespace Go.Proofs.YtpfendckgeoonaaGreatDoor
open Go.RowKit

theorem Kp.alloc {b : Nat} {w w1 : World} (h : Kp b w w1) (o : Obj) : Kp b w (w1.alloc o) := h.trans (Kp.of ((Below.refl _ _).alloc (Nat.le_refl _) _))
theorem owns_not {w : World} {B : Nat} {e : TypeId} {sz : Nat} {x : Value} {n : Nat} {xs : List Value} (ho : w.ownsRow B e sz x n xs) {g : Nat} (hg : x.ownBlock ≠ some g) (o : Nat) (v : Value) : (w.setCell ⟨g, o, none⟩ v).ownsRow B e sz x n xs := by
  obtain ⟨h1, h2⟩ := ho
  refine ⟨h1, ?_⟩
  rcases h2 with h2 | ⟨r, cap, cur, hv, hB, hr, h3⟩
  · exact .inl h2
  · refine .inr ⟨r, cap, cur, hv, hB, ?_, h3⟩
    have hne : r ≠ g := fun h => hg (by rw [hv, ← h]; rfl)
    rw [heap_setCell_other w ⟨g, o, none⟩ r v hne]; exact hr
end Go.Proofs.YtpfendckgeoonaaGreatDoor
