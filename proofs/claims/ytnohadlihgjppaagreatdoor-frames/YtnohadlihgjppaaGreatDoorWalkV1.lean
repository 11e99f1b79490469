/- What a reader makes of a body, told in one piece or in chunks, as the plain mathematics says it; and what a framing without error tells. -/
import Derived.Test.YtnohadlihgjppaaGreatDoorWalkU
namespace Go.Proofs.YtnohadlihgjppaaGreatDoor
open Go.RowKit

theorem oneN_nonneg (l : List (List UInt8)) : 0 ≤ Pm.oneN l := by
  unfold Pm.oneN
  split
  · rename_i h
    unfold Pm.onePre
    cases l with
    | nil => simp
    | cons x r =>
      have h2 := List.all_eq_true.1 h x (by simp)
      simp only [Pm.numOk, Bool.and_eq_true, decide_eq_true_eq] at h2
      exact (Pm.numv_bd 10 x (by omega) (by omega) h2.1.2 (by omega)).1
  · exact Int.le_refl _
theorem framOf_len {fs : List (ByteArray × ByteArray)} {bd : Int} (h : (framOf fs bd).1 = 0) : 0 ≤ (framOf fs bd).2.2 ∧ (framOf fs bd).2.2 ≤ bd := by
  unfold framOf framS at h ⊢
  split at h <;> rename_i h1
  · simp at h
  rw [if_neg h1]
  split at h <;> rename_i h2
  · simp at h
  rw [if_neg h2]
  split at h <;> rename_i h3
  · simp at h
  rw [if_neg h3]
  split at h <;> rename_i h4
  · simp at h
  rw [if_neg h4]
  split at h <;> rename_i h5
  · simp at h
  rw [if_neg h5]
  exact ⟨oneN_nonneg _, by simpa using h5⟩

theorem bytes_body (b : Nat) (hd bd : Int) (hd' : Nat) (s : ByteArray) (k n : Nat) (w : World) (hr : RdAt b hd bd s k w) (hs : s.size ≤ maxLen) (hk : k ≤ s.size) (hn2 : n ≤ 281474976710656) :
    Calls Tryz.prog 59 #[.pointer (some ⟨b, 0, none⟩), .int .i64 n] w fun r w' =>
      r = .returned (.tuple #[.string ⟨(bodyS (s.data.toList.drop k) hd' bd false n).2.1.toArray⟩, .int .i64 (bodyS (s.data.toList.drop k) hd' bd false n).1]) ∧
      (∃ k', RdAt b hd bd s k' w' ∧ ((bodyS (s.data.toList.drop k) hd' bd false n).1 = 0 → k' = k + (bodyS (s.data.toList.drop k) hd' bd false n).2.2)) ∧ Kp b w w' := by
  have hl : (s.data.toList.drop k).length = s.size - k := by simp
  unfold bodyS
  rw [if_neg (by simp), hl]
  by_cases h : s.size - k < n
  · rw [if_pos h]
    refine (bytes_short b hd bd s k n w hr hs hk h (by omega)).mono ?_
    rintro e w' ⟨rfl, h1, h2⟩
    exact ⟨rfl, ⟨k, h1, fun h => by simp at h⟩, h2⟩
  · rw [if_neg h]
    refine (bytes_full b hd bd s k n w hr hs hk (by omega) hn2).mono ?_
    rintro e w' ⟨rfl, h1, h2⟩
    refine ⟨?_, ⟨k + n, h1, fun _ => rfl⟩, h2⟩
    have : s.extract k (k + n) = ⟨((s.data.toList.drop k).take n).toArray⟩ := by
      apply ByteArray.ext
      apply Array.ext'
      rw [Lib.extract_data]
      simp
    rw [this]

theorem chunks_body (b : Nat) (hd : Nat) (bd : Int) (s : ByteArray) (k n : Nat) (w : World) (hr : RdAt b hd bd s k w) (hs : s.size ≤ 1152921504606846976) (hk : k ≤ s.size) (hh : hd ≤ 500) (hb0 : 0 ≤ bd) (hb1 : bd ≤ 200) :
    Calls Tryz.prog 58 #[.pointer (some ⟨b, 0, none⟩)] w fun r w' =>
      r = .returned (.tuple #[.string ⟨(bodyS (s.data.toList.drop k) hd bd true n).2.1.toArray⟩, .int .i64 (bodyS (s.data.toList.drop k) hd bd true n).1]) ∧
      (∃ k', RdAt b hd bd s k' w' ∧ ((bodyS (s.data.toList.drop k) hd bd true n).1 = 0 → k' = k + (bodyS (s.data.toList.drop k) hd bd true n).2.2)) ∧ Kp b w w' := by
  have hl : (s.data.toList.drop k).length = s.size - k := by simp
  unfold bodyS
  rw [if_pos rfl, hl]
  exact chunks_any b hd bd s k w hr hs hk hh hb0 hb1

end Go.Proofs.YtnohadlihgjppaaGreatDoor
