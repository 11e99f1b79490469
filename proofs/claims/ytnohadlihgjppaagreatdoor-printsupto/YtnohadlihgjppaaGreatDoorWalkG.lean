/- Reason, the program's and the reference's: both answer the words of the status. -/
import Derived.Test.YtnohadlihgjppaaGreatDoorPlainB
import Derived.Test.YtnohadlihgjppaaGreatDoorWalkA
namespace Go.Proofs.YtnohadlihgjppaaGreatDoor
open Go.RowKit

theorem ret_str {a b : ByteArray} (h : a = b) : Ending.returned (.string a) = .returned (.string b) := by rw [h]

theorem reason_yes {n c : Int} {b : ByteArray} (h : (n == c) = true) (hr : Pm.reasonB c = b) : b = Pm.reasonB n := by
  have : n = c := by simpa using h
  rw [this, hr]
theorem reason_no {n : Int} (h200 : (n == 200) = false) (h301 : (n == 301) = false) (h308 : (n == 308) = false) (h400 : (n == 400) = false) (h403 : (n == 403) = false) (h404 : (n == 404) = false) (h405 : (n == 405) = false) (h413 : (n == 413) = false) (h431 : (n == 431) = false) (h500 : (n == 500) = false) (h501 : (n == 501) = false) (h505 : (n == 505) = false) : (⟨#[83, 116, 97, 116, 117, 115]⟩ : ByteArray) = Pm.reasonB n := by
  have e : ∀ c : Int, (n == c) = false → ¬ c = n := fun c h h2 => by rw [h2] at h; simp at h
  unfold Pm.reasonB Pm.codes Pm.look
  rw [if_neg (e _ h200)]
  rw [Pm.look, if_neg (e _ h301)]
  rw [Pm.look, if_neg (e _ h308)]
  rw [Pm.look, if_neg (e _ h400)]
  rw [Pm.look, if_neg (e _ h403)]
  rw [Pm.look, if_neg (e _ h404)]
  rw [Pm.look, if_neg (e _ h405)]
  rw [Pm.look, if_neg (e _ h413)]
  rw [Pm.look, if_neg (e _ h431)]
  rw [Pm.look, if_neg (e _ h500)]
  rw [Pm.look, if_neg (e _ h501)]
  rw [Pm.look, if_neg (e _ h505)]
  rfl
theorem hit_of {n c : Int} {k : Nat} {t : List UInt8} {r : List (Int × List UInt8)} (hH : Pm.look Pm.codes n = Pm.look (Pm.codes.drop k) n) (hd : Pm.codes.drop k = (c, t) :: r) (h : (c == n) = true) : (⟨t.toArray⟩ : ByteArray) = Pm.reasonB n := by
  have : c = n := by simpa using h
  unfold Pm.reasonB; rw [hH, hd, Pm.look, if_pos this]
theorem miss_of {n c : Int} {k : Nat} {t : List UInt8} {r : List (Int × List UInt8)} (hH : Pm.look Pm.codes n = Pm.look (Pm.codes.drop k) n) (hd : Pm.codes.drop k = (c, t) :: r) (h : (c == n) = false) : Pm.look Pm.codes n = Pm.look r n := by
  have : ¬ c = n := by simpa using h
  rw [hH, hd, Pm.look, if_neg this]

end Go.Proofs.YtnohadlihgjppaaGreatDoor
