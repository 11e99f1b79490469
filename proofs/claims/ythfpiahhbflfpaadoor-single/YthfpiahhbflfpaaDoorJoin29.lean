/- Texts that follow one another, joined. -/
import Derived.Test.YthfpiahhbflfpaaDoorJoin28
import Derived.Test.YthfpiahhbflfpaaDoorJoin07
import Derived.Test.YthfpiahhbflfpaaDoorJoin00
import Derived.Test.YthfpiahhbflfpaaDoorJoin05
/- The reference's Number, at bases ten and sixteen; nothing old in memory turns. -/
namespace Go.Proofs.YthfpiahhbflfpaaDoor
open Go.RowKit

def hexD : ByteArray := ⟨#[48, 49, 50, 51, 52, 53, 54, 55, 56, 57, 97, 98, 99, 100, 101, 102]⟩
theorem wrap64_nat {x : Nat} (h : x ≤ 9223372036854775807) : wrap64 (x : Int) = (x : Int) := by
  unfold wrap64; omega
theorem hexD_at : ∀ k : Nat, k < 16 → (hexD.extract k (k + 1)) = ⟨#[digC k]⟩ := by decide
theorem ret_strL {a : ByteArray} {l : List UInt8} (h : a.data.toList = l) : Ending.returned (.string a) = .returned (.string ⟨l.toArray⟩) := by
  congr 2; apply ByteArray.ext; rw [← h]
theorem numT_step (u : Nat) (h : 1 ≤ u) : numT 10 (-((10 * u + 8 : Nat) : Int)) = numT 10 (-(u : Int)) ++ [56] := by
  unfold numT
  rw [if_pos (by omega), if_pos (by omega), Int.natAbs_neg, Int.natAbs_neg, Int.natAbs_natCast, Int.natAbs_natCast, natT_big (b := 10) (u := 10 * u + 8) (by omega) (by omega), show (10 * u + 8) / 10 = u from by omega, show (10 * u + 8) % 10 = 8 from by omega]
  rfl
theorem numT_min (n m : Int) (hn : n = -9223372036854775808) (hm : m = -922337203685477580) : numT 10 n = numT 10 m ++ [56] := by
  have := numT_step 922337203685477580 (by omega)
  rw [show (-((10 * 922337203685477580 + 8 : Nat) : Int)) = n from by omega, show (-((922337203685477580 : Nat) : Int)) = m from by omega] at this
  exact this
end Go.Proofs.YthfpiahhbflfpaaDoor

/- Reason, the program's and the reference's: both answer the words of the status. -/
namespace Go.Proofs.YthfpiahhbflfpaaDoor
open Go.RowKit

theorem ret_str {a b : ByteArray} (h : a = b) : Ending.returned (.string a) = .returned (.string b) := by rw [h]

theorem reason_yes {n c : Int} {b : ByteArray} (h : (n == c) = true) (hr : Pm.reasonB c = b) : b = Pm.reasonB n := by
  have : n = c := by simpa using h
  rw [this, hr]
theorem reason_no {n : Int} (h200 : (n == 200) = false) (h301 : (n == 301) = false) (h308 : (n == 308) = false) (h400 : (n == 400) = false) (h403 : (n == 403) = false) (h404 : (n == 404) = false) (h405 : (n == 405) = false) (h413 : (n == 413) = false) (h431 : (n == 431) = false) (h500 : (n == 500) = false) (h501 : (n == 501) = false) (h505 : (n == 505) = false) : (⟨#[83, 116, 97, 116, 117, 115]⟩ : ByteArray) = Pm.reasonB n := by
  have e : ∀ c : Int, (n == c) = false → ¬ c = n := fun c h h2 => by rw [h2] at h; simp at h
  unfold Pm.reasonB Pm.codes Pm.look
  rw [if_neg (e _ h200)]
  rw [Pm.look, if_neg (e _ h301)]
  rw [Pm.look, if_neg (e _ h308)]
  rw [Pm.look, if_neg (e _ h400)]
  rw [Pm.look, if_neg (e _ h403)]
  rw [Pm.look, if_neg (e _ h404)]
  rw [Pm.look, if_neg (e _ h405)]
  rw [Pm.look, if_neg (e _ h413)]
  rw [Pm.look, if_neg (e _ h431)]
  rw [Pm.look, if_neg (e _ h500)]
  rw [Pm.look, if_neg (e _ h501)]
  rw [Pm.look, if_neg (e _ h505)]
  rfl
theorem hit_of {n c : Int} {k : Nat} {t : List UInt8} {r : List (Int × List UInt8)} (hH : Pm.look Pm.codes n = Pm.look (Pm.codes.drop k) n) (hd : Pm.codes.drop k = (c, t) :: r) (h : (c == n) = true) : (⟨t.toArray⟩ : ByteArray) = Pm.reasonB n := by
  have : c = n := by simpa using h
  unfold Pm.reasonB; rw [hH, hd, Pm.look, if_pos this]
theorem miss_of {n c : Int} {k : Nat} {t : List UInt8} {r : List (Int × List UInt8)} (hH : Pm.look Pm.codes n = Pm.look (Pm.codes.drop k) n) (hd : Pm.codes.drop k = (c, t) :: r) (h : (c == n) = false) : Pm.look Pm.codes n = Pm.look r n := by
  have : ¬ c = n := by simpa using h
  rw [hH, hd, Pm.look, if_neg this]

end Go.Proofs.YthfpiahhbflfpaaDoor
