/- Reason, the program's and the reference's: both answer the words of the status. -/
import Derived.Test.YtnohadlihgjppaaDoorPlainB
import Derived.Test.YtnohadlihgjppaaDoorWalkA
namespace Go.Proofs.YtnohadlihgjppaaDoor
open Go.RowKit

theorem ret_str {a b : ByteArray} (h : a = b) : Ending.returned (.string a) = .returned (.string b) := by rw [h]

theorem reason_yes {n c : Int} {b : ByteArray} (h : (n == c) = true) (hr : Pm.reasonB c = b) : b = Pm.reasonB n := by
  have : n = c := by simpa using h
  rw [this, hr]
theorem reason_no {n : Int} (h200 : (n == 200) = false) (h301 : (n == 301) = false) (h308 : (n == 308) = false) (h400 : (n == 400) = false) (h403 : (n == 403) = false) (h404 : (n == 404) = false) (h405 : (n == 405) = false) (h413 : (n == 413) = false) (h431 : (n == 431) = false) (h500 : (n == 500) = false) (h501 : (n == 501) = false) (h505 : (n == 505) = false) : (⟨#[83, 116, 97, 116, 117, 115]⟩ : ByteArray) = Pm.reasonB n := by
  have e : ∀ c : Int, (n == c) = false → ¬ c = n := fun c h h2 => by rw [h2] at h; simp at h
  unfold Pm.reasonB Pm.codes Pm.look
  rw [if_neg (e _ h200)]
  rw [Pm.look, if_neg (e _ h301)]
  rw [Pm.look, if_neg (e _ h308)]
  rw [Pm.look, if_neg (e _ h400)]
  rw [Pm.look, if_neg (e _ h403)]
  rw [Pm.look, if_neg (e _ h404)]
  rw [Pm.look, if_neg (e _ h405)]
  rw [Pm.look, if_neg (e _ h413)]
  rw [Pm.look, if_neg (e _ h431)]
  rw [Pm.look, if_neg (e _ h500)]
  rw [Pm.look, if_neg (e _ h501)]
  rw [Pm.look, if_neg (e _ h505)]
  rfl
theorem hit_of {n c : Int} {k : Nat} {t : List UInt8} {r : List (Int × List UInt8)} (hH : Pm.look Pm.codes n = Pm.look (Pm.codes.drop k) n) (hd : Pm.codes.drop k = (c, t) :: r) (h : (c == n) = true) : (⟨t.toArray⟩ : ByteArray) = Pm.reasonB n := by
  have : c = n := by simpa using h
  unfold Pm.reasonB; rw [hH, hd, Pm.look, if_pos this]
theorem miss_of {n c : Int} {k : Nat} {t : List UInt8} {r : List (Int × List UInt8)} (hH : Pm.look Pm.codes n = Pm.look (Pm.codes.drop k) n) (hd : Pm.codes.drop k = (c, t) :: r) (h : (c == n) = false) : Pm.look Pm.codes n = Pm.look r n := by
  have : ¬ c = n := by simpa using h
  rw [hH, hd, Pm.look, if_neg this]

set_option maxHeartbeats 800000 in
theorem wReason_any (n : Int) (w : World) :
    Calls Tryd.prog 63 #[.int .i64 n] w fun e w' => e = .returned (.string (Pm.reasonB n)) ∧ w' = w := by
  go_enter Tryd.func63, Tryd.ntmps63
  go_wp2
  all_goals
    go_ret
    refine ⟨ret_str ?_, rfl⟩
    first
      | exact reason_yes (c := 200) (by assumption) rfl
      | exact reason_yes (c := 301) (by assumption) rfl
      | exact reason_yes (c := 308) (by assumption) rfl
      | exact reason_yes (c := 400) (by assumption) rfl
      | exact reason_yes (c := 403) (by assumption) rfl
      | exact reason_yes (c := 404) (by assumption) rfl
      | exact reason_yes (c := 405) (by assumption) rfl
      | exact reason_yes (c := 413) (by assumption) rfl
      | exact reason_yes (c := 431) (by assumption) rfl
      | exact reason_yes (c := 500) (by assumption) rfl
      | exact reason_yes (c := 501) (by assumption) rfl
      | exact reason_yes (c := 505) (by assumption) rfl
      | exact reason_no (by assumption) (by assumption) (by assumption) (by assumption) (by assumption) (by assumption) (by assumption) (by assumption) (by assumption) (by assumption) (by assumption) (by assumption)

set_option maxHeartbeats 1600000 in
theorem rReason_any (n : Int) (w : World) :
    Calls Tryd.prog 44 #[.int .i64 n] w fun e w' => e = .returned (.string (Pm.reasonB n)) ∧ Below w.heap.size w w' := by
  have hfin : ∀ x y : Obj, Hid (Below w.heap.size w ((w.alloc x).alloc y)) := fun x y => ((Below.refl _ _).alloc (Nat.le_refl _) _).alloc (by simp) _
  go_enter Tryd.func44, Tryd.ntmps44
  go_wp2
  go_loop [5] (fun i => ∃ k : Nat, k ≤ 12 ∧ i = .int .i64 k ∧ Hid (Pm.look Pm.codes n = Pm.look (Pm.codes.drop k) n)) (fun i => 12 - (intOf i).toNat)
  case atStart => exact ⟨0, by omega, rfl, rfl⟩
  case round =>
    obtain ⟨k, hk, rfl, H⟩ := hrel
    obtain rfl | rfl | rfl | rfl | rfl | rfl | rfl | rfl | rfl | rfl | rfl | rfl | rfl : k = 0 ∨ k = 1 ∨ k = 2 ∨ k = 3 ∨ k = 4 ∨ k = 5 ∨ k = 6 ∨ k = 7 ∨ k = 8 ∨ k = 9 ∨ k = 10 ∨ k = 11 ∨ k = 12 := by omega
    · go_wp2
      · go_ret
        exact ⟨ret_str (hit_of H.out rfl (by assumption)), (hfin _ _).out⟩
      · exact ⟨⟨1, by omega, rfl, miss_of H.out rfl (by assumption)⟩, by simp [intOf]⟩
    · go_wp2
      · go_ret
        exact ⟨ret_str (hit_of H.out rfl (by assumption)), (hfin _ _).out⟩
      · exact ⟨⟨2, by omega, rfl, miss_of H.out rfl (by assumption)⟩, by simp [intOf]⟩
    · go_wp2
      · go_ret
        exact ⟨ret_str (hit_of H.out rfl (by assumption)), (hfin _ _).out⟩
      · exact ⟨⟨3, by omega, rfl, miss_of H.out rfl (by assumption)⟩, by simp [intOf]⟩
    · go_wp2
      · go_ret
        exact ⟨ret_str (hit_of H.out rfl (by assumption)), (hfin _ _).out⟩
      · exact ⟨⟨4, by omega, rfl, miss_of H.out rfl (by assumption)⟩, by simp [intOf]⟩
    · go_wp2
      · go_ret
        exact ⟨ret_str (hit_of H.out rfl (by assumption)), (hfin _ _).out⟩
      · exact ⟨⟨5, by omega, rfl, miss_of H.out rfl (by assumption)⟩, by simp [intOf]⟩
    · go_wp2
      · go_ret
        exact ⟨ret_str (hit_of H.out rfl (by assumption)), (hfin _ _).out⟩
      · exact ⟨⟨6, by omega, rfl, miss_of H.out rfl (by assumption)⟩, by simp [intOf]⟩
    · go_wp2
      · go_ret
        exact ⟨ret_str (hit_of H.out rfl (by assumption)), (hfin _ _).out⟩
      · exact ⟨⟨7, by omega, rfl, miss_of H.out rfl (by assumption)⟩, by simp [intOf]⟩
    · go_wp2
      · go_ret
        exact ⟨ret_str (hit_of H.out rfl (by assumption)), (hfin _ _).out⟩
      · exact ⟨⟨8, by omega, rfl, miss_of H.out rfl (by assumption)⟩, by simp [intOf]⟩
    · go_wp2
      · go_ret
        exact ⟨ret_str (hit_of H.out rfl (by assumption)), (hfin _ _).out⟩
      · exact ⟨⟨9, by omega, rfl, miss_of H.out rfl (by assumption)⟩, by simp [intOf]⟩
    · go_wp2
      · go_ret
        exact ⟨ret_str (hit_of H.out rfl (by assumption)), (hfin _ _).out⟩
      · exact ⟨⟨10, by omega, rfl, miss_of H.out rfl (by assumption)⟩, by simp [intOf]⟩
    · go_wp2
      · go_ret
        exact ⟨ret_str (hit_of H.out rfl (by assumption)), (hfin _ _).out⟩
      · exact ⟨⟨11, by omega, rfl, miss_of H.out rfl (by assumption)⟩, by simp [intOf]⟩
    · go_wp2
      · go_ret
        exact ⟨ret_str (hit_of H.out rfl (by assumption)), (hfin _ _).out⟩
      · exact ⟨⟨12, by omega, rfl, miss_of H.out rfl (by assumption)⟩, by simp [intOf]⟩
    · go_wp2
      go_ret
      exact ⟨ret_str (by unfold Pm.reasonB; rw [H.out]; rfl), (hfin _ _).out⟩
end Go.Proofs.YtnohadlihgjppaaDoor
