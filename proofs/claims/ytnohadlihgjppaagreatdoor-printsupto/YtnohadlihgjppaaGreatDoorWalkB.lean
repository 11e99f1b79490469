/- The program's own numbers: number, Decimal and Hex answer what the plain mathematics says, and the world is as it was. -/
import Derived.Test.YtnohadlihgjppaaGreatDoorWalkA
namespace Go.Proofs.YtnohadlihgjppaaGreatDoor
open Go.RowKit

theorem ret_two {j k : IntKind} {a b c d : Int} (h : a = b) (h' : c = d) : Ending.returned (.tuple #[.int j a, .int k c]) = .returned (.tuple #[.int j b, .int k d]) := by rw [h, h']

set_option maxHeartbeats 600000 in
theorem wnumber_any (s : ByteArray) (base most : Int) (w : World) (hs : s.size ≤ maxLen) (hb : 0 ≤ base) (hb2 : base ≤ 16) (hm : most ≤ 9) :
    Calls Tryz.prog 122 #[.string s, .int .i64 base, .int .i64 most] w fun e w' => e = .returned (.tuple #[.int .i64 (Pm.numN base most s.data.toList), .int .i64 (Pm.numE base most s.data.toList)]) ∧ w' = w := by
  unfold maxLen at hs
  have hlen : (s.data.toList.length : Int) = s.size := by simp
  have HL : Hid ((s.data.toList.length : Int) = s.size) := hlen
  clear hlen
  by_cases h1 : (s.size : Int) < 1 ∨ most < s.size
  · have h2 : Pm.numOk base most s.data.toList = false := Pm.numOk_no1 (by rw [HL.out]; exact h1)
    have H2 : Hid (Pm.numOk base most s.data.toList = false) := h2
    clear h2
    by_cases h3 : (s.size : Int) < 1
    all_goals
      go_enter Tryz.func122, Tryz.ntmps122
      go_wp2
      go_ret2
      exact ⟨ret_two (by unfold Pm.numN; rw [H2.out]; rfl) (by unfold Pm.numE; rw [H2.out]; rfl), rfl⟩
  · have h3 : ¬ (s.size : Int) < 1 := by omega
    have h4 : ¬ most < (s.size : Int) := by omega
    clear h1
    go_enter Tryz.func122, Tryz.ntmps122
    go_wp2
    go_loop [8, 9, 10, 22] (fun n _ _ i => ∃ k : Nat, k ≤ s.size ∧ i = .int .i64 k ∧ n = .int .i64 (Pm.numv base (s.data.toList.take k)) ∧ Hid (Pm.digsB base (s.data.toList.take k) = true)) (fun _ _ _ i => s.size - (intOf i).toNat)
    case atStart => exact ⟨0, Nat.zero_le _, rfl, rfl, rfl⟩
    case round =>
      obtain ⟨k, hk, rfl, rfl, H⟩ := hrel
      by_cases hlt : k < s.size
      · have hbd := Pm.numv_bd base (s.data.toList.take k) hb hb2 H.out (by simp; omega)
        have hmul1 : 0 ≤ Pm.numv base (s.data.toList.take k) * base := Int.mul_nonneg hbd.1 hb
        have hmul2 : Pm.numv base (s.data.toList.take k) * base ≤ 68719476736 * 16 := Int.le_trans (Int.mul_le_mul_of_nonneg_left hb2 hbd.1) (Int.mul_le_mul_of_nonneg_right (by omega) (by omega))
        have hdv := Pm.dval_bd s[k]
        have HS : Hid (Pm.digsB base (s.data.toList.take (k + 1)) = (Pm.digsB base (s.data.toList.take k) && decide (Pm.dval s[k] < base))) := by rw [Pm.take_snoc s k hlt, Pm.digsB_snoc]; exact rfl
        have HN : Hid (Pm.numv base (s.data.toList.take (k + 1)) = Pm.numv base (s.data.toList.take k) * base + Pm.dval s[k]) := by rw [Pm.take_snoc s k hlt, Pm.numv_snoc]; exact rfl
        by_cases hb3 : Pm.dval s[k] < base
        · go_wp2_with (go_at_call 142; refine (digit_any _ _).mono ?_; rintro e w' ⟨rfl, rfl⟩)
          go_round
          case rel => exact ⟨k + 1, by omega, by go_num, by rw [HN.out], by unfold Hid; rw [HS.out, H.out]; simpa using hb3⟩
          case measure => simp [intOf]; omega
        · go_wp2_with (go_at_call 142; refine (digit_any _ _).mono ?_; rintro e w' ⟨rfl, rfl⟩)
          have h5 := HS.out
          rw [decide_eq_false (p := Pm.dval s[k] < base) (by omega), Bool.and_false] at h5
          have h6 : Pm.numOk base most s.data.toList = false := Pm.numOk_no2 (Pm.digsB_take h5)
          go_ret2
          exact ⟨ret_two (by unfold Pm.numN; rw [h6]; rfl) (by unfold Pm.numE; rw [h6]; rfl), rfl⟩
      · go_wp2
        have h5 := H.out
        rw [List.take_of_length_le (by simp; omega)] at h5
        have h6 : Pm.numOk base most s.data.toList = true := Pm.numOk_yes (by rw [HL.out]; omega) (by rw [HL.out]; omega) h5
        go_ret2
        exact ⟨ret_two (by unfold Pm.numN; rw [h6, if_pos rfl, List.take_of_length_le (by simp; omega)]) (by unfold Pm.numE; rw [h6]; rfl), rfl⟩

set_option maxHeartbeats 400000 in
theorem wDecimal_any (s : ByteArray) (w : World) (hs : s.size ≤ maxLen) :
    Calls Tryz.prog 99 #[.string s] w fun e w' => e = .returned (.tuple #[.int .i64 (Pm.numN 10 9 s.data.toList), .int .i64 (Pm.numE 10 9 s.data.toList)]) ∧ w' = w := by
  go_enter Tryz.func99, Tryz.ntmps99
  go_wp2_with (go_at_call 122; refine (wnumber_any _ _ _ _ hs (by omega) (by omega) (by omega)).mono ?_; rintro e w' ⟨rfl, rfl⟩)
  go_ret2
  exact ⟨rfl, rfl⟩
set_option maxHeartbeats 400000 in
theorem wHex_any (s : ByteArray) (w : World) (hs : s.size ≤ maxLen) :
    Calls Tryz.prog 100 #[.string s] w fun e w' => e = .returned (.tuple #[.int .i64 (Pm.numN 16 8 s.data.toList), .int .i64 (Pm.numE 16 8 s.data.toList)]) ∧ w' = w := by
  go_enter Tryz.func100, Tryz.ntmps100
  go_wp2_with (go_at_call 122; refine (wnumber_any _ _ _ _ hs (by omega) (by omega) (by omega)).mono ?_; rintro e w' ⟨rfl, rfl⟩)
  go_ret2
  exact ⟨rfl, rfl⟩
end Go.Proofs.YtnohadlihgjppaaGreatDoor
