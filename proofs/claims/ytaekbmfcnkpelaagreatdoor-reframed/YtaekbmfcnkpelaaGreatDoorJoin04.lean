/- Texts that follow one another, joined. -/
import Derived.Test.YtaekbmfcnkpelaaGreatDoorJoin00
import Derived.Test.YtaekbmfcnkpelaaGreatDoorJoin03
import Derived.Test.YtaekbmfcnkpelaaGreatDoorRows
import Derived.WalkKit
import Derived.WalkSpells
import Derived.WalkLawsBesides
/- The program's own token calls: each call answers what the plain mathematics says, and the world is as it was. -/
namespace Go.Proofs.YtaekbmfcnkpelaaGreatDoor
open Go.RowKit

theorem ret_bool {a b : Bool} (h : a = b) : Ending.returned (.bool a) = .returned (.bool b) := by rw [h]
theorem ret_int {k : IntKind} {a b : Int} (h : a = b) : Ending.returned (.int k a) = .returned (.int k b) := by rw [h]

theorem digB_true {c : UInt8} (h : Pm.digB c = true) : 48 ≤ (c.toNat : Int) ∧ (c.toNat : Int) ≤ 57 := by simpa [Pm.digB] using h
theorem digB_false {c : UInt8} (h : Pm.digB c = false) : (c.toNat : Int) < 48 ∨ 57 < (c.toNat : Int) := by
  have h' : ¬ Pm.digB c = true := by simp [h]
  simp only [Pm.digB, Bool.and_eq_true, decide_eq_true_eq] at h'; omega
theorem dval1 {c : UInt8} (h : Pm.digB c = true) : ((c.toNat : Int) - 48) % 256 = Pm.dval c := by
  have := digB_true h; unfold Pm.dval; rw [if_pos (by omega)]; omega
theorem dval2 {c : UInt8} (h : Pm.digB c = false) (h1 : 97 ≤ (c.toNat : Int)) (h2 : (c.toNat : Int) ≤ 102) : (c.toNat : Int) - 97 + 10 = Pm.dval c := by
  have := digB_false h; unfold Pm.dval; rw [if_neg (by omega), if_pos (by omega)]
theorem dval3 {c : UInt8} (h : Pm.digB c = false) (h1 : 65 ≤ (c.toNat : Int)) (h2 : (c.toNat : Int) ≤ 70) : (c.toNat : Int) - 65 + 10 = Pm.dval c := by
  have := digB_false h; unfold Pm.dval; rw [if_neg (by omega), if_neg (by omega), if_pos (by omega)]
theorem dval4 {c : UInt8} (h : Pm.digB c = false) (h1 : (c.toNat : Int) < 97 ∨ 102 < (c.toNat : Int)) (h2 : (c.toNat : Int) < 65 ∨ 70 < (c.toNat : Int)) : 16 = Pm.dval c := by
  have := digB_false h; unfold Pm.dval; rw [if_neg (by omega), if_neg (by omega), if_neg (by omega)]

set_option maxHeartbeats 400000 in
theorem isDigit_any (c : UInt8) (w : World) :
    Calls Tryz.prog 83 #[.int .u8 c.toNat] w fun e w' => e = .returned (.bool (Pm.digB c)) ∧ w' = w := by
  have h0 := c.toNat_lt
  go_enter Tryz.func83, Tryz.ntmps83
  go_wp2
  all_goals
    go_ret
    refine ⟨ret_bool ?_, rfl⟩
    rw [Bool.eq_iff_iff]
    simp only [Pm.digB, Bool.and_eq_true, decide_eq_true_eq, Bool.false_eq_true, false_iff]
    omega

set_option maxHeartbeats 400000 in
theorem isLetter_any (c : UInt8) (w : World) :
    Calls Tryz.prog 86 #[.int .u8 c.toNat] w fun e w' => e = .returned (.bool (Pm.letB c)) ∧ w' = w := by
  have h0 := c.toNat_lt
  go_enter Tryz.func86, Tryz.ntmps86
  go_wp2
  all_goals
    go_ret
    refine ⟨ret_bool ?_, rfl⟩
    rw [Bool.eq_iff_iff]
    simp only [Pm.letB, Bool.and_eq_true, Bool.or_eq_true, decide_eq_true_eq, Bool.false_eq_true, false_iff, true_iff]
    omega

set_option maxHeartbeats 400000 in
theorem digit_any (c : UInt8) (w : World) :
    Calls Tryz.prog 105 #[.int .u8 c.toNat] w fun e w' => e = .returned (.int .i64 (Pm.dval c)) ∧ w' = w := by
  have h0 := c.toNat_lt
  go_enter Tryz.func105, Tryz.ntmps105
  go_wp2_with (first | (go_at_call 83; refine (isDigit_any _ _).mono ?_; rintro e w' ⟨rfl, rfl⟩))
  all_goals
    go_ret
    refine ⟨ret_int ?_, rfl⟩
    first
      | exact dval1 (by assumption)
      | exact dval2 (by assumption) (by omega) (by omega)
      | exact dval3 (by assumption) (by omega) (by omega)
      | exact dval4 (by assumption) (by omega) (by omega)

set_option maxHeartbeats 400000 in
theorem isTokenByte_any (c : UInt8) (w : World) :
    Calls Tryz.prog 65 #[.int .u8 c.toNat] w fun e w' => e = .returned (.bool (Pm.tokB c)) ∧ w' = w := by
  have hc : ((c.toNat : Int)).toNat.toUInt8 = c := by simp
  go_enter Tryz.func65, Tryz.ntmps65
  go_wp2_with (first | (go_at_call 83; refine (isDigit_any _ _).mono ?_; rintro e w' ⟨rfl, rfl⟩) | (go_at_call 86; refine (isLetter_any _ _).mono ?_; rintro e w' ⟨rfl, rfl⟩) | (go_at_call 57; refine (Tryz.strings_IndexByte _ _ _).mono ?_; rintro e w' ⟨rfl, rfl⟩))
  all_goals
    go_ret
    refine ⟨ret_bool ?_, rfl⟩
    rw [Bool.eq_iff_iff]
    simp [Pm.tokB, Pm.marks, *]
    try exact decide_eq_true_iff.symm

set_option maxHeartbeats 400000 in
theorem allTok_any (s : ByteArray) (w : World) (hs : s.size ≤ maxLen) :
    Calls Tryz.prog 50 #[.string s, .func (.func 65) #[] #[]] w fun e w' => e = .returned (.bool (Pm.allTok s.data.toList)) ∧ w' = w := by
  unfold maxLen at hs
  go_enter Tryz.func50, Tryz.ntmps50
  go_wp2_with fail
  go_loop [5, 8] (fun _ i => ∃ k : Nat, k ≤ s.size ∧ i = .int .i64 k ∧ Hid (Pm.allTok (s.data.toList.take k) = true)) (fun _ i => s.size - (intOf i).toNat)
  case atStart => exact ⟨0, Nat.zero_le _, rfl, rfl⟩
  case round =>
    obtain ⟨k, hk, rfl, H⟩ := hrel
    by_cases hlt : k < s.size
    · have HS : Hid (Pm.allTok (s.data.toList.take (k + 1)) = (Pm.allTok (s.data.toList.take k) && Pm.tokB s[k])) := by rw [Pm.take_snoc s k hlt, Pm.allTok_snoc]; exact rfl
      cases hb : Pm.tokB s[k]
      · go_wp2_with (go_at_call 65; refine (isTokenByte_any _ _).mono ?_; rintro e w' ⟨rfl, rfl⟩)
        go_ret
        refine ⟨ret_bool ?_, rfl⟩
        have h1 := HS.out
        rw [hb, Bool.and_false] at h1
        exact (Pm.allTok_take h1).symm
      · go_wp2_with (go_at_call 65; refine (isTokenByte_any _ _).mono ?_; rintro e w' ⟨rfl, rfl⟩)
        go_round
        case rel => exact ⟨k + 1, by omega, by go_num, by rw [HS.out, hb, H.out]; exact rfl⟩
        case measure => simp [intOf]; omega
    · go_wp2
      go_ret
      refine ⟨ret_bool ?_, rfl⟩
      have h1 := H.out
      rw [List.take_of_length_le (by simp; omega)] at h1
      exact h1.symm

set_option maxHeartbeats 400000 in
theorem wIsToken_any (s : ByteArray) (w : World) (hs : s.size ≤ maxLen) :
    Calls Tryz.prog 47 #[.string s] w fun e w' => e = .returned (.bool (Pm.isTok s.data.toList)) ∧ w' = w := by
  go_enter Tryz.func47, Tryz.ntmps47
  go_wp2_with (go_at_call 50; refine (allTok_any _ _ hs).mono ?_; rintro e w' ⟨rfl, rfl⟩)
  all_goals
    have h1 := ByteArray.toList_eq s
    go_ret
    refine ⟨ret_bool ?_, rfl⟩
    simp_all [Pm.isTok]

end Go.Proofs.YtaekbmfcnkpelaaGreatDoor

/- The program's own numbers: number, Decimal and Hex answer what the plain mathematics says, and the world is as it was. -/
namespace Go.Proofs.YtaekbmfcnkpelaaGreatDoor
open Go.RowKit

theorem ret_two {j k : IntKind} {a b c d : Int} (h : a = b) (h' : c = d) : Ending.returned (.tuple #[.int j a, .int k c]) = .returned (.tuple #[.int j b, .int k d]) := by rw [h, h']

set_option maxHeartbeats 600000 in
theorem wnumber_any (s : ByteArray) (base most : Int) (w : World) (hs : s.size ≤ maxLen) (hb : 0 ≤ base) (hb2 : base ≤ 16) (hm : most ≤ 9) :
    Calls Tryz.prog 85 #[.string s, .int .i64 base, .int .i64 most] w fun e w' => e = .returned (.tuple #[.int .i64 (Pm.numN base most s.data.toList), .int .i64 (Pm.numE base most s.data.toList)]) ∧ w' = w := by
  unfold maxLen at hs
  have hlen : (s.data.toList.length : Int) = s.size := by simp
  have HL : Hid ((s.data.toList.length : Int) = s.size) := hlen
  clear hlen
  by_cases h1 : (s.size : Int) < 1 ∨ most < s.size
  · have h2 : Pm.numOk base most s.data.toList = false := Pm.numOk_no1 (by rw [HL.out]; exact h1)
    have H2 : Hid (Pm.numOk base most s.data.toList = false) := h2
    clear h2
    by_cases h3 : (s.size : Int) < 1
    all_goals
      go_enter Tryz.func85, Tryz.ntmps85
      go_wp2
      go_ret2
      exact ⟨ret_two (by unfold Pm.numN; rw [H2.out]; rfl) (by unfold Pm.numE; rw [H2.out]; rfl), rfl⟩
  · have h3 : ¬ (s.size : Int) < 1 := by omega
    have h4 : ¬ most < (s.size : Int) := by omega
    clear h1
    go_enter Tryz.func85, Tryz.ntmps85
    go_wp2
    go_loop [8, 9, 10, 22] (fun n _ _ i => ∃ k : Nat, k ≤ s.size ∧ i = .int .i64 k ∧ n = .int .i64 (Pm.numv base (s.data.toList.take k)) ∧ Hid (Pm.digsB base (s.data.toList.take k) = true)) (fun _ _ _ i => s.size - (intOf i).toNat)
    case atStart => exact ⟨0, Nat.zero_le _, rfl, rfl, rfl⟩
    case round =>
      obtain ⟨k, hk, rfl, rfl, H⟩ := hrel
      by_cases hlt : k < s.size
      · have hbd := Pm.numv_bd base (s.data.toList.take k) hb hb2 H.out (by simp; omega)
        have hmul1 : 0 ≤ Pm.numv base (s.data.toList.take k) * base := Int.mul_nonneg hbd.1 hb
        have hmul2 : Pm.numv base (s.data.toList.take k) * base ≤ 68719476736 * 16 := Int.le_trans (Int.mul_le_mul_of_nonneg_left hb2 hbd.1) (Int.mul_le_mul_of_nonneg_right (by omega) (by omega))
        have hdv := Pm.dval_bd s[k]
        have HS : Hid (Pm.digsB base (s.data.toList.take (k + 1)) = (Pm.digsB base (s.data.toList.take k) && decide (Pm.dval s[k] < base))) := by rw [Pm.take_snoc s k hlt, Pm.digsB_snoc]; exact rfl
        have HN : Hid (Pm.numv base (s.data.toList.take (k + 1)) = Pm.numv base (s.data.toList.take k) * base + Pm.dval s[k]) := by rw [Pm.take_snoc s k hlt, Pm.numv_snoc]; exact rfl
        by_cases hb3 : Pm.dval s[k] < base
        · go_wp2_with (go_at_call 105; refine (digit_any _ _).mono ?_; rintro e w' ⟨rfl, rfl⟩)
          go_round
          case rel => exact ⟨k + 1, by omega, by go_num, by rw [HN.out], by unfold Hid; rw [HS.out, H.out]; simpa using hb3⟩
          case measure => simp [intOf]; omega
        · go_wp2_with (go_at_call 105; refine (digit_any _ _).mono ?_; rintro e w' ⟨rfl, rfl⟩)
          have h5 := HS.out
          rw [decide_eq_false (p := Pm.dval s[k] < base) (by omega), Bool.and_false] at h5
          have h6 : Pm.numOk base most s.data.toList = false := Pm.numOk_no2 (Pm.digsB_take h5)
          go_ret2
          exact ⟨ret_two (by unfold Pm.numN; rw [h6]; rfl) (by unfold Pm.numE; rw [h6]; rfl), rfl⟩
      · go_wp2
        have h5 := H.out
        rw [List.take_of_length_le (by simp; omega)] at h5
        have h6 : Pm.numOk base most s.data.toList = true := Pm.numOk_yes (by rw [HL.out]; omega) (by rw [HL.out]; omega) h5
        go_ret2
        exact ⟨ret_two (by unfold Pm.numN; rw [h6, if_pos rfl, List.take_of_length_le (by simp; omega)]) (by unfold Pm.numE; rw [h6]; rfl), rfl⟩

set_option maxHeartbeats 400000 in
theorem wDecimal_any (s : ByteArray) (w : World) (hs : s.size ≤ maxLen) :
    Calls Tryz.prog 62 #[.string s] w fun e w' => e = .returned (.tuple #[.int .i64 (Pm.numN 10 9 s.data.toList), .int .i64 (Pm.numE 10 9 s.data.toList)]) ∧ w' = w := by
  go_enter Tryz.func62, Tryz.ntmps62
  go_wp2_with (go_at_call 85; refine (wnumber_any _ _ _ _ hs (by omega) (by omega) (by omega)).mono ?_; rintro e w' ⟨rfl, rfl⟩)
  go_ret2
  exact ⟨rfl, rfl⟩
set_option maxHeartbeats 400000 in
theorem wHex_any (s : ByteArray) (w : World) (hs : s.size ≤ maxLen) :
    Calls Tryz.prog 63 #[.string s] w fun e w' => e = .returned (.tuple #[.int .i64 (Pm.numN 16 8 s.data.toList), .int .i64 (Pm.numE 16 8 s.data.toList)]) ∧ w' = w := by
  go_enter Tryz.func63, Tryz.ntmps63
  go_wp2_with (go_at_call 85; refine (wnumber_any _ _ _ _ hs (by omega) (by omega) (by omega)).mono ?_; rintro e w' ⟨rfl, rfl⟩)
  go_ret2
  exact ⟨rfl, rfl⟩
end Go.Proofs.YtaekbmfcnkpelaaGreatDoor
