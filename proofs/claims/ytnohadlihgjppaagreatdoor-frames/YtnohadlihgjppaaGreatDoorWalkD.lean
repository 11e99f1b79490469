/- The reference's numbers: number, Decimal and Hex answer what the plain mathematics says; nothing old in memory turns. -/
import Derived.Test.YtnohadlihgjppaaGreatDoorWalkB
import Derived.Test.YtnohadlihgjppaaGreatDoorWalkC
import Derived.Deep.QuietTactic
import Derived.BigQuiet
namespace Go.Proofs.YtnohadlihgjppaaGreatDoor
open Go.RowKit

theorem dig_at {base : Int} (hb : base = 10 ∨ base = 16) (d : ByteArray) (hd : d.data.toList = Pm.digs16.take base.toNat) (c : UInt8) :
    Lib.indexByte d.data.toList (Pm.small c) = if Pm.dval c < base then Pm.dval c else -1 := by
  rw [hd]
  rcases hb with rfl | rfl
  · exact Pm.dig_at10 c
  · exact Pm.dig_at16 c

set_option maxHeartbeats 600000 in
theorem rnumber_any (s : ByteArray) (base most : Int) (w : World) (hs : s.size ≤ maxLen) (hb : base = 10 ∨ base = 16) (hm : most ≤ 9) :
    Calls Tryz.prog 42 #[.string s, .int .i64 base, .int .i64 most] w fun e w' => e = .returned (.int .i64 (Pm.numM base most s.data.toList)) ∧ Below w.heap.size w w' := by
  unfold maxLen at hs
  have hlen : (s.data.toList.length : Int) = s.size := by simp
  have HL : Hid ((s.data.toList.length : Int) = s.size) := hlen
  clear hlen
  by_cases h1 : (s.size : Int) < 1 ∨ most < s.size
  · have h2 : Pm.numOk base most s.data.toList = false := Pm.numOk_no1 (by rw [HL.out]; exact h1)
    have H2 : Hid (Pm.numOk base most s.data.toList = false) := h2
    clear h2
    by_cases h3 : (s.size : Int) < 1
    all_goals
      go_enter Tryz.func42, Tryz.ntmps42
      go_wp2
      go_ret
      exact ⟨ret_int (by unfold Pm.numM; rw [H2.out]; rfl), Below.refl _ _⟩
  · have h3 : ¬ (s.size : Int) < 1 := by omega
    have h4 : ¬ most < (s.size : Int) := by omega
    clear h1
    have HB : Hid (base = 10 ∨ base = 16) := hb
    have hb0 : 0 ≤ base := by omega
    have hb2 : base ≤ 16 := by omega
    clear hb
    go_enter Tryz.func42, Tryz.ntmps42
    go_wp2
    go_loopw [7, 8, 9, 10] (fun n i _ _ wr => ∃ k : Nat, k ≤ s.size ∧ i = .int .i64 k ∧ n = .int .i64 (Pm.numv base (s.data.toList.take k)) ∧ Hid (Pm.digsB base (s.data.toList.take k) = true) ∧ Below w.heap.size w wr) (fun _ i _ _ _ => s.size - (intOf i).toNat)
    case atStart => exact ⟨0, Nat.zero_le _, rfl, rfl, rfl, Below.refl _ _⟩
    case round =>
      obtain ⟨k, hk, rfl, rfl, H, hbw⟩ := hrel
      by_cases hlt : k < s.size
      · have hbd := Pm.numv_bd _ (s.data.toList.take k) hb0 hb2 H.out (by simp; omega)
        go_wp2_with (go_at_call 63; refine (rSmall_one _ s[k] _ (by rw [Lib.extract_data]; exact Pm.one_at s k hlt)).mono ?_; rintro e w' ⟨rfl, rfl⟩)
        go_quiet ((go_at_call 64; exact Calls.quiet_of_same (rAt_any _ _ _ (by unfold maxLen; simp; omega))))
        generalize hg : Lib.indexByte (ByteArray.extract _ 0 base.toNat).data.toList _ = g
        have hg2 : g = if Pm.dval s[k] < base then Pm.dval s[k] else -1 := by
          rw [← hg]; exact dig_at HB.out _ (by rw [Lib.extract_data, List.drop_zero, Nat.sub_zero]; rfl) s[k]
        clear hg
        generalize ByteArray.extract _ 0 base.toNat = dd
        have hmul1 : 0 ≤ Pm.numv base (s.data.toList.take k) * base := Int.mul_nonneg hbd.1 hb0
        have hmul2 : Pm.numv base (s.data.toList.take k) * base ≤ 68719476736 * 16 := Int.le_trans (Int.mul_le_mul_of_nonneg_left hb2 hbd.1) (Int.mul_le_mul_of_nonneg_right (by omega) (by omega))
        have hdv := Pm.dval_bd s[k]
        have HS : Hid (Pm.digsB base (s.data.toList.take (k + 1)) = (Pm.digsB base (s.data.toList.take k) && decide (Pm.dval s[k] < base))) := by rw [Pm.take_snoc s k hlt, Pm.digsB_snoc]; exact rfl
        have HN : Hid (Pm.numv base (s.data.toList.take (k + 1)) = Pm.numv base (s.data.toList.take k) * base + Pm.dval s[k]) := by rw [Pm.take_snoc s k hlt, Pm.numv_snoc]; exact rfl
        by_cases hb3 : Pm.dval s[k] < base
        · rw [if_pos hb3] at hg2
          subst hg2
          go_wp2
          go_roundw
          case rel => exact ⟨k + 1, by omega, by go_num, by rw [HN.out], by unfold Hid; rw [HS.out, H.out]; simpa using hb3, hbw.trans (below_drewN (Below.refl _ _) _)⟩
          case measure => simp [intOf]; omega
        · rw [if_neg hb3] at hg2
          subst hg2
          go_wp2
          have h5 := HS.out
          rw [decide_eq_false (p := Pm.dval s[k] < base) (by omega), Bool.and_false] at h5
          have h6 : Pm.numOk base most s.data.toList = false := Pm.numOk_no2 (Pm.digsB_take h5)
          go_ret
          exact ⟨ret_int (by unfold Pm.numM; rw [h6]; rfl), hbw.trans (below_drewN (Below.refl _ _) _)⟩
      · go_wp2
        have h5 := H.out
        rw [List.take_of_length_le (by simp; omega)] at h5
        have h6 : Pm.numOk base most s.data.toList = true := Pm.numOk_yes (by rw [HL.out]; omega) (by rw [HL.out]; omega) h5
        go_ret
        exact ⟨ret_int (by unfold Pm.numM; rw [h6, if_pos rfl, List.take_of_length_le (by simp; omega)]), hbw⟩

theorem numM_neg {base most : Int} {l : List UInt8} (hb : 0 ≤ base) (hb2 : base ≤ 16) (hm : most ≤ 9) (h : Pm.numM base most l < 0) : Pm.numN base most l = 0 ∧ Pm.numE base most l = 1 := by
  unfold Pm.numM at h
  split at h
  · rename_i h1
    have h2 := h1
    simp only [Pm.numOk, Bool.and_eq_true, decide_eq_true_eq] at h1
    have := Pm.numv_bd base l hb hb2 h1.2 (by omega); omega
  · rename_i h1
    simp [Pm.numN, Pm.numE, h1]
theorem numM_pos {base most : Int} {l : List UInt8} (h : 0 ≤ Pm.numM base most l) : Pm.numN base most l = Pm.numM base most l ∧ Pm.numE base most l = 0 := by
  unfold Pm.numM at h ⊢
  split at h
  · rename_i h1
    simp [Pm.numN, Pm.numE, h1]
  · omega

end Go.Proofs.YtnohadlihgjppaaGreatDoor
