/- The reference's small calls: At, made, IsToken, Small answer what the plain mathematics says. -/
import Derived.Test.YtnohadlihgjppaaGreatDoorWalkA
namespace Go.Proofs.YtnohadlihgjppaaGreatDoor
open Go.RowKit

set_option maxHeartbeats 400000 in
theorem rAt_any (s : ByteArray) (c : UInt8) (w : World) (hs : s.size ≤ maxLen) :
    Calls Tryz.prog 64 #[.string s, .int .u8 c.toNat] w fun e w' => e = .returned (.int .i64 (Lib.indexByte s.data.toList c)) ∧ w' = w := by
  unfold maxLen at hs
  go_enter Tryz.func64, Tryz.ntmps64
  go_wp2
  go_loop [5] (fun i => ∃ k : Nat, k ≤ s.size ∧ i = .int .i64 k ∧ Hid (Pm.noneTo c k s.data.toList)) (fun i => s.size - (intOf i).toNat)
  case atStart => exact ⟨0, Nat.zero_le _, rfl, Pm.noneTo_zero _ _⟩
  case round =>
    obtain ⟨k, hk, rfl, H⟩ := hrel
    by_cases hlt : k < s.size
    · by_cases he : s[k] = c
      · have he2 : ((s[k].toNat : Int) == (c.toNat : Int)) = true := by rw [he]; simp
        have HE : Hid (s[k] = c) := he
        clear he
        go_wp2
        go_ret
        exact ⟨ret_int (Pm.index_hit s c k hlt H.out HE.out), rfl⟩
      · have he2 : ((s[k].toNat : Int) == (c.toNat : Int)) = false := by
          rw [beq_eq_false_iff_ne]; intro h; exact he (UInt8.toNat_inj.1 (by omega))
        have HE : Hid (¬ s[k] = c) := he
        clear he
        go_wp2
        go_round
        case rel => exact ⟨k + 1, by omega, by go_num, Pm.noneTo_succ s c k hlt H.out HE.out⟩
        case measure => simp [intOf]; omega
    · go_wp2
      go_ret
      exact ⟨ret_int (Pm.index_none s c (by have := H.out; rwa [show k = s.size from by omega] at this)).symm, rfl⟩

set_option maxHeartbeats 400000 in
theorem made_any (s al : ByteArray) (w : World) (hs : s.size ≤ maxLen) (hal : al.data.toList = Pm.alpha) :
    Calls Tryz.prog 61 #[.string s, .string al] w fun e w' => e = .returned (.bool (Pm.allTok s.data.toList)) ∧ w' = w := by
  unfold maxLen at hs
  have hsz : al.size = 77 := by
    have : al.data.toList.length = al.size := by simp
    rw [← this, hal]; rfl
  have HA : Hid (al.data.toList = Pm.alpha) := hal
  clear hal
  have hsz2 : al.size ≤ maxLen := by rw [hsz]; unfold maxLen; omega
  clear hsz
  go_enter Tryz.func61, Tryz.ntmps61
  go_wp2
  go_loop [5, 6] (fun i _ => ∃ k : Nat, k ≤ s.size ∧ i = .int .i64 k ∧ Hid (Pm.allTok (s.data.toList.take k) = true)) (fun i _ => s.size - (intOf i).toNat)
  case atStart => exact ⟨0, Nat.zero_le _, rfl, rfl⟩
  case round =>
    obtain ⟨k, hk, rfl, H⟩ := hrel
    by_cases hlt : k < s.size
    · have HS : Hid (Pm.allTok (s.data.toList.take (k + 1)) = (Pm.allTok (s.data.toList.take k) && Pm.tokB s[k])) := by rw [Pm.take_snoc s k hlt, Pm.allTok_snoc]; exact rfl
      have HT : Hid (decide (0 ≤ Lib.indexByte al.data.toList s[k]) = Pm.tokB s[k]) := by rw [HA.out]; exact Pm.tok_alpha _
      by_cases hb : Lib.indexByte al.data.toList s[k] < 0
      · go_wp2_with (go_at_call 64; refine (rAt_any _ _ _ hsz2).mono ?_; rintro e w' ⟨rfl, rfl⟩)
        have h1 := HS.out
        rw [← HT.out, decide_eq_false (by omega), Bool.and_false] at h1
        go_ret
        exact ⟨ret_bool (Pm.allTok_take h1).symm, rfl⟩
      · go_wp2_with (go_at_call 64; refine (rAt_any _ _ _ hsz2).mono ?_; rintro e w' ⟨rfl, rfl⟩)
        go_round
        case rel => exact ⟨k + 1, by omega, by go_num, by unfold Hid; rw [HS.out, ← HT.out, decide_eq_true (by omega), H.out]; rfl⟩
        case measure => simp [intOf]; omega
    · go_wp2
      go_ret
      refine ⟨ret_bool ?_, rfl⟩
      have h1 := H.out
      rw [List.take_of_length_le (by simp; omega)] at h1
      exact h1.symm

theorem isTok_t {s : ByteArray} (h : Pm.allTok s.data.toList = true) : decide (0 < s.size) = Pm.isTok s.data.toList := by
  unfold Pm.isTok; rw [h, Bool.and_true]
  have h1 : s.data.toList.length = s.size := by simp
  cases hl : s.data.toList with
  | nil => rw [hl] at h1; simp at h1; simp [← h1]
  | cons a l => rw [hl] at h1; simp at h1; simp [← h1]
theorem isTok_f {s : ByteArray} (h : ¬ Pm.allTok s.data.toList = true) : false = Pm.isTok s.data.toList := by
  unfold Pm.isTok; simp [h]
set_option maxHeartbeats 400000 in
theorem rIsToken_any (s : ByteArray) (w : World) (hs : s.size ≤ maxLen) :
    Calls Tryz.prog 54 #[.string s] w fun e w' => e = .returned (.bool (Pm.isTok s.data.toList)) ∧ w' = w := by
  unfold maxLen at hs
  go_enter Tryz.func54, Tryz.ntmps54
  go_wp2_with (go_at_call 61; refine (made_any _ _ _ hs rfl).mono ?_; rintro e w' ⟨rfl, rfl⟩)
  all_goals
    go_ret
    refine ⟨ret_bool ?_, rfl⟩
    first | exact isTok_t (by assumption) | exact isTok_f (by assumption)

theorem rAtG (s : ByteArray) (c : UInt8) (w : World) (h : s.data.toList = Pm.greats) :
    Calls Tryz.prog 64 #[.string s, .int .u8 c.toNat] w fun e w' => e = .returned (.int .i64 (Pm.gidx c)) ∧ w' = w := by
  have h1 : s.data.toList.length = s.size := by simp
  have h2 := rAt_any s c w (by rw [← h1, h]; unfold maxLen; decide)
  rw [h] at h2
  exact h2

theorem step_no {s q : ByteArray} {k : Nat} (hlt : k < s.size) (H : q.data.toList = (s.data.toList.take k).map Pm.small) (hb : Pm.gidx s[k] < 0) :
    (q ++ s.extract k (k + 1)).data.toList = (s.data.toList.take (k + 1)).map Pm.small := by
  rw [Pm.take_snoc s k hlt, List.map_append, ByteArray.data_append, Array.toList_append, H, Lib.extract_data]
  simp only [List.map_cons, List.map_nil, Pm.small_no _ hb, List.append_cancel_left_eq]
  rw [Pm.one_at s k hlt]
theorem step_yes {s q sm : ByteArray} {k j : Nat} (hlt : k < s.size) (H : q.data.toList = (s.data.toList.take k).map Pm.small) (hb : Pm.gidx s[k] = j) (hsm : sm.data.toList = Pm.smalls) :
    (q ++ sm.extract j (j + 1)).data.toList = (s.data.toList.take (k + 1)).map Pm.small := by
  rw [Pm.take_snoc s k hlt, List.map_append, ByteArray.data_append, Array.toList_append, H, Lib.extract_data, hsm]
  simp only [List.map_cons, List.map_nil, List.append_cancel_left_eq]
  rw [← Pm.small_yes _ j hb]; simp

set_option maxHeartbeats 400000 in
theorem rSmall_any (s : ByteArray) (w : World) (hs : s.size ≤ maxLen) :
    Calls Tryz.prog 63 #[.string s] w fun e w' => (∃ o : ByteArray, e = .returned (.string o) ∧ o.data.toList = s.data.toList.map Pm.small) ∧ w' = w := by
  unfold maxLen at hs
  go_enter Tryz.func63, Tryz.ntmps63
  go_wp2
  go_loop [3, 4, 5] (fun o i _ => ∃ (k : Nat) (q : ByteArray), k ≤ s.size ∧ i = .int .i64 k ∧ o = .string q ∧ q.size ≤ k ∧ Hid (q.data.toList = (s.data.toList.take k).map Pm.small)) (fun _ i _ => s.size - (intOf i).toNat)
  case atStart => exact ⟨0, ⟨#[]⟩, Nat.zero_le _, rfl, rfl, Nat.le_refl _, rfl⟩
  case round =>
    obtain ⟨k, q, hk, rfl, rfl, hq, H⟩ := hrel
    by_cases hlt : k < s.size
    · have hbd := Pm.gidx_bd s[k]
      by_cases hb : Pm.gidx s[k] < 0
      · go_wp2_with (go_at_call 64; refine (rAtG _ _ _ rfl).mono ?_; rintro e w' ⟨rfl, rfl⟩)
        refine ⟨⟨k + 1, _, by omega, by go_num, rfl, ?_, step_no hlt H.out hb⟩, by simp [intOf]; omega⟩
        simp; omega
      · obtain ⟨j, hj⟩ : ∃ j : Nat, Pm.gidx s[k] = j := ⟨(Pm.gidx s[k]).toNat, by omega⟩
        have hj2 : j ≤ 25 := by omega
        have HJ : Hid (Pm.gidx s[k] = j) := hj
        go_wp2_with (go_at_call 64; refine (rAtG _ _ _ rfl).mono ?_; rintro e w' ⟨rfl, rfl⟩)
        refine ⟨⟨k + 1, _, by omega, by go_num, rfl, ?_, step_yes hlt H.out HJ.out rfl⟩, by simp [intOf]; omega⟩
        simp; omega
    · go_wp2
      go_ret
      refine ⟨⟨q, rfl, ?_⟩, rfl⟩
      have h1 := H.out
      rwa [List.take_of_length_le (by simp; omega)] at h1
theorem rSmall_one (s : ByteArray) (c : UInt8) (w : World) (h : s.data.toList = [c]) :
    Calls Tryz.prog 63 #[.string s] w fun e w' => e = .returned (.string ⟨#[Pm.small c]⟩) ∧ w' = w := by
  have h1 : s.data.toList.length = s.size := by simp
  refine (rSmall_any s w (by rw [← h1, h]; show 1 ≤ maxLen; unfold maxLen; omega)).mono ?_
  rintro e w' ⟨⟨o, rfl, ho⟩, rfl⟩
  rw [h] at ho
  obtain ⟨⟨l⟩⟩ := o
  simp at ho; subst ho
  exact ⟨rfl, rfl⟩
end Go.Proofs.YtnohadlihgjppaaGreatDoor
