/- Texts that follow one another, joined. -/
import Derived.Test.YtnohadlihgjppaaDoorJoin05
/- The program's own numbers: number, Decimal and Hex answer what the plain mathematics says, and the world is as it was. -/
namespace Go.Proofs.YtnohadlihgjppaaDoor
open Go.RowKit

theorem ret_two {j k : IntKind} {a b c d : Int} (h : a = b) (h' : c = d) : Ending.returned (.tuple #[.int j a, .int k c]) = .returned (.tuple #[.int j b, .int k d]) := by rw [h, h']

set_option maxHeartbeats 600000 in
theorem wnumber_any (s : ByteArray) (base most : Int) (w : World) (hs : s.size ≤ maxLen) (hb : 0 ≤ base) (hb2 : base ≤ 16) (hm : most ≤ 9) :
    Calls Tryd.prog 127 #[.string s, .int .i64 base, .int .i64 most] w fun e w' => e = .returned (.tuple #[.int .i64 (Pm.numN base most s.data.toList), .int .i64 (Pm.numE base most s.data.toList)]) ∧ w' = w := by
  unfold maxLen at hs
  have hlen : (s.data.toList.length : Int) = s.size := by simp
  have HL : Hid ((s.data.toList.length : Int) = s.size) := hlen
  clear hlen
  by_cases h1 : (s.size : Int) < 1 ∨ most < s.size
  · have h2 : Pm.numOk base most s.data.toList = false := Pm.numOk_no1 (by rw [HL.out]; exact h1)
    have H2 : Hid (Pm.numOk base most s.data.toList = false) := h2
    clear h2
    by_cases h3 : (s.size : Int) < 1
    all_goals
      go_enter Tryd.func127, Tryd.ntmps127
      go_wp2
      go_ret2
      exact ⟨ret_two (by unfold Pm.numN; rw [H2.out]; rfl) (by unfold Pm.numE; rw [H2.out]; rfl), rfl⟩
  · have h3 : ¬ (s.size : Int) < 1 := by omega
    have h4 : ¬ most < (s.size : Int) := by omega
    clear h1
    go_enter Tryd.func127, Tryd.ntmps127
    go_wp2
    go_loop [8, 9, 10, 22] (fun n _ _ i => ∃ k : Nat, k ≤ s.size ∧ i = .int .i64 k ∧ n = .int .i64 (Pm.numv base (s.data.toList.take k)) ∧ Hid (Pm.digsB base (s.data.toList.take k) = true)) (fun _ _ _ i => s.size - (intOf i).toNat)
    case atStart => exact ⟨0, Nat.zero_le _, rfl, rfl, rfl⟩
    case round =>
      obtain ⟨k, hk, rfl, rfl, H⟩ := hrel
      by_cases hlt : k < s.size
      · have hbd := Pm.numv_bd base (s.data.toList.take k) hb hb2 H.out (by simp; omega)
        have hmul1 : 0 ≤ Pm.numv base (s.data.toList.take k) * base := Int.mul_nonneg hbd.1 hb
        have hmul2 : Pm.numv base (s.data.toList.take k) * base ≤ 68719476736 * 16 := Int.le_trans (Int.mul_le_mul_of_nonneg_left hb2 hbd.1) (Int.mul_le_mul_of_nonneg_right (by omega) (by omega))
        have hdv := Pm.dval_bd s[k]
        have HS : Hid (Pm.digsB base (s.data.toList.take (k + 1)) = (Pm.digsB base (s.data.toList.take k) && decide (Pm.dval s[k] < base))) := by rw [Pm.take_snoc s k hlt, Pm.digsB_snoc]; exact rfl
        have HN : Hid (Pm.numv base (s.data.toList.take (k + 1)) = Pm.numv base (s.data.toList.take k) * base + Pm.dval s[k]) := by rw [Pm.take_snoc s k hlt, Pm.numv_snoc]; exact rfl
        by_cases hb3 : Pm.dval s[k] < base
        · go_wp2_with (go_at_call 146; refine (digit_any _ _).mono ?_; rintro e w' ⟨rfl, rfl⟩)
          go_round
          case rel => exact ⟨k + 1, by omega, by go_num, by rw [HN.out], by unfold Hid; rw [HS.out, H.out]; simpa using hb3⟩
          case measure => simp [intOf]; omega
        · go_wp2_with (go_at_call 146; refine (digit_any _ _).mono ?_; rintro e w' ⟨rfl, rfl⟩)
          have h5 := HS.out
          rw [decide_eq_false (p := Pm.dval s[k] < base) (by omega), Bool.and_false] at h5
          have h6 : Pm.numOk base most s.data.toList = false := Pm.numOk_no2 (Pm.digsB_take h5)
          go_ret2
          exact ⟨ret_two (by unfold Pm.numN; rw [h6]; rfl) (by unfold Pm.numE; rw [h6]; rfl), rfl⟩
      · go_wp2
        have h5 := H.out
        rw [List.take_of_length_le (by simp; omega)] at h5
        have h6 : Pm.numOk base most s.data.toList = true := Pm.numOk_yes (by rw [HL.out]; omega) (by rw [HL.out]; omega) h5
        go_ret2
        exact ⟨ret_two (by unfold Pm.numN; rw [h6, if_pos rfl, List.take_of_length_le (by simp; omega)]) (by unfold Pm.numE; rw [h6]; rfl), rfl⟩

set_option maxHeartbeats 400000 in
theorem wDecimal_any (s : ByteArray) (w : World) (hs : s.size ≤ maxLen) :
    Calls Tryd.prog 98 #[.string s] w fun e w' => e = .returned (.tuple #[.int .i64 (Pm.numN 10 9 s.data.toList), .int .i64 (Pm.numE 10 9 s.data.toList)]) ∧ w' = w := by
  go_enter Tryd.func98, Tryd.ntmps98
  go_wp2_with (go_at_call 127; refine (wnumber_any _ _ _ _ hs (by omega) (by omega) (by omega)).mono ?_; rintro e w' ⟨rfl, rfl⟩)
  go_ret2
  exact ⟨rfl, rfl⟩
set_option maxHeartbeats 400000 in
theorem wHex_any (s : ByteArray) (w : World) (hs : s.size ≤ maxLen) :
    Calls Tryd.prog 100 #[.string s] w fun e w' => e = .returned (.tuple #[.int .i64 (Pm.numN 16 8 s.data.toList), .int .i64 (Pm.numE 16 8 s.data.toList)]) ∧ w' = w := by
  go_enter Tryd.func100, Tryd.ntmps100
  go_wp2_with (go_at_call 127; refine (wnumber_any _ _ _ _ hs (by omega) (by omega) (by omega)).mono ?_; rintro e w' ⟨rfl, rfl⟩)
  go_ret2
  exact ⟨rfl, rfl⟩
end Go.Proofs.YtnohadlihgjppaaDoor

/- The reference's small calls: At, made, IsToken, Small answer what the plain mathematics says. -/
namespace Go.Proofs.YtnohadlihgjppaaDoor
open Go.RowKit

set_option maxHeartbeats 400000 in
theorem rAt_any (s : ByteArray) (c : UInt8) (w : World) (hs : s.size ≤ maxLen) :
    Calls Tryd.prog 85 #[.string s, .int .u8 c.toNat] w fun e w' => e = .returned (.int .i64 (Lib.indexByte s.data.toList c)) ∧ w' = w := by
  unfold maxLen at hs
  go_enter Tryd.func85, Tryd.ntmps85
  go_wp2
  go_loop [5] (fun i => ∃ k : Nat, k ≤ s.size ∧ i = .int .i64 k ∧ Hid (Pm.noneTo c k s.data.toList)) (fun i => s.size - (intOf i).toNat)
  case atStart => exact ⟨0, Nat.zero_le _, rfl, Pm.noneTo_zero _ _⟩
  case round =>
    obtain ⟨k, hk, rfl, H⟩ := hrel
    by_cases hlt : k < s.size
    · by_cases he : s[k] = c
      · have he2 : ((s[k].toNat : Int) == (c.toNat : Int)) = true := by rw [he]; simp
        have HE : Hid (s[k] = c) := he
        clear he
        go_wp2
        go_ret
        exact ⟨ret_int (Pm.index_hit s c k hlt H.out HE.out), rfl⟩
      · have he2 : ((s[k].toNat : Int) == (c.toNat : Int)) = false := by
          rw [beq_eq_false_iff_ne]; intro h; exact he (UInt8.toNat_inj.1 (by omega))
        have HE : Hid (¬ s[k] = c) := he
        clear he
        go_wp2
        go_round
        case rel => exact ⟨k + 1, by omega, by go_num, Pm.noneTo_succ s c k hlt H.out HE.out⟩
        case measure => simp [intOf]; omega
    · go_wp2
      go_ret
      exact ⟨ret_int (Pm.index_none s c (by have := H.out; rwa [show k = s.size from by omega] at this)).symm, rfl⟩

set_option maxHeartbeats 400000 in
theorem made_any (s al : ByteArray) (w : World) (hs : s.size ≤ maxLen) (hal : al.data.toList = Pm.alpha) :
    Calls Tryd.prog 55 #[.string s, .string al] w fun e w' => e = .returned (.bool (Pm.allTok s.data.toList)) ∧ w' = w := by
  unfold maxLen at hs
  have hsz : al.size = 77 := by
    have : al.data.toList.length = al.size := by simp
    rw [← this, hal]; rfl
  have HA : Hid (al.data.toList = Pm.alpha) := hal
  clear hal
  have hsz2 : al.size ≤ maxLen := by rw [hsz]; unfold maxLen; omega
  clear hsz
  go_enter Tryd.func55, Tryd.ntmps55
  go_wp2
  go_loop [5, 6] (fun i _ => ∃ k : Nat, k ≤ s.size ∧ i = .int .i64 k ∧ Hid (Pm.allTok (s.data.toList.take k) = true)) (fun i _ => s.size - (intOf i).toNat)
  case atStart => exact ⟨0, Nat.zero_le _, rfl, rfl⟩
  case round =>
    obtain ⟨k, hk, rfl, H⟩ := hrel
    by_cases hlt : k < s.size
    · have HS : Hid (Pm.allTok (s.data.toList.take (k + 1)) = (Pm.allTok (s.data.toList.take k) && Pm.tokB s[k])) := by rw [Pm.take_snoc s k hlt, Pm.allTok_snoc]; exact rfl
      have HT : Hid (decide (0 ≤ Lib.indexByte al.data.toList s[k]) = Pm.tokB s[k]) := by rw [HA.out]; exact Pm.tok_alpha _
      by_cases hb : Lib.indexByte al.data.toList s[k] < 0
      · go_wp2_with (go_at_call 85; refine (rAt_any _ _ _ hsz2).mono ?_; rintro e w' ⟨rfl, rfl⟩)
        have h1 := HS.out
        rw [← HT.out, decide_eq_false (by omega), Bool.and_false] at h1
        go_ret
        exact ⟨ret_bool (Pm.allTok_take h1).symm, rfl⟩
      · go_wp2_with (go_at_call 85; refine (rAt_any _ _ _ hsz2).mono ?_; rintro e w' ⟨rfl, rfl⟩)
        go_round
        case rel => exact ⟨k + 1, by omega, by go_num, by unfold Hid; rw [HS.out, ← HT.out, decide_eq_true (by omega), H.out]; rfl⟩
        case measure => simp [intOf]; omega
    · go_wp2
      go_ret
      refine ⟨ret_bool ?_, rfl⟩
      have h1 := H.out
      rw [List.take_of_length_le (by simp; omega)] at h1
      exact h1.symm

theorem isTok_t {s : ByteArray} (h : Pm.allTok s.data.toList = true) : decide (0 < s.size) = Pm.isTok s.data.toList := by
  unfold Pm.isTok; rw [h, Bool.and_true]
  have h1 : s.data.toList.length = s.size := by simp
  cases hl : s.data.toList with
  | nil => rw [hl] at h1; simp at h1; simp [← h1]
  | cons a l => rw [hl] at h1; simp at h1; simp [← h1]
theorem isTok_f {s : ByteArray} (h : ¬ Pm.allTok s.data.toList = true) : false = Pm.isTok s.data.toList := by
  unfold Pm.isTok; simp [h]
theorem rAtG (s : ByteArray) (c : UInt8) (w : World) (h : s.data.toList = Pm.greats) :
    Calls Tryd.prog 85 #[.string s, .int .u8 c.toNat] w fun e w' => e = .returned (.int .i64 (Pm.gidx c)) ∧ w' = w := by
  have h1 : s.data.toList.length = s.size := by simp
  have h2 := rAt_any s c w (by rw [← h1, h]; unfold maxLen; decide)
  rw [h] at h2
  exact h2

theorem step_no {s q : ByteArray} {k : Nat} (hlt : k < s.size) (H : q.data.toList = (s.data.toList.take k).map Pm.small) (hb : Pm.gidx s[k] < 0) :
    (q ++ s.extract k (k + 1)).data.toList = (s.data.toList.take (k + 1)).map Pm.small := by
  rw [Pm.take_snoc s k hlt, List.map_append, ByteArray.data_append, Array.toList_append, H, Lib.extract_data]
  simp only [List.map_cons, List.map_nil, Pm.small_no _ hb, List.append_cancel_left_eq]
  rw [Pm.one_at s k hlt]
theorem step_yes {s q sm : ByteArray} {k j : Nat} (hlt : k < s.size) (H : q.data.toList = (s.data.toList.take k).map Pm.small) (hb : Pm.gidx s[k] = j) (hsm : sm.data.toList = Pm.smalls) :
    (q ++ sm.extract j (j + 1)).data.toList = (s.data.toList.take (k + 1)).map Pm.small := by
  rw [Pm.take_snoc s k hlt, List.map_append, ByteArray.data_append, Array.toList_append, H, Lib.extract_data, hsm]
  simp only [List.map_cons, List.map_nil, List.append_cancel_left_eq]
  rw [← Pm.small_yes _ j hb]; simp

set_option maxHeartbeats 400000 in
theorem rSmall_any (s : ByteArray) (w : World) (hs : s.size ≤ maxLen) :
    Calls Tryd.prog 109 #[.string s] w fun e w' => (∃ o : ByteArray, e = .returned (.string o) ∧ o.data.toList = s.data.toList.map Pm.small) ∧ w' = w := by
  unfold maxLen at hs
  go_enter Tryd.func109, Tryd.ntmps109
  go_wp2
  go_loop [3, 4, 5] (fun o i _ => ∃ (k : Nat) (q : ByteArray), k ≤ s.size ∧ i = .int .i64 k ∧ o = .string q ∧ q.size ≤ k ∧ Hid (q.data.toList = (s.data.toList.take k).map Pm.small)) (fun _ i _ => s.size - (intOf i).toNat)
  case atStart => exact ⟨0, ⟨#[]⟩, Nat.zero_le _, rfl, rfl, Nat.le_refl _, rfl⟩
  case round =>
    obtain ⟨k, q, hk, rfl, rfl, hq, H⟩ := hrel
    by_cases hlt : k < s.size
    · have hbd := Pm.gidx_bd s[k]
      by_cases hb : Pm.gidx s[k] < 0
      · go_wp2_with (go_at_call 85; refine (rAtG _ _ _ rfl).mono ?_; rintro e w' ⟨rfl, rfl⟩)
        refine ⟨⟨k + 1, _, by omega, by go_num, rfl, ?_, step_no hlt H.out hb⟩, by simp [intOf]; omega⟩
        simp; omega
      · obtain ⟨j, hj⟩ : ∃ j : Nat, Pm.gidx s[k] = j := ⟨(Pm.gidx s[k]).toNat, by omega⟩
        have hj2 : j ≤ 25 := by omega
        have HJ : Hid (Pm.gidx s[k] = j) := hj
        go_wp2_with (go_at_call 85; refine (rAtG _ _ _ rfl).mono ?_; rintro e w' ⟨rfl, rfl⟩)
        refine ⟨⟨k + 1, _, by omega, by go_num, rfl, ?_, step_yes hlt H.out HJ.out rfl⟩, by simp [intOf]; omega⟩
        simp; omega
    · go_wp2
      go_ret
      refine ⟨⟨q, rfl, ?_⟩, rfl⟩
      have h1 := H.out
      rwa [List.take_of_length_le (by simp; omega)] at h1
theorem rSmall_one (s : ByteArray) (c : UInt8) (w : World) (h : s.data.toList = [c]) :
    Calls Tryd.prog 109 #[.string s] w fun e w' => e = .returned (.string ⟨#[Pm.small c]⟩) ∧ w' = w := by
  have h1 : s.data.toList.length = s.size := by simp
  refine (rSmall_any s w (by rw [← h1, h]; show 1 ≤ maxLen; unfold maxLen; omega)).mono ?_
  rintro e w' ⟨⟨o, rfl, ho⟩, rfl⟩
  rw [h] at ho
  obtain ⟨⟨l⟩⟩ := o
  simp at ho; subst ho
  exact ⟨rfl, rfl⟩
end Go.Proofs.YtnohadlihgjppaaDoor
