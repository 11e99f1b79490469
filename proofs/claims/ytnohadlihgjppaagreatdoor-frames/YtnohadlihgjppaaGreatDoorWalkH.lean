/- The program's small forms: methods, targets, versions, fields and names that are alike: each call answers what the plain mathematics says; nothing old in memory turns. -/
import Derived.Test.YtnohadlihgjppaaGreatDoorPlainC
import Derived.Test.YtnohadlihgjppaaGreatDoorWalkF
namespace Go.Proofs.YtnohadlihgjppaaGreatDoor
open Go.RowKit

set_option maxHeartbeats 400000 in
theorem isTargetByte_any (c : UInt8) (w : World) :
    Calls Tryz.prog 87 #[.int .u8 c.toNat] w fun e w' => e = .returned (.bool (Pm.tgtB c)) ∧ w' = w := by
  have h0 := c.toNat_lt
  rcases (show (c.toNat : Int) < 33 ∨ (c.toNat : Int) = 35 ∨ 126 < (c.toNat : Int) ∨ (33 ≤ (c.toNat : Int) ∧ (c.toNat : Int) ≤ 126 ∧ ¬ (c.toNat : Int) = 35) from by omega) with h | h | h | h
  · go_enter Tryz.func87, Tryz.ntmps87
    go_wp2
    go_ret
    exact ⟨ret_bool (by simp [Pm.tgtB]; omega), rfl⟩
  · have hc : c = 35 := UInt8.toNat_inj.1 (by show c.toNat = 35; omega)
    subst hc
    clear h h0
    go_enter Tryz.func87, Tryz.ntmps87
    go_wp2
    go_ret
    exact ⟨ret_bool (by decide), rfl⟩
  · have h2 : ((c.toNat : Int) != 35) = true := by rw [bne_iff_ne]; omega
    go_enter Tryz.func87, Tryz.ntmps87
    go_wp2
    go_ret
    exact ⟨ret_bool (by simp [Pm.tgtB]; omega), rfl⟩
  · have h2 : ((c.toNat : Int) != 35) = true := by rw [bne_iff_ne]; omega
    obtain ⟨h3, h4, h5⟩ := h
    have H5 : Hid (¬ (c.toNat : Int) = 35) := h5
    clear h5
    go_enter Tryz.func87, Tryz.ntmps87
    go_wp2
    go_ret
    exact ⟨ret_bool (by have := H5.out; simp [Pm.tgtB]; omega), rfl⟩

set_option maxHeartbeats 400000 in
theorem isValueByte_any (c : UInt8) (w : World) :
    Calls Tryz.prog 88 #[.int .u8 c.toNat] w fun e w' => e = .returned (.bool (Pm.valB c)) ∧ w' = w := by
  have h0 := c.toNat_lt
  rcases (show (c.toNat : Int) = 9 ∨ (c.toNat : Int) = 127 ∨ (¬ (c.toNat : Int) = 9 ∧ (c.toNat : Int) < 32) ∨ (32 ≤ (c.toNat : Int) ∧ ¬ (c.toNat : Int) = 127) from by omega) with h | h | h | h
  · have hc : c = 9 := UInt8.toNat_inj.1 (by show c.toNat = 9; omega)
    subst hc
    clear h h0
    go_enter Tryz.func88, Tryz.ntmps88
    go_wp2
    go_ret
    exact ⟨ret_bool (by decide), rfl⟩
  · have hc : c = 127 := UInt8.toNat_inj.1 (by show c.toNat = 127; omega)
    subst hc
    clear h h0
    go_enter Tryz.func88, Tryz.ntmps88
    go_wp2
    go_ret
    exact ⟨ret_bool (by decide), rfl⟩
  · obtain ⟨h1, h2⟩ := h
    have h3 : ((c.toNat : Int) == 9) = false := by rw [beq_eq_false_iff_ne]; exact h1
    have H1 : Hid (¬ (c.toNat : Int) = 9) := h1
    clear h1
    go_enter Tryz.func88, Tryz.ntmps88
    go_wp2
    go_ret
    exact ⟨ret_bool (by have := H1.out; simp [Pm.valB]; omega), rfl⟩
  · obtain ⟨h1, h2⟩ := h
    have h3 : ((c.toNat : Int) == 9) = false := by rw [beq_eq_false_iff_ne]; omega
    have h4 : ((c.toNat : Int) != 127) = true := by rw [bne_iff_ne]; exact h2
    have H1 : Hid (¬ (c.toNat : Int) = 127) := h2
    clear h2
    go_enter Tryz.func88, Tryz.ntmps88
    go_wp2
    go_ret
    exact ⟨ret_bool (by have := H1.out; simp [Pm.valB]; omega), rfl⟩

set_option maxHeartbeats 400000 in
theorem allTgt_any (s : ByteArray) (w : World) (hs : s.size ≤ maxLen) :
    Calls Tryz.prog 86 #[.string s, .func (.func 87) #[] #[]] w fun e w' => e = .returned (.bool (Pm.allP Pm.tgtB s.data.toList)) ∧ w' = w := by
  unfold maxLen at hs
  go_enter Tryz.func86, Tryz.ntmps86
  go_wp2_with fail
  go_loop [5, 8] (fun _ i => ∃ k : Nat, k ≤ s.size ∧ i = .int .i64 k ∧ Hid (Pm.allP Pm.tgtB (s.data.toList.take k) = true)) (fun _ i => s.size - (intOf i).toNat)
  case atStart => exact ⟨0, Nat.zero_le _, rfl, rfl⟩
  case round =>
    obtain ⟨k, hk, rfl, H⟩ := hrel
    by_cases hlt : k < s.size
    · have HS : Hid (Pm.allP Pm.tgtB (s.data.toList.take (k + 1)) = (Pm.allP Pm.tgtB (s.data.toList.take k) && Pm.tgtB s[k])) := by rw [Pm.take_snoc s k hlt, Pm.allP_snoc]; exact rfl
      cases hb : Pm.tgtB s[k]
      · go_wp2_with (go_at_call 87; refine (isTargetByte_any _ _).mono ?_; rintro e w' ⟨rfl, rfl⟩)
        go_ret
        refine ⟨ret_bool ?_, rfl⟩
        have h1 := HS.out
        rw [hb, Bool.and_false] at h1
        exact (Pm.allP_take h1).symm
      · go_wp2_with (go_at_call 87; refine (isTargetByte_any _ _).mono ?_; rintro e w' ⟨rfl, rfl⟩)
        go_round
        case rel => exact ⟨k + 1, by omega, by go_num, by rw [HS.out, hb, H.out]; exact rfl⟩
        case measure => simp [intOf]; omega
    · go_wp2
      go_ret
      refine ⟨ret_bool ?_, rfl⟩
      have h1 := H.out
      rw [List.take_of_length_le (by simp; omega)] at h1
      exact h1.symm

set_option maxHeartbeats 400000 in
theorem allVal_any (s : ByteArray) (w : World) (hs : s.size ≤ maxLen) :
    Calls Tryz.prog 86 #[.string s, .func (.func 88) #[] #[]] w fun e w' => e = .returned (.bool (Pm.allP Pm.valB s.data.toList)) ∧ w' = w := by
  unfold maxLen at hs
  go_enter Tryz.func86, Tryz.ntmps86
  go_wp2_with fail
  go_loop [5, 8] (fun _ i => ∃ k : Nat, k ≤ s.size ∧ i = .int .i64 k ∧ Hid (Pm.allP Pm.valB (s.data.toList.take k) = true)) (fun _ i => s.size - (intOf i).toNat)
  case atStart => exact ⟨0, Nat.zero_le _, rfl, rfl⟩
  case round =>
    obtain ⟨k, hk, rfl, H⟩ := hrel
    by_cases hlt : k < s.size
    · have HS : Hid (Pm.allP Pm.valB (s.data.toList.take (k + 1)) = (Pm.allP Pm.valB (s.data.toList.take k) && Pm.valB s[k])) := by rw [Pm.take_snoc s k hlt, Pm.allP_snoc]; exact rfl
      cases hb : Pm.valB s[k]
      · go_wp2_with (go_at_call 88; refine (isValueByte_any _ _).mono ?_; rintro e w' ⟨rfl, rfl⟩)
        go_ret
        refine ⟨ret_bool ?_, rfl⟩
        have h1 := HS.out
        rw [hb, Bool.and_false] at h1
        exact (Pm.allP_take h1).symm
      · go_wp2_with (go_at_call 88; refine (isValueByte_any _ _).mono ?_; rintro e w' ⟨rfl, rfl⟩)
        go_round
        case rel => exact ⟨k + 1, by omega, by go_num, by rw [HS.out, hb, H.out]; exact rfl⟩
        case measure => simp [intOf]; omega
    · go_wp2
      go_ret
      refine ⟨ret_bool ?_, rfl⟩
      have h1 := H.out
      rw [List.take_of_length_le (by simp; omega)] at h1
      exact h1.symm

set_option maxHeartbeats 400000 in
theorem wIsMethod_any (s : ByteArray) (w : World) (hs : s.size ≤ maxLen) :
    Calls Tryz.prog 65 #[.string s] w fun e w' => e = .returned (.bool (Pm.isMethod s.data.toList)) ∧ w' = w := by
  have hl : s.data.toList.length = s.size := by simp
  have HL : Hid (s.data.toList.length = s.size) := hl
  clear hl
  have hs2 := hs
  unfold maxLen at hs2
  by_cases h : (s.size : Int) ≤ 16
  all_goals
    go_enter Tryz.func65, Tryz.ntmps65
    go_wp2_with (go_at_call 83; refine (wIsToken_any _ _ hs).mono ?_; rintro e w' ⟨rfl, rfl⟩)
    go_ret
  · exact ⟨ret_bool (by unfold Pm.isMethod; rw [HL.out, decide_eq_true (by omega)]; simp), rfl⟩
  · exact ⟨ret_bool (by unfold Pm.isMethod; rw [HL.out, decide_eq_false (by omega)]; simp), rfl⟩

set_option maxHeartbeats 400000 in
theorem cutIn_any (s : ByteArray) (c : UInt8) (w : World) (hs : s.size ≤ maxLen) :
    Calls Tryz.prog 121 #[.string s, .string ⟨#[c]⟩] w fun e w' => (∃ a b : ByteArray, e = .returned (.tuple #[.string a, .string b, .bool (!(Pm.behind c s.data.toList).isEmpty)]) ∧ a.data.toList = Pm.ahead c s.data.toList ∧ b.data.toList = (Pm.behind c s.data.toList).drop 1) ∧ ∃ n, w' = w.drewN n := by
  have hl : s.data.toList.length = s.size := by simp
  rcases Pm.behind_cases c s.data.toList with h | ⟨r, h⟩
  · obtain ⟨h1, h2⟩ := Pm.index_no h
    have H : Hid (Pm.behind c s.data.toList = []) := h
    have H2 : Hid (Pm.ahead c s.data.toList = s.data.toList) := h2
    clear h h2 hl
    go_enter Tryz.func121, Tryz.ntmps121
    go_wp2_with (go_at_call 141; refine (Tryz.stringslite_Index_one _ _ _).mono ?_; rintro e w' ⟨rfl, rfl⟩)
    go_ret3
    exact ⟨⟨s, ⟨#[]⟩, by rw [H.out]; rfl, H2.out.symm, by rw [H.out]; rfl⟩, 0, rfl⟩
  · have h1 := Pm.index_yes h
    have h3 : (Pm.ahead c s.data.toList).length < s.size := by
      have := congrArg List.length (Pm.ahead_behind c s.data.toList)
      rw [List.length_append, hl, h, List.length_cons] at this; omega
    have HT : Hid ((s.data.toList).take (Pm.ahead c s.data.toList).length = Pm.ahead c s.data.toList) := Pm.take_ahead c _
    have HD : Hid ((s.data.toList).drop (Pm.ahead c s.data.toList).length = Pm.behind c s.data.toList) := Pm.drop_ahead c _
    have HL : Hid (s.data.toList.length = s.size) := hl
    have HB : Hid (Pm.behind c s.data.toList = c :: r) := h
    clear h hl
    generalize Pm.ahead c s.data.toList = A at *
    generalize hn : A.length = n at *
    clear hn
    unfold maxLen at hs
    have h0 : (0 : Int) ≤ (n : Int) := by omega
    go_enter Tryz.func121, Tryz.ntmps121
    go_wp2_with (go_at_call 141; refine (Tryz.stringslite_Index_one _ _ _).mono ?_; rintro e w' ⟨rfl, rfl⟩)
    go_quiet (fail)
    go_wp2
    go_ret3
    refine ⟨⟨_, _, by rw [HB.out]; rfl, ?_, ?_⟩, _, rfl⟩
    · rw [Lib.extract_data, ← HT.out]; simp
    · rw [Lib.extract_data, ← HD.out, List.take_of_length_le (by rw [List.length_drop, HL.out]; omega), List.drop_drop]

set_option maxHeartbeats 400000 in
theorem cut1_any (s : ByteArray) (c : UInt8) (w : World) (hs : s.size ≤ maxLen) :
    Calls Tryz.prog 98 #[.string s, .string ⟨#[c]⟩] w fun e w' => (∃ a b : ByteArray, e = .returned (.tuple #[.string a, .string b, .bool (!(Pm.behind c s.data.toList).isEmpty)]) ∧ a.data.toList = Pm.ahead c s.data.toList ∧ b.data.toList = (Pm.behind c s.data.toList).drop 1) ∧ ∃ n, w' = w.drewN n := by
  go_enter Tryz.func98, Tryz.ntmps98
  go_wp2_with fail
  refine (cutIn_any s c _ hs).mono ?_
  rintro e w' ⟨⟨a, b, rfl, ha, hb⟩, n, rfl⟩
  have HA := (show Hid (a.data.toList = _) from ha)
  have HB := (show Hid (b.data.toList = _) from hb)
  clear ha hb
  go_wp2
  go_ret3
  exact ⟨⟨a, b, rfl, HA.out, HB.out⟩, n, rfl⟩

set_option maxHeartbeats 400000 in
theorem wIsPath_any (s : ByteArray) (w : World) (hs : s.size ≤ 140737488355328) :
    Calls Tryz.prog 85 #[.string s] w fun e w' => e = .returned (.bool (Pm.isPath s.data.toList)) ∧ Below w.heap.size w w' := by
  have HT : Hid (Pm.isPath s.data.toList = (decide (Pm.unE s.data.toList = 0) && Lib.hasPrefix s.data.toList [47])) := by
    unfold Hid Pm.isPath; rw [Pm.unE_iff]
  go_enter Tryz.func85, Tryz.ntmps85
  go_wp2_with fail
  refine (wUnescape_any _ _ hs).mono ?_
  rintro e w2 ⟨rfl, hb2⟩
  by_cases h : Pm.unE s.data.toList = 0
  · rw [decide_eq_true h, Bool.true_and] at HT
    rw [h]
    go_wp2_with (go_at_call 104; refine (Tryz.strings_HasPrefix _ _ _).mono ?_; rintro e w' ⟨rfl, rfl⟩)
    go_ret
    exact ⟨ret_bool HT.out.symm, hb2⟩
  · rw [decide_eq_false h, Bool.false_and] at HT
    have h3 : (Pm.unE s.data.toList == 0) = false := by rw [beq_eq_false_iff_ne]; exact h
    go_wp2
    go_ret
    exact ⟨ret_bool HT.out.symm, hb2⟩

set_option maxHeartbeats 400000 in
theorem splitTarget_any (s : ByteArray) (w : World) (hs : s.size ≤ maxLen) :
    Calls Tryz.prog 84 #[.string s] w fun e w' => (∃ a b : ByteArray, e = .returned (.tuple #[.string a, .string b]) ∧ a.data.toList = Pm.ahead 63 s.data.toList ∧ b.data.toList = Pm.behind 63 s.data.toList) ∧ Below w.heap.size w w' := by
  unfold maxLen at hs
  go_enter Tryz.func84, Tryz.ntmps84
  go_wp2_with fail
  refine (cut1_any s 63 _ hs).mono ?_
  rintro e w1 ⟨⟨a, b, rfl, ha, hb⟩, n, rfl⟩
  have hal : a.size ≤ s.size := by
    have h3 := congrArg List.length (Pm.ahead_behind 63 s.data.toList)
    rw [List.length_append, ← ha] at h3
    simp at h3; omega
  have HA := (show Hid (a.data.toList = _) from ha)
  have HX : Hid ((s.extract a.size s.size).data.toList = Pm.behind 63 s.data.toList) := by
    unfold Hid
    rw [Lib.extract_data, List.take_of_length_le (by simp), ← Pm.drop_ahead 63, ← ha]; simp
  clear ha hb
  generalize (!(Pm.behind 63 s.data.toList).isEmpty) = f at *
  have h0 : (0 : Int) ≤ (a.size : Int) := by omega
  go_wp2
  go_quiet (fail)
  go_wp2
  first | go_ret2 | go_ret3
  exact ⟨⟨a, _, rfl, HA.out, HX.out⟩, below_drewN (below_drewN (Below.refl _ _) n) _⟩

set_option maxHeartbeats 400000 in
theorem wIsTarget_any (s : ByteArray) (w : World) (hs : s.size ≤ 140737488355328) :
    Calls Tryz.prog 66 #[.string s] w fun e w' => e = .returned (.bool (Pm.isTarget s.data.toList)) ∧ Below w.heap.size w w' := by
  have hs2 : s.size ≤ maxLen := by unfold maxLen; omega
  have HT : Hid (Pm.isTarget s.data.toList = (Pm.isPath (Pm.ahead 63 s.data.toList) && Pm.allP Pm.tgtB s.data.toList)) := Pm.isTarget_path _
  go_enter Tryz.func66, Tryz.ntmps66
  go_wp2_with fail
  refine (splitTarget_any s _ hs2).mono ?_
  rintro e w1 ⟨⟨a, b, rfl, ha, hb⟩, hbS⟩
  have has : a.size ≤ 140737488355328 := by
    have h3 := congrArg List.length (Pm.ahead_behind 63 s.data.toList)
    rw [List.length_append, ← ha] at h3
    simp at h3; omega
  rw [← ha] at HT
  clear ha hb
  cases h1 : Pm.isPath a.data.toList
  · rw [h1, Bool.false_and] at HT
    go_wp2_with (go_at_call 85; refine (wIsPath_any _ _ has).mono ?_; rintro e w2 ⟨rfl, hb2⟩)
    go_ret
    exact ⟨ret_bool HT.out.symm, hbS.trans (hb2.mono hbS.size)⟩
  · rw [h1, Bool.true_and] at HT
    go_wp2_with (first | (go_at_call 85; refine (wIsPath_any _ _ has).mono ?_; rintro e w2 ⟨rfl, hb2⟩) | (go_at_call 86; refine (allTgt_any _ _ hs2).mono ?_; rintro e w' ⟨rfl, rfl⟩))
    go_ret
    exact ⟨ret_bool HT.out.symm, hbS.trans (hb2.mono hbS.size)⟩
end Go.Proofs.YtnohadlihgjppaaGreatDoor
