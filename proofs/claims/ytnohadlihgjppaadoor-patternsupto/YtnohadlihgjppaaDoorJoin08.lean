/- Texts that follow one another, joined. -/
import Derived.Test.YtnohadlihgjppaaDoorJoin07
import Derived.Test.YtnohadlihgjppaaDoorJoin01
/- The program's Unescape answers what the plain mathematics says, of every text of at most 2^47 bytes; nothing old in memory turns. -/
namespace Go.Proofs.YtnohadlihgjppaaDoor
open Go.RowKit

theorem wHex_two (t : ByteArray) (x y : UInt8) (w : World) (h : t.data.toList = [x, y]) :
    Calls Tryd.prog 100 #[.string t] w fun e w' => e = .returned (.tuple #[.int .i64 (Pm.numN 16 8 [x, y]), .int .i64 (Pm.numE 16 8 [x, y])]) ∧ w' = w := by
  have h1 := size_of h
  have h2 := wHex_any t w (by rw [h1]; show 2 ≤ maxLen; unfold maxLen; omega)
  rw [h] at h2
  exact h2
theorem cells_snoc (o : List UInt8) (c : UInt8) : Lib.byteCells o ++ [.int .u8 c.toNat] = Lib.byteCells (o ++ [c]) := by simp [Lib.byteCells]
theorem cells_snocI (o : List UInt8) (v : Int) (h0 : 0 ≤ v) (h1 : v ≤ 255) : Lib.byteCells o ++ [.int .u8 v] = Lib.byteCells (o ++ [v.toNat.toUInt8]) := by
  rw [← cells_snoc]
  have : ((v.toNat.toUInt8).toNat : Int) = v := by
    have h2 : v.toNat < 256 := by omega
    have h3 : (v.toNat.toUInt8).toNat = v.toNat := by simp [Nat.mod_eq_of_lt h2]
    rw [h3]; omega
  rw [this]
theorem cells_len (o : List UInt8) : (Lib.byteCells o).length = o.length := by simp [Lib.byteCells]

set_option maxHeartbeats 1000000 in
theorem wUnescape_any (s : ByteArray) (w : World) (hs : s.size ≤ 140737488355328) :
    Calls Tryd.prog 81 #[.string s] w fun e w' => e = .returned (.tuple #[.string (Pm.unT s.data.toList), .int .i64 (Pm.unE s.data.toList)]) ∧ Below w.heap.size w w' := by
  go_enter Tryd.func81, Tryd.ntmps81
  go_wp2
  go_loopw [5, 6, 7] (fun i _ _ wr => ∃ (k : Nat) (o : List UInt8), k ≤ s.size ∧ i = .int .i64 k ∧ o.length ≤ k ∧ Hid (Pm.Read s.data.toList o (s.data.toList.drop k)) ∧ Lib.IsBuilder 103 5 w.heap.size w.heap.size (Lib.byteCells o) wr ∧ Below w.heap.size w wr) (fun i _ _ _ => s.size - (intOf i).toNat)
  case atStart => exact ⟨0, [], Nat.zero_le _, rfl, Nat.le_refl _, Pm.Read.start _, Lib.fresh_isBuilder _ _ w, (Below.refl _ _).alloc (Nat.le_refl _) _⟩
  case round =>
    obtain ⟨k, o, hk, rfl, ho, H, hbu, hbw⟩ := hrel
    have hsz := hbw.size
    by_cases hlt : k < s.size
    · have HD := Pm.drop_at s k hlt
      have H1 : Hid (Pm.Read s.data.toList o (s[k] :: s.data.toList.drop (k + 1))) := by rw [← HD]; exact H.out
      clear HD H
      by_cases hc : s[k] = 37
      · have hc2 : ((s[k].toNat : Int) != 37) = false := by rw [hc]; rfl
        rw [hc] at H1
        clear hc
        by_cases h3 : (s.size : Int) - k < 3
        · have HF : Hid (Pm.unesc s.data.toList = none) := H1.out.short (by simp; omega)
          go_wp2
          go_ret2
          exact ⟨ret_strint (Pm.unT_none HF.out).symm (Pm.unE_none HF.out).symm, hbw⟩
        · have h4 : k + 2 < s.size := by omega
          have HE : Hid ((s.extract (k + 1) (k + 3)).data.toList = [s[k + 1], s[k + 2]]) := Pm.two_at s k h4
          have HD2 : Hid (s.data.toList.drop (k + 1) = s[k + 1] :: s[k + 2] :: s.data.toList.drop (k + 3)) := by
            unfold Hid; rw [Pm.drop_at s (k + 1) (by omega), Pm.drop_at s (k + 2) h4]
          have H2 : Hid (Pm.Read s.data.toList o (37 :: s[k + 1] :: s[k + 2] :: s.data.toList.drop (k + 3))) := by have := H1.out; rw [HD2.out] at this; exact this
          clear H1 HD2
          generalize s[k + 1] = x at *
          generalize s[k + 2] = y at *
          cases hd : Pm.digsB 16 [x, y]
          · have HF : Hid (Pm.unesc s.data.toList = none) := H2.out.bad hd
            have hv : Pm.numN 16 8 [x, y] = 0 := by unfold Pm.numN; rw [Pm.numOk_two 8 x y (by omega), hd]; rfl
            have hv2 : Pm.numE 16 8 [x, y] = 1 := by unfold Pm.numE; rw [Pm.numOk_two 8 x y (by omega), hd]; rfl
            clear hd
            go_wp2_with (go_at_call 100; refine (wHex_two _ x y _ HE.out).mono ?_; rintro e w2 ⟨rfl, rfl⟩)
            go_ret2
            exact ⟨ret_strint (Pm.unT_none HF.out).symm (Pm.unE_none HF.out).symm, hbw⟩
          · have H3 : Hid (Pm.Read s.data.toList (o ++ [(Pm.numv 16 [x, y]).toNat.toUInt8]) (s.data.toList.drop (k + 3))) := H2.out.esc hd
            have hv : Pm.numN 16 8 [x, y] = Pm.numv 16 [x, y] := by unfold Pm.numN; rw [Pm.numOk_two 8 x y (by omega), hd]; rfl
            have hv2 : Pm.numE 16 8 [x, y] = 0 := by unfold Pm.numE; rw [Pm.numOk_two 8 x y (by omega), hd]; rfl
            have hbd := Pm.numv_two x y hd
            clear hd H2
            generalize Pm.numv 16 [x, y] = v at *
            go_wp2_with (first | (go_at_call 100; refine (wHex_two _ x y _ HE.out).mono ?_; rintro e w2 ⟨rfl, rfl⟩) | (go_at_call 107; refine (Tryd.Builder_WriteByte _ _ _ _ _ hbu (by rw [cells_len]; omega) hsz).mono ?_; rintro e w2 ⟨rfl, hbu2, hbw2⟩))
            rw [cells_snocI o v hbd.1 hbd.2] at hbu2
            go_roundw
            case rel => exact ⟨k + 3, _, by omega, by go_num, by simp; omega, H3, .inr hbu2, hbw.trans hbw2⟩
            case measure => simp [intOf]; omega
      · have hc2 : ((s[k].toNat : Int) != 37) = true := by
          rw [bne_iff_ne]; intro h; exact hc (UInt8.toNat_inj.1 (by show s[k].toNat = 37; omega))
        have H3 : Hid (Pm.Read s.data.toList (o ++ [s[k]]) (s.data.toList.drop (k + 1))) := H1.out.plain hc
        clear hc H1
        go_wp2_with (go_at_call 107; refine (Tryd.Builder_WriteByte _ _ _ _ _ hbu (by rw [cells_len]; omega) hsz).mono ?_; rintro e w2 ⟨rfl, hbu2, hbw2⟩)
        rw [cells_snoc] at hbu2
        go_roundw
        case rel => exact ⟨k + 1, _, by omega, by go_num, by simp; omega, H3, .inr hbu2, hbw.trans hbw2⟩
        case measure => simp [intOf]; omega
    · have HF : Hid (Pm.unesc s.data.toList = some o) := by
        have := H.out
        rw [List.drop_eq_nil_of_le (by simp; omega)] at this
        exact this.done
      go_wp2_with (go_at_call 65; refine (Tryd.Builder_String_any _ _ _ _ hbu hsz).mono ?_; rintro e w2 ⟨rfl, hbw2⟩)
      go_ret2
      exact ⟨ret_strint (Pm.unT_some HF.out).symm (Pm.unE_some HF.out).symm, hbw.trans hbw2⟩

end Go.Proofs.YtnohadlihgjppaaDoor

/- The program's small forms: methods, targets, versions, fields and names that are alike: each call answers what the plain mathematics says; nothing old in memory turns. -/
namespace Go.Proofs.YtnohadlihgjppaaDoor
open Go.RowKit

set_option maxHeartbeats 400000 in
theorem isTargetByte_any (c : UInt8) (w : World) :
    Calls Tryd.prog 117 #[.int .u8 c.toNat] w fun e w' => e = .returned (.bool (Pm.tgtB c)) ∧ w' = w := by
  have h0 := c.toNat_lt
  rcases (show (c.toNat : Int) < 33 ∨ (c.toNat : Int) = 35 ∨ 126 < (c.toNat : Int) ∨ (33 ≤ (c.toNat : Int) ∧ (c.toNat : Int) ≤ 126 ∧ ¬ (c.toNat : Int) = 35) from by omega) with h | h | h | h
  · go_enter Tryd.func117, Tryd.ntmps117
    go_wp2
    go_ret
    exact ⟨ret_bool (by simp [Pm.tgtB]; omega), rfl⟩
  · have hc : c = 35 := UInt8.toNat_inj.1 (by show c.toNat = 35; omega)
    subst hc
    clear h h0
    go_enter Tryd.func117, Tryd.ntmps117
    go_wp2
    go_ret
    exact ⟨ret_bool (by decide), rfl⟩
  · have h2 : ((c.toNat : Int) != 35) = true := by rw [bne_iff_ne]; omega
    go_enter Tryd.func117, Tryd.ntmps117
    go_wp2
    go_ret
    exact ⟨ret_bool (by simp [Pm.tgtB]; omega), rfl⟩
  · have h2 : ((c.toNat : Int) != 35) = true := by rw [bne_iff_ne]; omega
    obtain ⟨h3, h4, h5⟩ := h
    have H5 : Hid (¬ (c.toNat : Int) = 35) := h5
    clear h5
    go_enter Tryd.func117, Tryd.ntmps117
    go_wp2
    go_ret
    exact ⟨ret_bool (by have := H5.out; simp [Pm.tgtB]; omega), rfl⟩

set_option maxHeartbeats 400000 in
theorem isValueByte_any (c : UInt8) (w : World) :
    Calls Tryd.prog 126 #[.int .u8 c.toNat] w fun e w' => e = .returned (.bool (Pm.valB c)) ∧ w' = w := by
  have h0 := c.toNat_lt
  rcases (show (c.toNat : Int) = 9 ∨ (c.toNat : Int) = 127 ∨ (¬ (c.toNat : Int) = 9 ∧ (c.toNat : Int) < 32) ∨ (32 ≤ (c.toNat : Int) ∧ ¬ (c.toNat : Int) = 127) from by omega) with h | h | h | h
  · have hc : c = 9 := UInt8.toNat_inj.1 (by show c.toNat = 9; omega)
    subst hc
    clear h h0
    go_enter Tryd.func126, Tryd.ntmps126
    go_wp2
    go_ret
    exact ⟨ret_bool (by decide), rfl⟩
  · have hc : c = 127 := UInt8.toNat_inj.1 (by show c.toNat = 127; omega)
    subst hc
    clear h h0
    go_enter Tryd.func126, Tryd.ntmps126
    go_wp2
    go_ret
    exact ⟨ret_bool (by decide), rfl⟩
  · obtain ⟨h1, h2⟩ := h
    have h3 : ((c.toNat : Int) == 9) = false := by rw [beq_eq_false_iff_ne]; exact h1
    have H1 : Hid (¬ (c.toNat : Int) = 9) := h1
    clear h1
    go_enter Tryd.func126, Tryd.ntmps126
    go_wp2
    go_ret
    exact ⟨ret_bool (by have := H1.out; simp [Pm.valB]; omega), rfl⟩
  · obtain ⟨h1, h2⟩ := h
    have h3 : ((c.toNat : Int) == 9) = false := by rw [beq_eq_false_iff_ne]; omega
    have h4 : ((c.toNat : Int) != 127) = true := by rw [bne_iff_ne]; exact h2
    have H1 : Hid (¬ (c.toNat : Int) = 127) := h2
    clear h2
    go_enter Tryd.func126, Tryd.ntmps126
    go_wp2
    go_ret
    exact ⟨ret_bool (by have := H1.out; simp [Pm.valB]; omega), rfl⟩

set_option maxHeartbeats 400000 in
theorem allTgt_any (s : ByteArray) (w : World) (hs : s.size ≤ maxLen) :
    Calls Tryd.prog 116 #[.string s, .func (.func 117) #[] #[]] w fun e w' => e = .returned (.bool (Pm.allP Pm.tgtB s.data.toList)) ∧ w' = w := by
  unfold maxLen at hs
  go_enter Tryd.func116, Tryd.ntmps116
  go_wp2_with fail
  go_loop [5, 8] (fun _ i => ∃ k : Nat, k ≤ s.size ∧ i = .int .i64 k ∧ Hid (Pm.allP Pm.tgtB (s.data.toList.take k) = true)) (fun _ i => s.size - (intOf i).toNat)
  case atStart => exact ⟨0, Nat.zero_le _, rfl, rfl⟩
  case round =>
    obtain ⟨k, hk, rfl, H⟩ := hrel
    by_cases hlt : k < s.size
    · have HS : Hid (Pm.allP Pm.tgtB (s.data.toList.take (k + 1)) = (Pm.allP Pm.tgtB (s.data.toList.take k) && Pm.tgtB s[k])) := by rw [Pm.take_snoc s k hlt, Pm.allP_snoc]; exact rfl
      cases hb : Pm.tgtB s[k]
      · go_wp2_with (go_at_call 117; refine (isTargetByte_any _ _).mono ?_; rintro e w' ⟨rfl, rfl⟩)
        go_ret
        refine ⟨ret_bool ?_, rfl⟩
        have h1 := HS.out
        rw [hb, Bool.and_false] at h1
        exact (Pm.allP_take h1).symm
      · go_wp2_with (go_at_call 117; refine (isTargetByte_any _ _).mono ?_; rintro e w' ⟨rfl, rfl⟩)
        go_round
        case rel => exact ⟨k + 1, by omega, by go_num, by rw [HS.out, hb, H.out]; exact rfl⟩
        case measure => simp [intOf]; omega
    · go_wp2
      go_ret
      refine ⟨ret_bool ?_, rfl⟩
      have h1 := H.out
      rw [List.take_of_length_le (by simp; omega)] at h1
      exact h1.symm

set_option maxHeartbeats 400000 in
theorem allVal_any (s : ByteArray) (w : World) (hs : s.size ≤ maxLen) :
    Calls Tryd.prog 116 #[.string s, .func (.func 126) #[] #[]] w fun e w' => e = .returned (.bool (Pm.allP Pm.valB s.data.toList)) ∧ w' = w := by
  unfold maxLen at hs
  go_enter Tryd.func116, Tryd.ntmps116
  go_wp2_with fail
  go_loop [5, 8] (fun _ i => ∃ k : Nat, k ≤ s.size ∧ i = .int .i64 k ∧ Hid (Pm.allP Pm.valB (s.data.toList.take k) = true)) (fun _ i => s.size - (intOf i).toNat)
  case atStart => exact ⟨0, Nat.zero_le _, rfl, rfl⟩
  case round =>
    obtain ⟨k, hk, rfl, H⟩ := hrel
    by_cases hlt : k < s.size
    · have HS : Hid (Pm.allP Pm.valB (s.data.toList.take (k + 1)) = (Pm.allP Pm.valB (s.data.toList.take k) && Pm.valB s[k])) := by rw [Pm.take_snoc s k hlt, Pm.allP_snoc]; exact rfl
      cases hb : Pm.valB s[k]
      · go_wp2_with (go_at_call 126; refine (isValueByte_any _ _).mono ?_; rintro e w' ⟨rfl, rfl⟩)
        go_ret
        refine ⟨ret_bool ?_, rfl⟩
        have h1 := HS.out
        rw [hb, Bool.and_false] at h1
        exact (Pm.allP_take h1).symm
      · go_wp2_with (go_at_call 126; refine (isValueByte_any _ _).mono ?_; rintro e w' ⟨rfl, rfl⟩)
        go_round
        case rel => exact ⟨k + 1, by omega, by go_num, by rw [HS.out, hb, H.out]; exact rfl⟩
        case measure => simp [intOf]; omega
    · go_wp2
      go_ret
      refine ⟨ret_bool ?_, rfl⟩
      have h1 := H.out
      rw [List.take_of_length_le (by simp; omega)] at h1
      exact h1.symm

set_option maxHeartbeats 400000 in
theorem wIsMethod_any (s : ByteArray) (w : World) (hs : s.size ≤ maxLen) :
    Calls Tryd.prog 93 #[.string s] w fun e w' => e = .returned (.bool (Pm.isMethod s.data.toList)) ∧ w' = w := by
  have hl : s.data.toList.length = s.size := by simp
  have HL : Hid (s.data.toList.length = s.size) := hl
  clear hl
  have hs2 := hs
  unfold maxLen at hs2
  by_cases h : (s.size : Int) ≤ 16
  all_goals
    go_enter Tryd.func93, Tryd.ntmps93
    go_wp2_with (go_at_call 114; refine (wIsToken_any _ _ hs).mono ?_; rintro e w' ⟨rfl, rfl⟩)
    go_ret
  · exact ⟨ret_bool (by unfold Pm.isMethod; rw [HL.out, decide_eq_true (by omega)]; simp), rfl⟩
  · exact ⟨ret_bool (by unfold Pm.isMethod; rw [HL.out, decide_eq_false (by omega)]; simp), rfl⟩

set_option maxHeartbeats 400000 in
theorem cutIn_any (s : ByteArray) (c : UInt8) (w : World) (hs : s.size ≤ maxLen) :
    Calls Tryd.prog 108 #[.string s, .string ⟨#[c]⟩] w fun e w' => (∃ a b : ByteArray, e = .returned (.tuple #[.string a, .string b, .bool (!(Pm.behind c s.data.toList).isEmpty)]) ∧ a.data.toList = Pm.ahead c s.data.toList ∧ b.data.toList = (Pm.behind c s.data.toList).drop 1) ∧ ∃ n, w' = w.drewN n := by
  have hl : s.data.toList.length = s.size := by simp
  rcases Pm.behind_cases c s.data.toList with h | ⟨r, h⟩
  · obtain ⟨h1, h2⟩ := Pm.index_no h
    have H : Hid (Pm.behind c s.data.toList = []) := h
    have H2 : Hid (Pm.ahead c s.data.toList = s.data.toList) := h2
    clear h h2 hl
    go_enter Tryd.func108, Tryd.ntmps108
    go_wp2_with (go_at_call 134; refine (Tryd.stringslite_Index_one _ _ _).mono ?_; rintro e w' ⟨rfl, rfl⟩)
    go_ret3
    exact ⟨⟨s, ⟨#[]⟩, by rw [H.out]; rfl, H2.out.symm, by rw [H.out]; rfl⟩, 0, rfl⟩
  · have h1 := Pm.index_yes h
    have h3 : (Pm.ahead c s.data.toList).length < s.size := by
      have := congrArg List.length (Pm.ahead_behind c s.data.toList)
      rw [List.length_append, hl, h, List.length_cons] at this; omega
    have HT : Hid ((s.data.toList).take (Pm.ahead c s.data.toList).length = Pm.ahead c s.data.toList) := Pm.take_ahead c _
    have HD : Hid ((s.data.toList).drop (Pm.ahead c s.data.toList).length = Pm.behind c s.data.toList) := Pm.drop_ahead c _
    have HL : Hid (s.data.toList.length = s.size) := hl
    have HB : Hid (Pm.behind c s.data.toList = c :: r) := h
    clear h hl
    generalize Pm.ahead c s.data.toList = A at *
    generalize hn : A.length = n at *
    clear hn
    unfold maxLen at hs
    have h0 : (0 : Int) ≤ (n : Int) := by omega
    go_enter Tryd.func108, Tryd.ntmps108
    go_wp2_with (go_at_call 134; refine (Tryd.stringslite_Index_one _ _ _).mono ?_; rintro e w' ⟨rfl, rfl⟩)
    go_quiet (fail)
    go_wp2
    go_ret3
    refine ⟨⟨_, _, by rw [HB.out]; rfl, ?_, ?_⟩, _, rfl⟩
    · rw [Lib.extract_data, ← HT.out]; simp
    · rw [Lib.extract_data, ← HD.out, List.take_of_length_le (by rw [List.length_drop, HL.out]; omega), List.drop_drop]

set_option maxHeartbeats 400000 in
theorem cut1_any (s : ByteArray) (c : UInt8) (w : World) (hs : s.size ≤ maxLen) :
    Calls Tryd.prog 82 #[.string s, .string ⟨#[c]⟩] w fun e w' => (∃ a b : ByteArray, e = .returned (.tuple #[.string a, .string b, .bool (!(Pm.behind c s.data.toList).isEmpty)]) ∧ a.data.toList = Pm.ahead c s.data.toList ∧ b.data.toList = (Pm.behind c s.data.toList).drop 1) ∧ ∃ n, w' = w.drewN n := by
  go_enter Tryd.func82, Tryd.ntmps82
  go_wp2_with fail
  refine (cutIn_any s c _ hs).mono ?_
  rintro e w' ⟨⟨a, b, rfl, ha, hb⟩, n, rfl⟩
  have HA := (show Hid (a.data.toList = _) from ha)
  have HB := (show Hid (b.data.toList = _) from hb)
  clear ha hb
  go_wp2
  go_ret3
  exact ⟨⟨a, b, rfl, HA.out, HB.out⟩, n, rfl⟩

set_option maxHeartbeats 400000 in
theorem wIsPath_any (s : ByteArray) (w : World) (hs : s.size ≤ 140737488355328) :
    Calls Tryd.prog 50 #[.string s] w fun e w' => e = .returned (.bool (Pm.isPath s.data.toList)) ∧ Below w.heap.size w w' := by
  have HT : Hid (Pm.isPath s.data.toList = (decide (Pm.unE s.data.toList = 0) && Lib.hasPrefix s.data.toList [47])) := by
    unfold Hid Pm.isPath; rw [Pm.unE_iff]
  go_enter Tryd.func50, Tryd.ntmps50
  go_wp2_with fail
  refine (wUnescape_any _ _ hs).mono ?_
  rintro e w2 ⟨rfl, hb2⟩
  by_cases h : Pm.unE s.data.toList = 0
  · rw [decide_eq_true h, Bool.true_and] at HT
    rw [h]
    go_wp2_with (go_at_call 77; refine (Tryd.strings_HasPrefix _ _ _).mono ?_; rintro e w' ⟨rfl, rfl⟩)
    go_ret
    exact ⟨ret_bool HT.out.symm, hb2⟩
  · rw [decide_eq_false h, Bool.false_and] at HT
    have h3 : (Pm.unE s.data.toList == 0) = false := by rw [beq_eq_false_iff_ne]; exact h
    go_wp2
    go_ret
    exact ⟨ret_bool HT.out.symm, hb2⟩

set_option maxHeartbeats 400000 in
theorem splitTarget_any (s : ByteArray) (w : World) (hs : s.size ≤ maxLen) :
    Calls Tryd.prog 115 #[.string s] w fun e w' => (∃ a b : ByteArray, e = .returned (.tuple #[.string a, .string b]) ∧ a.data.toList = Pm.ahead 63 s.data.toList ∧ b.data.toList = Pm.behind 63 s.data.toList) ∧ Below w.heap.size w w' := by
  unfold maxLen at hs
  go_enter Tryd.func115, Tryd.ntmps115
  go_wp2_with fail
  refine (cut1_any s 63 _ hs).mono ?_
  rintro e w1 ⟨⟨a, b, rfl, ha, hb⟩, n, rfl⟩
  have hal : a.size ≤ s.size := by
    have h3 := congrArg List.length (Pm.ahead_behind 63 s.data.toList)
    rw [List.length_append, ← ha] at h3
    simp at h3; omega
  have HA := (show Hid (a.data.toList = _) from ha)
  have HX : Hid ((s.extract a.size s.size).data.toList = Pm.behind 63 s.data.toList) := by
    unfold Hid
    rw [Lib.extract_data, List.take_of_length_le (by simp), ← Pm.drop_ahead 63, ← ha]; simp
  clear ha hb
  generalize (!(Pm.behind 63 s.data.toList).isEmpty) = f at *
  have h0 : (0 : Int) ≤ (a.size : Int) := by omega
  go_wp2
  go_quiet (fail)
  go_wp2
  first | go_ret2 | go_ret3
  exact ⟨⟨a, _, rfl, HA.out, HX.out⟩, below_drewN (below_drewN (Below.refl _ _) n) _⟩

set_option maxHeartbeats 400000 in
theorem wIsTarget_any (s : ByteArray) (w : World) (hs : s.size ≤ 140737488355328) :
    Calls Tryd.prog 94 #[.string s] w fun e w' => e = .returned (.bool (Pm.isTarget s.data.toList)) ∧ Below w.heap.size w w' := by
  have hs2 : s.size ≤ maxLen := by unfold maxLen; omega
  have HT : Hid (Pm.isTarget s.data.toList = (Pm.isPath (Pm.ahead 63 s.data.toList) && Pm.allP Pm.tgtB s.data.toList)) := Pm.isTarget_path _
  go_enter Tryd.func94, Tryd.ntmps94
  go_wp2_with fail
  refine (splitTarget_any s _ hs2).mono ?_
  rintro e w1 ⟨⟨a, b, rfl, ha, hb⟩, hbS⟩
  have has : a.size ≤ 140737488355328 := by
    have h3 := congrArg List.length (Pm.ahead_behind 63 s.data.toList)
    rw [List.length_append, ← ha] at h3
    simp at h3; omega
  rw [← ha] at HT
  clear ha hb
  cases h1 : Pm.isPath a.data.toList
  · rw [h1, Bool.false_and] at HT
    go_wp2_with (go_at_call 50; refine (wIsPath_any _ _ has).mono ?_; rintro e w2 ⟨rfl, hb2⟩)
    go_ret
    exact ⟨ret_bool HT.out.symm, hbS.trans (hb2.mono hbS.size)⟩
  · rw [h1, Bool.true_and] at HT
    go_wp2_with (first | (go_at_call 50; refine (wIsPath_any _ _ has).mono ?_; rintro e w2 ⟨rfl, hb2⟩) | (go_at_call 116; refine (allTgt_any _ _ hs2).mono ?_; rintro e w' ⟨rfl, rfl⟩))
    go_ret
    exact ⟨ret_bool HT.out.symm, hbS.trans (hb2.mono hbS.size)⟩
end Go.Proofs.YtnohadlihgjppaaDoor
