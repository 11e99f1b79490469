/- The reference's small forms: methods, paths, targets, values, names that are alike: each call answers what the plain mathematics says; nothing old in memory turns. -/
import Derived.Test.YtnohadlihgjppaaGreatDoorPlainI
import Derived.Test.YtnohadlihgjppaaGreatDoorWalkE
namespace Go.Proofs.YtnohadlihgjppaaGreatDoor
open Go.RowKit

set_option maxHeartbeats 400000 in
theorem madeG_any (s al : ByteArray) (w : World) (hs : s.size ≤ maxLen) (hal : al.size ≤ maxLen) :
    Calls Tryz.prog 61 #[.string s, .string al] w fun e w' => e = .returned (.bool (Pm.allP (Pm.inB al.data.toList) s.data.toList)) ∧ w' = w := by
  unfold maxLen at hs
  go_enter Tryz.func61, Tryz.ntmps61
  go_wp2
  go_loop [5, 6] (fun i _ => ∃ k : Nat, k ≤ s.size ∧ i = .int .i64 k ∧ Hid (Pm.allP (Pm.inB al.data.toList) (s.data.toList.take k) = true)) (fun i _ => s.size - (intOf i).toNat)
  case atStart => exact ⟨0, Nat.zero_le _, rfl, rfl⟩
  case round =>
    obtain ⟨k, hk, rfl, H⟩ := hrel
    by_cases hlt : k < s.size
    · have HS : Hid (Pm.allP (Pm.inB al.data.toList) (s.data.toList.take (k + 1)) = (Pm.allP (Pm.inB al.data.toList) (s.data.toList.take k) && decide (0 ≤ Lib.indexByte al.data.toList s[k]))) := by rw [Pm.take_snoc s k hlt, Pm.allP_snoc]; exact rfl
      by_cases hb : Lib.indexByte al.data.toList s[k] < 0
      · go_wp2_with (go_at_call 64; refine (rAt_any _ _ _ hal).mono ?_; rintro e w' ⟨rfl, rfl⟩)
        have h1 := HS.out
        rw [decide_eq_false (by omega), Bool.and_false] at h1
        go_ret
        exact ⟨ret_bool (Pm.allP_take h1).symm, rfl⟩
      · go_wp2_with (go_at_call 64; refine (rAt_any _ _ _ hal).mono ?_; rintro e w' ⟨rfl, rfl⟩)
        go_round
        case rel => exact ⟨k + 1, by omega, by go_num, by unfold Hid; rw [HS.out, decide_eq_true (by omega), H.out]; rfl⟩
        case measure => simp [intOf]; omega
    · go_wp2
      go_ret
      refine ⟨ret_bool ?_, rfl⟩
      have h1 := H.out
      rw [List.take_of_length_le (by simp; omega)] at h1
      exact h1.symm

set_option maxHeartbeats 400000 in
theorem rIsMethod_any (s : ByteArray) (w : World) (hs : s.size ≤ maxLen) :
    Calls Tryz.prog 52 #[.string s] w fun e w' => e = .returned (.bool (Pm.isMethod s.data.toList)) ∧ w' = w := by
  have HL : Hid (s.data.toList.length = s.size) := by show s.data.toList.length = s.size; simp
  have hs2 := hs
  unfold maxLen at hs2
  cases h : Pm.isTok s.data.toList
  · go_enter Tryz.func52, Tryz.ntmps52
    go_wp2_with (go_at_call 54; refine (rIsToken_any _ _ hs).mono ?_; rintro e w' ⟨rfl, rfl⟩)
    go_ret
    exact ⟨ret_bool (by unfold Pm.isMethod; rw [h, Bool.and_false]), rfl⟩
  · go_enter Tryz.func52, Tryz.ntmps52
    go_wp2_with (go_at_call 54; refine (rIsToken_any _ _ hs).mono ?_; rintro e w' ⟨rfl, rfl⟩)
    go_ret
    exact ⟨ret_bool (by unfold Pm.isMethod; rw [h, Bool.and_true, HL.out]; simp; omega), rfl⟩

theorem hasP_none {s : ByteArray} (h : ¬ 0 < s.size) : Lib.hasPrefix s.data.toList [47] = false := by
  obtain ⟨⟨l⟩⟩ := s
  cases l with
  | nil => rfl
  | cons a r => exact absurd (by simp [ByteArray.size]) h
theorem hasP_at {s : ByteArray} (h : 0 < s.size) : Lib.hasPrefix s.data.toList [47] = ((s[0].toNat : Int) == 47) := by
  obtain ⟨⟨l⟩⟩ := s
  cases l with
  | nil => exact absurd h (by simp [ByteArray.size])
  | cons a r =>
    show ([47] : List UInt8).isPrefixOf (a :: r) = ((a.toNat : Int) == 47)
    have h2 : ([47] : List UInt8).isPrefixOf (a :: r) = (47 == a) := by simp [List.isPrefixOf]
    rw [h2]
    have := Pm.all256 (p := fun a => ((47 : UInt8) == a) == ((a.toNat : Int) == 47)) (by decide +kernel) a
    simpa using this

set_option maxHeartbeats 400000 in
theorem rIsPath_any (s : ByteArray) (w : World) (hs : s.size ≤ maxLen) :
    Calls Tryz.prog 72 #[.string s] w fun e w' => e = .returned (.bool (Pm.isPath s.data.toList)) ∧ Below w.heap.size w w' := by
  have HT : Hid (Pm.isPath s.data.toList = (decide (Pm.unE s.data.toList = 0) && Lib.hasPrefix s.data.toList [47])) := by
    unfold Hid Pm.isPath; rw [Pm.unE_iff]
  go_enter Tryz.func72, Tryz.ntmps72
  go_wp2_with fail
  refine (rUnescape_any _ _ hs).mono ?_
  rintro e w2 ⟨rfl, hb2⟩
  unfold maxLen at hs
  by_cases h : Pm.unE s.data.toList = 0
  · rw [decide_eq_true h, Bool.true_and] at HT
    rw [h]
    by_cases h0 : 0 < s.size
    · have HP := hid (hasP_at h0)
      go_wp2
      go_ret
      exact ⟨ret_bool (by rw [HT.out, HP.out]), hb2⟩
    · have HP := hid (hasP_none h0)
      go_wp2
      go_ret
      exact ⟨ret_bool (by rw [HT.out, HP.out]), hb2⟩
  · rw [decide_eq_false h, Bool.false_and] at HT
    have h3 : (Pm.unE s.data.toList == 0) = false := by rw [beq_eq_false_iff_ne]; exact h
    go_wp2
    go_ret
    exact ⟨ret_bool HT.out.symm, hb2⟩

set_option maxHeartbeats 600000 in
theorem rIsTarget_any (s : ByteArray) (w : World) (hs : s.size ≤ maxLen) :
    Calls Tryz.prog 53 #[.string s] w fun e w' => e = .returned (.bool (Pm.isTarget s.data.toList)) ∧ Below w.heap.size w w' := by
  have HT : Hid (Pm.isTarget s.data.toList = (Pm.isPath (Pm.ahead 63 s.data.toList) && Pm.allP Pm.tgtB s.data.toList)) := Pm.isTarget_path _
  have HS0 : Hid (s.size ≤ maxLen) := hs
  unfold maxLen at hs
  go_enter Tryz.func53, Tryz.ntmps53
  go_wp2_with fail
  go_loop [3] (fun i => ∃ k : Nat, k ≤ s.size ∧ i = .int .i64 k ∧ Hid (Pm.allP Pm.tgtB (s.data.toList.take k) = true)) (fun i => s.size - (intOf i).toNat)
  case atStart => exact ⟨0, Nat.zero_le _, rfl, rfl⟩
  case round =>
    obtain ⟨k, hk, rfl, H⟩ := hrel
    by_cases hlt : k < s.size
    · have HS : Hid (Pm.allP Pm.tgtB (s.data.toList.take (k + 1)) = (Pm.allP Pm.tgtB (s.data.toList.take k) && Pm.tgtB s[k])) := by rw [Pm.take_snoc s k hlt, Pm.allP_snoc]; exact rfl
      have hc0 := s[k].toNat_lt
      have bad : Pm.tgtB s[k] = false → Pm.isTarget s.data.toList = false := by
        intro hb
        have h1 := HS.out
        rw [hb, Bool.and_false] at h1
        rw [HT.out, Pm.allP_take h1, Bool.and_false]
      have BAD := hid bad
      clear bad
      rcases (show (s[k].toNat : Int) < 33 ∨ (s[k].toNat : Int) = 35 ∨ 126 < (s[k].toNat : Int) ∨ (33 ≤ (s[k].toNat : Int) ∧ (s[k].toNat : Int) ≤ 126 ∧ ¬ (s[k].toNat : Int) = 35) from by omega) with h | h | h | h
      · have HB := hid (show Pm.tgtB s[k] = false by simp [Pm.tgtB]; omega)
        go_wp2
        go_ret
        exact ⟨ret_bool (BAD.out HB.out).symm, Below.refl _ _⟩
      · have HB := hid (show Pm.tgtB s[k] = false by simp [Pm.tgtB]; omega)
        have h1 : ((s[k].toNat : Int) == 35) = true := by rw [beq_iff_eq]; exact h
        go_wp2
        go_ret
        exact ⟨ret_bool (BAD.out HB.out).symm, Below.refl _ _⟩
      · have HB := hid (show Pm.tgtB s[k] = false by simp [Pm.tgtB]; omega)
        go_wp2
        go_ret
        exact ⟨ret_bool (BAD.out HB.out).symm, Below.refl _ _⟩
      · obtain ⟨h2, h3, h4⟩ := h
        have HB := hid (show Pm.tgtB s[k] = true by simp [Pm.tgtB]; omega)
        have h1 : ((s[k].toNat : Int) == 35) = false := by rw [beq_eq_false_iff_ne]; exact h4
        clear h4
        go_wp2
        go_round
        case rel => exact ⟨k + 1, by omega, by go_num, by unfold Hid; rw [HS.out, HB.out, H.out]; exact rfl⟩
        case measure => simp [intOf]; omega
    · have HA : Hid (Pm.allP Pm.tgtB s.data.toList = true) := by
        have h1 := H.out
        rw [List.take_of_length_le (by simp; omega)] at h1
        exact h1
      go_wp2_with fail
      refine (rAhead_any s 63 _ HS0.out).mono ?_
      rintro e w1 ⟨⟨a, b, rfl, ha, hb⟩, hb1⟩
      have has : a.size ≤ maxLen := by
        have h3 := congrArg List.length (Pm.ahead_behind 63 s.data.toList)
        rw [List.length_append, ← ha] at h3
        have h4 := HS0.out
        simp at h3; omega
      have HR := HT.out
      rw [← ha, HA.out, Bool.and_true] at HR
      have HR2 := hid HR
      clear HR ha hb
      go_wp2_with (go_at_call 72; refine (rIsPath_any _ _ has).mono ?_; rintro e w2 ⟨rfl, hb2⟩)
      go_ret
      exact ⟨ret_bool HR2.out.symm, hb1.trans (hb2.mono hb1.size)⟩

theorem bl_t32 {c : UInt8} (h : ((c.toNat : Int) == 32) = true) : Pm.isBl c = true := by simp at h; simp [Pm.isBl, h]
theorem bl_t9 {c : UInt8} (h : ((c.toNat : Int) == 9) = true) : Pm.isBl c = true := by simp at h; simp [Pm.isBl, h]
theorem bl_f {c : UInt8} (h : ((c.toNat : Int) == 32) = false) (h' : ((c.toNat : Int) == 9) = false) : Pm.isBl c = false := by
  rw [beq_eq_false_iff_ne] at h h'; simp [Pm.isBl]; omega

set_option maxHeartbeats 800000 in
theorem rBare_to (n : Nat) : ∀ (s : ByteArray) (w : World), s.size ≤ n → s.size ≤ maxLen →
    Calls Tryz.prog 62 #[.string s] w fun e w' => (∃ o : ByteArray, e = .returned (.string o) ∧ o.data.toList = Lib.trimS s.data.toList Pm.blanks) ∧ Below w.heap.size w w' := by
  induction n with
  | zero =>
    intro s w hn hs
    have h0 : ¬ 0 < s.size := by omega
    have HR := hid (Pm.bare_done s (fun h => absurd h h0) (fun h => absurd h h0))
    unfold maxLen at hs
    go_enter Tryz.func62, Tryz.ntmps62
    go_wp2
    go_ret
    exact ⟨⟨s, rfl, HR.out.symm⟩, Below.refl _ _⟩
  | succ n ih =>
    intro s w hn hs
    have IH := hid ih
    clear ih
    unfold maxLen at hs
    by_cases h0 : 0 < s.size
    · have HF := hid (Pm.bare_front s h0)
      have HB := hid (Pm.bare_back s h0)
      have HD := hid (Pm.bare_done s)
      have hz1 : (s.extract 1 s.size).size ≤ n := by simp; omega
      have hz2 : (s.extract 0 (s.size - 1)).size ≤ n := by simp; omega
      have hy1 : (s.extract 1 s.size).size ≤ maxLen := by unfold maxLen; simp; omega
      have hy2 : (s.extract 0 (s.size - 1)).size ≤ maxLen := by unfold maxLen; simp; omega
      cases ha : ((s[0].toNat : Int) == 32)
      · cases hb : ((s[0].toNat : Int) == 9)
        · cases hc : ((s[s.size - 1].toNat : Int) == 32)
          · cases hd : ((s[s.size - 1].toNat : Int) == 9)
            · have HR := hid (HD.out (fun _ => bl_f ha hb) (fun _ => bl_f hc hd))
              go_enter Tryz.func62, Tryz.ntmps62
              go_wp2
              go_ret
              exact ⟨⟨s, rfl, HR.out.symm⟩, Below.refl _ _⟩
            · have HR := hid (HB.out (bl_t9 hd))
              go_enter Tryz.func62, Tryz.ntmps62
              go_wp2_with (go_at_call 62; refine (IH.out _ _ hz2 hy2).mono ?_; rintro e w' ⟨⟨o, rfl, ho⟩, hb1⟩)
              go_ret
              exact ⟨⟨o, rfl, by rw [ho, HR.out]⟩, hb1⟩
          · have HR := hid (HB.out (bl_t32 hc))
            go_enter Tryz.func62, Tryz.ntmps62
            go_wp2_with (go_at_call 62; refine (IH.out _ _ hz2 hy2).mono ?_; rintro e w' ⟨⟨o, rfl, ho⟩, hb1⟩)
            go_ret
            exact ⟨⟨o, rfl, by rw [ho, HR.out]⟩, hb1⟩
        · have HR := hid (HF.out (bl_t9 hb))
          go_enter Tryz.func62, Tryz.ntmps62
          go_wp2_with (go_at_call 62; refine (IH.out _ _ hz1 hy1).mono ?_; rintro e w' ⟨⟨o, rfl, ho⟩, hb1⟩)
          go_ret
          exact ⟨⟨o, rfl, by rw [ho, HR.out]⟩, hb1⟩
      · have HR := hid (HF.out (bl_t32 ha))
        go_enter Tryz.func62, Tryz.ntmps62
        go_wp2_with (go_at_call 62; refine (IH.out _ _ hz1 hy1).mono ?_; rintro e w' ⟨⟨o, rfl, ho⟩, hb1⟩)
        go_ret
        exact ⟨⟨o, rfl, by rw [ho, HR.out]⟩, hb1⟩
    · have HR := hid (Pm.bare_done s (fun h => absurd h h0) (fun h => absurd h h0))
      go_enter Tryz.func62, Tryz.ntmps62
      go_wp2
      go_ret
      exact ⟨⟨s, rfl, HR.out.symm⟩, Below.refl _ _⟩
theorem rBare_any (s : ByteArray) (w : World) (hs : s.size ≤ maxLen) :
    Calls Tryz.prog 62 #[.string s] w fun e w' => (∃ o : ByteArray, e = .returned (.string o) ∧ o.data.toList = Lib.trimS s.data.toList Pm.blanks) ∧ Below w.heap.size w w' := rBare_to s.size s w (Nat.le_refl _) hs

set_option maxHeartbeats 600000 in
theorem rIsValue_any (s : ByteArray) (w : World) (hs : s.size ≤ maxLen) :
    Calls Tryz.prog 55 #[.string s] w fun e w' => e = .returned (.bool (Pm.isValue s.data.toList)) ∧ Below w.heap.size w w' := by
  have HS0 : Hid (s.size ≤ maxLen) := hs
  unfold maxLen at hs
  go_enter Tryz.func55, Tryz.ntmps55
  go_wp2_with fail
  go_loop [3] (fun i => ∃ k : Nat, k ≤ s.size ∧ i = .int .i64 k ∧ Hid (Pm.allP Pm.valB (s.data.toList.take k) = true)) (fun i => s.size - (intOf i).toNat)
  case atStart => exact ⟨0, Nat.zero_le _, rfl, rfl⟩
  case round =>
    obtain ⟨k, hk, rfl, H⟩ := hrel
    by_cases hlt : k < s.size
    · have HS : Hid (Pm.allP Pm.valB (s.data.toList.take (k + 1)) = (Pm.allP Pm.valB (s.data.toList.take k) && Pm.valB s[k])) := by rw [Pm.take_snoc s k hlt, Pm.allP_snoc]; exact rfl
      have hc0 := s[k].toNat_lt
      have BAD : Hid (Pm.valB s[k] = false → Pm.isValue s.data.toList = false) := by
        intro hb
        have h1 := HS.out
        rw [hb, Bool.and_false] at h1
        unfold Pm.isValue; rw [Pm.allP_take h1, Bool.false_and]
      have next : Pm.valB s[k] = true → Hid (Pm.allP Pm.valB (s.data.toList.take (k + 1)) = true) := fun h => by unfold Hid; rw [HS.out, h, H.out]; exact rfl
      have NEXT := hid next
      clear next
      rcases (show (s[k].toNat : Int) = 9 ∨ (s[k].toNat : Int) = 127 ∨ (¬ (s[k].toNat : Int) = 9 ∧ (s[k].toNat : Int) < 32) ∨ (32 ≤ (s[k].toNat : Int) ∧ ¬ (s[k].toNat : Int) = 127) from by omega) with h | h | h | h
      · have HB := hid (show Pm.valB s[k] = true by simp [Pm.valB]; omega)
        have h1 : ((s[k].toNat : Int) != 9) = false := by rw [h]; rfl
        go_wp2
        go_round
        case rel => exact ⟨k + 1, by omega, by go_num, NEXT.out HB.out⟩
        case measure => simp [intOf]; omega
      · have HB := hid (show Pm.valB s[k] = false by simp [Pm.valB]; omega)
        have h1 : ((s[k].toNat : Int) != 9) = true := by rw [h]; rfl
        have h2 : ((s[k].toNat : Int) == 127) = true := by rw [h]; rfl
        go_wp2
        go_ret
        exact ⟨ret_bool (BAD.out HB.out).symm, Below.refl _ _⟩
      · obtain ⟨h2, h3⟩ := h
        have HB := hid (show Pm.valB s[k] = false by simp [Pm.valB]; omega)
        have h1 : ((s[k].toNat : Int) != 9) = true := by rw [bne_iff_ne]; exact h2
        clear h2
        go_wp2
        go_ret
        exact ⟨ret_bool (BAD.out HB.out).symm, Below.refl _ _⟩
      · obtain ⟨h2, h3⟩ := h
        have HB := hid (show Pm.valB s[k] = true by simp [Pm.valB]; omega)
        have h1 : ((s[k].toNat : Int) != 9) = true := by rw [bne_iff_ne]; omega
        have h4 : ((s[k].toNat : Int) == 127) = false := by rw [beq_eq_false_iff_ne]; exact h3
        clear h3
        go_wp2
        go_round
        case rel => exact ⟨k + 1, by omega, by go_num, NEXT.out HB.out⟩
        case measure => simp [intOf]; omega
    · have HA : Hid (Pm.isValue s.data.toList = (Lib.trimS s.data.toList Pm.blanks == s.data.toList)) := by
        have h1 := H.out
        rw [List.take_of_length_le (by simp; omega)] at h1
        unfold Hid Pm.isValue; rw [h1, Bool.true_and]
      go_wp2_with (go_at_call 62; refine (rBare_any _ _ HS0.out).mono ?_; rintro e w' ⟨⟨o, rfl, ho⟩, hb1⟩)
      go_ret
      exact ⟨ret_bool (by rw [HA.out, ← ho, ByteArray.toList_eq, ByteArray.toList_eq]), hb1⟩

set_option maxHeartbeats 400000 in
theorem rAlike_any (a b : ByteArray) (w : World) (ha : a.size ≤ maxLen) (hb : b.size ≤ maxLen) :
    Calls Tryz.prog 43 #[.string a, .string b] w fun e w' => e = .returned (.bool (Pm.alike a.data.toList b.data.toList)) ∧ w' = w := by
  go_enter Tryz.func43, Tryz.ntmps43
  go_wp2_with fail
  refine (rSmall_any a _ ha).mono ?_
  rintro e w' ⟨⟨o, rfl, ho⟩, rfl⟩
  go_wp2_with fail
  refine (rSmall_any b _ hb).mono ?_
  rintro e w' ⟨⟨p, rfl, hp⟩, rfl⟩
  have HO := hid ho
  have HP := hid hp
  clear ho hp
  go_wp2
  go_ret
  refine ⟨ret_bool ?_, rfl⟩
  unfold Pm.alike
  rw [ByteArray.toList_eq, ByteArray.toList_eq, HO.out, HP.out, Pm.map_small, Pm.map_small]
end Go.Proofs.YtnohadlihgjppaaGreatDoor
