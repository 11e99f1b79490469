/- Texts that follow one another, joined. -/
import Derived.Test.YtnohadlihgjppaaDoorJoin01
import Derived.Test.YtnohadlihgjppaaDoorJoin07
import Derived.Test.YtnohadlihgjppaaDoorJoin21
/- The reference's small forms: methods, paths, targets, values, names that are alike: each call answers what the plain mathematics says; nothing old in memory turns. -/
namespace Go.Proofs.YtnohadlihgjppaaDoor
open Go.RowKit

set_option maxHeartbeats 400000 in
theorem madeG_any (s al : ByteArray) (w : World) (hs : s.size ≤ maxLen) (hal : al.size ≤ maxLen) :
    Calls Tryd.prog 55 #[.string s, .string al] w fun e w' => e = .returned (.bool (Pm.allP (Pm.inB al.data.toList) s.data.toList)) ∧ w' = w := by
  unfold maxLen at hs
  go_enter Tryd.func55, Tryd.ntmps55
  go_wp2
  go_loop [5, 6] (fun i _ => ∃ k : Nat, k ≤ s.size ∧ i = .int .i64 k ∧ Hid (Pm.allP (Pm.inB al.data.toList) (s.data.toList.take k) = true)) (fun i _ => s.size - (intOf i).toNat)
  case atStart => exact ⟨0, Nat.zero_le _, rfl, rfl⟩
  case round =>
    obtain ⟨k, hk, rfl, H⟩ := hrel
    by_cases hlt : k < s.size
    · have HS : Hid (Pm.allP (Pm.inB al.data.toList) (s.data.toList.take (k + 1)) = (Pm.allP (Pm.inB al.data.toList) (s.data.toList.take k) && decide (0 ≤ Lib.indexByte al.data.toList s[k]))) := by rw [Pm.take_snoc s k hlt, Pm.allP_snoc]; exact rfl
      by_cases hb : Lib.indexByte al.data.toList s[k] < 0
      · go_wp2_with (go_at_call 85; refine (rAt_any _ _ _ hal).mono ?_; rintro e w' ⟨rfl, rfl⟩)
        have h1 := HS.out
        rw [decide_eq_false (by omega), Bool.and_false] at h1
        go_ret
        exact ⟨ret_bool (Pm.allP_take h1).symm, rfl⟩
      · go_wp2_with (go_at_call 85; refine (rAt_any _ _ _ hal).mono ?_; rintro e w' ⟨rfl, rfl⟩)
        go_round
        case rel => exact ⟨k + 1, by omega, by go_num, by unfold Hid; rw [HS.out, decide_eq_true (by omega), H.out]; rfl⟩
        case measure => simp [intOf]; omega
    · go_wp2
      go_ret
      refine ⟨ret_bool ?_, rfl⟩
      have h1 := H.out
      rw [List.take_of_length_le (by simp; omega)] at h1
      exact h1.symm

theorem hasP_none {s : ByteArray} (h : ¬ 0 < s.size) : Lib.hasPrefix s.data.toList [47] = false := by
  obtain ⟨⟨l⟩⟩ := s
  cases l with
  | nil => rfl
  | cons a r => exact absurd (by simp [ByteArray.size]) h
theorem hasP_at {s : ByteArray} (h : 0 < s.size) : Lib.hasPrefix s.data.toList [47] = ((s[0].toNat : Int) == 47) := by
  obtain ⟨⟨l⟩⟩ := s
  cases l with
  | nil => exact absurd h (by simp [ByteArray.size])
  | cons a r =>
    show ([47] : List UInt8).isPrefixOf (a :: r) = ((a.toNat : Int) == 47)
    have h2 : ([47] : List UInt8).isPrefixOf (a :: r) = (47 == a) := by simp [List.isPrefixOf]
    rw [h2]
    have := Pm.all256 (p := fun a => ((47 : UInt8) == a) == ((a.toNat : Int) == 47)) (by decide +kernel) a
    simpa using this

set_option maxHeartbeats 400000 in
theorem rIsPath_any (s : ByteArray) (w : World) (hs : s.size ≤ maxLen) :
    Calls Tryd.prog 34 #[.string s] w fun e w' => e = .returned (.bool (Pm.isPath s.data.toList)) ∧ Below w.heap.size w w' := by
  have HT : Hid (Pm.isPath s.data.toList = (decide (Pm.unE s.data.toList = 0) && Lib.hasPrefix s.data.toList [47])) := by
    unfold Hid Pm.isPath; rw [Pm.unE_iff]
  go_enter Tryd.func34, Tryd.ntmps34
  go_wp2_with fail
  refine (rUnescape_any _ _ hs).mono ?_
  rintro e w2 ⟨rfl, hb2⟩
  unfold maxLen at hs
  by_cases h : Pm.unE s.data.toList = 0
  · rw [decide_eq_true h, Bool.true_and] at HT
    rw [h]
    by_cases h0 : 0 < s.size
    · have HP := hid (hasP_at h0)
      go_wp2
      go_ret
      exact ⟨ret_bool (by rw [HT.out, HP.out]), hb2⟩
    · have HP := hid (hasP_none h0)
      go_wp2
      go_ret
      exact ⟨ret_bool (by rw [HT.out, HP.out]), hb2⟩
  · rw [decide_eq_false h, Bool.false_and] at HT
    have h3 : (Pm.unE s.data.toList == 0) = false := by rw [beq_eq_false_iff_ne]; exact h
    go_wp2
    go_ret
    exact ⟨ret_bool HT.out.symm, hb2⟩

theorem bl_t32 {c : UInt8} (h : ((c.toNat : Int) == 32) = true) : Pm.isBl c = true := by simp at h; simp [Pm.isBl, h]
theorem bl_t9 {c : UInt8} (h : ((c.toNat : Int) == 9) = true) : Pm.isBl c = true := by simp at h; simp [Pm.isBl, h]
theorem bl_f {c : UInt8} (h : ((c.toNat : Int) == 32) = false) (h' : ((c.toNat : Int) == 9) = false) : Pm.isBl c = false := by
  rw [beq_eq_false_iff_ne] at h h'; simp [Pm.isBl]; omega

end Go.Proofs.YtnohadlihgjppaaDoor

/- The reference's pieces: whether one is fixed or a rest, and its name; nothing old in memory turns. -/
namespace Go.Proofs.YtnohadlihgjppaaDoor
open Go.RowKit

theorem kind_cons {s : ByteArray} (h : 0 < s.size) : Pm.pieceK s.data.toList = if ((s[0].toNat : Int) == 58) = true then 1 else if ((s[0].toNat : Int) == 42) = true then 2 else 0 := by
  obtain ⟨⟨l⟩⟩ := s
  cases l with
  | nil => exact absurd h (by simp [ByteArray.size])
  | cons a r =>
    show (if ([58] : List UInt8).isPrefixOf (a :: r) = true then (1 : Int) else if ([42] : List UInt8).isPrefixOf (a :: r) = true then 2 else 0) = (if ((a.toNat : Int) == 58) = true then 1 else if ((a.toNat : Int) == 42) = true then 2 else 0)
    have h2 : ([58] : List UInt8).isPrefixOf (a :: r) = (58 == a) := by simp [List.isPrefixOf]
    have h3 : ([42] : List UInt8).isPrefixOf (a :: r) = (42 == a) := by simp [List.isPrefixOf]
    rw [h2, h3]
    have e1 := Pm.all256 (p := fun a => ((58 : UInt8) == a) == ((a.toNat : Int) == 58)) (by decide +kernel) a
    have e2 := Pm.all256 (p := fun a => ((42 : UInt8) == a) == ((a.toNat : Int) == 42)) (by decide +kernel) a
    have e1' : ((58 : UInt8) == a) = ((a.toNat : Int) == 58) := by simpa using e1
    have e2' : ((42 : UInt8) == a) = ((a.toNat : Int) == 42) := by simpa using e2
    rw [e1', e2']
theorem toList_nil {s : ByteArray} (h : ¬ 0 < s.size) : s.data.toList = [] := by
  have hl : s.data.toList.length = s.size := by simp
  exact List.eq_nil_of_length_eq_zero (by omega)
theorem kind_nil {s : ByteArray} (h : ¬ 0 < s.size) : Pm.pieceK s.data.toList = 0 := by
  rw [toList_nil h]; rfl
theorem empt_cons {s : ByteArray} (h : 0 < s.size) : s.toList.isEmpty = false := by
  have hl : s.data.toList.length = s.size := by simp
  rw [ByteArray.toList_eq]
  cases hd : s.data.toList with
  | nil => rw [hd] at hl; simp at hl; omega
  | cons => rfl
theorem empt_nil {s : ByteArray} (h : ¬ 0 < s.size) : s.toList.isEmpty = true := by
  rw [ByteArray.toList_eq, toList_nil h]; rfl
def nameOf (s : ByteArray) : ByteArray := if Pm.pieceK s.data.toList = 0 then ⟨#[]⟩ else s.extract 1 s.size

set_option maxHeartbeats 400000 in
theorem rIsRest_any (s : ByteArray) (w : World) :
    Calls Tryd.prog 54 #[.string s] w fun e w' => e = .returned (.bool (Pm.pieceK s.data.toList == 2)) ∧ Below w.heap.size w w' := by
  by_cases h0 : 0 < s.size
  · have HK := hid (kind_cons h0)
    have he := empt_cons h0
    generalize Pm.pieceK s.data.toList = K at *
    cases hb : ((s[0].toNat : Int) == 42)
    · have HF : Hid ((K == 2) = false) := by unfold Hid; rw [HK.out, hb]; cases ((s[0].toNat : Int) == 58) <;> rfl
      go_enter Tryd.func54, Tryd.ntmps54
      go_wp2
      go_ret
      exact ⟨ret_bool HF.out.symm, Below.refl _ _⟩
    · have HF : Hid ((K == 2) = true) := by
        unfold Hid; rw [HK.out, hb]
        have : ((s[0].toNat : Int) == 58) = false := by rw [beq_eq_false_iff_ne]; rw [beq_iff_eq] at hb; omega
        rw [this]; rfl
      go_enter Tryd.func54, Tryd.ntmps54
      go_wp2
      go_ret
      exact ⟨ret_bool HF.out.symm, Below.refl _ _⟩
  · have HK := hid (kind_nil h0)
    have he := empt_nil h0
    generalize Pm.pieceK s.data.toList = K at *
    have HF : Hid ((K == 2) = false) := by unfold Hid; rw [HK.out]; rfl
    go_enter Tryd.func54, Tryd.ntmps54
    go_wp2
    go_ret
    exact ⟨ret_bool HF.out.symm, Below.refl _ _⟩

set_option maxHeartbeats 400000 in
theorem rIsFixed_any (s : ByteArray) (w : World) :
    Calls Tryd.prog 53 #[.string s] w fun e w' => e = .returned (.bool (Pm.pieceK s.data.toList == 0)) ∧ Below w.heap.size w w' := by
  by_cases h0 : 0 < s.size
  · have HK := hid (kind_cons h0)
    have he := empt_cons h0
    generalize Pm.pieceK s.data.toList = K at *
    cases ha : ((s[0].toNat : Int) == 58)
    · have ha' : ((s[0].toNat : Int) != 58) = true := by rw [bne, ha]; rfl
      cases hb : ((s[0].toNat : Int) == 42)
      · have HF : Hid ((K == 0) = true) := by unfold Hid; rw [HK.out, ha, hb]; rfl
        have hb' : ((s[0].toNat : Int) != 42) = true := by rw [bne, hb]; rfl
        go_enter Tryd.func53, Tryd.ntmps53
        go_wp2
        go_ret
        exact ⟨ret_bool HF.out.symm, Below.refl _ _⟩
      · have HF : Hid ((K == 0) = false) := by unfold Hid; rw [HK.out, ha, hb]; rfl
        have hb' : ((s[0].toNat : Int) != 42) = false := by rw [bne, hb]; rfl
        go_enter Tryd.func53, Tryd.ntmps53
        go_wp2
        go_ret
        exact ⟨ret_bool HF.out.symm, Below.refl _ _⟩
    · have ha' : ((s[0].toNat : Int) != 58) = false := by rw [bne, ha]; rfl
      have HF : Hid ((K == 0) = false) := by unfold Hid; rw [HK.out, ha]; rfl
      go_enter Tryd.func53, Tryd.ntmps53
      go_wp2
      go_ret
      exact ⟨ret_bool HF.out.symm, Below.refl _ _⟩
  · have HK := hid (kind_nil h0)
    have he := empt_nil h0
    generalize Pm.pieceK s.data.toList = K at *
    have HF : Hid ((K == 0) = true) := by unfold Hid; rw [HK.out]; rfl
    go_enter Tryd.func53, Tryd.ntmps53
    go_wp2
    go_ret
    exact ⟨ret_bool HF.out.symm, Below.refl _ _⟩
set_option maxHeartbeats 400000 in
theorem rnamed_any (s : ByteArray) (w : World) (hs : s.size ≤ maxLen) :
    Calls Tryd.prog 56 #[.string s] w fun e w' => e = .returned (.string (nameOf s)) ∧ Below w.heap.size w w' := by
  unfold maxLen at hs
  have HN : Hid (nameOf s = if Pm.pieceK s.data.toList = 0 then ⟨#[]⟩ else s.extract 1 s.size) := rfl
  generalize nameOf s = NM at *
  by_cases h0 : 0 < s.size
  · have HK := hid (kind_cons h0)
    have he := empt_cons h0
    generalize Pm.pieceK s.data.toList = K at *
    cases ha : ((s[0].toNat : Int) == 58)
    · cases hb : ((s[0].toNat : Int) == 42)
      · have HF : Hid (NM = ⟨#[]⟩) := by unfold Hid; rw [HN.out, HK.out, ha, hb]; rfl
        clear HN HK
        go_enter Tryd.func56, Tryd.ntmps56
        go_wp2
        go_ret
        exact ⟨by rw [HF.out]; rfl, Below.refl _ _⟩
      · have HF : Hid (NM = s.extract 1 s.size) := by unfold Hid; rw [HN.out, HK.out, ha, hb]; rfl
        clear HN HK
        go_enter Tryd.func56, Tryd.ntmps56
        go_wp2
        go_ret
        exact ⟨by rw [HF.out]; rfl, Below.refl _ _⟩
    · have HF : Hid (NM = s.extract 1 s.size) := by unfold Hid; rw [HN.out, HK.out, ha]; rfl
      clear HN HK
      go_enter Tryd.func56, Tryd.ntmps56
      go_wp2
      go_ret
      exact ⟨by rw [HF.out]; rfl, Below.refl _ _⟩
  · have HK := hid (kind_nil h0)
    have he := empt_nil h0
    have HF : Hid (NM = ⟨#[]⟩) := by unfold Hid; rw [HN.out, HK.out]; rfl
    clear HN HK
    go_enter Tryd.func56, Tryd.ntmps56
    go_wp2
    go_ret
    exact ⟨by rw [HF.out]; rfl, Below.refl _ _⟩
end Go.Proofs.YtnohadlihgjppaaDoor
