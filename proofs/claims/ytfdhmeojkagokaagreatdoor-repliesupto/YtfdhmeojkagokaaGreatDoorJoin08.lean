/- Texts that follow one another, joined. -/
import Derived.Test.YtfdhmeojkagokaaGreatDoorJoin07
import Derived.Test.YtfdhmeojkagokaaGreatDoorJoin02
/- What a reader makes of a body, told in one piece or in chunks, as the plain mathematics says it; and what a framing without error tells. -/
namespace Go.Proofs.YtfdhmeojkagokaaGreatDoor
open Go.RowKit

end Go.Proofs.YtfdhmeojkagokaaGreatDoor

/- A reader's request, from the beginning of its bytes, is what the plain mathematics says; no old block but the reader's turns. -/
namespace Go.Proofs.YtfdhmeojkagokaaGreatDoor
open Go.RowKit

theorem Kp.alloc {b : Nat} {w w1 : World} (h : Kp b w w1) (o : Obj) : Kp b w (w1.alloc o) := h.trans (Kp.of ((Below.refl _ _).alloc (Nat.le_refl _) _))
theorem owns_not {w : World} {B : Nat} {e : TypeId} {sz : Nat} {x : Value} {n : Nat} {xs : List Value} (ho : w.ownsRow B e sz x n xs) {g : Nat} (hg : x.ownBlock ≠ some g) (o : Nat) (v : Value) : (w.setCell ⟨g, o, none⟩ v).ownsRow B e sz x n xs := by
  obtain ⟨h1, h2⟩ := ho
  refine ⟨h1, ?_⟩
  rcases h2 with h2 | ⟨r, cap, cur, hv, hB, hr, h3⟩
  · exact .inl h2
  · refine .inr ⟨r, cap, cur, hv, hB, ?_, h3⟩
    have hne : r ≠ g := fun h => hg (by rw [hv, ← h]; rfl)
    rw [heap_setCell_other w ⟨g, o, none⟩ r v hne]; exact hr
theorem RqB.set3 {g : Nat} {m t : List UInt8} {x : Value} {w : World} (h : RqB g m t x w) (y : Value) : (w.setCell ⟨g, 3, none⟩ y).heap[g]? = some (.cells #[.string ⟨m.toArray⟩, .string ⟨t.toArray⟩, x, y] 30 (0, 0)) := by
  unfold RqB at h; rw [heap_setCell_same w g 3 _ _ _ h]; rfl

end Go.Proofs.YtfdhmeojkagokaaGreatDoor

/- Frame, wire's and porter's own: the request, how many bytes it has, the error, as the plain mathematics says; nothing old in memory turns. The limits are right ones. -/
namespace Go.Proofs.YtfdhmeojkagokaaGreatDoor
open Go.RowKit

end Go.Proofs.YtfdhmeojkagokaaGreatDoor

/- The program's pieces of a pattern: what a text is as a piece; nothing old in memory turns. -/
namespace Go.Proofs.YtfdhmeojkagokaaGreatDoor
open Go.RowKit

set_option maxHeartbeats 400000 in
theorem isNameByte_any (c : UInt8) (w : World) :
    Calls Tryz.prog 190 #[.int .u8 c.toNat] w fun e w' => e = .returned (.bool (Pm.nameB c)) ∧ w' = w := by
  have h0 := c.toNat_lt
  by_cases h1 : 97 ≤ (c.toNat : Int)
  · by_cases h2 : (c.toNat : Int) ≤ 122
    · go_enter Tryz.func190, Tryz.ntmps190
      go_wp2
      go_ret
      exact ⟨ret_bool (by simp [Pm.nameB, h1, h2]), rfl⟩
    · go_enter Tryz.func190, Tryz.ntmps190
      go_wp2_with (go_at_call 132; refine (isDigit_any _ _).mono ?_; rintro e w' ⟨rfl, rfl⟩)
      go_ret
      exact ⟨ret_bool (by unfold Pm.nameB; rw [decide_eq_false (show ¬ (c.toNat : Int) ≤ 122 by omega), Bool.and_false, Bool.false_or]), rfl⟩
  · go_enter Tryz.func190, Tryz.ntmps190
    go_wp2_with (go_at_call 132; refine (isDigit_any _ _).mono ?_; rintro e w' ⟨rfl, rfl⟩)
    go_ret
    exact ⟨ret_bool (by unfold Pm.nameB; rw [decide_eq_false (show ¬ 97 ≤ (c.toNat : Int) by omega), Bool.false_and, Bool.false_or]), rfl⟩

set_option maxHeartbeats 400000 in
theorem isFixedByte_any (c : UInt8) (w : World) :
    Calls Tryz.prog 191 #[.int .u8 c.toNat] w fun e w' => e = .returned (.bool (Pm.fixB c)) ∧ w' = w := by
  have hc : ((c.toNat : Int)).toNat.toUInt8 = c := by simp
  cases h1 : Pm.letB c
  · cases h2 : Pm.digB c
    · go_enter Tryz.func191, Tryz.ntmps191
      go_wp2_with (first | (go_at_call 132; refine (isDigit_any _ _).mono ?_; rintro e w' ⟨rfl, rfl⟩) | (go_at_call 131; refine (isLetter_any _ _).mono ?_; rintro e w' ⟨rfl, rfl⟩) | (go_at_call 133; refine (Tryz.strings_IndexByte _ _ _).mono ?_; rintro e w' ⟨rfl, rfl⟩))
      go_ret
      exact ⟨ret_bool (by unfold Pm.fixB; rw [h1, h2]; simp only [Bool.or_false, Bool.false_or]; exact decide_eq_decide.2 Iff.rfl), rfl⟩
    · go_enter Tryz.func191, Tryz.ntmps191
      go_wp2_with (first | (go_at_call 132; refine (isDigit_any _ _).mono ?_; rintro e w' ⟨rfl, rfl⟩) | (go_at_call 131; refine (isLetter_any _ _).mono ?_; rintro e w' ⟨rfl, rfl⟩))
      go_ret
      exact ⟨ret_bool (by unfold Pm.fixB; rw [h1, h2]; rfl), rfl⟩
  · go_enter Tryz.func191, Tryz.ntmps191
    go_wp2_with (go_at_call 131; refine (isLetter_any _ _).mono ?_; rintro e w' ⟨rfl, rfl⟩)
    go_ret
    exact ⟨ret_bool (by unfold Pm.fixB; rw [h1]; rfl), rfl⟩

set_option maxHeartbeats 400000 in
theorem allName_any (s : ByteArray) (w : World) (hs : s.size ≤ maxLen) :
    Calls Tryz.prog 95 #[.string s, .func (.func 190) #[] #[]] w fun e w' => e = .returned (.bool (Pm.allP Pm.nameB s.data.toList)) ∧ w' = w := by
  unfold maxLen at hs
  go_enter Tryz.func95, Tryz.ntmps95
  go_wp2_with fail
  go_loop [5, 8] (fun _ i => ∃ k : Nat, k ≤ s.size ∧ i = .int .i64 k ∧ Hid (Pm.allP Pm.nameB (s.data.toList.take k) = true)) (fun _ i => s.size - (intOf i).toNat)
  case atStart => exact ⟨0, Nat.zero_le _, rfl, rfl⟩
  case round =>
    obtain ⟨k, hk, rfl, H⟩ := hrel
    by_cases hlt : k < s.size
    · have HS : Hid (Pm.allP Pm.nameB (s.data.toList.take (k + 1)) = (Pm.allP Pm.nameB (s.data.toList.take k) && Pm.nameB s[k])) := by rw [Pm.take_snoc s k hlt, Pm.allP_snoc]; exact rfl
      cases hb : Pm.nameB s[k]
      · go_wp2_with (go_at_call 190; refine (isNameByte_any _ _).mono ?_; rintro e w' ⟨rfl, rfl⟩)
        go_ret
        refine ⟨ret_bool ?_, rfl⟩
        have h1 := HS.out
        rw [hb, Bool.and_false] at h1
        exact (Pm.allP_take h1).symm
      · go_wp2_with (go_at_call 190; refine (isNameByte_any _ _).mono ?_; rintro e w' ⟨rfl, rfl⟩)
        go_round
        case rel => exact ⟨k + 1, by omega, by go_num, by rw [HS.out, hb, H.out]; exact rfl⟩
        case measure => simp [intOf]; omega
    · go_wp2
      go_ret
      refine ⟨ret_bool ?_, rfl⟩
      have h1 := H.out
      rw [List.take_of_length_le (by simp; omega)] at h1
      exact h1.symm

set_option maxHeartbeats 400000 in
theorem allFix_any (s : ByteArray) (w : World) (hs : s.size ≤ maxLen) :
    Calls Tryz.prog 95 #[.string s, .func (.func 191) #[] #[]] w fun e w' => e = .returned (.bool (Pm.allP Pm.fixB s.data.toList)) ∧ w' = w := by
  unfold maxLen at hs
  go_enter Tryz.func95, Tryz.ntmps95
  go_wp2_with fail
  go_loop [5, 8] (fun _ i => ∃ k : Nat, k ≤ s.size ∧ i = .int .i64 k ∧ Hid (Pm.allP Pm.fixB (s.data.toList.take k) = true)) (fun _ i => s.size - (intOf i).toNat)
  case atStart => exact ⟨0, Nat.zero_le _, rfl, rfl⟩
  case round =>
    obtain ⟨k, hk, rfl, H⟩ := hrel
    by_cases hlt : k < s.size
    · have HS : Hid (Pm.allP Pm.fixB (s.data.toList.take (k + 1)) = (Pm.allP Pm.fixB (s.data.toList.take k) && Pm.fixB s[k])) := by rw [Pm.take_snoc s k hlt, Pm.allP_snoc]; exact rfl
      cases hb : Pm.fixB s[k]
      · go_wp2_with (go_at_call 191; refine (isFixedByte_any _ _).mono ?_; rintro e w' ⟨rfl, rfl⟩)
        go_ret
        refine ⟨ret_bool ?_, rfl⟩
        have h1 := HS.out
        rw [hb, Bool.and_false] at h1
        exact (Pm.allP_take h1).symm
      · go_wp2_with (go_at_call 191; refine (isFixedByte_any _ _).mono ?_; rintro e w' ⟨rfl, rfl⟩)
        go_round
        case rel => exact ⟨k + 1, by omega, by go_num, by rw [HS.out, hb, H.out]; exact rfl⟩
        case measure => simp [intOf]; omega
    · go_wp2
      go_ret
      refine ⟨ret_bool ?_, rfl⟩
      have h1 := H.out
      rw [List.take_of_length_le (by simp; omega)] at h1
      exact h1.symm

theorem wIsFixed_any (s : ByteArray) (w : World) (hs : s.size ≤ maxLen) :
    Calls Tryz.prog 161 #[.string s] w fun e w' => e = .returned (.bool (Pm.allP Pm.fixB s.data.toList)) ∧ w' = w := by
  go_enter Tryz.func161, Tryz.ntmps161
  go_wp2_with (go_at_call 95; refine (allFix_any _ _ hs).mono ?_; rintro e w' ⟨rfl, rfl⟩)
  go_ret
  exact ⟨rfl, rfl⟩
theorem wIsName_any (s : ByteArray) (w : World) (hs : s.size ≤ maxLen) :
    Calls Tryz.prog 160 #[.string s] w fun e w' => e = .returned (.bool (Pm.isName s.data.toList)) ∧ w' = w := by
  by_cases h : s.data.toList = []
  · have he : s.toList.isEmpty = true := by rw [ByteArray.toList_eq, h]; rfl
    have HN : Hid (Pm.isName s.data.toList = false) := by unfold Hid Pm.isName; rw [h]; rfl
    clear h
    go_enter Tryz.func160, Tryz.ntmps160
    go_wp2
    go_ret
    exact ⟨ret_bool HN.out.symm, rfl⟩
  · have he : s.toList.isEmpty = false := by rw [ByteArray.toList_eq]; cases hl : s.data.toList with | nil => exact absurd hl h | cons => rfl
    have HN : Hid (Pm.isName s.data.toList = Pm.allP Pm.nameB s.data.toList) := by unfold Hid Pm.isName; rw [← ByteArray.toList_eq, he]; rfl
    clear h
    go_enter Tryz.func160, Tryz.ntmps160
    go_wp2_with (go_at_call 95; refine (allName_any _ _ hs).mono ?_; rintro e w' ⟨rfl, rfl⟩)
    go_ret
    exact ⟨ret_bool HN.out.symm, rfl⟩
end Go.Proofs.YtfdhmeojkagokaaGreatDoor
