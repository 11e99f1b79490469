/- Texts that follow one another, joined. -/
import Derived.Test.YtnohadlihgjppaaDoorJoin16
import Derived.Test.YtnohadlihgjppaaDoorJoin04
/- Frame, wire's and porter's own: the request, how many bytes it has, the error, as the plain mathematics says; nothing old in memory turns. The limits are right ones. -/
namespace Go.Proofs.YtnohadlihgjppaaDoor
open Go.RowKit

theorem below_of_kp {b : Nat} {w w1 w2 : World} (h1 : Below w.heap.size w w1) (h2 : Kp b w1 w2) (hb : w.heap.size ≤ b) : Below w.heap.size w w2 :=
  { os := h2.1.trans h1.os, tape := h2.2.1.trans h1.tape, output := h2.2.2.1.trans h1.output, size := Nat.le_trans h1.size h2.2.2.2.1, block := fun k hk => (h2.2.2.2.2 k (Nat.lt_of_lt_of_le hk h1.size) (by omega)).trans (h1.block k hk) }

set_option maxRecDepth 100000 in
set_option maxHeartbeats 1000000 in
theorem wFrame_any (hd : Nat) (bd : Int) (s : ByteArray) (mx : Int) (w : World) (hs : s.size ≤ 1152921504606846976) (hh0 : 32 ≤ hd) (hh : hd ≤ 500) (hb0 : 0 ≤ bd) (hb1 : bd ≤ 200) (hm : w.cell? ⟨1, 0, none⟩ = some (.int .i64 mx)) :
    Calls Tryd.prog 14 #[.agg #[.int .i64 hd, .int .i64 bd], .string s] w fun r w' =>
      (∃ v, r = .returned (.tuple #[.agg #[.string ⟨(frameS s.data.toList hd bd).2.1.toArray⟩, .string ⟨(frameS s.data.toList hd bd).2.2.1.toArray⟩, v, .string ⟨(frameS s.data.toList hd bd).2.2.2.2.1.toArray⟩], .int .i64 (frameS s.data.toList hd bd).2.2.2.2.2, .int .i64 (frameS s.data.toList hd bd).1]) ∧ w'.ownsRow w.heap.size 34 2 v (frameS s.data.toList hd bd).2.2.2.1.length (flat (frameS s.data.toList hd bd).2.2.2.1)) ∧ Below w.heap.size w w' := by
  have hml := block_lt_of_cell hm
  have HM := hid (fun W (hW : Below w.heap.size w W) => cell_later hW hm)
  have HR := hid (fun b W (hr : RdAt b hd bd s 0 W) hm' hb => request_any b hd bd s mx W hr hs hh hb0 hb1 hm' hb)
  have HL := hid (frameS_say s.data.toList hd bd)
  have HB := hid (frameS_bad s.data.toList hd bd)
  generalize frameS s.data.toList hd bd = FR at *
  have hdec : decide (32 ≤ (hd : Int) ∧ (hd : Int) ≤ 500 ∧ 0 ≤ bd ∧ bd ≤ 200) = true := decide_eq_true ⟨by omega, by omega, hb0, hb1⟩
  clear hm
  go_enter Tryd.func14, Tryd.ntmps14
  go_wp2_with fail
  refine (rightLimits_any _ _ _).mono ?_
  rintro e w2 ⟨rfl, hb2⟩
  rw [hdec]
  have hA : Below w.heap.size w ((w.alloc (.cells #[.int .i64 hd, .int .i64 bd] 23)).alloc (.cells #[.string ⟨#[]⟩, .string ⟨#[]⟩, .slice none 0 0, .string ⟨#[]⟩] 28)) := ((Below.refl _ _).alloc (Nat.le_refl _) _).alloc (by simp) _
  have hA2 := bel_of hA hb2
  have q1 : RqB (w.heap.size + 1) [] [] (.slice none 0 0) ((w.alloc (.cells #[.int .i64 hd, .int .i64 bd] 23)).alloc (.cells #[.string ⟨#[]⟩, .string ⟨#[]⟩, .slice none 0 0, .string ⟨#[]⟩] 28)) := by
    have := heap_alloc_new (w.alloc (.cells #[.int .i64 hd, .int .i64 bd] 23)) (.cells #[.string ⟨#[]⟩, .string ⟨#[]⟩, .slice none 0 0, .string ⟨#[]⟩] 28)
    rw [show (w.alloc (.cells #[.int .i64 hd, .int .i64 bd] 23)).heap.size = w.heap.size + 1 from by simp] at this
    exact this
  have q2 := q1.below hb2
  have c0 := cell_later hb2 (a := ⟨w.heap.size, 0, none⟩) (v := .int .i64 hd) (by simp)
  have c1 := cell_later hb2 (a := ⟨w.heap.size, 1, none⟩) (v := .int .i64 bd) (by simp)
  have sz2 : w.heap.size + 2 ≤ w2.heap.size := by have := hb2.size; simp at this; omega
  have hm2 := HM.out _ hA2
  clear q1 hA hb2
  go_wp2_with fail
  have hA3 := (Below.refl w2.heap.size w2).alloc (Nat.le_refl _) (.cells #[.int .i64 hd, .int .i64 bd, .string s, .int .i64 0] 65)
  refine (HR.out _ _ (heap_alloc_new w2 _) (cell_later hA3 hm2) (by omega)).mono ?_
  rintro e w4 ⟨⟨m, g, va, vk, vc, y, rfl, hq⟩, kp⟩
  have q4 := (q2.below hA3).kp kp (by omega)
  have hB4 := below_of_kp (hA2.alloc hA2.size _) kp (by omega)
  have sz4 : w2.heap.size + 1 ≤ w4.heap.size := by have := kp.2.2.2.1; simp at this; omega
  obtain ⟨u0, u1, u2, u3⟩ := q4.cells
  have y0 := q4.free 0
  have y1 := q4.free 1
  have y2 := q4.free 2
  have y3 := q4.free 3
  have BL := hid hB4
  have s1 : w2.heap.size < w4.heap.size := by omega
  have s2 : w.heap.size + 1 < w4.heap.size := by omega
  have s3 : ¬ w2.heap.size = w.heap.size + 1 := by omega
  have s4 : ¬ w.heap.size + 1 = w2.heap.size := by omega
  clear HR HM q2 hA3 hA2 c0 c1 hm2 kp hB4 q4
  by_cases hE : FR.1 = 0
  · obtain ⟨rfl, rfl, rfl, ow, rd⟩ := hq hE
    have ow2 := owns_base ow (B' := w.heap.size) (by simp; omega)
    have OB := hid (own_not ow (g := w.heap.size + 1) (by simp; omega))
    obtain ⟨r0, r1, r2, r3⟩ := rd.cell
    have OW := hid ow2
    rw [hE]
    clear hq ow ow2 rd HB HL r0 r1 r2
    go_wp2
    go_region
    go_wp2
    refine bodyPost_ret (v := .tuple #[.agg #[.string ⟨FR.2.1.toArray⟩, .string ⟨FR.2.2.1.toArray⟩, .slice va vk vc, .string ⟨FR.2.2.2.2.1.toArray⟩], .int .i64 FR.2.2.2.2.2, .int .i64 0]) (by simp [results, Tryd.results14, go_sem, u0, u1, u2, u3, s2]) rfl ?_
    rw [hE]
    refine ⟨⟨_, rfl, ?_⟩, ?_⟩
    · exact owns_below (owns_not (owns_not (owns_not (owns_not OW.out OB.out 0 _) OB.out 1 _) OB.out 2 _) OB.out 3 _) ((Below.refl _ _).alloc (Nat.le_refl _) _).drew
    · exact (((((BL.out.setCell (Nat.le_succ _) _).setCell (Nat.le_succ _) _).setCell (Nat.le_succ _) _).setCell (Nat.le_succ _) _).alloc (by simp; omega) _).drew
  · have HB2 := hid (HB.out hE)
    have hne : (FR.1 != 0) = true := by rw [bne_iff_ne]; exact hE
    clear hq HB HL
    go_wp2
    refine bodyPost_ret (v := .tuple #[.agg #[.string ⟨#[]⟩, .string ⟨#[]⟩, .slice none 0 0, .string ⟨#[]⟩], .int .i64 0, .int .i64 FR.1]) (by simp [results, Tryd.results14, go_sem, u0, u1, u2, u3, s2]) rfl ?_
    generalize hx : FR.1 = x at *
    rw [HB2.out]
    refine ⟨⟨_, rfl, World.ownsRow_nil _ _ _ _⟩, ?_⟩
    exact ((((BL.out.setCell (Nat.le_succ _) _).setCell (Nat.le_succ _) _).setCell (Nat.le_succ _) _).setCell (Nat.le_succ _) _).alloc (by simp; omega) _

set_option maxRecDepth 100000 in
set_option maxHeartbeats 1000000 in
theorem pFrame_any (hd : Nat) (bd : Int) (s : ByteArray) (mx : Int) (w : World) (hs : s.size ≤ 1152921504606846976) (hh0 : 32 ≤ hd) (hh : hd ≤ 500) (hb0 : 0 ≤ bd) (hb1 : bd ≤ 200) (hm : w.cell? ⟨1, 0, none⟩ = some (.int .i64 mx)) :
    Calls Tryd.prog 8 #[.agg #[.int .i64 hd, .int .i64 bd], .string s] w fun r w' =>
      (∃ v, r = .returned (.tuple #[.agg #[.string ⟨(frameS s.data.toList hd bd).2.1.toArray⟩, .string ⟨(frameS s.data.toList hd bd).2.2.1.toArray⟩, v, .string ⟨(frameS s.data.toList hd bd).2.2.2.2.1.toArray⟩], .int .i64 (frameS s.data.toList hd bd).2.2.2.2.2, .int .i64 (frameS s.data.toList hd bd).1]) ∧ w'.ownsRow w.heap.size 34 2 v (frameS s.data.toList hd bd).2.2.2.1.length (flat (frameS s.data.toList hd bd).2.2.2.1)) ∧ Below w.heap.size w w' := by
  have HM := hid (fun W (hW : Below w.heap.size w W) => wFrame_any hd bd s mx W hs hh0 hh hb0 hb1 (cell_later hW hm))
  generalize frameS s.data.toList hd bd = FR at *
  clear hm
  go_enter Tryd.func8, Tryd.ntmps8
  go_wp2_with fail
  have hA : Below w.heap.size w ((w.alloc (.cells #[.int .i64 hd, .int .i64 bd] 23)).alloc (.cells #[.string ⟨#[]⟩, .string ⟨#[]⟩, .slice none 0 0, .string ⟨#[]⟩] 28)) := ((Below.refl _ _).alloc (Nat.le_refl _) _).alloc (by simp) _
  refine (HM.out _ hA).mono ?_
  rintro e w2 ⟨⟨v, rfl, ow⟩, hb2⟩
  have q1 : RqB (w.heap.size + 1) [] [] (.slice none 0 0) ((w.alloc (.cells #[.int .i64 hd, .int .i64 bd] 23)).alloc (.cells #[.string ⟨#[]⟩, .string ⟨#[]⟩, .slice none 0 0, .string ⟨#[]⟩] 28)) := by
    have := heap_alloc_new (w.alloc (.cells #[.int .i64 hd, .int .i64 bd] 23)) (.cells #[.string ⟨#[]⟩, .string ⟨#[]⟩, .slice none 0 0, .string ⟨#[]⟩] 28)
    rw [show (w.alloc (.cells #[.int .i64 hd, .int .i64 bd] 23)).heap.size = w.heap.size + 1 from by simp] at this
    exact this
  have q2 := q1.below hb2
  obtain ⟨u0, u1, u2, u3⟩ := q2.cells
  have y0 := q2.free 0
  have y1 := q2.free 1
  have y2 := q2.free 2
  have y3 := q2.free 3
  have BL := hid (bel_of hA hb2)
  have OW := hid (owns_base ow (B' := w.heap.size) (by simp; omega))
  have OB := hid (own_not ow (g := w.heap.size + 1) (by simp))
  obtain ⟨va, vk, vc, rfl⟩ := owns_form ow
  clear HM hA hb2 q1 q2 ow
  go_wp2
  refine bodyPost_ret (v := .tuple #[.agg #[.string ⟨FR.2.1.toArray⟩, .string ⟨FR.2.2.1.toArray⟩, .slice va vk vc, .string ⟨FR.2.2.2.2.1.toArray⟩], .int .i64 FR.2.2.2.2.2, .int .i64 FR.1]) (by simp [results, Tryd.results8, go_sem, u0, u1, u2, u3]) rfl ?_
  refine ⟨⟨_, rfl, ?_⟩, ?_⟩
  · exact owns_not (owns_not (owns_not (owns_not OW.out OB.out 0 _) OB.out 1 _) OB.out 2 _) OB.out 3 _
  · exact (((BL.out.setCell (Nat.le_succ _) _).setCell (Nat.le_succ _) _).setCell (Nat.le_succ _) _).setCell (Nat.le_succ _) _
end Go.Proofs.YtnohadlihgjppaaDoor

/- The program's pieces of a pattern: what a text is as a piece; nothing old in memory turns. -/
namespace Go.Proofs.YtnohadlihgjppaaDoor
open Go.RowKit

set_option maxHeartbeats 400000 in
theorem isNameByte_any (c : UInt8) (w : World) :
    Calls Tryd.prog 132 #[.int .u8 c.toNat] w fun e w' => e = .returned (.bool (Pm.nameB c)) ∧ w' = w := by
  have h0 := c.toNat_lt
  by_cases h1 : 97 ≤ (c.toNat : Int)
  · by_cases h2 : (c.toNat : Int) ≤ 122
    · go_enter Tryd.func132, Tryd.ntmps132
      go_wp2
      go_ret
      exact ⟨ret_bool (by simp [Pm.nameB, h1, h2]), rfl⟩
    · go_enter Tryd.func132, Tryd.ntmps132
      go_wp2_with (go_at_call 118; refine (isDigit_any _ _).mono ?_; rintro e w' ⟨rfl, rfl⟩)
      go_ret
      exact ⟨ret_bool (by unfold Pm.nameB; rw [decide_eq_false (show ¬ (c.toNat : Int) ≤ 122 by omega), Bool.and_false, Bool.false_or]), rfl⟩
  · go_enter Tryd.func132, Tryd.ntmps132
    go_wp2_with (go_at_call 118; refine (isDigit_any _ _).mono ?_; rintro e w' ⟨rfl, rfl⟩)
    go_ret
    exact ⟨ret_bool (by unfold Pm.nameB; rw [decide_eq_false (show ¬ 97 ≤ (c.toNat : Int) by omega), Bool.false_and, Bool.false_or]), rfl⟩

set_option maxHeartbeats 400000 in
theorem isFixedByte_any (c : UInt8) (w : World) :
    Calls Tryd.prog 133 #[.int .u8 c.toNat] w fun e w' => e = .returned (.bool (Pm.fixB c)) ∧ w' = w := by
  have hc : ((c.toNat : Int)).toNat.toUInt8 = c := by simp
  cases h1 : Pm.letB c
  · cases h2 : Pm.digB c
    · go_enter Tryd.func133, Tryd.ntmps133
      go_wp2_with (first | (go_at_call 118; refine (isDigit_any _ _).mono ?_; rintro e w' ⟨rfl, rfl⟩) | (go_at_call 149; refine (isLetter_any _ _).mono ?_; rintro e w' ⟨rfl, rfl⟩) | (go_at_call 91; refine (Tryd.strings_IndexByte _ _ _).mono ?_; rintro e w' ⟨rfl, rfl⟩))
      go_ret
      exact ⟨ret_bool (by unfold Pm.fixB; rw [h1, h2]; simp only [Bool.or_false, Bool.false_or]; exact decide_eq_decide.2 Iff.rfl), rfl⟩
    · go_enter Tryd.func133, Tryd.ntmps133
      go_wp2_with (first | (go_at_call 118; refine (isDigit_any _ _).mono ?_; rintro e w' ⟨rfl, rfl⟩) | (go_at_call 149; refine (isLetter_any _ _).mono ?_; rintro e w' ⟨rfl, rfl⟩))
      go_ret
      exact ⟨ret_bool (by unfold Pm.fixB; rw [h1, h2]; rfl), rfl⟩
  · go_enter Tryd.func133, Tryd.ntmps133
    go_wp2_with (go_at_call 149; refine (isLetter_any _ _).mono ?_; rintro e w' ⟨rfl, rfl⟩)
    go_ret
    exact ⟨ret_bool (by unfold Pm.fixB; rw [h1]; rfl), rfl⟩

set_option maxHeartbeats 400000 in
theorem allName_any (s : ByteArray) (w : World) (hs : s.size ≤ maxLen) :
    Calls Tryd.prog 116 #[.string s, .func (.func 132) #[] #[]] w fun e w' => e = .returned (.bool (Pm.allP Pm.nameB s.data.toList)) ∧ w' = w := by
  unfold maxLen at hs
  go_enter Tryd.func116, Tryd.ntmps116
  go_wp2_with fail
  go_loop [5, 8] (fun _ i => ∃ k : Nat, k ≤ s.size ∧ i = .int .i64 k ∧ Hid (Pm.allP Pm.nameB (s.data.toList.take k) = true)) (fun _ i => s.size - (intOf i).toNat)
  case atStart => exact ⟨0, Nat.zero_le _, rfl, rfl⟩
  case round =>
    obtain ⟨k, hk, rfl, H⟩ := hrel
    by_cases hlt : k < s.size
    · have HS : Hid (Pm.allP Pm.nameB (s.data.toList.take (k + 1)) = (Pm.allP Pm.nameB (s.data.toList.take k) && Pm.nameB s[k])) := by rw [Pm.take_snoc s k hlt, Pm.allP_snoc]; exact rfl
      cases hb : Pm.nameB s[k]
      · go_wp2_with (go_at_call 132; refine (isNameByte_any _ _).mono ?_; rintro e w' ⟨rfl, rfl⟩)
        go_ret
        refine ⟨ret_bool ?_, rfl⟩
        have h1 := HS.out
        rw [hb, Bool.and_false] at h1
        exact (Pm.allP_take h1).symm
      · go_wp2_with (go_at_call 132; refine (isNameByte_any _ _).mono ?_; rintro e w' ⟨rfl, rfl⟩)
        go_round
        case rel => exact ⟨k + 1, by omega, by go_num, by rw [HS.out, hb, H.out]; exact rfl⟩
        case measure => simp [intOf]; omega
    · go_wp2
      go_ret
      refine ⟨ret_bool ?_, rfl⟩
      have h1 := H.out
      rw [List.take_of_length_le (by simp; omega)] at h1
      exact h1.symm

set_option maxHeartbeats 400000 in
theorem allFix_any (s : ByteArray) (w : World) (hs : s.size ≤ maxLen) :
    Calls Tryd.prog 116 #[.string s, .func (.func 133) #[] #[]] w fun e w' => e = .returned (.bool (Pm.allP Pm.fixB s.data.toList)) ∧ w' = w := by
  unfold maxLen at hs
  go_enter Tryd.func116, Tryd.ntmps116
  go_wp2_with fail
  go_loop [5, 8] (fun _ i => ∃ k : Nat, k ≤ s.size ∧ i = .int .i64 k ∧ Hid (Pm.allP Pm.fixB (s.data.toList.take k) = true)) (fun _ i => s.size - (intOf i).toNat)
  case atStart => exact ⟨0, Nat.zero_le _, rfl, rfl⟩
  case round =>
    obtain ⟨k, hk, rfl, H⟩ := hrel
    by_cases hlt : k < s.size
    · have HS : Hid (Pm.allP Pm.fixB (s.data.toList.take (k + 1)) = (Pm.allP Pm.fixB (s.data.toList.take k) && Pm.fixB s[k])) := by rw [Pm.take_snoc s k hlt, Pm.allP_snoc]; exact rfl
      cases hb : Pm.fixB s[k]
      · go_wp2_with (go_at_call 133; refine (isFixedByte_any _ _).mono ?_; rintro e w' ⟨rfl, rfl⟩)
        go_ret
        refine ⟨ret_bool ?_, rfl⟩
        have h1 := HS.out
        rw [hb, Bool.and_false] at h1
        exact (Pm.allP_take h1).symm
      · go_wp2_with (go_at_call 133; refine (isFixedByte_any _ _).mono ?_; rintro e w' ⟨rfl, rfl⟩)
        go_round
        case rel => exact ⟨k + 1, by omega, by go_num, by rw [HS.out, hb, H.out]; exact rfl⟩
        case measure => simp [intOf]; omega
    · go_wp2
      go_ret
      refine ⟨ret_bool ?_, rfl⟩
      have h1 := H.out
      rw [List.take_of_length_le (by simp; omega)] at h1
      exact h1.symm

theorem wIsFixed_any (s : ByteArray) (w : World) (hs : s.size ≤ maxLen) :
    Calls Tryd.prog 106 #[.string s] w fun e w' => e = .returned (.bool (Pm.allP Pm.fixB s.data.toList)) ∧ w' = w := by
  go_enter Tryd.func106, Tryd.ntmps106
  go_wp2_with (go_at_call 116; refine (allFix_any _ _ hs).mono ?_; rintro e w' ⟨rfl, rfl⟩)
  go_ret
  exact ⟨rfl, rfl⟩
theorem wIsName_any (s : ByteArray) (w : World) (hs : s.size ≤ maxLen) :
    Calls Tryd.prog 105 #[.string s] w fun e w' => e = .returned (.bool (Pm.isName s.data.toList)) ∧ w' = w := by
  by_cases h : s.data.toList = []
  · have he : s.toList.isEmpty = true := by rw [ByteArray.toList_eq, h]; rfl
    have HN : Hid (Pm.isName s.data.toList = false) := by unfold Hid Pm.isName; rw [h]; rfl
    clear h
    go_enter Tryd.func105, Tryd.ntmps105
    go_wp2
    go_ret
    exact ⟨ret_bool HN.out.symm, rfl⟩
  · have he : s.toList.isEmpty = false := by rw [ByteArray.toList_eq]; cases hl : s.data.toList with | nil => exact absurd hl h | cons => rfl
    have HN : Hid (Pm.isName s.data.toList = Pm.allP Pm.nameB s.data.toList) := by unfold Hid Pm.isName; rw [← ByteArray.toList_eq, he]; rfl
    clear h
    go_enter Tryd.func105, Tryd.ntmps105
    go_wp2_with (go_at_call 116; refine (allName_any _ _ hs).mono ?_; rintro e w' ⟨rfl, rfl⟩)
    go_ret
    exact ⟨ret_bool HN.out.symm, rfl⟩
end Go.Proofs.YtnohadlihgjppaaDoor
