/- The book's small calls: marks, and whether two lists of fields are the same; Frame at limits that are not right. Nothing old in memory turns. -/
import Derived.Test.YtnohadlihgjppaaGreatDoorRefI
namespace Go.Proofs.YtnohadlihgjppaaGreatDoor
open Go.RowKit

theorem fnum_any (n : Int) (w : World) :
    Calls Tryz.prog 11 #[.int .i64 n] w fun e w' => e = .returned (.int .i64 n) ∧ w' = w := by
  go_enter Tryz.func11, Tryz.ntmps11
  go_wp2
  go_ret
  exact ⟨rfl, rfl⟩

set_option maxHeartbeats 1000000 in
theorem sameFields_any (fs : List (ByteArray × ByteArray)) (a b : Option Addr) (ca cb : Nat) (w : World) (ha : FlAt fs a w) (hb : FlAt fs b w) (hl : fs.length ≤ 9223372036854775807) :
    Calls Tryz.prog 10 #[.slice a fs.length ca, .slice b fs.length cb] w fun e w' => e = .returned (.bool true) ∧ Below w.heap.size w w' := by
  have HA := hid ha
  have HB := hid hb
  clear ha hb
  go_enter Tryz.func10, Tryz.ntmps10
  go_wp2_with fail
  go_loopw [5] (fun i wr => ∃ k : Nat, k ≤ fs.length ∧ i = .int .i64 k ∧ Below w.heap.size w wr) (fun i _ => fs.length - (intOf i).toNat)
  case atStart => exact ⟨0, Nat.zero_le _, rfl, Below.refl _ _⟩
  case round =>
    obtain ⟨k, hk, rfl, hbw⟩ := hrel
    by_cases hlt : k < fs.length
    · obtain ⟨ga, rfl, hg1, hc1, hc2⟩ := (HA.out.below hbw) k hlt
      obtain ⟨gb, rfl, hg2, hc3, hc4⟩ := (HB.out.below hbw) k hlt
      generalize fs[k].1 = nm at *
      generalize fs[k].2 = vl at *
      go_wp2_with fail
      go_quiet (fail)
      go_wp2
      exact ⟨⟨k + 1, by omega, by go_num, below_drewN hbw _⟩, by simp [intOf]; omega⟩
    · go_wp2
      go_ret
      exact ⟨rfl, hbw⟩

/- the mark of the n-th list, for the few lists that there are -/
def digS (n : Nat) : ByteArray := ⟨#[(48 + n).toUInt8]⟩
theorem ret_strB {a b : ByteArray} (h : a = b) : Ending.returned (.string a) = .returned (.string b) := by rw [h]
def markB (n : Nat) : ByteArray := ⟨#[109, 97, 114, 107, 32, (48 + n).toUInt8]⟩
set_option maxHeartbeats 1000000 in
theorem number_digit (n : Nat) (hn : n ≤ 9) (w : World) :
    Calls Tryz.prog 35 #[.int .i64 n, .int .i64 10] w fun e w' => e = .returned (.string (digS n)) ∧ Below w.heap.size w w' := by
  have hx : ∀ k : Nat, k ≤ 9 → ((⟨#[48, 49, 50, 51, 52, 53, 54, 55, 56, 57, 97, 98, 99, 100, 101, 102]⟩ : ByteArray).extract k (k + 1)) = digS k := by decide
  have HX := hid (hx n hn)
  have hsz : (digS n).size = 1 := rfl
  clear hx
  go_enter Tryz.func35, Tryz.ntmps35
  go_wp2
  go_ret
  exact ⟨ret_strB HX.out, Below.refl _ _⟩
theorem mark_app (n : Nat) : (⟨#[109, 97, 114, 107, 32]⟩ : ByteArray) ++ digS n = markB n := by
  apply ByteArray.ext
  rw [ByteArray.data_append]; rfl
set_option maxHeartbeats 1000000 in
theorem markText_any (n : Nat) (hn : n ≤ 9) (w : World) :
    Calls Tryz.prog 30 #[.int .i64 n] w fun e w' => e = .returned (.string (markB n)) ∧ Below w.heap.size w w' := by
  have hsz : (digS n).size = 1 := rfl
  go_enter Tryz.func30, Tryz.ntmps30
  go_wp2_with (go_at_call 35; refine (number_digit n hn _).mono ?_; rintro e w1 ⟨rfl, hb1⟩)
  go_ret
  exact ⟨ret_strB (mark_app n), hb1⟩
set_option maxHeartbeats 1000000 in
theorem markField_any (n : Nat) (hn : n ≤ 9) (w : World) :
    Calls Tryz.prog 28 #[.int .i64 n] w fun e w' => e = .returned (.agg #[.string (markB n), .string ⟨#[46]⟩]) ∧ Below w.heap.size w w' := by
  have hA := (Below.refl w.heap.size w).alloc (Nat.le_refl _) (.cells #[.string ⟨#[]⟩, .string ⟨#[]⟩] 61)
  go_enter Tryz.func28, Tryz.ntmps28
  go_wp2_with fail
  refine (markText_any n hn _).mono ?_
  rintro e w1 ⟨rfl, hb1⟩
  have c0 := cell_later hb1 (a := ⟨w.heap.size, 0, none⟩) (v := .string ⟨#[]⟩) (by simp)
  have c1 := cell_later hb1 (a := ⟨w.heap.size, 1, none⟩) (v := .string ⟨#[]⟩) (by simp)
  have d0 : w1.frozen? ⟨w.heap.size, 0, none⟩ = false := by rw [hb1.frozen (by simp)]; simp
  have d1 : w1.frozen? ⟨w.heap.size, 1, none⟩ = false := by rw [hb1.frozen (by simp)]; simp
  have BL := hid (bel_of hA hb1)
  clear hA hb1
  go_wp2
  refine bodyPost_ret (v := .agg #[.string (markB n), .string ⟨#[46]⟩]) (by simp [results, Tryz.results28, go_sem, c0, c1]) rfl ?_
  exact ⟨rfl, (BL.out.setCell (Nat.le_refl _) _).setCell (Nat.le_refl _) _⟩

set_option maxRecDepth 100000 in
set_option maxHeartbeats 1000000 in
theorem wFrame_bad (hd bd : Int) (s : ByteArray) (w : World) (hr : ¬ (32 ≤ hd ∧ hd ≤ 500 ∧ 0 ≤ bd ∧ bd ≤ 200)) :
    Calls Tryz.prog 23 #[.agg #[.int .i64 hd, .int .i64 bd], .string s] w fun r w' =>
      r = .returned (.tuple #[.agg #[.string ⟨#[]⟩, .string ⟨#[]⟩, .slice none 0 0, .string ⟨#[]⟩], .int .i64 0, .int .i64 1]) ∧ Below w.heap.size w w' := by
  have hdec := decide_eq_false hr
  clear hr
  have hA : Below w.heap.size w ((w.alloc (.cells #[.int .i64 hd, .int .i64 bd] 23)).alloc (.cells #[.string ⟨#[]⟩, .string ⟨#[]⟩, .slice none 0 0, .string ⟨#[]⟩] 36)) := ((Below.refl _ _).alloc (Nat.le_refl _) _).alloc (by simp) _
  have q1 : RqB (w.heap.size + 1) [] [] (.slice none 0 0) ((w.alloc (.cells #[.int .i64 hd, .int .i64 bd] 23)).alloc (.cells #[.string ⟨#[]⟩, .string ⟨#[]⟩, .slice none 0 0, .string ⟨#[]⟩] 36)) := by
    have := heap_alloc_new (w.alloc (.cells #[.int .i64 hd, .int .i64 bd] 23)) (.cells #[.string ⟨#[]⟩, .string ⟨#[]⟩, .slice none 0 0, .string ⟨#[]⟩] 36)
    rw [show (w.alloc (.cells #[.int .i64 hd, .int .i64 bd] 23)).heap.size = w.heap.size + 1 from by simp] at this
    exact this
  go_enter Tryz.func23, Tryz.ntmps23
  go_wp2_with fail
  refine (rightLimits_any _ _ _).mono ?_
  rintro e w2 ⟨rfl, hb2⟩
  rw [hdec]
  have q2 := q1.below hb2
  obtain ⟨u0, u1, u2, u3⟩ := q2.cells
  have y0 := q2.free 0
  have y1 := q2.free 1
  have y2 := q2.free 2
  have y3 := q2.free 3
  have BL := hid (bel_of hA hb2)
  clear hA hb2 q1 q2
  go_wp2
  refine bodyPost_ret (v := .tuple #[.agg #[.string ⟨#[]⟩, .string ⟨#[]⟩, .slice none 0 0, .string ⟨#[]⟩], .int .i64 0, .int .i64 1]) (by simp [results, Tryz.results23, go_sem, u0, u1, u2, u3]) rfl ?_
  exact ⟨rfl, (((BL.out.setCell (Nat.le_succ _) _).setCell (Nat.le_succ _) _).setCell (Nat.le_succ _) _).setCell (Nat.le_succ _) _⟩
set_option maxRecDepth 100000 in
set_option maxHeartbeats 1000000 in
theorem rFrame_bad (hd bd : Int) (s : ByteArray) (w : World) (hr : ¬ (32 ≤ hd ∧ hd ≤ 500 ∧ 0 ≤ bd ∧ bd ≤ 200)) :
    Calls Tryz.prog 9 #[.agg #[.int .i64 hd, .int .i64 bd], .string s] w fun r w' =>
      r = .returned (.tuple #[.agg #[.string ⟨#[]⟩, .string ⟨#[]⟩, .slice none 0 0, .string ⟨#[]⟩], .int .i64 0, .int .i64 1]) ∧ Below w.heap.size w w' := by
  have hdec := decide_eq_false hr
  clear hr
  have hA : Below w.heap.size w ((w.alloc (.cells #[.int .i64 hd, .int .i64 bd] 23)).alloc (.cells #[.string ⟨#[]⟩, .string ⟨#[]⟩, .slice none 0 0, .string ⟨#[]⟩] 36)) := ((Below.refl _ _).alloc (Nat.le_refl _) _).alloc (by simp) _
  have q1 : RqB (w.heap.size + 1) [] [] (.slice none 0 0) ((w.alloc (.cells #[.int .i64 hd, .int .i64 bd] 23)).alloc (.cells #[.string ⟨#[]⟩, .string ⟨#[]⟩, .slice none 0 0, .string ⟨#[]⟩] 36)) := by
    have := heap_alloc_new (w.alloc (.cells #[.int .i64 hd, .int .i64 bd] 23)) (.cells #[.string ⟨#[]⟩, .string ⟨#[]⟩, .slice none 0 0, .string ⟨#[]⟩] 36)
    rw [show (w.alloc (.cells #[.int .i64 hd, .int .i64 bd] 23)).heap.size = w.heap.size + 1 from by simp] at this
    exact this
  go_enter Tryz.func9, Tryz.ntmps9
  go_wp2_with fail
  refine (rLimited_any _ _ _).mono ?_
  rintro e w2 ⟨rfl, hb2⟩
  rw [hdec]
  have q2 := q1.below hb2
  obtain ⟨u0, u1, u2, u3⟩ := q2.cells
  have y0 := q2.free 0
  have y1 := q2.free 1
  have y2 := q2.free 2
  have y3 := q2.free 3
  have BL := hid (bel_of hA hb2)
  clear hA hb2 q1 q2
  go_wp2
  refine bodyPost_ret (v := .tuple #[.agg #[.string ⟨#[]⟩, .string ⟨#[]⟩, .slice none 0 0, .string ⟨#[]⟩], .int .i64 0, .int .i64 1]) (by simp [results, Tryz.results9, go_sem, u0, u1, u2, u3]) rfl ?_
  exact ⟨rfl, (((BL.out.setCell (Nat.le_succ _) _).setCell (Nat.le_succ _) _).setCell (Nat.le_succ _) _).setCell (Nat.le_succ _) _⟩
set_option maxRecDepth 100000 in
set_option maxHeartbeats 1000000 in
theorem pFrame_bad (hd bd : Int) (s : ByteArray) (w : World) (hr : ¬ (32 ≤ hd ∧ hd ≤ 500 ∧ 0 ≤ bd ∧ bd ≤ 200)) :
    Calls Tryz.prog 8 #[.agg #[.int .i64 hd, .int .i64 bd], .string s] w fun r w' =>
      r = .returned (.tuple #[.agg #[.string ⟨#[]⟩, .string ⟨#[]⟩, .slice none 0 0, .string ⟨#[]⟩], .int .i64 0, .int .i64 1]) ∧ Below w.heap.size w w' := by
  have HW := hid (fun W => wFrame_bad hd bd s W hr)
  clear hr
  have hA : Below w.heap.size w ((w.alloc (.cells #[.int .i64 hd, .int .i64 bd] 23)).alloc (.cells #[.string ⟨#[]⟩, .string ⟨#[]⟩, .slice none 0 0, .string ⟨#[]⟩] 36)) := ((Below.refl _ _).alloc (Nat.le_refl _) _).alloc (by simp) _
  have q1 : RqB (w.heap.size + 1) [] [] (.slice none 0 0) ((w.alloc (.cells #[.int .i64 hd, .int .i64 bd] 23)).alloc (.cells #[.string ⟨#[]⟩, .string ⟨#[]⟩, .slice none 0 0, .string ⟨#[]⟩] 36)) := by
    have := heap_alloc_new (w.alloc (.cells #[.int .i64 hd, .int .i64 bd] 23)) (.cells #[.string ⟨#[]⟩, .string ⟨#[]⟩, .slice none 0 0, .string ⟨#[]⟩] 36)
    rw [show (w.alloc (.cells #[.int .i64 hd, .int .i64 bd] 23)).heap.size = w.heap.size + 1 from by simp] at this
    exact this
  go_enter Tryz.func8, Tryz.ntmps8
  go_wp2_with fail
  refine (HW.out _).mono ?_
  rintro e w2 ⟨rfl, hb2⟩
  have q2 := q1.below hb2
  obtain ⟨u0, u1, u2, u3⟩ := q2.cells
  have y0 := q2.free 0
  have y1 := q2.free 1
  have y2 := q2.free 2
  have y3 := q2.free 3
  have BL := hid (bel_of hA hb2)
  clear hA hb2 q1 q2 HW
  go_wp2
  refine bodyPost_ret (v := .tuple #[.agg #[.string ⟨#[]⟩, .string ⟨#[]⟩, .slice none 0 0, .string ⟨#[]⟩], .int .i64 0, .int .i64 1]) (by simp [results, Tryz.results8, go_sem, u0, u1, u2, u3]) rfl ?_
  exact ⟨rfl, (((BL.out.setCell (Nat.le_succ _) _).setCell (Nat.le_succ _) _).setCell (Nat.le_succ _) _).setCell (Nat.le_succ _) _⟩
end Go.Proofs.YtnohadlihgjppaaGreatDoor
