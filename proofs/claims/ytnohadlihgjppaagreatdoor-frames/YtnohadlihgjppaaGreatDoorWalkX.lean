/- Frame, wire's and porter's own: the request, how many bytes it has, the error, as the plain mathematics says; nothing old in memory turns. The limits are right ones. -/
import Derived.Test.YtnohadlihgjppaaGreatDoorWalkV
namespace Go.Proofs.YtnohadlihgjppaaGreatDoor
open Go.RowKit

theorem below_of_kp {b : Nat} {w w1 w2 : World} (h1 : Below w.heap.size w w1) (h2 : Kp b w1 w2) (hb : w.heap.size ≤ b) : Below w.heap.size w w2 :=
  { os := h2.1.trans h1.os, tape := h2.2.1.trans h1.tape, output := h2.2.2.1.trans h1.output, size := Nat.le_trans h1.size h2.2.2.2.1, block := fun k hk => (h2.2.2.2.2 k (Nat.lt_of_lt_of_le hk h1.size) (by omega)).trans (h1.block k hk) }

set_option maxRecDepth 100000 in
set_option maxHeartbeats 1000000 in
theorem wFrame_any (hd : Nat) (bd : Int) (s : ByteArray) (mx : Int) (w : World) (hs : s.size ≤ 1152921504606846976) (hh0 : 32 ≤ hd) (hh : hd ≤ 500) (hb0 : 0 ≤ bd) (hb1 : bd ≤ 200) (hm : w.cell? ⟨1, 0, none⟩ = some (.int .i64 mx)) :
    Calls Tryz.prog 23 #[.agg #[.int .i64 hd, .int .i64 bd], .string s] w fun r w' =>
      (∃ v, r = .returned (.tuple #[.agg #[.string ⟨(frameS s.data.toList hd bd).2.1.toArray⟩, .string ⟨(frameS s.data.toList hd bd).2.2.1.toArray⟩, v, .string ⟨(frameS s.data.toList hd bd).2.2.2.2.1.toArray⟩], .int .i64 (frameS s.data.toList hd bd).2.2.2.2.2, .int .i64 (frameS s.data.toList hd bd).1]) ∧ w'.ownsRow w.heap.size 61 2 v (frameS s.data.toList hd bd).2.2.2.1.length (flat (frameS s.data.toList hd bd).2.2.2.1)) ∧ Below w.heap.size w w' := by
  have hml := block_lt_of_cell hm
  have HM := hid (fun W (hW : Below w.heap.size w W) => cell_later hW hm)
  have HR := hid (fun b W (hr : RdAt b hd bd s 0 W) hm' hb => request_any b hd bd s mx W hr hs hh hb0 hb1 hm' hb)
  have HL := hid (frameS_say s.data.toList hd bd)
  have HB := hid (frameS_bad s.data.toList hd bd)
  generalize frameS s.data.toList hd bd = FR at *
  have hdec : decide (32 ≤ (hd : Int) ∧ (hd : Int) ≤ 500 ∧ 0 ≤ bd ∧ bd ≤ 200) = true := decide_eq_true ⟨by omega, by omega, hb0, hb1⟩
  clear hm
  go_enter Tryz.func23, Tryz.ntmps23
  go_wp2_with fail
  refine (rightLimits_any _ _ _).mono ?_
  rintro e w2 ⟨rfl, hb2⟩
  rw [hdec]
  have hA : Below w.heap.size w ((w.alloc (.cells #[.int .i64 hd, .int .i64 bd] 23)).alloc (.cells #[.string ⟨#[]⟩, .string ⟨#[]⟩, .slice none 0 0, .string ⟨#[]⟩] 36)) := ((Below.refl _ _).alloc (Nat.le_refl _) _).alloc (by simp) _
  have hA2 := bel_of hA hb2
  have q1 : RqB (w.heap.size + 1) [] [] (.slice none 0 0) ((w.alloc (.cells #[.int .i64 hd, .int .i64 bd] 23)).alloc (.cells #[.string ⟨#[]⟩, .string ⟨#[]⟩, .slice none 0 0, .string ⟨#[]⟩] 36)) := by
    have := heap_alloc_new (w.alloc (.cells #[.int .i64 hd, .int .i64 bd] 23)) (.cells #[.string ⟨#[]⟩, .string ⟨#[]⟩, .slice none 0 0, .string ⟨#[]⟩] 36)
    rw [show (w.alloc (.cells #[.int .i64 hd, .int .i64 bd] 23)).heap.size = w.heap.size + 1 from by simp] at this
    exact this
  have q2 := q1.below hb2
  have c0 := cell_later hb2 (a := ⟨w.heap.size, 0, none⟩) (v := .int .i64 hd) (by simp)
  have c1 := cell_later hb2 (a := ⟨w.heap.size, 1, none⟩) (v := .int .i64 bd) (by simp)
  have sz2 : w.heap.size + 2 ≤ w2.heap.size := by have := hb2.size; simp at this; omega
  have hm2 := HM.out _ hA2
  clear q1 hA hb2
  go_wp2_with fail
  have hA3 := (Below.refl w2.heap.size w2).alloc (Nat.le_refl _) (.cells #[.int .i64 hd, .int .i64 bd, .string s, .int .i64 0] 73)
  refine (HR.out _ _ (heap_alloc_new w2 _) (cell_later hA3 hm2) (by omega)).mono ?_
  rintro e w4 ⟨⟨m, g, va, vk, vc, y, rfl, hq⟩, kp⟩
  have q4 := (q2.below hA3).kp kp (by omega)
  have hB4 := below_of_kp (hA2.alloc hA2.size _) kp (by omega)
  have sz4 : w2.heap.size + 1 ≤ w4.heap.size := by have := kp.2.2.2.1; simp at this; omega
  obtain ⟨u0, u1, u2, u3⟩ := q4.cells
  have y0 := q4.free 0
  have y1 := q4.free 1
  have y2 := q4.free 2
  have y3 := q4.free 3
  have BL := hid hB4
  have s1 : w2.heap.size < w4.heap.size := by omega
  have s2 : w.heap.size + 1 < w4.heap.size := by omega
  have s3 : ¬ w2.heap.size = w.heap.size + 1 := by omega
  have s4 : ¬ w.heap.size + 1 = w2.heap.size := by omega
  clear HR HM q2 hA3 hA2 c0 c1 hm2 kp hB4 q4
  by_cases hE : FR.1 = 0
  · obtain ⟨rfl, rfl, rfl, ow, rd⟩ := hq hE
    have ow2 := owns_base ow (B' := w.heap.size) (by simp; omega)
    have OB := hid (own_not ow (g := w.heap.size + 1) (by simp; omega))
    obtain ⟨r0, r1, r2, r3⟩ := rd.cell
    have OW := hid ow2
    rw [hE]
    clear hq ow ow2 rd HB HL r0 r1 r2
    go_wp2
    go_region
    go_wp2
    refine bodyPost_ret (v := .tuple #[.agg #[.string ⟨FR.2.1.toArray⟩, .string ⟨FR.2.2.1.toArray⟩, .slice va vk vc, .string ⟨FR.2.2.2.2.1.toArray⟩], .int .i64 FR.2.2.2.2.2, .int .i64 0]) (by simp [results, Tryz.results23, go_sem, u0, u1, u2, u3, s2]) rfl ?_
    rw [hE]
    refine ⟨⟨_, rfl, ?_⟩, ?_⟩
    · exact owns_below (owns_not (owns_not (owns_not (owns_not OW.out OB.out 0 _) OB.out 1 _) OB.out 2 _) OB.out 3 _) ((Below.refl _ _).alloc (Nat.le_refl _) _).drew
    · exact (((((BL.out.setCell (Nat.le_succ _) _).setCell (Nat.le_succ _) _).setCell (Nat.le_succ _) _).setCell (Nat.le_succ _) _).alloc (by simp; omega) _).drew
  · have HB2 := hid (HB.out hE)
    have hne : (FR.1 != 0) = true := by rw [bne_iff_ne]; exact hE
    clear hq HB HL
    go_wp2
    refine bodyPost_ret (v := .tuple #[.agg #[.string ⟨#[]⟩, .string ⟨#[]⟩, .slice none 0 0, .string ⟨#[]⟩], .int .i64 0, .int .i64 FR.1]) (by simp [results, Tryz.results23, go_sem, u0, u1, u2, u3, s2]) rfl ?_
    generalize hx : FR.1 = x at *
    rw [HB2.out]
    refine ⟨⟨_, rfl, World.ownsRow_nil _ _ _ _⟩, ?_⟩
    exact ((((BL.out.setCell (Nat.le_succ _) _).setCell (Nat.le_succ _) _).setCell (Nat.le_succ _) _).setCell (Nat.le_succ _) _).alloc (by simp; omega) _

set_option maxRecDepth 100000 in
set_option maxHeartbeats 1000000 in
theorem pFrame_any (hd : Nat) (bd : Int) (s : ByteArray) (mx : Int) (w : World) (hs : s.size ≤ 1152921504606846976) (hh0 : 32 ≤ hd) (hh : hd ≤ 500) (hb0 : 0 ≤ bd) (hb1 : bd ≤ 200) (hm : w.cell? ⟨1, 0, none⟩ = some (.int .i64 mx)) :
    Calls Tryz.prog 8 #[.agg #[.int .i64 hd, .int .i64 bd], .string s] w fun r w' =>
      (∃ v, r = .returned (.tuple #[.agg #[.string ⟨(frameS s.data.toList hd bd).2.1.toArray⟩, .string ⟨(frameS s.data.toList hd bd).2.2.1.toArray⟩, v, .string ⟨(frameS s.data.toList hd bd).2.2.2.2.1.toArray⟩], .int .i64 (frameS s.data.toList hd bd).2.2.2.2.2, .int .i64 (frameS s.data.toList hd bd).1]) ∧ w'.ownsRow w.heap.size 61 2 v (frameS s.data.toList hd bd).2.2.2.1.length (flat (frameS s.data.toList hd bd).2.2.2.1)) ∧ Below w.heap.size w w' := by
  have HM := hid (fun W (hW : Below w.heap.size w W) => wFrame_any hd bd s mx W hs hh0 hh hb0 hb1 (cell_later hW hm))
  generalize frameS s.data.toList hd bd = FR at *
  clear hm
  go_enter Tryz.func8, Tryz.ntmps8
  go_wp2_with fail
  have hA : Below w.heap.size w ((w.alloc (.cells #[.int .i64 hd, .int .i64 bd] 23)).alloc (.cells #[.string ⟨#[]⟩, .string ⟨#[]⟩, .slice none 0 0, .string ⟨#[]⟩] 36)) := ((Below.refl _ _).alloc (Nat.le_refl _) _).alloc (by simp) _
  refine (HM.out _ hA).mono ?_
  rintro e w2 ⟨⟨v, rfl, ow⟩, hb2⟩
  have q1 : RqB (w.heap.size + 1) [] [] (.slice none 0 0) ((w.alloc (.cells #[.int .i64 hd, .int .i64 bd] 23)).alloc (.cells #[.string ⟨#[]⟩, .string ⟨#[]⟩, .slice none 0 0, .string ⟨#[]⟩] 36)) := by
    have := heap_alloc_new (w.alloc (.cells #[.int .i64 hd, .int .i64 bd] 23)) (.cells #[.string ⟨#[]⟩, .string ⟨#[]⟩, .slice none 0 0, .string ⟨#[]⟩] 36)
    rw [show (w.alloc (.cells #[.int .i64 hd, .int .i64 bd] 23)).heap.size = w.heap.size + 1 from by simp] at this
    exact this
  have q2 := q1.below hb2
  obtain ⟨u0, u1, u2, u3⟩ := q2.cells
  have y0 := q2.free 0
  have y1 := q2.free 1
  have y2 := q2.free 2
  have y3 := q2.free 3
  have BL := hid (bel_of hA hb2)
  have OW := hid (owns_base ow (B' := w.heap.size) (by simp; omega))
  have OB := hid (own_not ow (g := w.heap.size + 1) (by simp))
  obtain ⟨va, vk, vc, rfl⟩ := owns_form ow
  clear HM hA hb2 q1 q2 ow
  go_wp2
  refine bodyPost_ret (v := .tuple #[.agg #[.string ⟨FR.2.1.toArray⟩, .string ⟨FR.2.2.1.toArray⟩, .slice va vk vc, .string ⟨FR.2.2.2.2.1.toArray⟩], .int .i64 FR.2.2.2.2.2, .int .i64 FR.1]) (by simp [results, Tryz.results8, go_sem, u0, u1, u2, u3]) rfl ?_
  refine ⟨⟨_, rfl, ?_⟩, ?_⟩
  · exact owns_not (owns_not (owns_not (owns_not OW.out OB.out 0 _) OB.out 1 _) OB.out 2 _) OB.out 3 _
  · exact (((BL.out.setCell (Nat.le_succ _) _).setCell (Nat.le_succ _) _).setCell (Nat.le_succ _) _).setCell (Nat.le_succ _) _
end Go.Proofs.YtnohadlihgjppaaGreatDoor
