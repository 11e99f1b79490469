/- A reader's line: the error, the line, the new place, as the plain mathematics says; no other block turns. -/
import Derived.Test.YtnohadlihgjppaaGreatDoorPlainD
import Derived.Test.YtnohadlihgjppaaGreatDoorWalkK
namespace Go.Proofs.YtnohadlihgjppaaGreatDoor
open Go.RowKit

/- the reader lies in block b: its limits, its text, its place -/
def RdAt (b : Nat) (hd bd : Int) (s : ByteArray) (k : Nat) (w : World) : Prop :=
  w.heap[b]? = some (.cells #[.int .i64 hd, .int .i64 bd, .string s, .int .i64 k] 73 (0, 0))
/- every old block but b is as it was -/
def Kp (b : Nat) (w w' : World) : Prop :=
  w'.os = w.os ∧ w'.tape = w.tape ∧ w'.output = w.output ∧ w.heap.size ≤ w'.heap.size ∧ ∀ k, k < w.heap.size → k ≠ b → w'.heap[k]? = w.heap[k]?
theorem Kp.refl (b : Nat) (w : World) : Kp b w w := ⟨rfl, rfl, rfl, Nat.le_refl _, fun _ _ _ => rfl⟩
theorem Kp.trans {b : Nat} {w w1 w2 : World} (h : Kp b w w1) (k : Kp b w1 w2) : Kp b w w2 :=
  ⟨k.1.trans h.1, k.2.1.trans h.2.1, k.2.2.1.trans h.2.2.1, Nat.le_trans h.2.2.2.1 k.2.2.2.1, fun j hj hb => (k.2.2.2.2 j (Nat.lt_of_lt_of_le hj h.2.2.2.1) hb).trans (h.2.2.2.2 j hj hb)⟩
theorem Kp.of {b : Nat} {w w' : World} (h : Below w.heap.size w w') : Kp b w w' := ⟨h.os, h.tape, h.output, h.size, fun k hk _ => h.block k hk⟩
theorem Kp.set (b o : Nat) (v : Value) (w : World) : Kp b w (w.setCell ⟨b, o, none⟩ v) :=
  ⟨by simp [World.setCell], by simp [World.setCell], by simp [World.setCell], by simp, fun k _ hk => Below.heap_setCell w ⟨b, o, none⟩ v k hk⟩
theorem RdAt.cell {b : Nat} {hd bd : Int} {s : ByteArray} {k : Nat} {w : World} (h : RdAt b hd bd s k w) :
    w.cell? ⟨b, 0, none⟩ = some (.int .i64 hd) ∧ w.cell? ⟨b, 1, none⟩ = some (.int .i64 bd) ∧ w.cell? ⟨b, 2, none⟩ = some (.string s) ∧ w.cell? ⟨b, 3, none⟩ = some (.int .i64 k) := by
  refine ⟨?_, ?_, ?_, ?_⟩ <;> (rw [Lib.cell_of_heap h]; rfl)
theorem RdAt.free {b : Nat} {hd bd : Int} {s : ByteArray} {k : Nat} {w : World} (h : RdAt b hd bd s k w) (j : Nat) : w.frozen? ⟨b, j, none⟩ = false := Lib.frozen_of_heap h j
theorem RdAt.lt {b : Nat} {hd bd : Int} {s : ByteArray} {k : Nat} {w : World} (h : RdAt b hd bd s k w) : b < w.heap.size := by
  unfold RdAt at h
  rcases Nat.lt_or_ge b w.heap.size with h' | h'
  · exact h'
  · simp [Array.getElem?_eq_none h'] at h
theorem RdAt.below {b : Nat} {hd bd : Int} {s : ByteArray} {k : Nat} {w w' : World} (h : RdAt b hd bd s k w) (hb : Below w.heap.size w w') : RdAt b hd bd s k w' := by
  have := hb.block b h.lt
  unfold RdAt at *; rw [this]; exact h

theorem RdAt.move {b : Nat} {hd bd : Int} {s : ByteArray} {k : Nat} {w : World} (h : RdAt b hd bd s k w) (m : Nat) : RdAt b hd bd s m (w.setCell ⟨b, 3, none⟩ (.int .i64 m)) := by
  unfold RdAt at *
  rw [heap_setCell_same w b 3 _ _ _ h]
  rfl

set_option maxHeartbeats 800000 in
theorem line_any (b : Nat) (hd bd : Int) (s : ByteArray) (k e : Nat) (long : Int) (w : World) (hr : RdAt b hd bd s k w) (hs : s.size ≤ maxLen) (hk : k ≤ s.size) (he : k ≤ e) (he2 : e ≤ 4611686018427387904) :
    Calls Tryz.prog 73 #[.pointer (some ⟨b, 0, none⟩), .int .i64 e, .int .i64 long] w fun r w' =>
      r = .returned (.tuple #[.string ⟨(Pm.lineS (s.data.toList.drop k) (e - k) long).2.1.toArray⟩, .int .i64 (Pm.lineS (s.data.toList.drop k) (e - k) long).1]) ∧
      RdAt b hd bd s (k + (Pm.lineS (s.data.toList.drop k) (e - k) long).2.2) w' ∧ Kp b w w' := by
  obtain ⟨c0, c1, c2, c3⟩ := hr.cell
  have cf := hr.free 3
  have hsz := hs
  unfold maxLen at hsz
  have HR : Hid (RdAt b hd bd s k w) := hr
  clear hr
  go_enter Tryz.func73, Tryz.ntmps73
  go_wp2
  go_quiet (fail)
  have HN : Hid ((s.extract k (min (e : Int) (s.size : Int)).toNat).data.toList = (s.data.toList.drop k).take (e - k)) := by
    unfold Hid; rw [show (min (e : Int) (s.size : Int)).toNat = min e s.size from by omega]; exact Pm.near_eq s k e hk
  generalize s.extract k (min (e : Int) (s.size : Int)).toNat = nr at *
  have hnl : nr.size ≤ s.size - k := by
    have h1 := size_of HN.out
    rw [h1, List.length_take, List.length_drop]; simp; omega
  have hl : (s.data.toList.drop k).length = s.size - k := by simp
  have HL : Hid ((s.data.toList.drop k).length = s.size - k) := hl
  clear hl
  rcases Pm.behind_cases 10 nr.data.toList with h | ⟨r, h⟩
  · have hx := (Pm.index_no h).1
    have HS : Hid (Pm.lineS (s.data.toList.drop k) (e - k) long = (if (s.data.toList.drop k).length < e - k then 2 else long, [], 0)) := Pm.lineS_none (by rw [← HN.out]; exact h)
    clear h
    by_cases hm : (s.size : Int) < e
    focus
      rw [if_pos (by rw [HL.out]; omega)] at HS
    rotate_left
    focus
      rw [if_neg (by rw [HL.out]; omega)] at HS
    all_goals
      go_wp2_with (go_at_call 94; refine (Tryz.strings_IndexByte _ _ _).mono ?_; rintro e w1 ⟨rfl, rfl⟩)
      go_ret2
      exact ⟨ret_strint (by rw [HS.out]) (by rw [HS.out]), by rw [HS.out]; exact HR.out.below (below_drewN (Below.refl _ _) _), Kp.of (below_drewN (Below.refl _ _) _)⟩
  · have hx := Pm.index_yes h
    have hlt : (Pm.ahead 10 nr.data.toList).length < nr.size := by
      have h3 := congrArg List.length (Pm.ahead_behind 10 nr.data.toList)
      rw [List.length_append, h, List.length_cons] at h3; simp at h3; omega
    have HE : Hid ((nr.extract 0 (Pm.ahead 10 nr.data.toList).length).data.toList = Pm.ahead 10 nr.data.toList) := by
      unfold Hid; rw [Lib.extract_data, List.drop_zero, Nat.sub_zero]; exact Pm.take_ahead 10 _
    have hb2 : Pm.behind 10 ((s.data.toList.drop k).take (e - k)) = 10 :: r := by rw [← HN.out]; exact h
    cases hq : Lib.hasSuffix (Pm.ahead 10 nr.data.toList) [13]
    · have HS : Hid (Pm.lineS (s.data.toList.drop k) (e - k) long = (3, [], 0)) := Pm.lineS_no hb2 (by rw [← HN.out]; exact hq)
      clear h hb2
      have HQ : Hid (Lib.hasSuffix (Pm.ahead 10 nr.data.toList) [13] = false) := hq
      clear hq
      generalize Pm.ahead 10 nr.data.toList = A at *
      generalize hn : A.length = n at *
      clear hn
      go_wp2_with (go_at_call 94; refine (Tryz.strings_IndexByte _ _ _).mono ?_; rintro e w1 ⟨rfl, rfl⟩)
      refine (Tryz.strings_CutSuffix _ _ _ (by simp; omega)).mono ?_
      rintro e w2 ⟨rfl, rfl⟩
      rw [HE.out, show (⟨#[13]⟩ : ByteArray).data.toList = [13] from rfl, HQ.out]
      go_wp2
      go_ret2
      exact ⟨ret_strint (by rw [HS.out]) (by rw [HS.out]), by rw [HS.out]; exact HR.out.below (below_drewN (Below.refl _ _) _), Kp.of (below_drewN (Below.refl _ _) _)⟩
    · have HS : Hid (Pm.lineS (s.data.toList.drop k) (e - k) long = (0, Lib.trimSuffix (Pm.ahead 10 nr.data.toList) [13], (Pm.ahead 10 nr.data.toList).length + 1)) := by
        have := Pm.lineS_cr (long := long) hb2 (by rw [← HN.out]; exact hq); rw [← HN.out] at this; exact this
      clear h hb2
      have HQ : Hid (Lib.hasSuffix (Pm.ahead 10 nr.data.toList) [13] = true) := hq
      clear hq
      generalize Pm.ahead 10 nr.data.toList = A at *
      generalize hn : A.length = n at *
      clear hn
      go_wp2_with (go_at_call 94; refine (Tryz.strings_IndexByte _ _ _).mono ?_; rintro e w1 ⟨rfl, rfl⟩)
      refine (Tryz.strings_CutSuffix _ _ _ (by simp; omega)).mono ?_
      rintro e w2 ⟨rfl, rfl⟩
      rw [HE.out, show (⟨#[13]⟩ : ByteArray).data.toList = [13] from rfl, HQ.out]
      go_wp2
      go_ret2
      refine ⟨ret_strint (by rw [HS.out]) (by rw [HS.out]), ?_, (Kp.of (below_drewN (Below.refl _ _) _)).trans (Kp.set b 3 _ _)⟩
      rw [HS.out]
      have := (HR.out.below (below_drewN (Below.refl _ _) nq)).move (k + (n + 1))
      rw [show ((k + (n + 1) : Nat) : Int) = (k : Int) + ((n : Int) + 1) from by omega] at this
      exact this
end Go.Proofs.YtnohadlihgjppaaGreatDoor
