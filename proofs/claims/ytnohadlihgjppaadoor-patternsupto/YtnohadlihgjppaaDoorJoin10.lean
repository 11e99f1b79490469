/- Texts that follow one another, joined. -/
import Derived.Test.YtnohadlihgjppaaDoorJoin09
import Derived.Test.YtnohadlihgjppaaDoorJoin02
/- ReadField tells the field that a line is; own copies a field: each answers what the plain mathematics says; nothing old in memory turns. -/
namespace Go.Proofs.YtnohadlihgjppaaDoor
open Go.RowKit

theorem trim_le (l : List UInt8) : (Lib.trimS l Pm.blanks).length ≤ l.length := by
  unfold Lib.trimS Lib.trimLeftS Lib.trimRightS
  have h1 := (List.dropWhile_sublist (fun x => Pm.blanks.contains x) (l := l.reverse)).length_le
  have h2 := (List.dropWhile_sublist (fun x => Pm.blanks.contains x) (l := (l.reverse.dropWhile (fun x => Pm.blanks.contains x)).reverse)).length_le
  rw [List.length_reverse] at h1 h2
  omega

theorem cell_old {w : World} {o : Obj} {a : Addr} {v : Value} (h : w.cell? a = some v) : (w.alloc o).cell? a = some v := cell_later ((Below.refl _ _).alloc (Nat.le_refl _) _) h

def fldV (o : Option (List UInt8 × List UInt8)) : Value := match o with
  | some (n, v) => .agg #[.string ⟨n.toArray⟩, .string ⟨v.toArray⟩]
  | none => .agg #[.string ⟨#[]⟩, .string ⟨#[]⟩]

set_option maxHeartbeats 800000 in
theorem wReadField_any (s : ByteArray) (w : World) (hs : s.size ≤ maxLen) :
    Calls Tryd.prog 68 #[.string s] w fun e w' => e = .returned (.tuple #[fldV (Pm.fieldS s.data.toList), .bool (Pm.fieldS s.data.toList).isSome]) ∧ Below w.heap.size w w' := by
  go_enter Tryd.func68, Tryd.ntmps68
  go_wp2_with fail
  refine (cut1_any s 58 _ hs).mono ?_
  rintro e w1 ⟨⟨a, b, rfl, ha, hb⟩, nd, rfl⟩
  have has : a.size ≤ maxLen := by
    have h3 := congrArg List.length (Pm.ahead_behind 58 s.data.toList)
    rw [List.length_append, ← ha] at h3
    simp at h3; omega
  have hbs : b.size ≤ maxLen := by
    have h3 := congrArg List.length (Pm.ahead_behind 58 s.data.toList)
    have h4 := size_of hb
    rw [List.length_append] at h3
    simp at h3 h4; omega
  have hts : (⟨(Lib.trimS b.data.toList Pm.blanks).toArray⟩ : ByteArray).size ≤ maxLen := by
    have h3 := trim_le b.data.toList
    have h4 : b.data.toList.length = b.size := by simp
    have h5 : (⟨(Lib.trimS b.data.toList Pm.blanks).toArray⟩ : ByteArray).size = (Lib.trimS b.data.toList Pm.blanks).length := by simp [ByteArray.size]
    omega
  have HF : Hid (Pm.fieldS s.data.toList = if (!(Pm.behind 58 s.data.toList).isEmpty && Pm.isField a.data.toList (Lib.trimS b.data.toList Pm.blanks)) = true then some (a.data.toList, Lib.trimS b.data.toList Pm.blanks) else none) := by
    unfold Hid Pm.fieldS; rw [ha, hb]
  clear ha hb
  cases hf : (Pm.behind 58 s.data.toList).isEmpty
  all_goals
    rw [hf] at HF
    clear hf
  · cases hi : Pm.isField a.data.toList (Lib.trimS b.data.toList Pm.blanks)
    all_goals
      rw [hi] at HF
      go_wp2_with fail
      refine (trim_any _ _ hbs).mono ?_
      rintro e w2 ⟨rfl, hb2⟩
      have hB2 := bel_of (below_drewN ((Below.refl _ w).alloc (Nat.le_refl _) _) _) hb2
      have q0 := cell_later hb2 (a := ⟨w.heap.size, 0, none⟩) (v := .string ⟨#[]⟩) (by simp)
      have q1 := cell_later hb2 (a := ⟨w.heap.size, 1, none⟩) (v := .string ⟨#[]⟩) (by simp)
      obtain ⟨hc2, hf2⟩ := bcell hb2
      have hz2 : w.heap.size < w2.heap.size := by have := hb2.size; simp at this; omega
      clear hb2
      go_wp2_with fail
      refine (wIsField_any _ _ _ has hts).mono ?_
      rintro e w3 ⟨rfl, hb3⟩
      rw [show (⟨(Lib.trimS b.data.toList Pm.blanks).toArray⟩ : ByteArray).data.toList = Lib.trimS b.data.toList Pm.blanks from rfl, hi]
      clear hi
      have hB3 := bel_of (hB2.alloc (Nat.le_of_lt hz2) _) hb3
      have r0 := cell_later hb3 (a := ⟨w.heap.size, 0, none⟩) (cell_old q0)
      have r1 := cell_later hb3 (a := ⟨w.heap.size, 1, none⟩) (cell_old q1)
      obtain ⟨hc3, hf3⟩ := bcell hb3
      have hz3 : w2.heap.size < w3.heap.size := by have := hb3.size; simp at this; omega
      clear hb3 hB2
      go_wp2
    · refine bodyPost_ret (v := .tuple #[.agg #[.string ⟨#[]⟩, .string ⟨#[]⟩], .bool false]) (by simp [results, Tryd.results68, go_sem, r0, r1]) rfl ⟨by rw [HF.out]; rfl, (hB3.setCell (Nat.le_refl _) _).setCell (Nat.le_refl _) _⟩
    · refine bodyPost_ret (v := .tuple #[.agg #[.string a, .string ⟨(Lib.trimS b.data.toList Pm.blanks).toArray⟩], .bool true]) (by simp [results, Tryd.results68, go_sem, r0, r1]) rfl ⟨by rw [HF.out]; simp [fldV], (hB3.setCell (Nat.le_refl _) _).setCell (Nat.le_refl _) _⟩
  · go_wp2_with fail
    refine (trim_any _ _ hbs).mono ?_
    rintro e w2 ⟨rfl, hb2⟩
    have hB2 := bel_of (below_drewN ((Below.refl _ w).alloc (Nat.le_refl _) _) _) hb2
    have q0 := cell_later hb2 (a := ⟨w.heap.size, 0, none⟩) (v := .string ⟨#[]⟩) (by simp)
    have q1 := cell_later hb2 (a := ⟨w.heap.size, 1, none⟩) (v := .string ⟨#[]⟩) (by simp)
    obtain ⟨hc2, hf2⟩ := bcell hb2
    have hz2 : w.heap.size < w2.heap.size := by have := hb2.size; simp at this; omega
    clear hb2
    go_wp2
    refine bodyPost_ret (v := .tuple #[.agg #[.string ⟨#[]⟩, .string ⟨#[]⟩], .bool false]) (by simp [results, Tryd.results68, go_sem, q0, q1, hz2]) rfl ⟨by rw [HF.out]; rfl, ((hB2.setCell (Nat.le_refl _) _).setCell (Nat.le_refl _) _).alloc (by simp; omega) _⟩

set_option maxHeartbeats 800000 in
theorem own_any (n v : ByteArray) (w : World) (hn : n.size ≤ 281474976710656) (hv : v.size ≤ 281474976710656) :
    Calls Tryd.prog 69 #[.agg #[.string n, .string v]] w fun e w' => e = .returned (.agg #[.string n, .string v]) ∧ Below w.heap.size w w' := by
  go_enter Tryd.func69, Tryd.ntmps69
  go_wp2
  go_region_with (first | (go_at_call_of 76 (Value.string n); refine (clone_any _ _ hn).mono ?_; rintro e w1 ⟨rfl, hb1⟩; obtain ⟨hc1, hf1⟩ := bcell hb1; have q0 := cell_later hb1 (a := ⟨w.heap.size + 1, 0, none⟩) (v := .string ⟨#[]⟩) (by simp); have q1 := cell_later hb1 (a := ⟨w.heap.size + 1, 1, none⟩) (v := .string ⟨#[]⟩) (by simp); have hz1 : w.heap.size + 1 < w1.heap.size := by (have := hb1.size; (try simp at this); omega)) | (go_at_call_of 76 (Value.string v); refine (clone_any _ _ hv).mono ?_; rintro e w2 ⟨rfl, hb2⟩; obtain ⟨hc2, hf2⟩ := bcell hb2; have r0 := cell_later hb2 q0; have r1 := cell_later hb2 q1; have hz2 : w.heap.size + 1 < w2.heap.size := by (have := hb2.size; (try simp at this); omega)))
  all_goals
    go_wp2
    refine bodyPost_ret (v := .agg #[.string n, .string v]) (by simp [results, Tryd.results69, go_sem, r0, r1]) rfl ⟨rfl, ?_⟩
    exact ((bel_of (bel_of (((Below.refl _ w).alloc (Nat.le_refl _) _).alloc (by simp) _).drew hb1) hb2).setCell (by simp) _).setCell (by simp) _
end Go.Proofs.YtnohadlihgjppaaDoor

/- A reader's line: the error, the line, the new place, as the plain mathematics says; no other block turns. -/
namespace Go.Proofs.YtnohadlihgjppaaDoor
open Go.RowKit

/- the reader lies in block b: its limits, its text, its place -/
def RdAt (b : Nat) (hd bd : Int) (s : ByteArray) (k : Nat) (w : World) : Prop :=
  w.heap[b]? = some (.cells #[.int .i64 hd, .int .i64 bd, .string s, .int .i64 k] 65 (0, 0))
/- every old block but b is as it was -/
def Kp (b : Nat) (w w' : World) : Prop :=
  w'.os = w.os ∧ w'.tape = w.tape ∧ w'.output = w.output ∧ w.heap.size ≤ w'.heap.size ∧ ∀ k, k < w.heap.size → k ≠ b → w'.heap[k]? = w.heap[k]?
theorem Kp.refl (b : Nat) (w : World) : Kp b w w := ⟨rfl, rfl, rfl, Nat.le_refl _, fun _ _ _ => rfl⟩
theorem Kp.trans {b : Nat} {w w1 w2 : World} (h : Kp b w w1) (k : Kp b w1 w2) : Kp b w w2 :=
  ⟨k.1.trans h.1, k.2.1.trans h.2.1, k.2.2.1.trans h.2.2.1, Nat.le_trans h.2.2.2.1 k.2.2.2.1, fun j hj hb => (k.2.2.2.2 j (Nat.lt_of_lt_of_le hj h.2.2.2.1) hb).trans (h.2.2.2.2 j hj hb)⟩
theorem Kp.of {b : Nat} {w w' : World} (h : Below w.heap.size w w') : Kp b w w' := ⟨h.os, h.tape, h.output, h.size, fun k hk _ => h.block k hk⟩
theorem Kp.set (b o : Nat) (v : Value) (w : World) : Kp b w (w.setCell ⟨b, o, none⟩ v) :=
  ⟨by simp [World.setCell], by simp [World.setCell], by simp [World.setCell], by simp, fun k _ hk => Below.heap_setCell w ⟨b, o, none⟩ v k hk⟩
theorem RdAt.cell {b : Nat} {hd bd : Int} {s : ByteArray} {k : Nat} {w : World} (h : RdAt b hd bd s k w) :
    w.cell? ⟨b, 0, none⟩ = some (.int .i64 hd) ∧ w.cell? ⟨b, 1, none⟩ = some (.int .i64 bd) ∧ w.cell? ⟨b, 2, none⟩ = some (.string s) ∧ w.cell? ⟨b, 3, none⟩ = some (.int .i64 k) := by
  refine ⟨?_, ?_, ?_, ?_⟩ <;> (rw [Lib.cell_of_heap h]; rfl)
theorem RdAt.free {b : Nat} {hd bd : Int} {s : ByteArray} {k : Nat} {w : World} (h : RdAt b hd bd s k w) (j : Nat) : w.frozen? ⟨b, j, none⟩ = false := Lib.frozen_of_heap h j
theorem RdAt.lt {b : Nat} {hd bd : Int} {s : ByteArray} {k : Nat} {w : World} (h : RdAt b hd bd s k w) : b < w.heap.size := by
  unfold RdAt at h
  rcases Nat.lt_or_ge b w.heap.size with h' | h'
  · exact h'
  · simp [Array.getElem?_eq_none h'] at h
theorem RdAt.below {b : Nat} {hd bd : Int} {s : ByteArray} {k : Nat} {w w' : World} (h : RdAt b hd bd s k w) (hb : Below w.heap.size w w') : RdAt b hd bd s k w' := by
  have := hb.block b h.lt
  unfold RdAt at *; rw [this]; exact h

theorem RdAt.move {b : Nat} {hd bd : Int} {s : ByteArray} {k : Nat} {w : World} (h : RdAt b hd bd s k w) (m : Nat) : RdAt b hd bd s m (w.setCell ⟨b, 3, none⟩ (.int .i64 m)) := by
  unfold RdAt at *
  rw [heap_setCell_same w b 3 _ _ _ h]
  rfl

set_option maxHeartbeats 800000 in
theorem line_any (b : Nat) (hd bd : Int) (s : ByteArray) (k e : Nat) (long : Int) (w : World) (hr : RdAt b hd bd s k w) (hs : s.size ≤ maxLen) (hk : k ≤ s.size) (he : k ≤ e) (he2 : e ≤ 4611686018427387904) :
    Calls Tryd.prog 66 #[.pointer (some ⟨b, 0, none⟩), .int .i64 e, .int .i64 long] w fun r w' =>
      r = .returned (.tuple #[.string ⟨(Pm.lineS (s.data.toList.drop k) (e - k) long).2.1.toArray⟩, .int .i64 (Pm.lineS (s.data.toList.drop k) (e - k) long).1]) ∧
      RdAt b hd bd s (k + (Pm.lineS (s.data.toList.drop k) (e - k) long).2.2) w' ∧ Kp b w w' := by
  obtain ⟨c0, c1, c2, c3⟩ := hr.cell
  have cf := hr.free 3
  have hsz := hs
  unfold maxLen at hsz
  have HR : Hid (RdAt b hd bd s k w) := hr
  clear hr
  go_enter Tryd.func66, Tryd.ntmps66
  go_wp2
  go_quiet (fail)
  have HN : Hid ((s.extract k (min (e : Int) (s.size : Int)).toNat).data.toList = (s.data.toList.drop k).take (e - k)) := by
    unfold Hid; rw [show (min (e : Int) (s.size : Int)).toNat = min e s.size from by omega]; exact Pm.near_eq s k e hk
  generalize s.extract k (min (e : Int) (s.size : Int)).toNat = nr at *
  have hnl : nr.size ≤ s.size - k := by
    have h1 := size_of HN.out
    rw [h1, List.length_take, List.length_drop]; simp; omega
  have hl : (s.data.toList.drop k).length = s.size - k := by simp
  have HL : Hid ((s.data.toList.drop k).length = s.size - k) := hl
  clear hl
  rcases Pm.behind_cases 10 nr.data.toList with h | ⟨r, h⟩
  · have hx := (Pm.index_no h).1
    have HS : Hid (Pm.lineS (s.data.toList.drop k) (e - k) long = (if (s.data.toList.drop k).length < e - k then 2 else long, [], 0)) := Pm.lineS_none (by rw [← HN.out]; exact h)
    clear h
    by_cases hm : (s.size : Int) < e
    focus
      rw [if_pos (by rw [HL.out]; omega)] at HS
    rotate_left
    focus
      rw [if_neg (by rw [HL.out]; omega)] at HS
    all_goals
      go_wp2_with (go_at_call 91; refine (Tryd.strings_IndexByte _ _ _).mono ?_; rintro e w1 ⟨rfl, rfl⟩)
      go_ret2
      exact ⟨ret_strint (by rw [HS.out]) (by rw [HS.out]), by rw [HS.out]; exact HR.out.below (below_drewN (Below.refl _ _) _), Kp.of (below_drewN (Below.refl _ _) _)⟩
  · have hx := Pm.index_yes h
    have hlt : (Pm.ahead 10 nr.data.toList).length < nr.size := by
      have h3 := congrArg List.length (Pm.ahead_behind 10 nr.data.toList)
      rw [List.length_append, h, List.length_cons] at h3; simp at h3; omega
    have HE : Hid ((nr.extract 0 (Pm.ahead 10 nr.data.toList).length).data.toList = Pm.ahead 10 nr.data.toList) := by
      unfold Hid; rw [Lib.extract_data, List.drop_zero, Nat.sub_zero]; exact Pm.take_ahead 10 _
    have hb2 : Pm.behind 10 ((s.data.toList.drop k).take (e - k)) = 10 :: r := by rw [← HN.out]; exact h
    cases hq : Lib.hasSuffix (Pm.ahead 10 nr.data.toList) [13]
    · have HS : Hid (Pm.lineS (s.data.toList.drop k) (e - k) long = (3, [], 0)) := Pm.lineS_no hb2 (by rw [← HN.out]; exact hq)
      clear h hb2
      have HQ : Hid (Lib.hasSuffix (Pm.ahead 10 nr.data.toList) [13] = false) := hq
      clear hq
      generalize Pm.ahead 10 nr.data.toList = A at *
      generalize hn : A.length = n at *
      clear hn
      go_wp2_with (go_at_call 91; refine (Tryd.strings_IndexByte _ _ _).mono ?_; rintro e w1 ⟨rfl, rfl⟩)
      refine (Tryd.strings_CutSuffix _ _ _ (by simp; omega)).mono ?_
      rintro e w2 ⟨rfl, rfl⟩
      rw [HE.out, show (⟨#[13]⟩ : ByteArray).data.toList = [13] from rfl, HQ.out]
      go_wp2
      go_ret2
      exact ⟨ret_strint (by rw [HS.out]) (by rw [HS.out]), by rw [HS.out]; exact HR.out.below (below_drewN (Below.refl _ _) _), Kp.of (below_drewN (Below.refl _ _) _)⟩
    · have HS : Hid (Pm.lineS (s.data.toList.drop k) (e - k) long = (0, Lib.trimSuffix (Pm.ahead 10 nr.data.toList) [13], (Pm.ahead 10 nr.data.toList).length + 1)) := by
        have := Pm.lineS_cr (long := long) hb2 (by rw [← HN.out]; exact hq); rw [← HN.out] at this; exact this
      clear h hb2
      have HQ : Hid (Lib.hasSuffix (Pm.ahead 10 nr.data.toList) [13] = true) := hq
      clear hq
      generalize Pm.ahead 10 nr.data.toList = A at *
      generalize hn : A.length = n at *
      clear hn
      go_wp2_with (go_at_call 91; refine (Tryd.strings_IndexByte _ _ _).mono ?_; rintro e w1 ⟨rfl, rfl⟩)
      refine (Tryd.strings_CutSuffix _ _ _ (by simp; omega)).mono ?_
      rintro e w2 ⟨rfl, rfl⟩
      rw [HE.out, show (⟨#[13]⟩ : ByteArray).data.toList = [13] from rfl, HQ.out]
      go_wp2
      go_ret2
      refine ⟨ret_strint (by rw [HS.out]) (by rw [HS.out]), ?_, (Kp.of (below_drewN (Below.refl _ _) _)).trans (Kp.set b 3 _ _)⟩
      rw [HS.out]
      have := (HR.out.below (below_drewN (Below.refl _ _) nq)).move (k + (n + 1))
      rw [show ((k + (n + 1) : Nat) : Int) = (k : Int) + ((n : Int) + 1) from by omega] at this
      exact this
end Go.Proofs.YtnohadlihgjppaaDoor
