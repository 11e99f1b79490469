/- The reference's Render: the same bytes; nothing old in memory turns. -/
import Derived.Test.YtnohadlihgjppaaDoorRnD
namespace Go.Proofs.YtnohadlihgjppaaDoor
open Go.RowKit

theorem pre_le {st : Int} (s0 : -9223372036854775808 ≤ st) (s1 : st ≤ 9223372036854775807) : (preL st).length ≤ 200 := by
  have h1 := numT_le (b := 10) (n := st) (by omega) s0 s1
  have h2 := reason_le st
  have h3 : (Pm.reasonB st).data.toList.length = (Pm.reasonB st).size := by simp
  unfold preL
  simp only [List.length_append, List.length_cons, List.length_nil]; omega
set_option maxRecDepth 100000 in
set_option maxHeartbeats 1000000 in
theorem rRender_any (m : ByteArray) (st : Int) (fs : List Pr2) (a : Option Addr) (ca : Nat) (body : ByteArray) (cl : Bool) (w : World)
    (s0 : -9223372036854775808 ≤ st) (s1 : st ≤ 9223372036854775807) (hf : FoAt fs a w) (hn : fs.length ≤ 1000000000) (hz : (fldsL fs).length + body.size ≤ 4398046511104) :
    Calls Tryd.prog 28 #[.string m, .agg #[.int .i64 st, .slice a fs.length ca, .string body, .bool cl]] w fun e w' => e = .returned (.string ⟨(rendL m.data.toList st fs body.data.toList cl).toArray⟩) ∧ Below w.heap.size w w' := by
  have HF := hid hf
  clear hf
  have hB1 := (Below.refl w.heap.size w).alloc (Nat.le_refl _) (.cells #[.int .i64 st, .slice a fs.length ca, .string body, .bool cl] 46)
  have an1 : AnAt w.heap.size st (.slice a fs.length ca) body cl (w.alloc (.cells #[.int .i64 st, .slice a fs.length ca, .string body, .bool cl] 46)) := heap_alloc_new w _
  have HNu := hid (fun W => rNumber_ten st s0 s1 W)
  have HRe := hid (fun W => rReason_any st W)
  have hil := numT_le (b := 10) (n := st) (by omega) s0 s1
  have hrl := reason_le st
  have hpl := pre_le s0 s1
  have HPRE : Hid (preL st = [72, 84, 84, 80, 47, 49, 46, 49, 32] ++ numT 10 st ++ [32] ++ (Pm.reasonB st).data.toList ++ [13, 10]) := rfl
  generalize hIT : (⟨(numT 10 st).toArray⟩ : ByteArray) = it at *
  have hitd : it.data.toList = numT 10 st := by rw [← hIT]
  have hitz : it.size ≤ 65 := by
    have : it.data.toList.length = it.size := by simp
    rw [hitd] at this; omega
  rw [← hitd] at HPRE
  generalize Pm.reasonB st = rs at *
  have hbl : body.data.toList.length = body.size := by simp
  have HNb := hid (fun W => rNumber_ten (body.size : Int) (by omega) (by omega) W)
  have hll := numT_le (b := 10) (n := (body.size : Int)) (by omega) (by omega) (by omega)
  generalize hLT : (⟨(numT 10 (body.size : Int)).toArray⟩ : ByteArray) = lt at *
  have hld : lt.data.toList = numT 10 (body.data.toList.length : Int) := by rw [← hLT, hbl]
  have hlz : lt.size ≤ 65 := by
    have : lt.data.toList.length = lt.size := by simp
    rw [hld, hbl] at this; omega
  have HR : Hid (rendL m.data.toList st fs body.data.toList cl = (preL st ++ fldsL fs) ++ fldL cLen lt.data.toList ++ (if cl = true then fldL cCon cClose else []) ++ [13, 10] ++ (if m.data.toList = cHead then [] else body.data.toList)) := by
    unfold Hid rendL endL; rw [hld]; simp only [List.append_assoc]
  clear hLT hld hll hIT hitd hil
  go_enter Tryd.func28, Tryd.ntmps28
  have c0 := an1.cells.1
  have al1 := an1.lt
  go_wp2_with fail
  generalize w.alloc (.cells #[.int .i64 st, .slice a fs.length ca, .string body, .bool cl] 46) = w1 at *
  refine (HNu.out _).mono ?_
  rintro e w2 ⟨rfl, hb2⟩
  have an2 := an1.below hb2 al1
  have hB2 := bel_of hB1 hb2
  have c02 := an2.cells.1
  have al2 := an2.lt
  clear c0 al1 an1 hB1 hb2 HNu
  go_wp2_with fail
  refine (HRe.out _).mono ?_
  rintro e w3 ⟨rfl, hb3⟩
  have an3 := an2.below hb3 al2
  have hB3 := bel_of hB2 hb3
  clear c02 al2 an2 hB2 hb3 HRe
  have J3 := hid (And.intro an3 hB3)
  clear an3 hB3
  go_wp2_with fail
  go_loopw [7, 8] (fun s i wr => ∃ (k : Nat) (b : ByteArray), k ≤ fs.length ∧ i = .int .i64 k ∧ s = .string b ∧ Hid (b.data.toList = preL st ++ fldsL (fs.take k)) ∧ Hid (AnAt w.heap.size st (.slice a fs.length ca) body cl wr ∧ Below w.heap.size w wr)) (fun _ i _ => fs.length - (intOf i).toNat)
  case atStart => exact ⟨0, _, Nat.zero_le _, rfl, rfl, (by unfold Hid; rw [HPRE.out]; simp [fldsL, ByteArray.data_append, Array.toList_append]), J3.out⟩
  case round =>
    clear J3
    obtain ⟨k, b, hk, rfl, rfl, H, I⟩ := hrel
    obtain ⟨c0, c1, c2, c3⟩ := I.out.1.cells
    have al := I.out.1.lt
    have hbz : b.size ≤ 200 + (fldsL fs).length := by
      have h1 : b.data.toList.length = b.size := by simp
      have h2 := fldsL_le fs k
      rw [H.out, List.length_append] at h1; omega
    by_cases hlt : k < fs.length
    · obtain ⟨g, o, rfl, hg, hc1, hc2⟩ := (HF.out.below I.out.2) k hlt
      have HN := hid (fldsL_next fs k hlt)
      have hle := fldsL_le fs (k + 1)
      rw [HN.out, List.length_append] at hle
      generalize fs[k].1 = nm at *
      generalize fs[k].2 = vl at *
      have hfl : (fldL nm.data.toList vl.data.toList).length = nm.size + vl.size + 4 := by simp [fldL]; omega
      have hnz : nm.size + vl.size ≤ 4398046511104 := by omega
      have hbz2 : b.size ≤ 4398046511400 := by omega
      have e58 : (⟨#[58, 32]⟩ : ByteArray).size = 2 := rfl
      have e13 : (⟨#[13, 10]⟩ : ByteArray).size = 2 := rfl
      clear hle hfl c0 c2 c3 hbz
      go_wp2_with fail
      go_quiet (fail)
      go_wp2
      refine ⟨⟨k + 1, _, by omega, by go_num, rfl, ?_, I.out.1.below (below_drewN (Below.refl _ _) _) al, below_drewN I.out.2 _⟩, by simp [intOf]; omega⟩
      unfold Hid
      rw [HN.out, ← List.append_assoc, ← H.out]
      simp [fldL, ByteArray.data_append, Array.toList_append]
    · have HTK : Hid (fs.take k = fs) := List.take_of_length_le (by omega)
      rw [HTK.out] at H
      have hB := I.out.2
      have an := I.out.1
      have hbz2 : b.size ≤ 4398046511400 := by omega
      clear HTK I hbz HF
      go_wp2_with fail
      refine (HNb.out _).mono ?_
      rintro e w4 ⟨rfl, hb4⟩
      have an4 := an.below hb4 al
      have hB4 := bel_of hB hb4
      obtain ⟨d0, d1, d2, d3⟩ := an4.cells
      have al4 := an4.lt
      have e1 : (⟨#[67, 111, 110, 116, 101, 110, 116, 45, 76, 101, 110, 103, 116, 104, 58, 32]⟩ : ByteArray).size = 16 := rfl
      have e2 : (⟨#[13, 10]⟩ : ByteArray).size = 2 := rfl
      have e3 : (⟨#[67, 111, 110, 110, 101, 99, 116, 105, 111, 110, 58, 32, 99, 108, 111, 115, 101, 13, 10]⟩ : ByteArray).size = 19 := rfl
      clear c0 c1 c2 c3 an hB hb4 HNb an4 al
      by_cases hm : m.data.toList = cHead
      focus
        have hmb : (m.toList == [72, 69, 65, 68]) = true := by rw [ByteArray.toList_eq, hm]; rfl
        rw [if_pos hm, List.append_nil] at HR
      rotate_left
      focus
        have hmb : (m.toList == [72, 69, 65, 68]) = false := by rw [ByteArray.toList_eq, beq_eq_false_iff_ne]; exact hm
        rw [if_neg hm] at HR
      all_goals
        clear hm
        cases cl
        · go_wp2
          go_ret
          refine ⟨ret_strL ?_, hB4⟩
          rw [HR.out, ← H.out]
          simp [fldL, cLen, ByteArray.data_append, Array.toList_append]
        · go_wp2
          go_ret
          refine ⟨ret_strL ?_, hB4⟩
          rw [HR.out, ← H.out]
          simp [fldL, cLen, cCon, cClose, ByteArray.data_append, Array.toList_append]
end Go.Proofs.YtnohadlihgjppaaDoor
