/- frames: what the program's Frame tells is what the reference's tells, and the list that came out is the caller's. -/
import Derived.Test.YtnohadlihgjppaaGreatDoorBook5
namespace Go.Proofs.YtnohadlihgjppaaGreatDoor
open Go.RowKit

def RqG (g : Nat) (FR : FrameR) (v : Value) (w : World) : Prop := w.heap[g]? = some (.cells #[.string ⟨FR.2.1.toArray⟩, .string ⟨FR.2.2.1.toArray⟩, v, .string ⟨FR.2.2.2.2.1.toArray⟩] 36 (0, 0))
theorem RqG.cells {g : Nat} {FR : FrameR} {v : Value} {w : World} (h : RqG g FR v w) :
    w.cell? ⟨g, 0, none⟩ = some (.string ⟨FR.2.1.toArray⟩) ∧ w.cell? ⟨g, 1, none⟩ = some (.string ⟨FR.2.2.1.toArray⟩) ∧ w.cell? ⟨g, 2, none⟩ = some v ∧ w.cell? ⟨g, 3, none⟩ = some (.string ⟨FR.2.2.2.2.1.toArray⟩) := by
  refine ⟨?_, ?_, ?_, ?_⟩ <;> (rw [Lib.cell_of_heap h]; rfl)
theorem RqG.below {g : Nat} {FR : FrameR} {v : Value} {w w' : World} (h : RqG g FR v w) (hb : Below w.heap.size w w') : RqG g FR v w' := by
  have := hb.block g (heap_lt h); unfold RqG at *; rw [this]; exact h
theorem BkAt.below {bk B : Nat} {vs : List Value} {V : Value} {w w' : World} (h : BkAt bk B vs V w) (hb : Below w.heap.size w w') : BkAt bk B vs V w' :=
  { blk := by rw [hb.block bk (heap_lt h.blk)]; exact h.blk, own := owns_below h.own hb, lt := h.lt }

set_option maxRecDepth 100000 in
set_option maxHeartbeats 2000000 in
theorem frames_any (bk B N0 : Nat) (vs : List Value) (V : Value) (hd bd : Int) (s : ByteArray) (mx : Int) (w0 w : World) (hbk : BkAt bk B vs V w) (hvs : vs.length ≤ 8) (h4 : vs.length % 4 = 0) (hg : ∀ i (h : i < vs.length), Good bk V i vs[i] w)
    (hB : Below N0 w0 w) (n0 : N0 ≤ w.heap.size) (n1 : N0 ≤ bk) (n2 : N0 ≤ B) (n4 : B ≤ w.heap.size) (hs : s.size ≤ 281474976710656) (hm : w.cell? ⟨1, 0, none⟩ = some (.int .i64 mx)) :
    Calls Tryz.prog 5 #[.pointer (some ⟨bk, 0, none⟩), .agg #[.int .i64 hd, .int .i64 bd], .string s] w fun r w' => r = .returned (.bool true) ∧
      ∃ vs' V', vs'.length = vs.length + 4 ∧ BkAt bk B vs' V' w' ∧ (∀ i (h : i < vs'.length), Good bk V' i vs'[i] w') ∧ Below N0 w0 w' := by
  have hlk := heap_lt hbk.blk
  have hA := (Below.refl w.heap.size w).alloc (Nat.le_refl _) (.cells #[.int .i64 hd, .int .i64 bd] 23)
  have HP := hid (pFrameG_any hd bd s mx _ hs (cell_later hA hm))
  have HR := hid (fun W => rFrameG_any hd bd s W hs)
  obtain ⟨fl1, fl2⟩ := frameG_flds s.data.toList hd bd
  have HFL := hid fl2
  generalize frameG s.data.toList hd bd = FR at *
  clear hm fl2
  go_enter Tryz.func5, Tryz.ntmps5
  go_wp2_with fail
  refine HP.out.mono ?_
  rintro e w1 ⟨⟨v1, rfl, ow1⟩, hb1⟩
  have hB1 := bel_of hA hb1
  have k0 := cell_later hb1 (a := ⟨w.heap.size, 0, none⟩) (v := .int .i64 hd) (by simp)
  have k1 := cell_later hb1 (a := ⟨w.heap.size, 1, none⟩) (v := .int .i64 bd) (by simp)
  have hLs : (w.alloc (.cells #[.int .i64 hd, .int .i64 bd] 23)).heap.size = w.heap.size + 1 := by simp
  rw [hLs] at ow1
  obtain ⟨a1, c1, rfl, hf1⟩ := flat_at ow1
  have sz1 : w.heap.size + 1 ≤ w1.heap.size := by rw [← hLs]; exact hb1.size
  have s1 : w.heap.size < w1.heap.size := by omega
  clear HP hA hb1 hLs
  go_wp2_with fail
  have hA2 := (Below.refl w1.heap.size w1).alloc (Nat.le_refl _) (.cells #[.string ⟨FR.2.1.toArray⟩, .string ⟨FR.2.2.1.toArray⟩, .slice a1 (fldsOf FR.2.2.2.1).length c1, .string ⟨FR.2.2.2.2.1.toArray⟩] 36)
  have q2 : RqG w1.heap.size FR (.slice a1 (fldsOf FR.2.2.2.1).length c1) (w1.alloc (.cells #[.string ⟨FR.2.1.toArray⟩, .string ⟨FR.2.2.1.toArray⟩, .slice a1 (fldsOf FR.2.2.2.1).length c1, .string ⟨FR.2.2.2.2.1.toArray⟩] 36)) := heap_alloc_new w1 _
  refine (HR.out _).mono ?_
  rintro e w3 ⟨⟨v2, rfl, ow3⟩, hb3⟩
  have hB3 := bel_of (bel_of hB1 hA2) hb3
  have q3 := q2.below hb3
  have hf3 := (hf1.below hA2).below hb3
  have ow3' := owns_below (owns_below ow1 hA2) hb3
  have sz3 : w1.heap.size < w3.heap.size := heap_lt q3
  obtain ⟨a2, c2, rfl, hf4⟩ := flat_at ow3
  clear HR hB1 k0 k1 hf1 ow1 hA2 q2 hb3 ow3
  have hA4 := (Below.refl w3.heap.size w3).alloc (Nat.le_refl _) (.cells #[.string ⟨FR.2.1.toArray⟩, .string ⟨FR.2.2.1.toArray⟩, .slice a2 (fldsOf FR.2.2.2.1).length c2, .string ⟨FR.2.2.2.2.1.toArray⟩] 36)
  have r4 : RqG w3.heap.size FR (.slice a2 (fldsOf FR.2.2.2.1).length c2) (w3.alloc (.cells #[.string ⟨FR.2.1.toArray⟩, .string ⟨FR.2.2.1.toArray⟩, .slice a2 (fldsOf FR.2.2.2.1).length c2, .string ⟨FR.2.2.2.2.1.toArray⟩] 36)) := heap_alloc_new w3 _
  have q4 := q3.below hA4
  have hB4 := bel_of hB3 hA4
  have ow4 := owns_below ow3' hA4
  have HSF := hid (sameFields_any (fldsOf FR.2.2.2.1) a1 a2 c1 c2 _ (hf3.below hA4) (hf4.below hA4) (by rw [fldsOf_len]; omega))
  obtain ⟨qc0, qc1, qc2, qc3⟩ := q3.cells
  clear hf3 hf4 ow3' hB3 hA4 q3
  go_wp2_with fail
  refine HSF.out.mono ?_
  rintro e w5 ⟨rfl, hb5⟩
  have q5 := q4.below hb5
  have r5 := r4.below hb5
  have hB5 := bel_of hB4 hb5
  have ow5 := owns_below ow4 hb5
  clear HSF q4 r4 hB4 ow4 hb5 qc0 qc1 qc2 qc3
  obtain ⟨x0, x1, x2, x3⟩ := q5.cells
  obtain ⟨y0, y1, y2, y3⟩ := r5.cells
  have hbk5 := hbk.below hB5
  have hg5 : ∀ i (h : i < vs.length), Good bk V i vs[i] w5 ∧ ∀ r, (vs[i]).ownBlock = some r → r < w.heap.size + 1 := fun i h => ⟨good_below (hg i h) hB5, fun r hr => by
    obtain ⟨a, n, cap, e1, e2, e3, e4⟩ := hg i h
    have := (e4 r hr).1; omega⟩
  rw [← fldsOf_len] at ow5 fl1
  have sz5 : w.heap.size + 1 ≤ w5.heap.size := by have := heap_lt r5; omega
  have HK := hid (keepFields_any bk B (w.heap.size + 1) N0 vs V (.slice a1 (fldsOf FR.2.2.2.1).length c1) (fldsOf FR.2.2.2.1).length _ w0 w5 hbk5 hvs ow5 (by omega) (by omega) (fun r hr => by have := (owns_blk hbk.own r hr).2; omega) hg5 h4 (hB.trans (hB5.mono n0)) n1 n2 (by omega) (by omega) sz5)
  clear q5 r5 hbk5 hg5 hbk hg ow5
  have hfn : (fldsOf FR.2.2.2.1).length = 0 ∨ FR.1 = 0 := by
    by_cases he : FR.1 = 0
    · exact .inr he
    · left; rw [HFL.out he]; rfl
  by_cases hz : (fldsOf FR.2.2.2.1).length = 0
  · have HK1 := HK.out
    generalize fldsOf FR.2.2.2.1 = fs at *
    rw [hz] at HK1 x2 y2
    have HK2 := hid HK1
    clear HK1 hfn
    go_wp2_with (go_at_call 11; refine (fnum_any _ _).mono ?_; rintro e w6 ⟨rfl, rfl⟩)
    refine HK2.out.mono ?_
    rintro e w7 ⟨rfl, vs', V', j1, j2, j3, j4⟩
    clear HK HK2
    have J := hid (And.intro j2 (And.intro j3 j4))
    clear j2 j3 j4
    go_wp2
    go_ret
    exact ⟨rfl, vs', V', j1, J.out.1, J.out.2.1, J.out.2.2⟩
  · have he : FR.1 = 0 := hfn.resolve_left hz
    have he2 : (FR.1 == 0) = true := by rw [he]; rfl
    have HK2 := HK
    generalize fldsOf FR.2.2.2.1 = fs at *
    have hz2 : ((fs.length : Int) == 0) = false := by rw [beq_eq_false_iff_ne]; omega
    clear hfn
    go_wp2_with (go_at_call 11; refine (fnum_any _ _).mono ?_; rintro e w6 ⟨rfl, rfl⟩)
    refine HK2.out.mono ?_
    rintro e w7 ⟨rfl, vs', V', j1, j2, j3, j4⟩
    clear HK HK2
    have J := hid (And.intro j2 (And.intro j3 j4))
    clear j2 j3 j4
    go_wp2
    go_ret
    exact ⟨rfl, vs', V', j1, J.out.1, J.out.2.1, J.out.2.2⟩
end Go.Proofs.YtnohadlihgjppaaGreatDoor
