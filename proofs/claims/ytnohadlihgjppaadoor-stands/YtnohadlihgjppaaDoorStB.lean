/- Stands answers true at every argument. -/
import Derived.Test.YtnohadlihgjppaaDoorStA
namespace Go.Proofs.YtnohadlihgjppaaDoor
open Go.RowKit

theorem owns_max {w : World} {B : Nat} {e : TypeId} {sz : Nat} {v : Value} {n : Nat} {xs : List Value} (h : w.ownsRow B e sz v n xs) : n ≤ maxLen := by
  rcases h.2 with ⟨_, h0⟩ | ⟨g, cap, cur, hv, hB, hg, hc, hm, _⟩
  · rw [h0]; exact Nat.zero_le _
  · exact Nat.le_trans hc hm
def RqF (g : Nat) (m t : ByteArray) (v : Value) (b : ByteArray) (w : World) : Prop := w.heap[g]? = some (.cells #[.string m, .string t, v, .string b] 28 (0, 0))
theorem RqF.cells {g : Nat} {m t b : ByteArray} {v : Value} {w : World} (h : RqF g m t v b w) :
    w.cell? ⟨g, 0, none⟩ = some (.string m) ∧ w.cell? ⟨g, 1, none⟩ = some (.string t) ∧ w.cell? ⟨g, 2, none⟩ = some v ∧ w.cell? ⟨g, 3, none⟩ = some (.string b) := by
  refine ⟨?_, ?_, ?_, ?_⟩ <;> (rw [Lib.cell_of_heap h]; rfl)
theorem RqF.lt {g : Nat} {m t b : ByteArray} {v : Value} {w : World} (h : RqF g m t v b w) : g < w.heap.size := block_lt_of_cell h.cells.1
theorem RqF.below {g : Nat} {m t b : ByteArray} {v : Value} {w w' : World} (h : RqF g m t v b w) (hb : Below w.heap.size w w') : RqF g m t v b w' := by
  have := hb.block g h.lt; unfold RqF at *; rw [this]; exact h

set_option maxRecDepth 100000 in
set_option maxHeartbeats 2000000 in
theorem stands_any (x y cut mx : Int) (s t : ByteArray) (w : World) (x1 : -9223372036854775808 ≤ x) (x2 : x ≤ 9223372036854775807) (y1 : -9223372036854775808 ≤ y) (y2 : y ≤ 9223372036854775807) (c1 : -9223372036854775808 ≤ cut) (c2 : cut ≤ 9223372036854775807) (hs : s.size + t.size ≤ 281474976710656)
    (h0 : w.cell? ⟨0, 0, none⟩ = some (.int .i64 500)) (h1 : w.cell? ⟨0, 1, none⟩ = some (.int .i64 200)) (hm : w.cell? ⟨1, 0, none⟩ = some (.int .i64 mx)) :
    Calls Tryd.prog 3 #[.agg #[.int .i64 x, .int .i64 y], .string s, .string t, .int .i64 cut] w fun e w' => e = .returned (.bool true) ∧ Below w.heap.size w w' := by
  obtain ⟨px1, px2⟩ := pickS_bd x 469 (by omega)
  obtain ⟨py1, py2⟩ := pickS_bd y 201 (by omega)
  obtain ⟨pc1, pc2⟩ := pickS_bd cut (s.size + 1 : Nat) (by omega)
  have hbn := hid (fun W => bounded_any x y W x1 x2 y1 y2)
  have hpk := hid (fun W => pick_any cut (s.size + 1 : Nat) W c1 c2 (by omega) (by omega))
  obtain ⟨hd, hhd⟩ : ∃ hd : Nat, 32 + pickS x 469 = hd := ⟨(32 + pickS x 469).toNat, by omega⟩
  rw [hhd] at hbn
  have d1 : 32 ≤ hd := by omega
  have d2 : hd ≤ 500 := by omega
  clear hhd px1 px2
  generalize pickS y 201 = bd at *
  obtain ⟨cn, hcn⟩ : ∃ cn : Nat, pickS cut (s.size + 1 : Nat) = cn := ⟨(pickS cut (s.size + 1 : Nat)).toNat, by omega⟩
  rw [hcn] at hpk pc1 pc2
  have hcs : cn ≤ s.size := by omega
  clear hcn
  have HFR := hid (fun (u : ByteArray) W (hu : u.size ≤ 1152921504606846976) (hW : Below w.heap.size w W) => pFrame_any hd bd u mx W hu d1 d2 py1 (by omega) (cell_later hW hm))
  have hA := (Below.refl w.heap.size w).alloc (Nat.le_refl _) (.cells #[.int .i64 x, .int .i64 y] 23)
  have HK := hid (knows_any mx _ (cell_later hA h0) (cell_later hA h1) (cell_later hA hm))
  clear h0 h1 hm
  go_enter Tryd.func3, Tryd.ntmps3
  go_wp2_with fail
  refine HK.out.mono ?_
  rintro e w1 ⟨rfl, hb1⟩
  have hB1 := bel_of hA hb1
  have k0 := cell_later hb1 (a := ⟨w.heap.size, 0, none⟩) (v := .int .i64 x) (by simp)
  have k1 := cell_later hb1 (a := ⟨w.heap.size, 1, none⟩) (v := .int .i64 y) (by simp)
  have z0 : w1.frozen? ⟨w.heap.size, 0, none⟩ = false := by rw [hb1.frozen (by simp)]; simp
  have z1 : w1.frozen? ⟨w.heap.size, 1, none⟩ = false := by rw [hb1.frozen (by simp)]; simp
  have s1 : w.heap.size < w1.heap.size := by have := hb1.size; simp at this; omega
  clear HK hA hb1
  go_wp2_with fail
  refine (hbn.out _).mono ?_
  rintro e w2 ⟨rfl, hb2⟩
  have hB2 := bel_of hB1 hb2
  have k0' := cell_later hb2 k0
  have k1' := cell_later hb2 k1
  have z0' : w2.frozen? ⟨w.heap.size, 0, none⟩ = false := by rw [hb2.frozen s1]; exact z0
  have z1' : w2.frozen? ⟨w.heap.size, 1, none⟩ = false := by rw [hb2.frozen s1]; exact z1
  have s2 : w.heap.size < w2.heap.size := Nat.lt_of_lt_of_le s1 hb2.size
  clear hbn k0 k1 z0 z1 hb2 hB1
  go_wp2_with fail
  have hB3 := (hB2.setCell (p := ⟨w.heap.size, 0, none⟩) (Nat.le_refl _) (.int .i64 hd)).setCell (p := ⟨w.heap.size, 1, none⟩) (Nat.le_refl _) (.int .i64 bd)
  refine (HFR.out s _ (by omega) hB3).mono ?_
  rintro e w4 ⟨⟨v1, rfl, ow1⟩, hb4⟩
  have hB4 := bel_of hB3 hb4
  have l0 := cell_later hb4 (a := ⟨w.heap.size, 0, none⟩) (v := .int .i64 hd) (by simp [go_sem, k0'])
  have l1 := cell_later hb4 (a := ⟨w.heap.size, 1, none⟩) (v := .int .i64 bd) (by simp [go_sem, k1'])
  have s4 : w.heap.size < w4.heap.size := by have := hb4.size; simp at this; omega
  obtain ⟨a1, n1, rfl, hf1⟩ := flat_at ow1
  have hN := owns_max ow1
  rw [← fldsOf_len] at hN
  unfold maxLen at hN
  have HSY := hid (frameS_say s.data.toList hd bd)
  have HAP := hid (frameS_app s.data.toList t.data.toList hd bd)
  have HMO := hid (frameS_more s.data.toList cn hd bd)
  have HS3 := hid (frameS_say (s.data.toList.take cn) hd bd)
  have e3 : (s.extract 0 cn).data.toList = s.data.toList.take cn := by rw [Lib.extract_data]; simp
  rw [← e3] at HMO HS3
  clear e3
  clear k0' k1' z0' z1' hB2 hB3 hb4 ow1
  generalize hF1 : frameS s.data.toList hd bd = F1 at *
  clear hF1
  go_wp2_with fail
  have hA5 := (Below.refl w4.heap.size w4).alloc (Nat.le_refl _) (.cells #[.string ⟨F1.2.1.toArray⟩, .string ⟨F1.2.2.1.toArray⟩, .slice a1 (fldsOf F1.2.2.2.1).length n1, .string ⟨F1.2.2.2.2.1.toArray⟩] 28)
  have hB5 := bel_of hB4 hA5
  have q1 : RqF w4.heap.size ⟨F1.2.1.toArray⟩ ⟨F1.2.2.1.toArray⟩ (.slice a1 (fldsOf F1.2.2.2.1).length n1) ⟨F1.2.2.2.2.1.toArray⟩ (w4.alloc (.cells #[.string ⟨F1.2.1.toArray⟩, .string ⟨F1.2.2.1.toArray⟩, .slice a1 (fldsOf F1.2.2.2.1).length n1, .string ⟨F1.2.2.2.2.1.toArray⟩] 28)) := heap_alloc_new w4 _
  refine (HFR.out (s ++ t) _ (by simp; omega) hB5).mono ?_
  rintro e w5 ⟨⟨v2, rfl, ow2⟩, hb5⟩
  have q1' := q1.below hb5
  have m0 := cell_later hb5 (cell_later hA5 l0)
  have m1 := cell_later hb5 (cell_later hA5 l1)
  have hf1' := (hf1.below hA5).below hb5
  have hB6 := bel_of hB5 hb5
  have s5 : w4.heap.size < w5.heap.size := q1'.lt
  have s6 : w.heap.size < w5.heap.size := by omega
  obtain ⟨a2, n2, rfl, hf2⟩ := flat_at ow2
  have e2 : (s ++ t).data.toList = s.data.toList ++ t.data.toList := by simp
  rw [e2] at hf2 ⊢
  clear l0 l1 hf1 hA5 hB5 hB4 q1 hb5 ow2 e2
  by_cases hE : F1.1 = 2
  · generalize frameS (s.data.toList ++ t.data.toList) hd bd = F2 at *
    rw [hE]
    clear hf1' hf2
    go_wp2_with fail
    have hw1 : IntKind.i64.wrap ((s.size : Int) + 1) = ((s.size + 1 : Nat) : Int) := by simp [IntKind.wrap, IntKind.bits, IntKind.signed]; omega
    have f1 := HMO.out hE
    have f2 := HS3.out.2.2.1 (by rw [f1]; decide)
    have f3 := HSY.out.2.2.1 (by rw [hE]; decide)
    go_region_with (first | (go_at_call 9; refine (hpk.out _).mono ?_; rintro e w6 ⟨rfl, rfl⟩) | (go_at_call 8; refine (HFR.out (s.extract 0 cn) _ (by simp; omega) (hB6.alloc hB6.size _).drew).mono ?_; rintro e w7 ⟨⟨v3, rfl, ow3⟩, hb7⟩; obtain ⟨a3, n3, rfl, hf3⟩ := flat_at ow3; rw [f1, f2]))
    all_goals
      have hB8 := bel_of (hB6.alloc hB6.size _).drew hb7
      go_wp2
      go_ret
      exact ⟨rfl, hB8⟩
  · rw [HAP.out hE] at hf2 ⊢
    obtain ⟨g1, g2, g3, g4⟩ := HSY.out
    have HG := hid (And.intro g2 (And.intro g3 g4))
    have hne : (F1.1 == 2) = false := by rw [beq_eq_false_iff_ne]; exact hE
    have hA6 := (Below.refl w5.heap.size w5).alloc (Nat.le_refl _) (.cells #[.string ⟨F1.2.1.toArray⟩, .string ⟨F1.2.2.1.toArray⟩, .slice a2 (fldsOf F1.2.2.2.1).length n2, .string ⟨F1.2.2.2.2.1.toArray⟩] 28)
    have q2 : RqF w5.heap.size ⟨F1.2.1.toArray⟩ ⟨F1.2.2.1.toArray⟩ (.slice a2 (fldsOf F1.2.2.2.1).length n2) ⟨F1.2.2.2.2.1.toArray⟩ (w5.alloc (.cells #[.string ⟨F1.2.1.toArray⟩, .string ⟨F1.2.2.1.toArray⟩, .slice a2 (fldsOf F1.2.2.2.1).length n2, .string ⟨F1.2.2.2.2.1.toArray⟩] 28)) := heap_alloc_new w5 _
    have q1'' := q1'.below hA6
    have hfa := hf1'.below hA6
    have hfb := hf2.below hA6
    have hB7 := bel_of hB6 hA6
    obtain ⟨i0, i1, i2, i3⟩ := q1'.cells
    obtain ⟨r0, r1, r2, r3⟩ := q2.cells
    clear HFR hpk HMO HS3 HSY HAP hf1' hf2 hA6 hB6 m0 m1
    go_wp2_with fail
    clear i0 i1 i2 i3 r0 r1 r2 r3 q1'
    generalize w5.alloc (.cells #[.string ⟨F1.2.1.toArray⟩, .string ⟨F1.2.2.1.toArray⟩, .slice a2 (fldsOf F1.2.2.2.1).length n2, .string ⟨F1.2.2.2.2.1.toArray⟩] 28) = w6 at *
    generalize fldsOf F1.2.2.2.1 = fs at *
    go_loopw [16] (fun i wr => ∃ k : Nat, k ≤ fs.length ∧ i = .int .i64 k ∧ Below w6.heap.size w6 wr) (fun i _ => fs.length - (intOf i).toNat)
    case atStart => exact ⟨0, Nat.zero_le _, rfl, Below.refl _ _⟩
    case round =>
      obtain ⟨k, hk, rfl, hbw⟩ := hrel
      obtain ⟨i0, i1, i2, i3⟩ := (q1''.below hbw).cells
      obtain ⟨r0, r1, r2, r3⟩ := (q2.below hbw).cells
      by_cases hlt : k < fs.length
      · obtain ⟨ga, rfl, hg1, hc1, hc2⟩ := (hfa.below hbw) k hlt
        obtain ⟨gb, rfl, hg2, hc3, hc4⟩ := (hfb.below hbw) k hlt
        generalize fs[k].1 = nm at *
        generalize fs[k].2 = vl at *
        go_wp2_with fail
        go_quiet (fail)
        go_wp2
        exact ⟨⟨k + 1, by omega, by go_num, below_drewN hbw _⟩, by simp [intOf]; omega⟩
      · have BL := hid (bel_of hB7 hbw)
        obtain ⟨p1, p2, p3⟩ := HG.out
        simp only [Array.length_toList] at p3
        have p4 : ((F1.2.2.2.2.2 : Nat) : Int) ≤ (s.size : Int) := Int.ofNat_le.2 p3
        clear HG p3
        generalize F1.2.2.2.2.2 = nn at *
        by_cases h0 : F1.1 = 0
        · have p5 : (0 : Int) < (nn : Int) := Int.ofNat_lt.2 (p1 h0)
          have h0' : (F1.1 == 0) = true := by rw [h0]; rfl
          have h1' : (F1.1 != 1) = true := by rw [h0]; rfl
          clear p1 p2 hE hne
          go_wp2
          go_ret
          exact ⟨rfl, BL.out⟩
        · have p5 : nn = 0 := p2 h0
          have h0' : (F1.1 == 0) = false := by rw [beq_eq_false_iff_ne]; exact h0
          have h1' : (F1.1 != 1) = true := by rw [bne_iff_ne]; exact g1
          subst p5
          clear p1 p2 hE hne
          go_wp2
          go_ret
          exact ⟨rfl, BL.out⟩
end Go.Proofs.YtnohadlihgjppaaDoor
