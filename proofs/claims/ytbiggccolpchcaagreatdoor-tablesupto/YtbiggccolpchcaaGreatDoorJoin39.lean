/- Texts that follow one another, joined. -/
import Derived.Test.YtbiggccolpchcaaGreatDoorJoin38
import Derived.Deep.RegionHeld3
/- A table more; a step of a script of tables. -/
namespace Go.Proofs.YtbiggccolpchcaaGreatDoor
open Go.RowKit Bn

set_option maxHeartbeats 400000 in
theorem pNewTab_any (w : World) : Calls Tryz.prog 32 #[] w fun r w' => r = .returned (.pointer (some ⟨w.heap.size, 0, none⟩)) ∧ TbAt w.heap.size 0 w.heap.size [] (.slice none 0 0) w' ∧ Below w.heap.size w w' ∧ w'.heap.size = w.heap.size + 1 := by
  have hb := heap_alloc_new w (.cells #[.slice none 0 0] 173)
  have HT : Hid (TbAt w.heap.size 0 w.heap.size [] (.slice none 0 0) (w.alloc (.cells #[.slice none 0 0] 173)) ∧ Below w.heap.size w (w.alloc (.cells #[.slice none 0 0] 173)) ∧ (w.alloc (.cells #[.slice none 0 0] 173)).heap.size = w.heap.size + 1) :=
    ⟨⟨by rw [Lib.cell_of_heap hb]; rfl, Lib.frozen_of_heap hb 0, World.ownsRow_nil _ _ _ _, fun i h => absurd h (by simp), fun i h => absurd h (by simp), fun i h => absurd h (by simp), (fun h => by cases h), by simp, fun i h => absurd h (by simp), fun i h => absurd h (by simp)⟩, (Below.refl _ _).alloc (Nat.le_refl _) _, by simp⟩
  clear hb
  go_enter Tryz.func32, Tryz.ntmps32
  go_wp2
  go_ret
  exact ⟨rfl, HT.out.1, HT.out.2.1, HT.out.2.2⟩
theorem infoSh : (Tryz.prog.info? 59).map (fun i => (i.zero, i.size, i.bytes)) = some (some (.agg #[.pointer none, .pointer none]), 2, 16) := by kernel_rfl
theorem prP_at {tb : List Pr} {w : World} {B : Nat} {v : Value} (h : w.ownsRow B 59 2 v tb.length (prP tb)) : ∃ a c, v = .slice a tb.length c ∧ ∀ i (hi : i < tb.length), ∃ g, a = some ⟨g, 0, none⟩ ∧ g < w.heap.size ∧ w.cell? ⟨g, i * 2, none⟩ = some (.pointer (some ⟨(tb[i]).gx, 0, none⟩)) ∧ w.cell? ⟨g, i * 2 + 1, none⟩ = some (.pointer (some ⟨(tb[i]).gr, 0, none⟩)) := by
  have get : ∀ (l : List Pr) (i : Nat) (h : i < l.length), (prP l)[i * 2]? = some (.pointer (some ⟨(l[i]).gx, 0, none⟩)) ∧ (prP l)[i * 2 + 1]? = some (.pointer (some ⟨(l[i]).gr, 0, none⟩)) := by
    intro l
    induction l with
    | nil => intro i h; simp at h
    | cons a r ih =>
      intro i hi
      cases i with
      | zero => exact ⟨rfl, rfl⟩
      | succ i =>
        have := ih i (by simpa using hi)
        unfold prP at this ⊢
        rw [List.flatMap_cons, show (i + 1) * 2 = i * 2 + 1 + 1 by omega, show i * 2 + 1 + 1 + 1 = (i * 2 + 1) + 1 + 1 by omega]
        simpa using this
  rcases h.2 with ⟨rfl, h0⟩ | ⟨g, cap, cur, rfl, hB, hg, _, _, hsz, hc⟩
  · exact ⟨none, 0, by rw [h0], fun i hi => absurd hi (by omega)⟩
  · refine ⟨_, cap, rfl, fun i hi => ⟨g, rfl, heap_lt hg, ?_, ?_⟩⟩
    all_goals
      obtain ⟨m1, m2⟩ := get tb i hi
      rw [← hc, List.getElem?_take_of_lt (by omega)] at m1 m2
      rw [Lib.cell_of_heap hg]
    · simpa using m1
    · simpa using m2
section
variable {O : Nat → Nat} {wb : Nat} {V : Nat → Value} {l : Nat → List Value} {vs : Value} {tb : List Pr} {n : Nat} {w0 w : World}
set_option maxRecDepth 100000 in
set_option maxHeartbeats 4000000 in
theorem wtable_any (h : WI O wb V l vs tb n w0 w) (hn : n ≤ 1000000) :
    Calls Tryz.prog 12 #[.pointer (some ⟨wb, 0, none⟩)] w fun r w' => r = .returned (.bool true) ∧ WX wb (n + 1) (tb.length + 1) w0 w' := by
  obtain ⟨i0, hi, hz0, hz1, hz2⟩ := info_parts infoSh
  obtain ⟨va, vc, rfl, -⟩ := prP_at h.sh
  have HP := hid (pNewTab_any w)
  have HR := hid (fun W => rNewTable_any W)
  have HW := hid h
  have hlt := h.lt
  have hft := h.ft
  have hc4 : w.cell? ⟨wb, 4, none⟩ = some (.slice va tb.length vc) := by rw [Lib.cell_of_heap h.blk]; rfl
  have h00 := h.bel.size
  clear h
  go_enter Tryz.func12, Tryz.ntmps12
  go_wp2_with fail
  refine HP.out.mono ?_
  rintro r w1 ⟨rfl, T1, hb1, z1⟩
  have HT1 := hid T1
  have HB1 := hid hb1
  have Z1 := hid z1
  clear T1 hb1 z1 HP
  go_wp2_with fail
  refine (HR.out w1).mono ?_
  rintro r w2 ⟨rfl, T2, hb2, z2⟩
  have hB2 := bel_of HB1.out hb2
  have c4 := cell_later hB2 hc4
  have l2 : wb < w2.heap.size := Nat.lt_of_lt_of_le hlt hB2.size
  have ow2 := (HW.out.below hB2).sh
  have HT1b := hid (HT1.out.below hb2)
  have HT2 := hid T2
  have HB2 := hid hB2
  have hgr : w.heap.size + 1 = w1.heap.size := Z1.out.symm
  have hz02 : w0.heap.size ≤ w2.heap.size := Nat.le_trans h00 hB2.size
  have hblk : w2.heap[wb]? = some (.cells (wlC V (.slice va tb.length vc)) 37 (0, 0)) := (HW.out.below hB2).blk
  have hvw : (Value.slice va tb.length vc).ownBlock ≠ some wb := fun e => by have := HW.out.osh wb e; rw [HW.out.oW] at this; omega
  have HGR := hid hgr
  generalize w1.heap.size = gr at *
  generalize hgx : w.heap.size = gx at *
  have HGX := hid hgx
  clear T2 hb2 hB2 HR hc4 HT1 HB1 z2 Z1 hgr hgx
  go_wp2_with (at_builtin; refine wpList_append_lies _ rfl _ _ 33 rfl w0.heap.size 59 i0 _ 2 16 Tryz.underlying33 hi hz0 hz1 hz2 rfl (by omega) (.slice va tb.length vc) tb.length (prP tb) rfl (owns_below ow2 ((Below.refl _ _).alloc (Nat.le_refl _) _)) ⟨w2.heap.size, 0, none⟩ 1 1 [.pointer (some ⟨gx, 0, none⟩), .pointer (some ⟨gr, 0, none⟩)] rfl rfl (World.news_of_block (cs := #[.pointer (some ⟨gx, 0, none⟩), .pointer (some ⟨gr, 0, none⟩)]) (t := 59) (fr := (0, 0)) (heap_alloc_new w2 _)) (by intro u hu; simp at hu; rcases hu with rfl | rfl <;> rfl) (by omega) (by unfold maxLen; omega) (by omega) (Nat.le_trans hz02 (by simp)) _ rfl ?_)
  intro g cap w3 how hgrow hat hlt3
  have hA := (Below.refl w2.heap.size w2).alloc (Nat.le_refl _) (.cells #[.pointer (some ⟨gx, 0, none⟩), .pointer (some ⟨gr, 0, none⟩)] 59)
  have b3 : w3.heap[wb]? = some (.cells (wlC V (.slice va tb.length vc)) 37 (0, 0)) := by
    rw [hgrow.block wb (Nat.lt_of_lt_of_le l2 hA.size) (fun e => hvw e.symm), hA.block wb l2]; exact hblk
  have c3 : w3.cell? ⟨wb, 4, none⟩ = some (.slice va tb.length vc) := by rw [Lib.cell_of_heap b3]; rfl
  have z3 := Lib.frozen_of_heap b3 4
  have l3 := heap_lt b3
  have FIN := HW.out.table (gx := gx) (gr := gr) (g := g) (cap := cap) (by have := HGX.out; omega) (by have := HGX.out; have := HGR.out; omega) (by have := HGR.out; omega) (by have := HB2.out; have e := HGX.out; rw [e]; exact this) HT1b.out HT2.out hgrow (by simpa using hat) how
  have HF := hid FIN
  clear FIN how hgrow hat hlt3 hA b3 HW HT1b HT2 HB2 hblk ow2 c4
  go_wp2
  go_ret
  obtain ⟨O', vs', tb', h9, h10⟩ := HF.out
  exact ⟨rfl, O', V, l, vs', tb', h9, h10⟩
end
end Go.Proofs.YtbiggccolpchcaaGreatDoor

/- A step of a script of tables. -/
namespace Go.Proofs.YtbiggccolpchcaaGreatDoor
open Go.RowKit Bn

def lpickS (c n : Int) : Int := (if c < 0 then -(c + 1) else c) % n
set_option maxHeartbeats 1000000 in
theorem lpick_any (c n : Int) (w : World) (h1 : -9223372036854775808 ≤ c) (h2 : c ≤ 9223372036854775807) (hn : 0 < n) (hn2 : n ≤ 9223372036854775807) :
    Calls Tryz.prog 14 #[.int .i64 c, .int .i64 n] w fun e w' => e = .returned (.int .i64 (lpickS c n)) ∧ w' = w := by
  unfold lpickS
  by_cases hc : c < 0
  · rw [if_pos hc]
    have w1 : IntKind.i64.wrap (c + 1) = c + 1 := by simp [IntKind.wrap, IntKind.bits, IntKind.signed]; omega
    have w2 : IntKind.i64.wrap (-(c + 1)) = -(c + 1) := by simp [IntKind.wrap, IntKind.bits, IntKind.signed]; omega
    have hz : ¬ n = 0 := by omega
    go_enter Tryz.func14, Tryz.ntmps14
    go_wp2
    go_ret
    refine ⟨?_, rfl⟩
    rw [show -(c + 1).tmod n = -(c + 1) % n from by rw [← Int.neg_tmod, Int.tmod_eq_emod_of_nonneg (by omega)]]
    rfl
  · rw [if_neg hc]
    have hz : ¬ n = 0 := by omega
    go_enter Tryz.func14, Tryz.ntmps14
    go_wp2
    go_ret
    exact ⟨rfl, rfl⟩
theorem lpick_in (c : Int) (n : Nat) (hn : 0 < n) : ∃ k : Nat, k < n ∧ lpickS c n = (k : Int) := by
  unfold lpickS
  have h := Int.emod_nonneg (if c < 0 then -(c + 1) else c) (show (n : Int) ≠ 0 by omega)
  have h2 := Int.emod_lt_of_pos (if c < 0 then -(c + 1) else c) (show (0 : Int) < n by omega)
  exact ⟨((if c < 0 then -(c + 1) else c) % n).toNat, by omega, by omega⟩
/- what a step needs -/
structure OpOk (o : OpV) : Prop where
  on0 : -9223372036854775808 ≤ o.on
  on1 : o.on ≤ 9223372036854775807
  s : o.s.size ≤ 1048576
  t : o.t.size ≤ 1048576
section
variable {O : Nat → Nat} {wb : Nat} {V : Nat → Value} {l : Nat → List Value} {vs : Value} {tb : List Pr} {n : Nat} {w0 w : World}
theorem WI.reown (h : WI O wb V l vs tb n w0 w) : WI (fun b => if b < w.heap.size then O b else 1) wb V l vs tb n w0 w := by
  have hO : ∀ b, b < w.heap.size → (if b < w.heap.size then O b else 1) = O b := fun b hb => if_pos hb
  refine ⟨h.bel, h.blk, h.wge, by rw [hO wb h.lt]; exact h.oW, fun j hj => ⟨(h.rw_ j hj).1, fun r hr => by rw [hO r (owns_blkG (h.rw_ j hj).1 r hr).2]; exact (h.rw_ j hj).2 r hr⟩, fun j hj i hi => ⟨(h.lis j hj i hi).1, fun r hr => ⟨((h.lis j hj i hi).2 r hr).1, by rw [hO r ((h.lis j hj i hi).2 r hr).1]; exact ((h.lis j hj i hi).2 r hr).2⟩⟩, h.few, h.sh, fun r hr => by rw [hO r (owns_blkG h.sh r hr).2]; exact h.osh r hr, fun i hi => ?_, h.ft⟩
  obtain ⟨e1, e2, e3⟩ := h.tab i hi
  exact ⟨e1, fun b hb => by rw [hO b (e1.fp_lt (.inl hb))]; exact e2 b hb, fun b hb => by rw [hO b (e1.fp_lt (.inr hb))]; exact e3 b hb⟩
set_option maxRecDepth 100000 in
set_option maxHeartbeats 4000000 in
theorem step_new (h : WI O wb V l vs tb n w0 w) (hn : n ≤ 1000000) (o : OpV) (hk : o.k = 20) :
    Calls Tryz.prog 8 #[.pointer (some ⟨wb, 0, none⟩), .agg o.cs] w fun r w' => r = .returned (.bool true) ∧ WX wb (n + 1) (tb.length + 1) w0 w' := by
  have hA := (Below.refl w.heap.size w).alloc (Nat.le_refl _) (.cells o.cs 51)
  have b1 := heap_alloc_new w (.cells o.cs 51)
  have HT := hid (wtable_any (h.below hA) hn)
  clear h hA
  go_enter Tryz.func8, Tryz.ntmps8
  go_upto_region 1 with fail
  generalize w.alloc (.cells o.cs 51) = wB at *
  have d0 := (Lib.cell_of_heap b1 (j := 0)).trans (show _ = some (Value.int .i64 o.k) from rfl)
  have l1 := heap_lt b1
  rw [hk] at d0
  clear b1
  go_wp2_with fail
  refine HT.out.mono ?_
  rintro r w1 ⟨rfl, hX⟩
  go_wp2_with fail
  go_ret
  exact ⟨rfl, hX⟩
set_option maxRecDepth 100000 in
set_option maxHeartbeats 4000000 in
theorem step_none (h : WI O wb V l vs tb n w0 w) (o : OpV) (h20 : 20 < o.k) (h23 : o.k ≤ 23) (ht : tb.length = 0) :
    Calls Tryz.prog 8 #[.pointer (some ⟨wb, 0, none⟩), .agg o.cs] w fun r w' => r = .returned (.bool true) ∧ WX wb (n + 1) tb.length w0 w' := by
  have hA := (Below.refl w.heap.size w).alloc (Nat.le_refl _) (.cells o.cs 51)
  have b1 := heap_alloc_new w (.cells o.cs 51)
  obtain ⟨va, vc, rfl, -⟩ := prP_at h.sh
  have hW := h.below hA
  have HW := hid (hW.more (Nat.le_succ n))
  have lw := hW.lt
  have c4 : (w.alloc (.cells o.cs 51)).cell? ⟨wb, 4, none⟩ = some (.slice va tb.length vc) := by rw [Lib.cell_of_heap hW.blk]; rfl
  rw [ht] at c4
  clear h hA hW
  have e0 : ¬ o.k < 20 := by omega
  have e1 : (o.k == 20) = false := by rw [beq_eq_false_iff_ne]; omega
  have e2 : o.k < 30 := by omega
  have e3 : (o.k == 30) = false := by rw [beq_eq_false_iff_ne]; omega
  have e4 : (o.k == 31) = false := by rw [beq_eq_false_iff_ne]; omega
  have e5 : (o.k == 32) = false := by rw [beq_eq_false_iff_ne]; omega
  have e6 : ¬ 32 < o.k := by omega
  clear h20 h23 ht
  go_enter Tryz.func8, Tryz.ntmps8
  go_upto_region 1 with fail
  generalize w.alloc (.cells o.cs 51) = wB at *
  have d0 := (Lib.cell_of_heap b1 (j := 0)).trans (show _ = some (Value.int .i64 o.k) from rfl)
  have l1 := heap_lt b1
  clear b1
  go_wp2_with fail
  go_ret
  exact ⟨rfl, _, _, _, _, _, HW.out, rfl⟩
end
end Go.Proofs.YtbiggccolpchcaaGreatDoor

/- A script's beginning, out of its steps. -/
namespace Go.Proofs.YtbiggccolpchcaaGreatDoor
open Go.RowKit Bn

abbrev wlZ : Array Value := #[.slice none 0 0, .slice none 0 0, .slice none 0 0, .slice none 0 0, .slice none 0 0, .slice none 0 0, .slice none 0 0]
/- nothing is made yet -/
theorem wx_new (w : World) : WX w.heap.size 0 0 w (w.alloc (.cells wlZ 37)) := by
  have hA := (Below.refl w.heap.size w).alloc (Nat.le_refl _) (.cells wlZ 37)
  have b := heap_alloc_new w (.cells wlZ 37)
  refine ⟨fun _ => 0, fun _ => .slice none 0 0, fun _ => [], .slice none 0 0, [], ⟨hA, b, Nat.le_refl _, rfl, fun j _ => ⟨World.ownsRow_nil _ _ _ _, (fun r hr => by cases hr)⟩, fun j _ i hi => absurd hi (by simp), fun j _ => ⟨by simp, rfl⟩, World.ownsRow_nil _ _ _ _, (fun r hr => by cases hr), fun i hi => absurd hi (by simp), by simp⟩, rfl⟩
/- a step of a script of tables, whatever it has made -/
def StepT (w0 : World) : Prop := ∀ (wb n t : Nat) (w : World) (o : OpV), WX wb n t w0 w → n ≤ 1000000 → OpOk o → 20 ≤ o.k → o.k ≤ 23 → Calls Tryz.prog 8 #[.pointer (some ⟨wb, 0, none⟩), .agg o.cs] w fun r w' => r = .returned (.bool true) ∧ WX wb (n + 1) (if o.k = 20 then t + 1 else t) w0 w'
def opZ (k : Int) (s t : ByteArray) : OpV := ⟨k, 0, 0, s, t, none, 0, 0, 0, 0, 0, 0, none, 0, 0, none, 0, 0, ⟨#[]⟩, ⟨#[]⟩, none, 0, 0, ⟨#[]⟩, 0, none, 0, 0, ⟨#[]⟩, false⟩
theorem wx_cell {wb n t : Nat} {w0 w : World} (h : WX wb n t w0 w) : ∃ a c, w.cell? ⟨wb, 4, none⟩ = some (.slice a t c) ∧ wb < w.heap.size := by
  obtain ⟨O, V, l, vs, tb, h1, rfl⟩ := h
  obtain ⟨a, c, rfl, -⟩ := prP_at h1.sh
  exact ⟨a, c, by rw [Lib.cell_of_heap h1.blk]; rfl, h1.lt⟩
theorem wx_below {wb n t : Nat} {w0 w : World} (h : WX wb n t w0 w) : Below w0.heap.size w0 w := by
  obtain ⟨O, V, l, vs, tb, h1, -⟩ := h
  exact h1.bel
set_option maxRecDepth 100000 in
set_option maxHeartbeats 4000000 in
theorem begins_of (w : World) (ST : StepT w) : Calls Tryz.prog 7 #[.int .i64 20, .int .i64 23] w fun r w' => r = .returned (.bool true) ∧ Below w.heap.size w w' := by
  have H1 := hid (ST w.heap.size 0 0 _ (opZ 20 ⟨#[]⟩ ⟨#[]⟩) (wx_new w) (by omega) ⟨by decide, by decide, by decide, by decide⟩ (by decide) (by decide))
  have H2 := hid (fun W h => ST w.heap.size 1 1 W (opZ 21 ⟨#[71, 69, 84]⟩ ⟨#[47, 97, 47, 58, 98]⟩) h (by omega) ⟨by decide, by decide, by decide, by decide⟩ (by decide) (by decide))
  have H3 := hid (fun W h => ST w.heap.size 2 1 W (opZ 22 ⟨#[71, 69, 84]⟩ ⟨#[47, 97, 47, 37, 54, 50]⟩) h (by omega) ⟨by decide, by decide, by decide, by decide⟩ (by decide) (by decide))
  clear ST
  go_enter Tryz.func7, Tryz.ntmps7
  go_wp2_with fail
  refine H1.out.mono ?_
  rintro r w1 ⟨rfl, h1⟩
  have HX1 : Hid (WX w.heap.size 1 1 w w1) := h1
  clear h1 H1
  go_wp2_with fail
  refine (H2.out w1 HX1.out).mono ?_
  rintro r w2 ⟨rfl, h2⟩
  have HX2 : Hid (WX w.heap.size 2 1 w w2) := h2
  clear h2 H2 HX1
  go_wp2_with fail
  refine (H3.out w2 HX2.out).mono ?_
  rintro r w3 ⟨rfl, h3⟩
  have HX3 : Hid (WX w.heap.size 3 1 w w3) := h3
  obtain ⟨a, c, c4, l3⟩ := wx_cell HX3.out
  have HB := hid (wx_below HX3.out)
  clear h3 H3 HX2
  go_wp2_with fail
  go_ret
  exact ⟨ret_bool (by simp), HB.out⟩
/- the script in memory -/
def OsAt (os : List OpV) (a : Option Addr) (w : World) : Prop := ∀ i (h : i < os.length), ∃ g o, a = some ⟨g, o, none⟩ ∧ g < w.heap.size ∧ w.rangeAt g (o + i * 20) (os[i]).cs.toList
theorem OsAt.below {os : List OpV} {a : Option Addr} {w w' : World} (h : OsAt os a w) (hb : Below w.heap.size w w') : OsAt os a w' := fun i hi => by
  obtain ⟨g, o, e1, e2, e3⟩ := h i hi
  exact ⟨g, o, e1, Nat.lt_of_lt_of_le e2 hb.size, fun j v hj => cell_later hb (e3 j v hj)⟩
theorem wx_more {wb n m t : Nat} {w0 w : World} (h : WX wb n t w0 w) (hm : n ≤ m) : WX wb m t w0 w := by
  obtain ⟨O, V, l, vs, tb, h1, h2⟩ := h
  exact ⟨O, V, l, vs, tb, h1.more hm, h2⟩
theorem wx_later {wb n t : Nat} {w0 w w' : World} (h : WX wb n t w0 w) (hb : Below w.heap.size w w') : WX wb n t w0 w' := by
  obtain ⟨O, V, l, vs, tb, h1, h2⟩ := h
  exact ⟨O, V, l, vs, tb, h1.below hb, h2⟩
theorem wx_looks {wb n t : Nat} {w0 w : World} (h : WX wb n t w0 w) (hn : n ≤ 1000000) : Calls Tryz.prog 9 #[.pointer (some ⟨wb, 0, none⟩)] w fun r w' => r = .returned (.bool true) ∧ WX wb n t w0 w' := by
  obtain ⟨O, V, l, vs, tb, h1, h2⟩ := h
  exact (wlooks_any h1 hn).mono (by rintro r w' ⟨rfl, h3⟩; exact ⟨rfl, O, V, l, vs, tb, h3, h2⟩)
end Go.Proofs.YtbiggccolpchcaaGreatDoor
