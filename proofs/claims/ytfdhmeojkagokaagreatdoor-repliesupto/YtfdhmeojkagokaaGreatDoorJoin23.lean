/- Texts that follow one another, joined. -/
import Derived.Test.YtfdhmeojkagokaaGreatDoorJoin21
import Derived.Deep.RegionHeld3
import Derived.Test.YtfdhmeojkagokaaGreatDoorJoin17
import Derived.Defers
import Derived.Recover
import Derived.Test.YtfdhmeojkagokaaGreatDoorJoin16
/- A cell that is set to what it holds. -/
namespace Go.Proofs.YtfdhmeojkagokaaGreatDoor
open Go.RowKit

theorem set_same (cs : Array Value) (k : Nat) (v : Value) (h : cs[k]? = some v) : cs.setIfInBounds k v = cs := by
  apply Array.ext_getElem?
  intro i
  rw [Array.getElem?_setIfInBounds]
  by_cases e : k = i
  · subst e
    rw [if_pos rfl]
    split
    · exact h.symm
    · rename_i hn
      rw [Array.getElem?_eq_none (by omega)] at h; cases h
  · rw [if_neg e]
theorem set_self {w : World} {g k : Nat} {cs : Array Value} {T : TypeId} {v : Value} (hb : w.heap[g]? = some (.cells cs T (0, 0))) (hk : cs[k]? = some v) (b : Nat) : (w.setCell ⟨g, k, none⟩ v).heap[b]? = w.heap[b]? := by
  by_cases e : b = g
  · subst e
    rw [heap_setCell_same _ b k _ _ _ hb, hb, set_same cs k v hk]
  · exact heap_setCell_other w ⟨g, k, none⟩ b v e
/- the row of fields an answer owns: what its cells hold, and that they may be set to it -/
theorem own_row {w : World} {B : Nat} {T : TypeId} {vv : Value} {fs : List Prm} (h : w.ownsRow B T 2 vv fs.length (prCells fs)) (hn : fs ≠ []) : ∃ (g cap : Nat) (cs : Array Value), vv = .slice (some ⟨g, 0, none⟩) fs.length cap ∧ B ≤ g ∧ g < w.heap.size ∧ w.heap[g]? = some (.cells cs T (0, 0)) ∧ ∀ (j : Nat) (u : Value), (prCells fs)[j]? = some u → cs[j]? = some u := by
  obtain ⟨h1, h2⟩ := h
  rcases h2 with ⟨_, h0⟩ | ⟨g, cap, cur, hv, hB, hg, _, _, _, hc⟩
  · exact absurd (List.eq_nil_of_length_eq_zero h0) hn
  · refine ⟨g, cap, cur, hv, hB, ?_, hg, fun j u hj => ?_⟩
    · rcases Nat.lt_or_ge g w.heap.size with h' | h'
      · exact h'
      · simp [Array.getElem?_eq_none h'] at hg
    · have h3 : (cur.toList.take (fs.length * 2))[j]? = some u := by rw [hc]; exact hj
      rw [List.getElem?_take] at h3
      split at h3
      · simpa using h3
      · cases h3
theorem prC_get : ∀ (es : List Prm) (i : Nat) (h : i < es.length), (prCells es)[i * 2]? = some (.string es[i].1) ∧ (prCells es)[i * 2 + 1]? = some (.string es[i].2)
  | e :: r, 0, _ => by simp [prCells]
  | e :: r, i + 1, h => by
    have := prC_get r i (by simpa using h)
    have e2 : prCells (e :: r) = .string e.1 :: .string e.2 :: prCells r := by simp [prCells]
    rw [e2, show (i + 1) * 2 = i * 2 + 1 + 1 by omega]
    simpa using this
end Go.Proofs.YtfdhmeojkagokaaGreatDoor

/- An answer in memory of its own. -/
namespace Go.Proofs.YtfdhmeojkagokaaGreatDoor
open Go.RowKit

structure OwI (st : Int) (b : ByteArray) (cl : Bool) (fs : List Prm) (vv : Value) (B : Nat) (w wr : World) : Prop where
  a : AnB w.heap.size st vv b cl wr
  r : AnB (w.heap.size + 1) 0 (.slice none 0 0) ⟨#[]⟩ false wr
  o : wr.ownsRow B 70 2 vv fs.length (prCells fs)
  bl : Below B w wr
theorem OwI.next {st : Int} {b : ByteArray} {cl : Bool} {fs : List Prm} {vv : Value} {B : Nat} {w wr w2 : World} {g cap k : Nat} (h : OwI st b cl fs vv B w wr) (hB : B ≤ w.heap.size) (hb : Below wr.heap.size wr w2) (hv : vv = .slice (some ⟨g, 0, none⟩) fs.length cap) (hk : k < fs.length) :
    OwI st b cl fs vv B w ((w2.setCell ⟨g, k * 2, none⟩ (.string fs[k].1)).setCell ⟨g, k * 2 + 1, none⟩ (.string fs[k].2)) := by
  have o2 := owns_below h.o hb
  obtain ⟨g', cap', cs, e, hBg, hlt, hg, hcs⟩ := own_row o2 (fun e => by rw [e] at hk; simp at hk)
  rw [hv] at e
  simp only [Value.slice.injEq, Option.some.injEq, Addr.mk.injEq, and_true, true_and] at e
  obtain ⟨rfl, -⟩ := e
  obtain ⟨p1, p2⟩ := prC_get fs k hk
  have s1 := set_self hg (hcs _ _ p1)
  have s2 := set_self (by rw [s1]; exact hg) (hcs _ _ p2)
  have s : ∀ q, ((w2.setCell ⟨g, k * 2, none⟩ (.string fs[k].1)).setCell ⟨g, k * 2 + 1, none⟩ (.string fs[k].2)).heap[q]? = w2.heap[q]? := fun q => (s2 q).trans (s1 q)
  exact ⟨(h.a.below hb).keep (s _), (h.r.below hb).keep (s _), keepB o2 (fun q _ => s q), ((h.bl.trans (hb.mono (Nat.le_trans hB (by have := h.bl.size; omega)))).setCell hBg _).setCell hBg _⟩
set_option maxRecDepth 100000 in
set_option maxHeartbeats 8000000 in
theorem ownA_any (st : Int) (fs : List Prm) (vv : Value) (b : ByteArray) (cl : Bool) (B : Nat) (w : World) (ho : w.ownsRow B 70 2 vv fs.length (prCells fs)) (hB : B ≤ w.heap.size) (hl : fs.length ≤ 100000000) (hz : ∀ i (h : i < fs.length), fs[i].1.size ≤ 281474976710656 ∧ fs[i].2.size ≤ 281474976710656) (hb : b.size ≤ 281474976710656) :
    Calls Tryz.prog 44 #[.agg #[.int .i64 st, vv, .string b, .bool cl]] w fun x w' => x = .returned (.agg #[.int .i64 st, vv, .string b, .bool cl]) ∧ w'.ownsRow B 70 2 vv fs.length (prCells fs) ∧ Below B w w' := by
  have hA1 := (Below.refl w.heap.size w).alloc (Nat.le_refl _) (.cells #[.int .i64 st, vv, .string b, .bool cl] 44)
  have hA := hA1.alloc hA1.size (.cells #[.int .i64 0, .slice none 0 0, .string ⟨#[]⟩, .bool false] 44)
  have z1 : (w.alloc (.cells #[.int .i64 st, vv, .string b, .bool cl] 44)).heap.size = w.heap.size + 1 := by simp
  have g0 : AnB w.heap.size st vv b cl (w.alloc (.cells #[.int .i64 st, vv, .string b, .bool cl] 44)) := heap_alloc_new w _
  have g1 := g0.below ((Below.refl _ _).alloc (Nat.le_refl _) (.cells #[.int .i64 0, .slice none 0 0, .string ⟨#[]⟩, .bool false] 44))
  have h0 : AnB (w.heap.size + 1) 0 (.slice none 0 0) ⟨#[]⟩ false ((w.alloc (.cells #[.int .i64 st, vv, .string b, .bool cl] 44)).alloc (.cells #[.int .i64 0, .slice none 0 0, .string ⟨#[]⟩, .bool false] 44)) := by
    rw [← z1]; exact heap_alloc_new _ _
  have I0 : Hid (OwI st b cl fs vv B w ((w.alloc (.cells #[.int .i64 st, vv, .string b, .bool cl] 44)).alloc (.cells #[.int .i64 0, .slice none 0 0, .string ⟨#[]⟩, .bool false] 44))) := ⟨g1, h0, owns_below ho hA, hA.mono hB⟩
  have HZ := hid hz
  have hno : ∀ r, vv.ownBlock = some r → r < w.heap.size := own_ltw ho
  have HNO := hid hno
  obtain ⟨av, cv, rfl⟩ := sl_of ho
  clear g0 g1 h0 z1 ho hA1 hA hz hno
  go_enter Tryz.func44, Tryz.ntmps44
  go_wp2_with fail
  generalize (w.alloc (.cells #[.int .i64 st, .slice av fs.length cv, .string b, .bool cl] 44)).alloc (.cells #[.int .i64 0, .slice none 0 0, .string ⟨#[]⟩, .bool false] 44) = w1 at *
  go_loopw [8] (fun i wr => ∃ k : Nat, k ≤ fs.length ∧ i = .int .i64 k ∧ Hid (OwI st b cl fs (.slice av fs.length cv) B w wr)) (fun i _ => fs.length - (intOf i).toNat)
  case atStart => exact ⟨0, Nat.zero_le _, rfl, I0⟩
  case round =>
    clear I0
    obtain ⟨k, hk, rfl, I⟩ := hrel
    by_cases hlt : k < fs.length
    · obtain ⟨g, cap, cs, e, hBg, hgl, hg, hcs⟩ := own_row I.out.o (fun e => by rw [e] at hlt; simp at hlt)
      have HNX := hid (fun (w2 : World) (hb : Below wr.heap.size wr w2) => I.out.next hB hb e hlt)
      simp only [Value.slice.injEq, true_and] at e
      obtain ⟨rfl, rfl⟩ := e
      obtain ⟨p1, p2⟩ := prC_get fs k hlt
      have c1 : wr.cell? ⟨g, k * 2, none⟩ = some (.string fs[k].1) := by rw [Lib.cell_of_heap hg]; exact hcs _ _ p1
      have c2 : wr.cell? ⟨g, k * 2 + 1, none⟩ = some (.string fs[k].2) := by rw [Lib.cell_of_heap hg]; exact hcs _ _ p2
      obtain ⟨x0, x1, x2, x3⟩ := I.out.a.cells
      have la := I.out.a.lt
      have hng : g < w.heap.size := HNO.out g rfl
      obtain ⟨zn, zv⟩ := HZ.out k hlt
      have fz := fun j => Lib.frozen_of_heap hg j
      have HG := hid hg
      generalize fs[k] = x at *
      obtain ⟨xn, xv⟩ := x
      simp only at c1 c2 zn zv HNX
      clear I p1 p2 hcs hg
      have n1 : w.heap.size ≠ g := by omega
      have n2 : wr.heap.size ≠ g := by omega
      have HKP : Hid (∀ W : World, W.cell? ⟨w.heap.size, 1, none⟩ = some (.slice (some ⟨g, 0, none⟩) fs.length cv) → W.cell? ⟨wr.heap.size, 0, none⟩ = some (.string xn) → W.cell? ⟨wr.heap.size, 1, none⟩ = some (.string xv) → ((W.setCell ⟨g, k * 2, none⟩ (.string xn)).setCell ⟨g, k * 2 + 1, none⟩ (.string xv)).cell? ⟨w.heap.size, 1, none⟩ = some (.slice (some ⟨g, 0, none⟩) fs.length cv) ∧ ((W.setCell ⟨g, k * 2, none⟩ (.string xn)).setCell ⟨g, k * 2 + 1, none⟩ (.string xv)).cell? ⟨wr.heap.size, 0, none⟩ = some (.string xn) ∧ ((W.setCell ⟨g, k * 2, none⟩ (.string xn)).setCell ⟨g, k * 2 + 1, none⟩ (.string xv)).cell? ⟨wr.heap.size, 1, none⟩ = some (.string xv)) := by
        intro W e0 e1 e2
        have hx : ∀ (q j i : Nat) (u : Value) (V : World), q ≠ g → (V.setCell ⟨g, i, none⟩ u).cell? ⟨q, j, none⟩ = V.cell? ⟨q, j, none⟩ := fun q j i u V hq => by
          rw [World.cell?_setCell_other _ _ _ _ (fun e => by simp only [Addr.mk.injEq] at e; first | exact hq e.1 | exact hq e.1.symm)]
        rw [hx _ _ _ _ _ n1, hx _ _ _ _ _ n1, hx _ _ _ _ _ n2, hx _ _ _ _ _ n2, hx _ _ _ _ _ n2, hx _ _ _ _ _ n2]
        exact ⟨e0, e1, e2⟩
      have hbF := ((Below.refl wr.heap.size wr).alloc (Nat.le_refl _) (.cells #[.string xn, .string xv] 70)).drew
      have HC := hid (own_any xn xv (wr.alloc (.cells #[.string xn, .string xv] 70)).drew zn zv)
      have t0 : (wr.alloc (.cells #[.string xn, .string xv] 70)).drew.cell? ⟨wr.heap.size, 0, none⟩ = some (.string xn) := by simp
      have t1 : (wr.alloc (.cells #[.string xn, .string xv] 70)).drew.cell? ⟨wr.heap.size, 1, none⟩ = some (.string xv) := by simp
      have T0 := hid t0
      have T1 := hid t1
      have HFZ := hid fz
      have kb0 : (0 : Int) ≤ (k : Int) := by omega
      have kb1 : (k : Int) < (fs.length : Int) := by omega
      clear t0 t1 fz HZ
      go_upto_region 4 with fail
      go_region_held3 (fun W => W.cell? ⟨w.heap.size, 1, none⟩ = some (.slice (some ⟨g, 0, none⟩) fs.length cv) ∧ W.cell? ⟨wr.heap.size, 0, none⟩ = some (.string xn) ∧ W.cell? ⟨wr.heap.size, 1, none⟩ = some (.string xv)) (first | exact HKEEP.out | go_keep)
        (first | (go_at_call 73; refine HC.out.mono ?_; rintro e w2 ⟨rfl, hb2⟩; have hbD := bel_of hbF hb2; have HW := hid (HNX.out w2 hbD); have m0 := cell_later hb2 T0.out; have m1 := cell_later hb2 T1.out; have m2 := cell_later hbD x1; have m3 := cell_later hbD c1; have m4 := cell_later hbD c2; have m5 : g < w2.heap.size := block_lt_of_cell m3; have hg2 := (hbD.block g hgl).trans HG.out; have fz0 := Lib.frozen_of_heap hg2 (k * 2); have fz1 := Lib.frozen_of_heap hg2 (k * 2 + 1); have HKEEP := hid (HKP.out w2 m2 m0 m1); clear hg2))
      all_goals clear HC HKP HNX HG
      all_goals go_wp2_with fail
      all_goals exact ⟨⟨k + 1, by omega, by go_num, HW⟩, by simp [intOf]; omega⟩
    · have hne : ¬ (k : Int) < (fs.length : Int) := by omega
      have HC := hid (clone_any b wr hb)
      obtain ⟨x0, x1, x2, x3⟩ := I.out.a.cells
      have la := I.out.a.lt
      have HEND : Hid (∀ w2 : World, Below wr.heap.size wr w2 → AnB w.heap.size st (.slice av fs.length cv) b cl w2 ∧ AnB w.heap.size st (.slice av fs.length cv) b cl (w2.setCell ⟨w.heap.size, 2, none⟩ (.string b)) ∧ AnB (w.heap.size + 1) 0 (.slice none 0 0) ⟨#[]⟩ false (w2.setCell ⟨w.heap.size, 2, none⟩ (.string b)) ∧ (setA (w.heap.size + 1) st (.slice av fs.length cv) b cl (w2.setCell ⟨w.heap.size, 2, none⟩ (.string b))).ownsRow B 70 2 (.slice av fs.length cv) fs.length (prCells fs) ∧ Below B w (setA (w.heap.size + 1) st (.slice av fs.length cv) b cl (w2.setCell ⟨w.heap.size, 2, none⟩ (.string b)))) := by
        intro w2 hb2
        have a2 := I.out.a.below hb2
        have s := set_self (k := 2) (v := .string b) a2 rfl
        refine ⟨a2, a2.keep (s _), (I.out.r.below hb2).keep (s _), owns_setA (keepB (owns_below I.out.o hb2) (fun q _ => s q)) (fun e => by have := HNO.out _ e; omega), below_setA ((I.out.bl.trans (hb2.mono (by have := I.out.bl.size; omega))).setCell hB _) (by omega)⟩
      clear I HZ HNO
      go_wp2_with (go_at_call 57; refine HC.out.mono ?_; rintro e w2 ⟨rfl, hb2⟩; obtain ⟨a2, a3, r3, o3, b3⟩ := HEND.out w2 hb2; have l2 := a2.lt; obtain ⟨v0, v1, v2, v3⟩ := a2.cells; have vf := a2.free 2; obtain ⟨y0, y1, y2, y3⟩ := a3.cells; obtain ⟨c0, c1, c2, c3⟩ := r3.cells; have f0 := r3.free 0; have f1 := r3.free 1; have f2 := r3.free 2; have f3 := r3.free 3; have l3 := r3.lt; obtain ⟨d0, d1, d2, d3⟩ := (r3.set st (.slice av fs.length cv) b cl).cells; unfold setA at d0 d1 d2 d3; have HF := hid (And.intro o3 b3); clear o3 b3 a2 a3 r3 HEND)
      refine bodyPost_ret (v := .agg #[.int .i64 st, .slice av fs.length cv, .string b, .bool cl]) (by simp [results, Tryz.results44, go_sem, d0, d1, d2, d3]) rfl ?_
      exact ⟨rfl, HF.out.1, HF.out.2⟩
end Go.Proofs.YtfdhmeojkagokaaGreatDoor

/- What gives up with no Save around it is caught. -/
namespace Go.Proofs.YtfdhmeojkagokaaGreatDoor
open Go.RowKit

set_option maxRecDepth 100000 in
set_option maxHeartbeats 1000000 in
theorem replyC_panicking (g h : Nat) (st er : Int) (vv : Value) (b : ByteArray) (cl : Bool) (u : TypeId) (pv : Value) (older : List PanicEntry) (w : World) (hg : AnB g st vv b cl w) (he : w.heap[h]? = some (.cells #[.int .i64 er] 45 (0, 0))) (hn : h ≠ g) :
    CallsD Tryz.prog 38 #[.pointer (some ⟨g, 0, none⟩), .pointer (some ⟨h, 0, none⟩)] (.panicking ({ v := .iface u pv, recovered := false } :: older)) w fun e u' w' =>
      e = .returned (.tuple #[]) ∧ u' = .panicking ({ v := .iface u pv, recovered := true } :: older) ∧ w' = (setA g 500 (.slice none 0 0) ⟨#[]⟩ true w).setCell ⟨h, 0, none⟩ (.int .i64 0) := by
  obtain ⟨c0, c1, c2, c3⟩ := hg.cells
  have f0 := hg.free 0
  have f1 := hg.free 1
  have f2 := hg.free 2
  have f3 := hg.free 3
  have e0 : w.cell? ⟨h, 0, none⟩ = some (.int .i64 er) := (Lib.cell_of_heap he 0).trans rfl
  have e1 := (cell_setA (st := 500) (vv := .slice none 0 0) (bb := ⟨#[]⟩) (cl := true) hn).trans e0
  have lg := hg.lt
  have lh := block_lt_of_cell e0
  have hk : (setA g 500 (.slice none 0 0) ⟨#[]⟩ true w).heap[h]? = w.heap[h]? := by
    unfold setA
    rw [heap_setCell_other _ ⟨g, 3, none⟩ h _ hn, heap_setCell_other _ ⟨g, 2, none⟩ h _ hn, heap_setCell_other _ ⟨g, 1, none⟩ h _ hn, heap_setCell_other _ ⟨g, 0, none⟩ h _ hn]
  have e2 := Lib.frozen_of_heap (hk.trans he) 0
  have hs : setA g 500 (.slice none 0 0) ⟨#[]⟩ true w = (((w.setCell ⟨g, 0, none⟩ (.int .i64 500)).setCell ⟨g, 1, none⟩ (.slice none 0 0)).setCell ⟨g, 2, none⟩ (.string ⟨#[]⟩)).setCell ⟨g, 3, none⟩ (.bool true) := rfl
  rw [hs] at e1 e2 ⊢
  refine callsD_of_wpS Tryz.func38 rfl fun c₀ cs hu => ?_
  apply wpS_seq
  apply wpS_region
  simp [wpOpsS, go_sem, recoverD, hu, Tryz.ntmps38, Exit.thenS]
  refine wpS_cond (t := true) (by simp [Act.eval, Array.replicate]) ?_
  simp only [if_true]
  refine wpS_of_wp ?_
  simp [Array.replicate]
  clear hs hk he hg
  go_wp2
  simp [bodyPostS, results, Tryz.results38]
set_option maxRecDepth 100000 in
set_option maxHeartbeats 1000000 in
theorem replyC_idle (p q : Addr) (w : World) :
    CallsD Tryz.prog 38 #[.pointer (some p), .pointer (some q)] .returning w fun e u' w' => e = .returned (.tuple #[]) ∧ u' = .returning ∧ w' = w := by
  refine callsD_of_wpS Tryz.func38 rfl fun c₀ cs hu => ?_
  apply wpS_seq
  apply wpS_region
  simp [wpOpsS, go_sem, recoverD, hu, Tryz.ntmps38, Exit.thenS]
  refine wpS_cond (t := false) (by simp [Act.eval, Array.replicate]) ?_
  simp only [Bool.false_eq_true, if_false]
  refine wpS_of_wp (wp_skip ?_)
  cases c₀
  simp_all [bodyPostS, results, Tryz.results38]
end Go.Proofs.YtfdhmeojkagokaaGreatDoor

/- Whether a field ends its line. -/
namespace Go.Proofs.YtfdhmeojkagokaaGreatDoor
open Go.RowKit

set_option maxRecDepth 100000 in
set_option maxHeartbeats 2000000 in
theorem index_fld (l : List Prm) (a : Option Addr) (c : Nat) (p : Prm → Bool) (w : World) (h : FlAt l a w) (hl : l.length ≤ 50000000) (HP : ∀ W i (hi : i < l.length), Below w.heap.size w W → Calls Tryz.prog 42 #[.agg #[.string l[i].1, .string l[i].2]] W fun e w' => e = .returned (.bool (p l[i])) ∧ Below W.heap.size W w') :
    Calls Tryz.prog 67 #[.slice a l.length c, .func (.func 42) #[] #[]] w fun e w' => (∃ k : Int, e = .returned (.int .i64 k) ∧ decide (0 ≤ k) = l.any p ∧ -1 ≤ k ∧ k ≤ 50000000) ∧ Below w.heap.size w w' := by
  have HS := hid h
  have HPP := hid HP
  have HD := hid (show (l.drop 0).any p = l.any p by rw [List.drop_zero])
  clear h HP
  go_enter Tryz.func67, Tryz.ntmps67
  go_wp2_with fail
  go_loopw [8] (fun i wr => ∃ k : Nat, k ≤ l.length ∧ i = .int .i64 k ∧ Hid ((l.drop k).any p = l.any p) ∧ Below w.heap.size w wr) (fun i _ => l.length - (intOf i).toNat)
  case atStart => exact ⟨0, Nat.zero_le _, rfl, HD, Below.refl _ _⟩
  case round =>
    obtain ⟨k, hk, rfl, HK, hbw⟩ := hrel
    by_cases hlt : k < l.length
    · obtain ⟨g, rfl, hg, hc1, hc2⟩ := (HS.out.below hbw) k hlt
      have HC := hid (HPP.out wr k hlt hbw)
      have hs := HK.out
      rw [← List.getElem_cons_drop hlt, List.any_cons] at hs
      have HN := hid hs
      generalize l[k] = x at *
      obtain ⟨xn, xv⟩ := x
      simp only at hc1 hc2 HC HN
      clear hs HK
      cases hp : p (xn, xv)
      · have e := HN.out
        rw [hp, Bool.false_or] at e
        have HE := hid e
        rw [hp] at HC
        clear e HN
        go_wp2_with (go_at_call 42; refine HC.out.mono ?_; rintro e w1 ⟨rfl, hb1⟩)
        exact ⟨⟨k + 1, by omega, by go_num, HE, bel_of hbw hb1⟩, by simp [intOf]; omega⟩
      · have e := HN.out
        rw [hp, Bool.true_or] at e
        have HE := hid e
        rw [hp] at HC
        clear e HN
        go_wp2_with (go_at_call 42; refine HC.out.mono ?_; rintro e w1 ⟨rfl, hb1⟩)
        go_ret
        exact ⟨⟨k, rfl, by rw [← HE.out]; simp, by omega, by omega⟩, bel_of hbw hb1⟩
    · have e := HK.out
      rw [List.drop_of_length_le (by omega), List.any_nil] at e
      have HE := hid e
      clear e HK
      have hne : ¬ (k : Int) < (l.length : Int) := by omega
      go_wp2_with fail
      go_ret
      exact ⟨⟨-1, rfl, by rw [← HE.out]; simp, by omega, by omega⟩, hbw⟩
set_option maxRecDepth 100000 in
set_option maxHeartbeats 2000000 in
theorem contains_fld (l : List Prm) (a : Option Addr) (c : Nat) (p : Prm → Bool) (w : World) (h : FlAt l a w) (hl : l.length ≤ 50000000) (HP : ∀ W i (hi : i < l.length), Below w.heap.size w W → Calls Tryz.prog 42 #[.agg #[.string l[i].1, .string l[i].2]] W fun e w' => e = .returned (.bool (p l[i])) ∧ Below W.heap.size W w') :
    Calls Tryz.prog 41 #[.slice a l.length c, .func (.func 42) #[] #[]] w fun e w' => e = .returned (.bool (l.any p)) ∧ Below w.heap.size w w' := by
  have HI := hid (index_fld l a c p w h hl HP)
  generalize l.any p = B at *
  clear h HP
  go_enter Tryz.func41, Tryz.ntmps41
  go_wp2_with (go_at_call 67; refine HI.out.mono ?_; rintro e w1 ⟨⟨k, rfl, hk, h1, h2⟩, hb1⟩)
  go_ret
  refine ⟨?_, hb1⟩
  first
    | (subst hk; rfl)
    | (subst hk; congr 2; simp)
end Go.Proofs.YtfdhmeojkagokaaGreatDoor
