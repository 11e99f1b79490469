/- Texts that follow one another, joined. -/
import Derived.Test.YtpfendckgeoonaaGreatDoorJoin34
/- The statement's own 'right'. -/
namespace Go.Proofs.YtpfendckgeoonaaGreatDoor
open Go.RowKit

def CfB (g : Nat) (hd bd : Int) (vr vw : Value) (w : World) : Prop := w.heap[g]? = some (.cells #[.int .i64 hd, .int .i64 bd, vr, vw] 27 (0, 0))
theorem CfB.cells {g : Nat} {hd bd : Int} {vr vw : Value} {w : World} (h : CfB g hd bd vr vw w) : w.cell? ⟨g, 0, none⟩ = some (.int .i64 hd) ∧ w.cell? ⟨g, 1, none⟩ = some (.int .i64 bd) ∧ w.cell? ⟨g, 2, none⟩ = some vr ∧ w.cell? ⟨g, 3, none⟩ = some vw := by
  refine ⟨?_, ?_, ?_, ?_⟩ <;> (rw [Lib.cell_of_heap h]; rfl)
theorem CfB.free {g : Nat} {hd bd : Int} {vr vw : Value} {w : World} (h : CfB g hd bd vr vw w) (j : Nat) : w.frozen? ⟨g, j, none⟩ = false := Lib.frozen_of_heap h j
theorem CfB.lt {g : Nat} {hd bd : Int} {vr vw : Value} {w : World} (h : CfB g hd bd vr vw w) : g < w.heap.size := block_lt_of_cell h.cells.1
theorem CfB.below {g : Nat} {hd bd : Int} {vr vw : Value} {w w' : World} (h : CfB g hd bd vr vw w) (hb : Below w.heap.size w w') : CfB g hd bd vr vw w' := by
  have := hb.block g h.lt; unfold CfB at *; rw [this]; exact h
def setC (g : Nat) (hd bd : Int) (vr vw : Value) (w : World) : World := (((w.setCell ⟨g, 0, none⟩ (.int .i64 hd)).setCell ⟨g, 1, none⟩ (.int .i64 bd)).setCell ⟨g, 2, none⟩ vr).setCell ⟨g, 3, none⟩ vw
theorem CfB.set {g : Nat} {hd bd : Int} {vr vw : Value} {w : World} (h : CfB g hd bd vr vw w) (hd' bd' : Int) (vr' vw' : Value) : CfB g hd' bd' vr' vw' (setC g hd' bd' vr' vw' w) := by
  unfold CfB setC at *
  rw [heap_setCell_same _ g 3 _ _ _ (heap_setCell_same _ g 2 _ _ _ (heap_setCell_same _ g 1 _ _ _ (heap_setCell_same _ g 0 _ _ _ h)))]
  rfl
theorem below_setC {g B : Nat} {hd bd : Int} {vr vw : Value} {w w' : World} (h : Below B w w') (hB : B ≤ g) : Below B w (setC g hd bd vr vw w') :=
  (((h.setCell hB _).setCell hB _).setCell hB _).setCell hB _
theorem cell_setC {g b j : Nat} {hd bd : Int} {vr vw : Value} {w : World} (h : b ≠ g) : (setC g hd bd vr vw w).cell? ⟨b, j, none⟩ = w.cell? ⟨b, j, none⟩ := by
  unfold setC
  have hx : ∀ (k : Nat) (x : Value) (W : World), (W.setCell ⟨g, k, none⟩ x).cell? ⟨b, j, none⟩ = W.cell? ⟨b, j, none⟩ := fun k x W => by
    rw [World.cell?_setCell_other _ _ _ _ (fun e => by simp only [Addr.mk.injEq] at e; first | exact h e.1 | exact h e.1.symm)]
  rw [hx, hx, hx, hx]
theorem MuAt.setC {α : Type} {sz : Nat} {f : α → List Value} {l : List α} {a : Option Addr} {w : World} {g : Nat} {hd bd : Int} {vr vw : Value} (h : MuAt sz f l a w) (hn : ∀ b o, a = some ⟨b, o, none⟩ → b ≠ g) : MuAt sz f l a (setC g hd bd vr vw w) := fun i hi => by
  obtain ⟨b, o, h1, h2, h3⟩ := h i hi
  refine ⟨b, o, h1, by unfold Proofs.YtpfendckgeoonaaGreatDoor.setC; simp; exact h2, fun j v hv => ?_⟩
  rw [cell_setC (hn b o h1)]
  exact h3 j v hv
set_option maxRecDepth 100000 in
set_option maxHeartbeats 1000000 in
theorem right_yes (hd bd : Int) (rs : List Rt) (ws : List Wr) (ar : Option Addr) (cr : Nat) (aw : Option Addr) (cw : Nat) (mx : Int) (w : World) (hR : MuAt 6 Rt.cells rs ar w) (hW : MuAt 4 Wr.cells ws aw w) (hro : ∀ r ∈ rs, RtOk r) (hwo : ∀ x ∈ ws, x.n.size ≤ 281474976710656 ∧ x.v.size ≤ 281474976710656) (hm : w.cell? ⟨0, 0, none⟩ = some (.int .i64 mx)) (hE : (cfgE hd bd rs ws).2 = 0) :
    Calls Tryz.prog 5 #[.agg #[.int .i64 hd, .int .i64 bd, .slice ar rs.length cr, .slice aw ws.length cw]] w fun x w' => x = .returned (.agg #[.int .i64 hd, .int .i64 bd, .slice ar rs.length cr, .slice aw ws.length cw]) ∧ Below w.heap.size w w' := by
  have HC := hid (fun W (hb : Below w.heap.size w W) => check_any hd bd rs ws ar cr aw cw mx W (hR.below hb) (hW.below hb) hro hwo (cell_later hb hm))
  rw [cfg_zero hE] at HC
  have hA1 := (Below.refl w.heap.size w).alloc (Nat.le_refl _) (.cells #[.int .i64 hd, .int .i64 bd, .slice ar rs.length cr, .slice aw ws.length cw] 27)
  have hA := hA1.alloc hA1.size (.cells #[.int .i64 0, .int .i64 0, .slice none 0 0, .slice none 0 0] 27)
  have z1 : (w.alloc (.cells #[.int .i64 hd, .int .i64 bd, .slice ar rs.length cr, .slice aw ws.length cw] 27)).heap.size = w.heap.size + 1 := by simp
  have g0 : CfB w.heap.size hd bd (.slice ar rs.length cr) (.slice aw ws.length cw) (w.alloc (.cells #[.int .i64 hd, .int .i64 bd, .slice ar rs.length cr, .slice aw ws.length cw] 27)) := heap_alloc_new w _
  have g1 := g0.below ((Below.refl _ _).alloc (Nat.le_refl _) (.cells #[.int .i64 0, .int .i64 0, .slice none 0 0, .slice none 0 0] 27))
  have h0 : CfB (w.heap.size + 1) 0 0 (.slice none 0 0) (.slice none 0 0) ((w.alloc (.cells #[.int .i64 hd, .int .i64 bd, .slice ar rs.length cr, .slice aw ws.length cw] 27)).alloc (.cells #[.int .i64 0, .int .i64 0, .slice none 0 0, .slice none 0 0] 27)) := by
    rw [← z1]; exact heap_alloc_new _ _
  clear hR hW hro hwo hm hE hA1 g0 z1
  go_enter Tryz.func5, Tryz.ntmps5
  go_wp2_with fail
  generalize (w.alloc (.cells #[.int .i64 hd, .int .i64 bd, .slice ar rs.length cr, .slice aw ws.length cw] 27)).alloc (.cells #[.int .i64 0, .int .i64 0, .slice none 0 0, .slice none 0 0] 27) = w1 at *
  refine (HC.out _ hA).mono ?_
  rintro x w2 ⟨rfl, hb2⟩
  have hB2 := bel_of hA hb2
  have h2 := h0.below hb2
  have g2 := g1.below hb2
  obtain ⟨c0, c1, c2, c3⟩ := h2.cells
  obtain ⟨e0, e1, e2, e3⟩ := g2.cells
  have f0 := h2.free 0
  have f1 := h2.free 1
  have f2 := h2.free 2
  have f3 := h2.free 3
  have l0 := h2.lt
  have l1 := g2.lt
  have H1 := hid (h2.set hd bd (.slice ar rs.length cr) (.slice aw ws.length cw))
  obtain ⟨d0, d1, d2, d3⟩ := H1.out.cells
  unfold setC at d0 d1 d2 d3
  clear HC h0 g1 h2 g2
  go_wp2_with fail
  refine bodyPost_ret (v := .agg #[.int .i64 hd, .int .i64 bd, .slice ar rs.length cr, .slice aw ws.length cw]) (by simp [results, Tryz.results5, go_sem, d0, d1, d2, d3]) rfl ?_
  exact ⟨rfl, below_setC hB2 (Nat.le_succ _)⟩
end Go.Proofs.YtpfendckgeoonaaGreatDoor

/- The statement's own 'right', where a configuration is not right. -/
namespace Go.Proofs.YtpfendckgeoonaaGreatDoor
open Go.RowKit

set_option maxRecDepth 100000 in
set_option maxHeartbeats 1000000 in
theorem right_no (hd bd : Int) (rs : List Rt) (ws : List Wr) (ar : Option Addr) (cr : Nat) (aw : Option Addr) (cw : Nat) (mx : Int) (w : World) (hR : MuAt 6 Rt.cells rs ar w) (hW : MuAt 4 Wr.cells ws aw w) (hro : ∀ r ∈ rs, RtOk r) (hwo : ∀ x ∈ ws, x.n.size ≤ 281474976710656 ∧ x.v.size ≤ 281474976710656) (hm : w.cell? ⟨0, 0, none⟩ = some (.int .i64 mx)) (hE : (cfgE hd bd rs ws).2 ≠ 0) :
    Calls Tryz.prog 5 #[.agg #[.int .i64 hd, .int .i64 bd, .slice ar rs.length cr, .slice aw ws.length cw]] w fun x w' => (∃ g, w.heap.size < g ∧ x = .returned (.agg #[.int .i64 200, .int .i64 50, .slice (some ⟨g, 0, none⟩) 3 3, .slice none 0 0]) ∧ MuAt 6 Rt.cells smallR (some ⟨g, 0, none⟩) w') ∧ Below w.heap.size w w' := by
  have HC := hid (fun W (hb : Below w.heap.size w W) => check_any hd bd rs ws ar cr aw cw mx W (hR.below hb) (hW.below hb) hro hwo (cell_later hb hm))
  have HSM := hid small_any
  generalize cfgE hd bd rs ws = E at *
  have hA1 := (Below.refl w.heap.size w).alloc (Nat.le_refl _) (.cells #[.int .i64 hd, .int .i64 bd, .slice ar rs.length cr, .slice aw ws.length cw] 27)
  have hA := hA1.alloc hA1.size (.cells #[.int .i64 0, .int .i64 0, .slice none 0 0, .slice none 0 0] 27)
  have z1 : (w.alloc (.cells #[.int .i64 hd, .int .i64 bd, .slice ar rs.length cr, .slice aw ws.length cw] 27)).heap.size = w.heap.size + 1 := by simp
  have g0 : CfB w.heap.size hd bd (.slice ar rs.length cr) (.slice aw ws.length cw) (w.alloc (.cells #[.int .i64 hd, .int .i64 bd, .slice ar rs.length cr, .slice aw ws.length cw] 27)) := heap_alloc_new w _
  have g1 := g0.below ((Below.refl _ _).alloc (Nat.le_refl _) (.cells #[.int .i64 0, .int .i64 0, .slice none 0 0, .slice none 0 0] 27))
  have h0 : CfB (w.heap.size + 1) 0 0 (.slice none 0 0) (.slice none 0 0) ((w.alloc (.cells #[.int .i64 hd, .int .i64 bd, .slice ar rs.length cr, .slice aw ws.length cw] 27)).alloc (.cells #[.int .i64 0, .int .i64 0, .slice none 0 0, .slice none 0 0] 27)) := by
    rw [← z1]; exact heap_alloc_new _ _
  clear hR hW hro hwo hm hA1 g0 z1
  go_enter Tryz.func5, Tryz.ntmps5
  go_wp2_with fail
  generalize (w.alloc (.cells #[.int .i64 hd, .int .i64 bd, .slice ar rs.length cr, .slice aw ws.length cw] 27)).alloc (.cells #[.int .i64 0, .int .i64 0, .slice none 0 0, .slice none 0 0] 27) = w1 at *
  refine (HC.out _ hA).mono ?_
  rintro x w2 ⟨rfl, hb2⟩
  have hB2 := bel_of hA hb2
  have h2 := h0.below hb2
  obtain ⟨en, ee⟩ := E
  simp only at hE
  have hq : (ee != 0) = true := by simpa using hE
  clear HC h0 g1 hE
  go_wp2_with fail
  refine (HSM.out _).mono ?_
  rintro x w3 ⟨⟨g, hg, rfl, hmu⟩, hb3⟩
  have hB3 := bel_of hB2 hb3
  have h3 := h2.below hb3
  have hl2 := h2.lt
  obtain ⟨c0, c1, c2, c3⟩ := h3.cells
  have f0 := h3.free 0
  have f1 := h3.free 1
  have f2 := h3.free 2
  have f3 := h3.free 3
  have l0 := h3.lt
  have H1 := hid (h3.set 200 50 (.slice (some ⟨g, 0, none⟩) 3 3) (.slice none 0 0))
  obtain ⟨d0, d1, d2, d3⟩ := H1.out.cells
  unfold setC at d0 d1 d2 d3
  have HMU := hid hmu
  clear hmu h2 HSM
  go_wp2_with fail
  refine bodyPost_ret (v := .agg #[.int .i64 200, .int .i64 50, .slice (some ⟨g, 0, none⟩) 3 3, .slice none 0 0]) (by simp [results, Tryz.results5, go_sem, d0, d1, d2, d3]) rfl ?_
  exact ⟨⟨g, Nat.lt_of_le_of_lt hB2.size hg, rfl, MuAt.setC (hd := 200) (bd := 50) (vr := .slice (some ⟨g, 0, none⟩) 3 3) (vw := .slice none 0 0) HMU.out (fun b o e => by simp only [Option.some.injEq, Addr.mk.injEq] at e; omega)⟩, below_setC hB3 (Nat.le_succ _)⟩
end Go.Proofs.YtpfendckgeoonaaGreatDoor
