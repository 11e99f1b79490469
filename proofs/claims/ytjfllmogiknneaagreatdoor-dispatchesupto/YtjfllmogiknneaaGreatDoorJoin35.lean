/- Texts that follow one another, joined. -/
import Derived.Test.YtjfllmogiknneaaGreatDoorJoin34
import Derived.Test.YtjfllmogiknneaaGreatDoorJoin22
/- A configuration that is lent, and that is looked at again. -/
namespace Go.Proofs.YtjfllmogiknneaaGreatDoor
open Go.RowKit

def LnR {α : Type} (sz : Nat) (f : α → List Value) (mk : α) (l : List α) (a a' : Option Addr) (c' : Nat) (B : Nat) (w : World) : Prop :=
  (a = none ∧ l = [] ∧ a' = none ∧ c' = 0) ∨ (∃ ad g, a = some ad ∧ a' = some ⟨g, 0, none⟩ ∧ c' = l.length + 5 ∧ B ≤ g ∧ g < w.heap.size ∧ OwnM g ((l.length + 5) * sz) w ∧ LvM sz f (l ++ List.replicate 5 mk) g w)
theorem OwnM.keep {g m : Nat} {w w' : World} (h : OwnM g m w) (hk : w'.heap[g]? = w.heap[g]?) : OwnM g m w' := fun j hj => by
  obtain ⟨h1, h2⟩ := h j hj
  exact ⟨by rw [World.cell?_of_block hk]; exact h1, by rw [World.frozen?_of_block hk]; exact h2⟩
theorem LvM.keep {α : Type} {sz : Nat} {f : α → List Value} {L : List α} {g : Nat} {w w' : World} (h : LvM sz f L g w) (hk : w'.heap[g]? = w.heap[g]?) : LvM sz f L g w' := fun i hi j v hv => by
  rw [World.cell?_of_block hk]; exact h i hi j v hv
theorem LnR.keep {α : Type} {sz : Nat} {f : α → List Value} {mk : α} {l : List α} {a a' : Option Addr} {c' B : Nat} {w w' : World} (h : LnR sz f mk l a a' c' B w) (hz : w.heap.size ≤ w'.heap.size) (hk : ∀ g, a' = some ⟨g, 0, none⟩ → B ≤ g → g < w.heap.size → w'.heap[g]? = w.heap[g]?) : LnR sz f mk l a a' c' B w' := by
  rcases h with h | ⟨ad, g, h1, h2, h3, h4, h5, h6, h7⟩
  · exact .inl h
  · have := hk g h2 h4 h5
    exact .inr ⟨ad, g, h1, h2, h3, h4, Nat.lt_of_lt_of_le h5 hz, h6.keep this, h7.keep this⟩
theorem LnR.below {α : Type} {sz : Nat} {f : α → List Value} {mk : α} {l : List α} {a a' : Option Addr} {c' B : Nat} {w w' : World} (h : LnR sz f mk l a a' c' B w) (hb : Below w.heap.size w w') : LnR sz f mk l a a' c' B w' := h.keep hb.size (fun g _ _ hg => hb.block g hg)
theorem LnR.mu {α : Type} {sz : Nat} {f : α → List Value} {mk : α} {l : List α} {a a' : Option Addr} {c' B : Nat} {w : World} (h : LnR sz f mk l a a' c' B w) : MuAt sz f l a' w := by
  rcases h with ⟨-, rfl, -, -⟩ | ⟨ad, g, -, rfl, -, -, h5, -, h7⟩
  · exact fun i hi => absurd hi (by simp)
  · exact h7.mu h5
theorem LnR.base {α : Type} {sz : Nat} {f : α → List Value} {mk : α} {l : List α} {a a' : Option Addr} {c' B B' : Nat} {w : World} (h : LnR sz f mk l a a' c' B w) (hb : B' ≤ B) : LnR sz f mk l a a' c' B' w := by
  rcases h with h | ⟨ad, g, h1, h2, h3, h4, h5⟩
  · exact .inl h
  · exact .inr ⟨ad, g, h1, h2, h3, Nat.le_trans hb h4, h5⟩
theorem LnR.lt {α : Type} {sz : Nat} {f : α → List Value} {mk : α} {l : List α} {a a' : Option Addr} {c' B : Nat} {w : World} (h : LnR sz f mk l a a' c' B w) : ∀ g, a' = some ⟨g, 0, none⟩ → B ≤ g ∧ g < w.heap.size := fun g hg => by
  rcases h with ⟨-, -, h3, -⟩ | ⟨ad, g', -, h2, -, h4, h5, -⟩
  · rw [h3] at hg; cases hg
  · rw [h2] at hg
    simp only [Option.some.injEq, Addr.mk.injEq, and_true] at hg
    omega
theorem lentRoutes2 (rs : List Rt) (a : Option Addr) (ca : Nat) (w : World) (hz : a = none → rs = [] ∧ ca = 0) (hf : MuAt 6 Rt.cells rs a w) (hn : rs.length ≤ 1000000000) :
    Calls Tryz.prog 20 #[.slice a rs.length ca] w fun e w' => (∃ a' c', e = .returned (.slice a' rs.length c') ∧ LnR 6 Rt.cells (mkR 7) rs a a' c' w.heap.size w') ∧ Below w.heap.size w w' := by
  cases a with
  | none =>
    obtain ⟨rfl, rfl⟩ := hz rfl
    refine (lentRoutes_nil w).mono ?_
    rintro e w' ⟨rfl, rfl⟩
    exact ⟨⟨none, 0, rfl, .inl ⟨rfl, rfl, rfl, rfl⟩⟩, Below.refl _ _⟩
  | some ad =>
    refine (lentRoutes_any rs ad ca w hf hn).mono ?_
    rintro e w' ⟨g, rfl, h1, h2, h3, h4, h5⟩
    exact ⟨⟨_, _, rfl, .inr ⟨ad, g, rfl, rfl, rfl, h1, h2, h3, h4⟩⟩, h5⟩
theorem lentWares2 (rs : List Wr) (a : Option Addr) (ca : Nat) (w : World) (hz : a = none → rs = [] ∧ ca = 0) (hf : MuAt 4 Wr.cells rs a w) (hn : rs.length ≤ 1000000000) :
    Calls Tryz.prog 21 #[.slice a rs.length ca] w fun e w' => (∃ a' c', e = .returned (.slice a' rs.length c') ∧ LnR 4 Wr.cells (mkW 7) rs a a' c' w.heap.size w') ∧ Below w.heap.size w w' := by
  cases a with
  | none =>
    obtain ⟨rfl, rfl⟩ := hz rfl
    refine (lentWares_nil w).mono ?_
    rintro e w' ⟨rfl, rfl⟩
    exact ⟨⟨none, 0, rfl, .inl ⟨rfl, rfl, rfl, rfl⟩⟩, Below.refl _ _⟩
  | some ad =>
    refine (lentWares_any rs ad ca w hf hn).mono ?_
    rintro e w' ⟨g, rfl, h1, h2, h3, h4, h5⟩
    exact ⟨⟨_, _, rfl, .inr ⟨ad, g, rfl, rfl, rfl, h1, h2, h3, h4⟩⟩, h5⟩
def KpA (a : Option Addr) (w w' : World) : Prop := w.heap.size ≤ w'.heap.size ∧ ∀ b, b < w.heap.size → a ≠ some ⟨b, 0, none⟩ → w'.heap[b]? = w.heap[b]?
theorem wholeRoutes2 (rs : List Rt) (a a' : Option Addr) (ca c' : Nat) (w0 w : World) (hz : a = none → rs = [] ∧ ca = 0) (hf : MuAt 6 Rt.cells rs a w0) (hn : rs.length ≤ 1000000000) (hb : Below w0.heap.size w0 w) (hL : LnR 6 Rt.cells (mkR 7) rs a a' c' w0.heap.size w) :
    Calls Tryz.prog 24 #[.slice a' rs.length c', .slice a rs.length ca] w fun e w' => e = .returned (.bool true) ∧ Below w0.heap.size w0 w' ∧ KpA a' w w' := by
  rcases hL with ⟨rfl, rfl, rfl, rfl⟩ | ⟨ad, g, rfl, rfl, rfl, h4, h5, h6, h7⟩
  · obtain ⟨-, rfl⟩ := hz rfl
    refine (wholeRoutes_nil _ w).mono ?_
    rintro e w' ⟨rfl, rfl⟩
    exact ⟨rfl, hb, Nat.le_refl _, fun _ _ _ => rfl⟩
  · refine (wholeRoutes_any rs ad ca g w0 w hf hn hb h4 h5 h6 h7).mono ?_
    rintro e w' ⟨rfl, k1, k2⟩
    exact ⟨rfl, k1, k2.1, fun b hb' hne => k2.2 b hb' (fun e => hne (by rw [e]))⟩
theorem wholeWares2 (rs : List Wr) (a a' : Option Addr) (ca c' : Nat) (w0 w : World) (hz : a = none → rs = [] ∧ ca = 0) (hf : MuAt 4 Wr.cells rs a w0) (hn : rs.length ≤ 1000000000) (hb : Below w0.heap.size w0 w) (hL : LnR 4 Wr.cells (mkW 7) rs a a' c' w0.heap.size w) :
    Calls Tryz.prog 25 #[.slice a' rs.length c', .slice a rs.length ca] w fun e w' => e = .returned (.bool true) ∧ Below w0.heap.size w0 w' ∧ KpA a' w w' := by
  rcases hL with ⟨rfl, rfl, rfl, rfl⟩ | ⟨ad, g, rfl, rfl, rfl, h4, h5, h6, h7⟩
  · obtain ⟨-, rfl⟩ := hz rfl
    refine (wholeWares_nil _ w).mono ?_
    rintro e w' ⟨rfl, rfl⟩
    exact ⟨rfl, hb, Nat.le_refl _, fun _ _ _ => rfl⟩
  · refine (wholeWares_any rs ad ca g w0 w hf hn hb h4 h5 h6 h7).mono ?_
    rintro e w' ⟨rfl, k1, k2⟩
    exact ⟨rfl, k1, k2.1, fun b hb' hne => k2.2 b hb' (fun e => hne (by rw [e]))⟩
structure CfG (rs : List Rt) (ws : List Wr) (ar : Option Addr) (cr : Nat) (aw : Option Addr) (cw : Nat) (w : World) : Prop where
  r : MuAt 6 Rt.cells rs ar w
  w : MuAt 4 Wr.cells ws aw w
  zr : ar = none → rs = [] ∧ cr = 0
  zw : aw = none → ws = [] ∧ cw = 0
  nr : rs.length ≤ 1000000000
  nw : ws.length ≤ 1000000000
theorem CfG.below {rs : List Rt} {ws : List Wr} {ar : Option Addr} {cr : Nat} {aw : Option Addr} {cw : Nat} {w w' : World} (h : CfG rs ws ar cr aw cw w) (hb : Below w.heap.size w w') : CfG rs ws ar cr aw cw w' := ⟨h.r.below hb, h.w.below hb, h.zr, h.zw, h.nr, h.nw⟩
/- the lists that are lent -/
structure Lt (rs : List Rt) (ws : List Wr) (ar aw a1 a2 : Option Addr) (c1 c2 B : Nat) (w : World) : Prop where
  r : LnR 6 Rt.cells (mkR 7) rs ar a1 c1 B w
  w : LnR 4 Wr.cells (mkW 7) ws aw a2 c2 B w
  d : ∀ b, a1 = some ⟨b, 0, none⟩ → a2 ≠ some ⟨b, 0, none⟩
theorem Lt.below {rs : List Rt} {ws : List Wr} {ar aw a1 a2 : Option Addr} {c1 c2 B : Nat} {w w' : World} (h : Lt rs ws ar aw a1 a2 c1 c2 B w) (hb : Below w.heap.size w w') : Lt rs ws ar aw a1 a2 c1 c2 B w' := ⟨h.r.below hb, h.w.below hb, h.d⟩
theorem Lt.setC {rs : List Rt} {ws : List Wr} {ar aw a1 a2 : Option Addr} {c1 c2 B : Nat} {w : World} (h : Lt rs ws ar aw a1 a2 c1 c2 B w) {g o : Nat} (cs : List Value) (hg : g < B) : Lt rs ws ar aw a1 a2 c1 c2 B (w.setCells g o cs) :=
  ⟨h.r.keep (by rw [sets_size]; exact Nat.le_refl _) (fun b _ hb _ => sets_other g b (by omega) cs o w), h.w.keep (by rw [sets_size]; exact Nat.le_refl _) (fun b _ hb _ => sets_other g b (by omega) cs o w), h.d⟩
/- all blocks but those of two lists stay -/
def Kp2 (a1 a2 : Option Addr) (w w' : World) : Prop := w.heap.size ≤ w'.heap.size ∧ ∀ b, b < w.heap.size → a1 ≠ some ⟨b, 0, none⟩ → a2 ≠ some ⟨b, 0, none⟩ → w'.heap[b]? = w.heap[b]?
theorem kp2_of {a1 a2 : Option Addr} {w w1 w2 w3 : World} (hA : Below w.heap.size w w1) (h1 : KpA a1 w1 w2) (h2 : KpA a2 w2 w3) : Kp2 a1 a2 w w3 :=
  ⟨Nat.le_trans hA.size (Nat.le_trans h1.1 h2.1), fun b hb n1 n2 => by
    have l1 : b < w1.heap.size := Nat.lt_of_lt_of_le hb hA.size
    rw [h2.2 b (Nat.lt_of_lt_of_le l1 h1.1) n2, h1.2 b l1 n1, hA.block b hb]⟩
set_option maxRecDepth 100000 in
set_option maxHeartbeats 2000000 in
theorem whole_any (hd bd hd' bd' : Int) (rs : List Rt) (ws : List Wr) (ar : Option Addr) (cr : Nat) (aw : Option Addr) (cw : Nat) (a1 a2 : Option Addr) (c1 c2 : Nat) (w0 w : World) (hC : CfG rs ws ar cr aw cw w0) (hb : Below w0.heap.size w0 w) (hL : Lt rs ws ar aw a1 a2 c1 c2 w0.heap.size w) :
    Calls Tryz.prog 10 #[.agg #[.int .i64 hd, .int .i64 bd, .slice a1 rs.length c1, .slice a2 ws.length c2], .agg #[.int .i64 hd', .int .i64 bd', .slice ar rs.length cr, .slice aw ws.length cw]] w fun e w' => e = .returned (.bool true) ∧ Below w0.heap.size w0 w' ∧ Kp2 a1 a2 w w' := by
  have HWR := hid (fun W (hW : Below w.heap.size w W) => wholeRoutes2 rs ar a1 cr c1 w0 W hC.zr hC.r hC.nr (hb.trans (hW.mono hb.size)) ((hL.below hW).r))
  have HWW := hid (fun W (hW : Below w0.heap.size w0 W) (hl : LnR 4 Wr.cells (mkW 7) ws aw a2 c2 w0.heap.size W) => wholeWares2 ws aw a2 cw c2 w0 W hC.zw hC.w hC.nw hW hl)
  have hA1 := (Below.refl w.heap.size w).alloc (Nat.le_refl _) (.cells #[.int .i64 hd, .int .i64 bd, .slice a1 rs.length c1, .slice a2 ws.length c2] 27)
  have hA := hA1.alloc hA1.size (.cells #[.int .i64 hd', .int .i64 bd', .slice ar rs.length cr, .slice aw ws.length cw] 27)
  have z1 : (w.alloc (.cells #[.int .i64 hd, .int .i64 bd, .slice a1 rs.length c1, .slice a2 ws.length c2] 27)).heap.size = w.heap.size + 1 := by simp
  have B1 : ((w.alloc (.cells #[.int .i64 hd, .int .i64 bd, .slice a1 rs.length c1, .slice a2 ws.length c2] 27)).alloc (.cells #[.int .i64 hd', .int .i64 bd', .slice ar rs.length cr, .slice aw ws.length cw] 27)).heap[w.heap.size]? = some (.cells #[.int .i64 hd, .int .i64 bd, .slice a1 rs.length c1, .slice a2 ws.length c2] 27) := by
    rw [((Below.refl _ _).alloc (Nat.le_refl _) (.cells #[.int .i64 hd', .int .i64 bd', .slice ar rs.length cr, .slice aw ws.length cw] 27)).block w.heap.size (by rw [z1]; omega)]
    exact heap_alloc_new w _
  have B2 : ((w.alloc (.cells #[.int .i64 hd, .int .i64 bd, .slice a1 rs.length c1, .slice a2 ws.length c2] 27)).alloc (.cells #[.int .i64 hd', .int .i64 bd', .slice ar rs.length cr, .slice aw ws.length cw] 27)).heap[w.heap.size + 1]? = some (.cells #[.int .i64 hd', .int .i64 bd', .slice ar rs.length cr, .slice aw ws.length cw] 27) := by
    rw [← z1]; exact heap_alloc_new _ _
  have HL := hid hL
  have hbz := hb.size
  clear hC z1
  go_enter Tryz.func10, Tryz.ntmps10
  go_wp2_with fail
  generalize (w.alloc (.cells #[.int .i64 hd, .int .i64 bd, .slice a1 rs.length c1, .slice a2 ws.length c2] 27)).alloc (.cells #[.int .i64 hd', .int .i64 bd', .slice ar rs.length cr, .slice aw ws.length cw] 27) = w1 at *
  refine (HWR.out _ hA).mono ?_
  rintro x w2 ⟨rfl, hb2, hk2⟩
  have L1 := HL.out.below hA
  have l1 : w.heap.size + 1 < w1.heap.size := (Array.getElem?_eq_some_iff.1 B2).1
  have h21 : w2.heap[w.heap.size]? = w1.heap[w.heap.size]? := hk2.2 _ (by omega) (fun e => by have := (HL.out.r.lt _ e).2; omega)
  have h22 : w2.heap[w.heap.size + 1]? = w1.heap[w.heap.size + 1]? := hk2.2 _ l1 (fun e => by have := (HL.out.r.lt _ e).2; omega)
  rw [B1] at h21
  rw [B2] at h22
  have e3 : w2.cell? ⟨w.heap.size, 3, none⟩ = some (.slice a2 ws.length c2) := by rw [Lib.cell_of_heap h21]; rfl
  have e4 : w2.cell? ⟨w.heap.size + 1, 3, none⟩ = some (.slice aw ws.length cw) := by rw [Lib.cell_of_heap h22]; rfl
  have m3 := block_lt_of_cell e3
  have m4 := block_lt_of_cell e4
  have HW2 := hid (HWW.out w2 hb2 (L1.w.keep hk2.1 (fun g hg _ hlt => hk2.2 g hlt (fun e => HL.out.d g e hg))))
  have HK2 := hid hk2
  clear HWR HWW h21 h22 B1 B2 hk2 L1
  go_wp2_with fail
  refine HW2.out.mono ?_
  rintro x w3 ⟨rfl, hb3, hk3⟩
  have HK3 := hid (kp2_of hA HK2.out hk3)
  clear hk3
  go_wp2_with fail
  go_ret
  exact ⟨rfl, hb3, HK3.out⟩
end Go.Proofs.YtjfllmogiknneaaGreatDoor

/- A configuration in a block of its own. -/
namespace Go.Proofs.YtjfllmogiknneaaGreatDoor
open Go.RowKit

def CfB (g : Nat) (hd bd : Int) (vr vw : Value) (w : World) : Prop := w.heap[g]? = some (.cells #[.int .i64 hd, .int .i64 bd, vr, vw] 27 (0, 0))
theorem CfB.cells {g : Nat} {hd bd : Int} {vr vw : Value} {w : World} (h : CfB g hd bd vr vw w) : w.cell? ⟨g, 0, none⟩ = some (.int .i64 hd) ∧ w.cell? ⟨g, 1, none⟩ = some (.int .i64 bd) ∧ w.cell? ⟨g, 2, none⟩ = some vr ∧ w.cell? ⟨g, 3, none⟩ = some vw := by
  refine ⟨?_, ?_, ?_, ?_⟩ <;> (rw [Lib.cell_of_heap h]; rfl)
theorem CfB.free {g : Nat} {hd bd : Int} {vr vw : Value} {w : World} (h : CfB g hd bd vr vw w) (j : Nat) : w.frozen? ⟨g, j, none⟩ = false := Lib.frozen_of_heap h j
theorem CfB.lt {g : Nat} {hd bd : Int} {vr vw : Value} {w : World} (h : CfB g hd bd vr vw w) : g < w.heap.size := block_lt_of_cell h.cells.1
theorem CfB.below {g : Nat} {hd bd : Int} {vr vw : Value} {w w' : World} (h : CfB g hd bd vr vw w) (hb : Below w.heap.size w w') : CfB g hd bd vr vw w' := by
  have := hb.block g h.lt; unfold CfB at *; rw [this]; exact h
def setC (g : Nat) (hd bd : Int) (vr vw : Value) (w : World) : World := (((w.setCell ⟨g, 0, none⟩ (.int .i64 hd)).setCell ⟨g, 1, none⟩ (.int .i64 bd)).setCell ⟨g, 2, none⟩ vr).setCell ⟨g, 3, none⟩ vw
theorem CfB.set {g : Nat} {hd bd : Int} {vr vw : Value} {w : World} (h : CfB g hd bd vr vw w) (hd' bd' : Int) (vr' vw' : Value) : CfB g hd' bd' vr' vw' (setC g hd' bd' vr' vw' w) := by
  unfold CfB setC at *
  rw [heap_setCell_same _ g 3 _ _ _ (heap_setCell_same _ g 2 _ _ _ (heap_setCell_same _ g 1 _ _ _ (heap_setCell_same _ g 0 _ _ _ h)))]
  rfl
theorem below_setC {g B : Nat} {hd bd : Int} {vr vw : Value} {w w' : World} (h : Below B w w') (hB : B ≤ g) : Below B w (setC g hd bd vr vw w') :=
  (((h.setCell hB _).setCell hB _).setCell hB _).setCell hB _
theorem cell_setC {g b j : Nat} {hd bd : Int} {vr vw : Value} {w : World} (h : b ≠ g) : (setC g hd bd vr vw w).cell? ⟨b, j, none⟩ = w.cell? ⟨b, j, none⟩ := by
  unfold setC
  have hx : ∀ (k : Nat) (x : Value) (W : World), (W.setCell ⟨g, k, none⟩ x).cell? ⟨b, j, none⟩ = W.cell? ⟨b, j, none⟩ := fun k x W => by
    rw [World.cell?_setCell_other _ _ _ _ (fun e => by simp only [Addr.mk.injEq] at e; first | exact h e.1 | exact h e.1.symm)]
  rw [hx, hx, hx, hx]
end Go.Proofs.YtjfllmogiknneaaGreatDoor

/- A configuration is lent. -/
namespace Go.Proofs.YtjfllmogiknneaaGreatDoor
open Go.RowKit

def LtPost (hd bd : Int) (rs : List Rt) (ws : List Wr) (ar aw : Option Addr) (w : World) (x : Ending) (w' : World) : Prop :=
  ∃ a1 c1 a2 c2, x = .returned (.agg #[.int .i64 hd, .int .i64 bd, .slice a1 rs.length c1, .slice a2 ws.length c2]) ∧ Lt rs ws ar aw a1 a2 c1 c2 w.heap.size w' ∧ Below w.heap.size w w'
theorem lent_fin {rs : List Rt} {ws : List Wr} {ar aw a1 a2 : Option Addr} {c1 c2 : Nat} {w w1 wA wB : World} {hd bd : Int} {vr vw : Value} (hA : Below w.heap.size w w1) (l1 : w.heap.size + 1 < w1.heap.size) (hbA : Below w1.heap.size w1 wA) (hbB : Below wA.heap.size wA wB) (hr : LnR 6 Rt.cells (mkR 7) rs ar a1 c1 w1.heap.size wA) (hw : LnR 4 Wr.cells (mkW 7) ws aw a2 c2 wA.heap.size wB) :
    Lt rs ws ar aw a1 a2 c1 c2 w.heap.size (setC (w.heap.size + 1) hd bd vr vw wB) ∧ Below w.heap.size w (setC (w.heap.size + 1) hd bd vr vw wB) := by
  have h1 : Lt rs ws ar aw a1 a2 c1 c2 w1.heap.size wB := ⟨hr.below hbB, hw.base hbA.size, fun b e1 e2 => by
    have := (hr.lt b e1).2
    have := (hw.lt b e2).1
    omega⟩
  have h2 := h1.setC (g := w.heap.size + 1) (o := 0) [.int .i64 hd, .int .i64 bd, vr, vw] (by omega)
  refine ⟨⟨h2.r.base (by omega), h2.w.base (by omega), h2.d⟩, ?_⟩
  exact below_setC (bel_of (bel_of hA hbA) hbB) (Nat.le_succ _)
set_option maxRecDepth 100000 in
set_option maxHeartbeats 2000000 in
theorem lent_any (hd bd : Int) (rs : List Rt) (ws : List Wr) (ar : Option Addr) (cr : Nat) (aw : Option Addr) (cw : Nat) (w : World) (hC : CfG rs ws ar cr aw cw w) :
    Calls Tryz.prog 7 #[.agg #[.int .i64 hd, .int .i64 bd, .slice ar rs.length cr, .slice aw ws.length cw]] w (LtPost hd bd rs ws ar aw w) := by
  have HLR := hid (fun W (hW : Below w.heap.size w W) => lentRoutes2 rs ar cr W hC.zr (hC.r.below hW) hC.nr)
  have HLW := hid (fun W (hW : Below w.heap.size w W) => lentWares2 ws aw cw W hC.zw (hC.w.below hW) hC.nw)
  have hA1 := (Below.refl w.heap.size w).alloc (Nat.le_refl _) (.cells #[.int .i64 hd, .int .i64 bd, .slice ar rs.length cr, .slice aw ws.length cw] 27)
  have hA := hA1.alloc hA1.size (.cells #[.int .i64 0, .int .i64 0, .slice none 0 0, .slice none 0 0] 27)
  have z1 : (w.alloc (.cells #[.int .i64 hd, .int .i64 bd, .slice ar rs.length cr, .slice aw ws.length cw] 27)).heap.size = w.heap.size + 1 := by simp
  have g0 : CfB w.heap.size hd bd (.slice ar rs.length cr) (.slice aw ws.length cw) (w.alloc (.cells #[.int .i64 hd, .int .i64 bd, .slice ar rs.length cr, .slice aw ws.length cw] 27)) := heap_alloc_new w _
  have g1 := g0.below ((Below.refl _ _).alloc (Nat.le_refl _) (.cells #[.int .i64 0, .int .i64 0, .slice none 0 0, .slice none 0 0] 27))
  have h0 : CfB (w.heap.size + 1) 0 0 (.slice none 0 0) (.slice none 0 0) ((w.alloc (.cells #[.int .i64 hd, .int .i64 bd, .slice ar rs.length cr, .slice aw ws.length cw] 27)).alloc (.cells #[.int .i64 0, .int .i64 0, .slice none 0 0, .slice none 0 0] 27)) := by
    rw [← z1]; exact heap_alloc_new _ _
  clear hC z1 g0 hA1
  go_enter Tryz.func7, Tryz.ntmps7
  go_upto_region 1 with fail
  generalize (w.alloc (.cells #[.int .i64 hd, .int .i64 bd, .slice ar rs.length cr, .slice aw ws.length cw] 27)).alloc (.cells #[.int .i64 0, .int .i64 0, .slice none 0 0, .slice none 0 0] 27) = w1 at *
  obtain ⟨c0, c1, c2, c3⟩ := g1.cells
  have l0 := g1.lt
  have l1 := h0.lt
  have HG := hid (And.intro g1 h0)
  clear g1 h0
  go_region_held3 (fun W => W.cell? ⟨w.heap.size, 0, none⟩ = some (.int .i64 hd) ∧ W.cell? ⟨w.heap.size, 1, none⟩ = some (.int .i64 bd) ∧ W.cell? ⟨w.heap.size, 2, none⟩ = some (.slice ar rs.length cr) ∧ W.cell? ⟨w.heap.size, 3, none⟩ = some (.slice aw ws.length cw)) (first | go_keep | exact ⟨(cell_setC ne1).trans s0, (cell_setC ne1).trans s1, (cell_setC ne1).trans s2, (cell_setC ne1).trans s3⟩)
    (first
      | (go_at_call 20; refine (HLR.out _ hA.drew).mono ?_; rintro x wA ⟨⟨a1, k1, rfl, hr⟩, hbA⟩; have hBA := bel_of hA.drew hbA; have hb1A := bel_of (Below.refl w1.heap.size w1).drew hbA; have HRR := hid hr; have r0 := cell_later hb1A c0; have r1 := cell_later hb1A c1; have r2 := cell_later hb1A c2; have r3 := cell_later hb1A c3; clear hr hbA)
      | (go_at_call 21; refine (HLW.out _ hBA).mono ?_; rintro x wB ⟨⟨a2, k2, rfl, hw⟩, hbB⟩; have s0 := cell_later hbB r0; have s1 := cell_later hbB r1; have s2 := cell_later hbB r2; have s3 := cell_later hbB r3; have hB1 := bel_of hb1A hbB; have hF := HG.out.2.below hB1; obtain ⟨t0, t1, t2, t3⟩ := hF.cells; have u0 := hF.free 0; have u1 := hF.free 1; have u2 := hF.free 2; have u3 := hF.free 3; have lF := hF.lt; have ne1 : w.heap.size ≠ w.heap.size + 1 := Nat.ne_of_lt (Nat.lt_succ_self _); have KF := lent_fin (hd := hd) (bd := bd) (vr := .slice a1 rs.length k1) (vw := .slice a2 ws.length k2) hA l1 hb1A hbB HRR.out hw; obtain ⟨d0, d1, d2, d3⟩ := (hF.set hd bd (.slice a1 rs.length k1) (.slice a2 ws.length k2)).cells; have HKF := hid KF; unfold setC at d0 d1 d2 d3; clear hw hbB KF hF))
  all_goals
    go_wp2_with fail
    refine bodyPost_ret (v := .agg #[.int .i64 hd, .int .i64 bd, .slice a1 rs.length k1, .slice a2 ws.length k2]) (by simp [results, Tryz.results7, go_sem, d0, d1, d2, d3]) rfl ?_
    exact ⟨_, _, _, _, rfl, HKF.out.1, HKF.out.2⟩
end Go.Proofs.YtjfllmogiknneaaGreatDoor
