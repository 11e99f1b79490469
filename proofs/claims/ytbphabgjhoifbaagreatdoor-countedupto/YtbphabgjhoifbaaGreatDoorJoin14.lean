/- Texts that follow one another, joined. -/
import Derived.Test.YtbphabgjhoifbaaGreatDoorJoin13
import Derived.Below
import Derived.Lib.AppendStr
import Derived.WalkKit
import Derived.Lib.Builder
import Derived.Test.YtbphabgjhoifbaaGreatDoorJoin02
import Derived.Conc.MuLone
import Derived.KernelRfl
import Derived.Test.YtbphabgjhoifbaaGreatDoorJoin03
/- The statement's own 'right'. -/
namespace Go.Proofs.YtbphabgjhoifbaaGreatDoor
open Go.RowKit

def CfB (g : Nat) (hd bd : Int) (vr vw : Value) (w : World) : Prop := w.heap[g]? = some (.cells #[.int .i64 hd, .int .i64 bd, vr, vw] 27 (0, 0))
theorem CfB.cells {g : Nat} {hd bd : Int} {vr vw : Value} {w : World} (h : CfB g hd bd vr vw w) : w.cell? ⟨g, 0, none⟩ = some (.int .i64 hd) ∧ w.cell? ⟨g, 1, none⟩ = some (.int .i64 bd) ∧ w.cell? ⟨g, 2, none⟩ = some vr ∧ w.cell? ⟨g, 3, none⟩ = some vw := by
  refine ⟨?_, ?_, ?_, ?_⟩ <;> (rw [Lib.cell_of_heap h]; rfl)
theorem CfB.free {g : Nat} {hd bd : Int} {vr vw : Value} {w : World} (h : CfB g hd bd vr vw w) (j : Nat) : w.frozen? ⟨g, j, none⟩ = false := Lib.frozen_of_heap h j
theorem CfB.lt {g : Nat} {hd bd : Int} {vr vw : Value} {w : World} (h : CfB g hd bd vr vw w) : g < w.heap.size := block_lt_of_cell h.cells.1
theorem CfB.below {g : Nat} {hd bd : Int} {vr vw : Value} {w w' : World} (h : CfB g hd bd vr vw w) (hb : Below w.heap.size w w') : CfB g hd bd vr vw w' := by
  have := hb.block g h.lt; unfold CfB at *; rw [this]; exact h
def setC (g : Nat) (hd bd : Int) (vr vw : Value) (w : World) : World := (((w.setCell ⟨g, 0, none⟩ (.int .i64 hd)).setCell ⟨g, 1, none⟩ (.int .i64 bd)).setCell ⟨g, 2, none⟩ vr).setCell ⟨g, 3, none⟩ vw
theorem CfB.set {g : Nat} {hd bd : Int} {vr vw : Value} {w : World} (h : CfB g hd bd vr vw w) (hd' bd' : Int) (vr' vw' : Value) : CfB g hd' bd' vr' vw' (setC g hd' bd' vr' vw' w) := by
  unfold CfB setC at *
  rw [heap_setCell_same _ g 3 _ _ _ (heap_setCell_same _ g 2 _ _ _ (heap_setCell_same _ g 1 _ _ _ (heap_setCell_same _ g 0 _ _ _ h)))]
  rfl
theorem below_setC {g B : Nat} {hd bd : Int} {vr vw : Value} {w w' : World} (h : Below B w w') (hB : B ≤ g) : Below B w (setC g hd bd vr vw w') :=
  (((h.setCell hB _).setCell hB _).setCell hB _).setCell hB _
theorem cell_setC {g b j : Nat} {hd bd : Int} {vr vw : Value} {w : World} (h : b ≠ g) : (setC g hd bd vr vw w).cell? ⟨b, j, none⟩ = w.cell? ⟨b, j, none⟩ := by
  unfold setC
  have hx : ∀ (k : Nat) (x : Value) (W : World), (W.setCell ⟨g, k, none⟩ x).cell? ⟨b, j, none⟩ = W.cell? ⟨b, j, none⟩ := fun k x W => by
    rw [World.cell?_setCell_other _ _ _ _ (fun e => by simp only [Addr.mk.injEq] at e; first | exact h e.1 | exact h e.1.symm)]
  rw [hx, hx, hx, hx]
theorem MuAt.setC {α : Type} {sz : Nat} {f : α → List Value} {l : List α} {a : Option Addr} {w : World} {g : Nat} {hd bd : Int} {vr vw : Value} (h : MuAt sz f l a w) (hn : ∀ b o, a = some ⟨b, o, none⟩ → b ≠ g) : MuAt sz f l a (setC g hd bd vr vw w) := fun i hi => by
  obtain ⟨b, o, h1, h2, h3⟩ := h i hi
  refine ⟨b, o, h1, by unfold Proofs.YtbphabgjhoifbaaGreatDoor.setC; simp; exact h2, fun j v hv => ?_⟩
  rw [cell_setC (hn b o h1)]
  exact h3 j v hv
set_option maxRecDepth 100000 in
set_option maxHeartbeats 1000000 in
theorem right_yes (hd bd : Int) (rs : List Rt) (ws : List Wr) (ar : Option Addr) (cr : Nat) (aw : Option Addr) (cw : Nat) (mx : Int) (w : World) (hR : MuAt 6 Rt.cells rs ar w) (hW : MuAt 4 Wr.cells ws aw w) (hro : ∀ r ∈ rs, RtOk r) (hwo : ∀ x ∈ ws, x.n.size ≤ 281474976710656 ∧ x.v.size ≤ 281474976710656) (hm : w.cell? ⟨1, 0, none⟩ = some (.int .i64 mx)) (hE : (cfgE hd bd rs ws).2 = 0) :
    Calls Tryz.prog 7 #[.agg #[.int .i64 hd, .int .i64 bd, .slice ar rs.length cr, .slice aw ws.length cw]] w fun x w' => x = .returned (.agg #[.int .i64 hd, .int .i64 bd, .slice ar rs.length cr, .slice aw ws.length cw]) ∧ Below w.heap.size w w' := by
  have HC := hid (fun W (hb : Below w.heap.size w W) => check_any hd bd rs ws ar cr aw cw mx W (hR.below hb) (hW.below hb) hro hwo (cell_later hb hm))
  rw [cfg_zero hE] at HC
  have hA1 := (Below.refl w.heap.size w).alloc (Nat.le_refl _) (.cells #[.int .i64 hd, .int .i64 bd, .slice ar rs.length cr, .slice aw ws.length cw] 27)
  have hA := hA1.alloc hA1.size (.cells #[.int .i64 0, .int .i64 0, .slice none 0 0, .slice none 0 0] 27)
  have z1 : (w.alloc (.cells #[.int .i64 hd, .int .i64 bd, .slice ar rs.length cr, .slice aw ws.length cw] 27)).heap.size = w.heap.size + 1 := by simp
  have g0 : CfB w.heap.size hd bd (.slice ar rs.length cr) (.slice aw ws.length cw) (w.alloc (.cells #[.int .i64 hd, .int .i64 bd, .slice ar rs.length cr, .slice aw ws.length cw] 27)) := heap_alloc_new w _
  have g1 := g0.below ((Below.refl _ _).alloc (Nat.le_refl _) (.cells #[.int .i64 0, .int .i64 0, .slice none 0 0, .slice none 0 0] 27))
  have h0 : CfB (w.heap.size + 1) 0 0 (.slice none 0 0) (.slice none 0 0) ((w.alloc (.cells #[.int .i64 hd, .int .i64 bd, .slice ar rs.length cr, .slice aw ws.length cw] 27)).alloc (.cells #[.int .i64 0, .int .i64 0, .slice none 0 0, .slice none 0 0] 27)) := by
    rw [← z1]; exact heap_alloc_new _ _
  clear hR hW hro hwo hm hE hA1 g0 z1
  go_enter Tryz.func7, Tryz.ntmps7
  go_wp2_with fail
  generalize (w.alloc (.cells #[.int .i64 hd, .int .i64 bd, .slice ar rs.length cr, .slice aw ws.length cw] 27)).alloc (.cells #[.int .i64 0, .int .i64 0, .slice none 0 0, .slice none 0 0] 27) = w1 at *
  refine (HC.out _ hA).mono ?_
  rintro x w2 ⟨rfl, hb2⟩
  have hB2 := bel_of hA hb2
  have h2 := h0.below hb2
  have g2 := g1.below hb2
  obtain ⟨c0, c1, c2, c3⟩ := h2.cells
  obtain ⟨e0, e1, e2, e3⟩ := g2.cells
  have f0 := h2.free 0
  have f1 := h2.free 1
  have f2 := h2.free 2
  have f3 := h2.free 3
  have l0 := h2.lt
  have l1 := g2.lt
  have H1 := hid (h2.set hd bd (.slice ar rs.length cr) (.slice aw ws.length cw))
  obtain ⟨d0, d1, d2, d3⟩ := H1.out.cells
  unfold setC at d0 d1 d2 d3
  clear HC h0 g1 h2 g2
  go_wp2_with fail
  refine bodyPost_ret (v := .agg #[.int .i64 hd, .int .i64 bd, .slice ar rs.length cr, .slice aw ws.length cw]) (by simp [results, Tryz.results7, go_sem, d0, d1, d2, d3]) rfl ?_
  exact ⟨rfl, below_setC hB2 (Nat.le_succ _)⟩
end Go.Proofs.YtbphabgjhoifbaaGreatDoor

/- The statement's own 'right', where a configuration is not right. -/
namespace Go.Proofs.YtbphabgjhoifbaaGreatDoor
open Go.RowKit

set_option maxRecDepth 100000 in
set_option maxHeartbeats 1000000 in
theorem right_no (hd bd : Int) (rs : List Rt) (ws : List Wr) (ar : Option Addr) (cr : Nat) (aw : Option Addr) (cw : Nat) (mx : Int) (w : World) (hR : MuAt 6 Rt.cells rs ar w) (hW : MuAt 4 Wr.cells ws aw w) (hro : ∀ r ∈ rs, RtOk r) (hwo : ∀ x ∈ ws, x.n.size ≤ 281474976710656 ∧ x.v.size ≤ 281474976710656) (hm : w.cell? ⟨1, 0, none⟩ = some (.int .i64 mx)) (hE : (cfgE hd bd rs ws).2 ≠ 0) :
    Calls Tryz.prog 7 #[.agg #[.int .i64 hd, .int .i64 bd, .slice ar rs.length cr, .slice aw ws.length cw]] w fun x w' => (∃ g, w.heap.size < g ∧ x = .returned (.agg #[.int .i64 200, .int .i64 50, .slice (some ⟨g, 0, none⟩) 3 3, .slice none 0 0]) ∧ MuAt 6 Rt.cells smallR (some ⟨g, 0, none⟩) w') ∧ Below w.heap.size w w' := by
  have HC := hid (fun W (hb : Below w.heap.size w W) => check_any hd bd rs ws ar cr aw cw mx W (hR.below hb) (hW.below hb) hro hwo (cell_later hb hm))
  have HSM := hid small_any
  generalize cfgE hd bd rs ws = E at *
  have hA1 := (Below.refl w.heap.size w).alloc (Nat.le_refl _) (.cells #[.int .i64 hd, .int .i64 bd, .slice ar rs.length cr, .slice aw ws.length cw] 27)
  have hA := hA1.alloc hA1.size (.cells #[.int .i64 0, .int .i64 0, .slice none 0 0, .slice none 0 0] 27)
  have z1 : (w.alloc (.cells #[.int .i64 hd, .int .i64 bd, .slice ar rs.length cr, .slice aw ws.length cw] 27)).heap.size = w.heap.size + 1 := by simp
  have g0 : CfB w.heap.size hd bd (.slice ar rs.length cr) (.slice aw ws.length cw) (w.alloc (.cells #[.int .i64 hd, .int .i64 bd, .slice ar rs.length cr, .slice aw ws.length cw] 27)) := heap_alloc_new w _
  have g1 := g0.below ((Below.refl _ _).alloc (Nat.le_refl _) (.cells #[.int .i64 0, .int .i64 0, .slice none 0 0, .slice none 0 0] 27))
  have h0 : CfB (w.heap.size + 1) 0 0 (.slice none 0 0) (.slice none 0 0) ((w.alloc (.cells #[.int .i64 hd, .int .i64 bd, .slice ar rs.length cr, .slice aw ws.length cw] 27)).alloc (.cells #[.int .i64 0, .int .i64 0, .slice none 0 0, .slice none 0 0] 27)) := by
    rw [← z1]; exact heap_alloc_new _ _
  clear hR hW hro hwo hm hA1 g0 z1
  go_enter Tryz.func7, Tryz.ntmps7
  go_wp2_with fail
  generalize (w.alloc (.cells #[.int .i64 hd, .int .i64 bd, .slice ar rs.length cr, .slice aw ws.length cw] 27)).alloc (.cells #[.int .i64 0, .int .i64 0, .slice none 0 0, .slice none 0 0] 27) = w1 at *
  refine (HC.out _ hA).mono ?_
  rintro x w2 ⟨rfl, hb2⟩
  have hB2 := bel_of hA hb2
  have h2 := h0.below hb2
  obtain ⟨en, ee⟩ := E
  simp only at hE
  have hq : (ee != 0) = true := by simpa using hE
  clear HC h0 g1 hE
  go_wp2_with fail
  refine (HSM.out _).mono ?_
  rintro x w3 ⟨⟨g, hg, rfl, hmu⟩, hb3⟩
  have hB3 := bel_of hB2 hb3
  have h3 := h2.below hb3
  have hl2 := h2.lt
  obtain ⟨c0, c1, c2, c3⟩ := h3.cells
  have f0 := h3.free 0
  have f1 := h3.free 1
  have f2 := h3.free 2
  have f3 := h3.free 3
  have l0 := h3.lt
  have H1 := hid (h3.set 200 50 (.slice (some ⟨g, 0, none⟩) 3 3) (.slice none 0 0))
  obtain ⟨d0, d1, d2, d3⟩ := H1.out.cells
  unfold setC at d0 d1 d2 d3
  have HMU := hid hmu
  clear hmu h2 HSM
  go_wp2_with fail
  refine bodyPost_ret (v := .agg #[.int .i64 200, .int .i64 50, .slice (some ⟨g, 0, none⟩) 3 3, .slice none 0 0]) (by simp [results, Tryz.results7, go_sem, d0, d1, d2, d3]) rfl ?_
  exact ⟨⟨g, Nat.lt_of_le_of_lt hB2.size hg, rfl, MuAt.setC (hd := 200) (bd := 50) (vr := .slice (some ⟨g, 0, none⟩) 3 3) (vw := .slice none 0 0) HMU.out (fun b o e => by simp only [Option.some.injEq, Addr.mk.injEq] at e; omega)⟩, below_setC hB3 (Nat.le_succ _)⟩
end Go.Proofs.YtbphabgjhoifbaaGreatDoor

/- All blocks but some stay; a row of bytes that begins anywhere in its block, and what append makes of it. -/
namespace Go.Proofs.YtbphabgjhoifbaaGreatDoor
open Go.RowKit

def Kx (L : List Nat) (w w' : World) : Prop := Below 0 w w' ∧ ∀ k, k < w.heap.size → k ∉ L → w'.heap[k]? = w.heap[k]?
theorem Kx.refl (L : List Nat) (w : World) : Kx L w w := ⟨Below.refl _ _, fun _ _ _ => rfl⟩
theorem Kx.size {L : List Nat} {w w' : World} (h : Kx L w w') : w.heap.size ≤ w'.heap.size := h.1.size
theorem Kx.of {L : List Nat} {w w' : World} (h : Below w.heap.size w w') : Kx L w w' := ⟨h.mono (Nat.zero_le _), fun k hk _ => h.block k hk⟩
theorem Kx.trans {L M : List Nat} {w w1 w2 : World} (h : Kx L w w1) (k : Kx M w1 w2) (hs : ∀ b ∈ M, b ∈ L ∨ w.heap.size ≤ b) : Kx L w w2 :=
  ⟨h.1.trans k.1, fun b hb hn => by
    rw [k.2 b (Nat.lt_of_lt_of_le hb h.size) (fun hm => by rcases hs b hm with q | q; exact hn q; omega), h.2 b hb hn]⟩
theorem Kx.next {L : List Nat} {w w1 w2 : World} (h : Kx L w w1) (k : Below w1.heap.size w1 w2) : Kx L w w2 := h.trans (Kx.of (L := []) k) (fun b hb => by simp at hb)
theorem Kx.mono {L M : List Nat} {w w' : World} (h : Kx L w w') (hs : ∀ b ∈ L, b ∈ M ∨ w.heap.size ≤ b) : Kx M w w' :=
  (Kx.refl M w).trans h hs
theorem Kx.below {L : List Nat} {w w' : World} (h : Kx L w w') {B : Nat} (hL : ∀ b ∈ L, B ≤ b) (hB : B ≤ w.heap.size) : Below B w w' :=
  ⟨h.1.os, h.1.tape, h.1.output, h.1.size, fun k hk => h.2 k (by omega) (fun hm => by have := hL k hm; omega)⟩
theorem Kx.set {L : List Nat} {w : World} (p : Addr) (v : Value) (h : p.block ∈ L) : Kx L w (w.setCell p v) :=
  ⟨(Below.refl 0 w).setCell (Nat.zero_le _) v, fun _ _ hn => Below.heap_setCell _ _ _ _ (fun e => hn (e ▸ h))⟩
theorem Kx.grown {L : List Nat} {w w' : World} {row : Option Nat} (hg : w.grownBy w' row) (hr : ∀ k, row = some k → k ∈ L) : Kx L w w' :=
  ⟨⟨hg.os, hg.tape, hg.output, hg.size, fun _ hk => by omega⟩, fun k hk hn => hg.block k hk (fun e => hn (hr k e.symm))⟩
theorem Kx.heap {L : List Nat} {w w' : World} (h : Kx L w w') {k : Nat} {o : Obj} (hk : w.heap[k]? = some o) (hn : k ∉ L) : w'.heap[k]? = some o := by
  rw [h.2 k ?_ hn]; exact hk
  rcases Nat.lt_or_ge k w.heap.size with q | q
  · exact q
  · simp [Array.getElem?_eq_none q] at hk
theorem heap_lt {w : World} {k : Nat} {o : Obj} (hk : w.heap[k]? = some o) : k < w.heap.size := by
  rcases Nat.lt_or_ge k w.heap.size with q | q
  · exact q
  · simp [Array.getElem?_eq_none q] at hk
/- a row of single cells from anywhere in its block -/
def OwnO (B : Nat) (e : TypeId) (v : Value) (xs : List Value) (w : World) : Prop :=
  (v = .slice none 0 0 ∧ xs = []) ∨
   ∃ g off cap cur, v = .slice (some ⟨g, off, none⟩) xs.length cap ∧ B ≤ g ∧ w.heap[g]? = some (.cells cur e (0, 0)) ∧ xs.length ≤ cap ∧ cap ≤ maxLen ∧ off + cap ≤ cur.size ∧ (cur.toList.drop off).take xs.length = xs
theorem OwnO.nil (B : Nat) (e : TypeId) (w : World) : OwnO B e (.slice none 0 0) [] w := .inl ⟨rfl, rfl⟩
theorem OwnO.keep {B : Nat} {e : TypeId} {v : Value} {xs : List Value} {w w' : World} (h : OwnO B e v xs w) (hk : ∀ r, v.ownBlock = some r → w'.heap[r]? = w.heap[r]?) : OwnO B e v xs w' := by
  rcases h with h | ⟨g, off, cap, cur, rfl, h1, h2, h3⟩
  · exact .inl h
  · exact .inr ⟨g, off, cap, cur, rfl, h1, by rw [hk g rfl]; exact h2, h3⟩
theorem OwnO.lt {B : Nat} {e : TypeId} {v : Value} {xs : List Value} {w : World} (h : OwnO B e v xs w) {r : Nat} (hr : v.ownBlock = some r) : B ≤ r ∧ r < w.heap.size := by
  rcases h with ⟨rfl, _⟩ | ⟨g, off, cap, cur, rfl, h1, h2, h3⟩
  · simp [Value.ownBlock] at hr
  · simp [Value.ownBlock] at hr; subst hr; exact ⟨h1, heap_lt h2⟩
theorem OwnO.kx {B : Nat} {e : TypeId} {v : Value} {xs : List Value} {w w' : World} (h : OwnO B e v xs w) {L : List Nat} (hk : Kx L w w') (hn : ∀ r, v.ownBlock = some r → r ∉ L) : OwnO B e v xs w' :=
  h.keep fun r hr => hk.2 r (h.lt hr).2 (hn r hr)
theorem OwnO.below {B : Nat} {e : TypeId} {v : Value} {xs : List Value} {w w' : World} (h : OwnO B e v xs w) (hb : Below w.heap.size w w') : OwnO B e v xs w' :=
  h.keep fun r hr => hb.block r (h.lt hr).2
theorem OwnO.sl {B : Nat} {e : TypeId} {v : Value} {xs : List Value} {w : World} (h : OwnO B e v xs w) : ∃ a c, v = .slice a xs.length c := by
  rcases h with ⟨rfl, rfl⟩ | ⟨g, off, cap, cur, rfl, _⟩
  · exact ⟨_, _, rfl⟩
  · exact ⟨_, _, rfl⟩
theorem OwnO.cell {B : Nat} {e : TypeId} {xs : List Value} {w : World} {g off cap : Nat} {n : Nat} (h : OwnO B e (.slice (some ⟨g, off, none⟩) n cap) xs w) (j : Nat) (v : Value) (hj : xs[j]? = some v) : w.cell? ⟨g, off + j, none⟩ = some v := by
  rcases h with ⟨h, _⟩ | ⟨g', off', cap', cur, h0, h1, h2, h3, h4, h5, h6⟩
  · simp at h
  · simp only [Value.slice.injEq, Option.some.injEq, Addr.mk.injEq, and_true] at h0
    obtain ⟨⟨rfl, rfl⟩, rfl, rfl⟩ := h0
    rw [Lib.cell_of_heap h2]
    rw [← h6, List.getElem?_take, List.getElem?_drop] at hj
    split at hj
    · simpa using hj
    · simp at hj
section
variable {P : Program} (w : World)
theorem run_append_roomO (t u ty e : TypeId) (i : TypeInfo) (ht : P.underlying t = some (.slice e)) (hu : P.underlying u = some .string) (hi : P.info? e = some i) (hs1 : i.size = 1)
    (g off sLen sCap : Nat) (cur : Array Value) (hg : w.heap[g]? = some (.cells cur e (0, 0))) (s : ByteArray)
    (hroom : sLen + s.size ≤ sCap) (hfit : off + sLen + s.size ≤ cur.size) :
    (Builtin.append_ #[t, u] ty #[.slice (some ⟨g, off, none⟩) sLen sCap, .string s]).run P w =
      .ok (.slice (some ⟨g, off, none⟩) (sLen + s.size) sCap) (w.setRow g (cur.toList.take (off + sLen) ++ Lib.strCells s ++ cur.toList.drop (off + sLen + s.size)).toArray) := by
  have hf := Lib.run_firstCells_string (P := P) w 1 s
  have hst := run_storeCells_at P g (off + sLen) e (Lib.strCells s) 0 cur w hg (by simpa [Lib.strCells_length] using hfit) (Lib.strCells_oneCell s)
  simp only [Nat.add_zero, Lib.strCells_length] at hst
  simp [Builtin.append_, run_underlying ht, run_underlying hu, sizeOf, typeInfo, hi, hs1, Builtin.lenOf, hroom, hf, Addr.add_lit, hst]
theorem run_append_ownO (B : Nat) (t u ty e : TypeId) (i : TypeInfo) (ht : P.underlying t = some (.slice e)) (hu : P.underlying u = some .string) (hi : P.info? e = some i) (hz : i.zero = some (.int .u8 0))
    (hsize : i.size = 1) (hby : i.bytes = 1)
    (v : Value) (xs : List Value) (hown : OwnO B e v xs w) (s : ByteArray)
    (hbytes : xs.length + s.size ≤ 140737488355328) (hB : B ≤ w.heap.size) :
    ∃ v' w', (Builtin.append_ #[t, u] ty #[v, .string s]).run P w = .ok v' w' ∧ OwnO B e v' (xs ++ Lib.strCells s) w' ∧ w.grownBy w' v.ownBlock ∧ ∀ r, v'.ownBlock = some r → v.ownBlock = some r ∨ w.heap.size ≤ r := by
  have hmx : xs.length + s.size ≤ maxLen := by unfold maxLen; omega
  rcases hown with ⟨rfl, rfl⟩ | ⟨g, off, cap, cur, rfl, h1, h2, h3, h4, h5, h6⟩
  · obtain ⟨v', w', k1, k2, k3, k4⟩ := Lib.run_append_own_string (P := P) w w.heap.size t u ty e i ht hu hi hz hsize hby (.slice none 0 0) 0 [] (World.ownsRow_nil w w.heap.size e 1) s (by simpa using hmx) (by simpa using hbytes) (Nat.le_refl _)
    refine ⟨v', w', k1, ?_, k3, ?_⟩
    · rcases k2.2 with ⟨q1, q2⟩ | ⟨g, cap, cur, q1, q2, q3, q4, q5, q6, q7⟩
      · have : s.size = 0 := by omega
        refine .inl ⟨q1, ?_⟩
        exact List.eq_nil_of_length_eq_zero (by simp [Lib.strCells_length, this])
      · refine .inr ⟨g, 0, cap, cur, ?_, by omega, q3, ?_, q5, by omega, ?_⟩
        · rw [q1]; simp [Lib.strCells_length]
        · simp [Lib.strCells_length]; omega
        · rw [List.drop_zero, List.nil_append, Lib.strCells_length]
          simpa using q7
    · intro r hr
      rcases k2.2 with ⟨q1, q2⟩ | ⟨g, cap, cur, q1, q2, q3, q4⟩
      · rw [q1] at hr; simp [Value.ownBlock] at hr
      · rw [q1] at hr; simp [Value.ownBlock] at hr; omega
  · by_cases hroom : xs.length + s.size ≤ cap
    · have hr := run_append_roomO (P := P) w t u ty e i ht hu hi hsize g off xs.length cap cur h2 s hroom (by omega)
      refine ⟨_, _, hr, .inr ⟨g, off, cap, _, ?_, h1, setRow_heap w g cur _ e _ h2, ?_, h4, ?_, ?_⟩, ⟨rfl, rfl, rfl, by simp, fun k _ hk => setRow_other w g k _ (fun e => hk (by simp [Value.ownBlock, e]))⟩, fun r hr => .inl hr⟩
      · simp [Lib.strCells_length]
      · simp [Lib.strCells_length]; omega
      · simp only [List.size_toArray, List.length_append, List.length_take, List.length_drop, Array.length_toList, Lib.strCells_length]
        omega
      · have e1 : cur.toList.take (off + xs.length) = cur.toList.take off ++ xs := by
          rw [List.take_add, h6]
        simp only [e1, List.append_assoc]
        rw [List.drop_append_of_le_length (by simp; omega), List.drop_take, Nat.sub_self, List.take_zero, List.nil_append, ← List.append_assoc]
        exact List.take_left
    · have holds : ∀ j u, xs[j]? = some u → w.cell? ((⟨g, off, none⟩ : Addr).add j) = some u := fun j u hj => by
        rw [Addr.add_lit]
        exact OwnO.cell (B := B) (e := e) (n := xs.length) (cap := cap) (.inr ⟨g, off, cap, cur, rfl, h1, h2, h3, h4, h5, h6⟩) j u hj
      have hr := Lib.run_append_grow_string (P := P) w t u ty e i (.int .u8 0) ht hu hi hz ⟨g, off, none⟩ xs.length cap xs (by rw [hsize, Nat.mul_one]) holds s (by omega) (by omega) (by rw [hby]; exact growslice_fits (by omega) (by omega))
      have hge := grownCap_ge w (xs.length + s.size) cap e
      have hcm : grownCap w (xs.length + s.size) cap e ≤ maxLen := grownCap_le_maxLen w (xs.length + s.size) cap e hmx
      refine ⟨_, _, hr, .inr ⟨w.heap.size, 0, _, _, ?_, hB, heap_alloc_new w.drew _, ?_, hcm, ?_, ?_⟩, ⟨rfl, rfl, rfl, by simp, fun k hk _ => Below.heap_alloc w.drew _ k hk⟩, fun r hr => .inr ?_⟩
      · simp [Lib.strCells_length]
      · simp [Lib.strCells_length]; omega
      · have hz1 : (Value.int IntKind.u8 0).cells.size = 1 := rfl
        simp only [Array.size_append, List.size_toArray, size_zeroCells, hz1, Lib.strCells_length]
        omega
      · simp only [Array.toList_append, List.drop_zero]
        exact List.take_left
      · simp [Value.ownBlock] at hr; omega
theorem wpList_append_ownO {ops : Array Oper} {rest : List Oper} {o : Oper} {a : Act} {Q : Exit → Act → World → Prop} (hgd : o.guard = none) (sl x : Operand) (t u : TypeId)
    (ho : o.op = .call { callee := .builtin .append, args := #[sl, x], argTypes := #[t, u] })
    (B : Nat) (e : TypeId) (i : TypeInfo) (ht : P.underlying t = some (.slice e)) (hu : P.underlying u = some .string) (hi : P.info? e = some i) (hz : i.zero = some (.int .u8 0))
    (hsize : i.size = 1) (hby : i.bytes = 1)
    (v : Value) (xs : List Value) (hs : a.eval sl = v) (hown : OwnO B e v xs w) (s : ByteArray) (hx : a.eval x = .string s)
    (hbytes : xs.length + s.size ≤ 140737488355328) (hB : B ≤ w.heap.size)
    (h : ∀ v' w', OwnO B e v' (xs ++ Lib.strCells s) w' → w.grownBy w' v.ownBlock → (∀ r, v'.ownBlock = some r → v.ownBlock = some r ∨ w.heap.size ≤ r) → wpList P ops Q rest (a.put o.dst v') w') : wpList P ops Q (o :: rest) a w := by
  refine wpList_plain hgd fun K hK => ?_
  obtain ⟨v', w', hr, h2, h3, h4⟩ := run_append_ownO (P := P) w B t u o.type e i ht hu hi hz hsize hby v xs hown s hbytes hB
  unfold Oper.wp execOp
  simp only [ho, resolve, invoke, builtin, Sem.run_bind, Sem.run_pure, Result.andThen_ok, List.map_toArray, List.map_cons, List.map_nil, hs, hx, hr]
  exact hK _ _ (h v' w' h2 h3 h4)
end
end Go.Proofs.YtbphabgjhoifbaaGreatDoor

/- The library's lock, at this program's numbers. -/
namespace Go.Proofs
abbrev Tryz.muLink : Go.Conc.Locks.MuLink := { lock := 92, unlock := 93, ilock := 122, iunlock := 123, lockSlow := 160, unlockSlow := 163, disable := 156, enable := 158, acquire := 159, relMerge := 161, cas32 := 157, add32 := 162, tMutex := 103, tIMutex := 101, tPMutex := 207, tPIMutex := 240, tPI32 := 242, tUP := 192, tNoCopy := 98, tU32 := 99 }
theorem Tryz.muLib : Go.Conc.Locks.MuLib Tryz.prog Tryz.muLink :=
  ⟨Tryz.func92, Tryz.func93, Tryz.func122, Tryz.func123, Tryz.func156, Tryz.func158, Tryz.func159, Tryz.func161, Tryz.func157, Tryz.func162,
   Tryz.underlying101, Tryz.runUnderlying101, Tryz.sizeOf101, Tryz.isAgg101, Tryz.zeroValue101,
   Tryz.underlying103, Tryz.runUnderlying103, Tryz.sizeOf103, Tryz.isAgg103, Tryz.zeroValue103,
   Tryz.underlying207, Tryz.runUnderlying207, Tryz.sizeOf207, Tryz.isAgg207, Tryz.zeroValue207,
   Tryz.underlying240, Tryz.runUnderlying240, Tryz.sizeOf240, Tryz.isAgg240, Tryz.zeroValue240,
   Tryz.underlying242, Tryz.runUnderlying242, Tryz.sizeOf242, Tryz.isAgg242, Tryz.zeroValue242,
   Tryz.underlying192, Tryz.runUnderlying192, Tryz.sizeOf192, Tryz.isAgg192, Tryz.zeroValue192,
   Tryz.underlying98, Tryz.runUnderlying98, Tryz.sizeOf98, Tryz.isAgg98, Tryz.zeroValue98,
   Tryz.underlying21, Tryz.runUnderlying21, Tryz.sizeOf21, Tryz.isAgg21, Tryz.zeroValue21, (by kernel_rfl)⟩
end Go.Proofs

/- A server and a connection in memory. -/
namespace Go.Proofs.YtbphabgjhoifbaaGreatDoor
open Go.RowKit

/- a server: its block, its site's, its counts', its limits, and the world in which its site was made -/
structure Sv where
  s : Nat
  gs : Nat
  h : Nat
  hd : Int
  bd : Int
  w1 : World
abbrev hv (h : Nat) (n : Nat) : Value := .slice (some ⟨h, 0, none⟩) n n
abbrev svC (V : Sv) (m : Int) (n : Nat) : Array Value := #[.int .i64 V.hd, .int .i64 V.bd, .pointer (some ⟨V.gs, 0, none⟩), .int .i32 m, .int .u32 0, hv V.h n]
abbrev hiC (hs : List Int) : Array Value := (hs.map (Value.int .i64)).toArray
structure SvI (V : Sv) (hs : List Int) (w : World) : Prop where
  bel : Below V.w1.heap.size V.w1 w
  blk : w.heap[V.s]? = some (.cells (svC V 0 hs.length) 105 (0, 0))
  hit : w.heap[V.h]? = some (.cells (hiC hs) 3 (0, 0))
  ge1 : V.w1.heap.size ≤ V.s
  ge2 : V.w1.heap.size ≤ V.h
  ne : V.s ≠ V.h
abbrev cnC (V : Sv) (held : ByteArray) (vo : Value) (rq : Nat) (cl : Bool) : Array Value := #[.pointer (some ⟨V.s, 0, none⟩), .string held, vo, .int .i64 rq, .bool cl]
structure CnI (V : Sv) (c : Nat) (vo : Value) (held : ByteArray) (out : List UInt8) (rq : Nat) (cl : Bool) (w : World) : Prop where
  blk : w.heap[c]? = some (.cells (cnC V held vo rq cl) 96 (0, 0))
  out : OwnO V.w1.heap.size 5 vo (Lib.byteCells out) w
  ge : V.w1.heap.size ≤ c
  n1 : c ≠ V.s
  n2 : c ≠ V.h
  o1 : vo.ownBlock ≠ some c
  o2 : vo.ownBlock ≠ some V.s
  o3 : vo.ownBlock ≠ some V.h
theorem SvI.kx {V : Sv} {hs : List Int} {w w' : World} (h : SvI V hs w) {L : List Nat} (hk : Kx L w w') (hL : ∀ b ∈ L, V.w1.heap.size ≤ b) (h1 : V.s ∉ L) (h2 : V.h ∉ L) : SvI V hs w' :=
  ⟨h.bel.trans (hk.below hL h.bel.size), hk.heap h.blk h1, hk.heap h.hit h2, h.ge1, h.ge2, h.ne⟩
theorem SvI.below {V : Sv} {hs : List Int} {w w' : World} (h : SvI V hs w) (hb : Below w.heap.size w w') : SvI V hs w' :=
  h.kx (L := []) (Kx.of hb) (fun b hb => by simp at hb) (by simp) (by simp)
theorem CnI.kx {V : Sv} {c : Nat} {vo : Value} {held : ByteArray} {out : List UInt8} {rq : Nat} {cl : Bool} {w w' : World} (h : CnI V c vo held out rq cl w) {L : List Nat} (hk : Kx L w w') (h1 : c ∉ L) (h2 : ∀ r, vo.ownBlock = some r → r ∉ L) : CnI V c vo held out rq cl w' :=
  ⟨hk.heap h.blk h1, h.out.kx hk h2, h.ge, h.n1, h.n2, h.o1, h.o2, h.o3⟩
theorem CnI.below {V : Sv} {c : Nat} {vo : Value} {held : ByteArray} {out : List UInt8} {rq : Nat} {cl : Bool} {w w' : World} (h : CnI V c vo held out rq cl w) (hb : Below w.heap.size w w') : CnI V c vo held out rq cl w' :=
  h.kx (L := []) (Kx.of hb) (by simp) (fun r _ => by simp)
theorem SvI.ls {V : Sv} {hs : List Int} {w : World} (h : SvI V hs w) : V.s < w.heap.size := heap_lt h.blk
theorem SvI.lh {V : Sv} {hs : List Int} {w : World} (h : SvI V hs w) : V.h < w.heap.size := heap_lt h.hit
theorem CnI.lt {V : Sv} {c : Nat} {vo : Value} {held : ByteArray} {out : List UInt8} {rq : Nat} {cl : Bool} {w : World} (h : CnI V c vo held out rq cl w) : c < w.heap.size := heap_lt h.blk
theorem SvI.cells {V : Sv} {hs : List Int} {w : World} (h : SvI V hs w) : w.cell? ⟨V.s, 0, none⟩ = some (.int .i64 V.hd) ∧ w.cell? ⟨V.s, 1, none⟩ = some (.int .i64 V.bd) ∧ w.cell? ⟨V.s, 2, none⟩ = some (.pointer (some ⟨V.gs, 0, none⟩)) ∧ w.cell? ⟨V.s, 3, none⟩ = some (.int .i32 0) ∧ w.cell? ⟨V.s, 4, none⟩ = some (.int .u32 0) ∧ w.cell? ⟨V.s, 5, none⟩ = some (hv V.h hs.length) := by
  refine ⟨?_, ?_, ?_, ?_, ?_, ?_⟩ <;> (rw [Lib.cell_of_heap h.blk]; rfl)
theorem CnI.cells {V : Sv} {c : Nat} {vo : Value} {held : ByteArray} {out : List UInt8} {rq : Nat} {cl : Bool} {w : World} (h : CnI V c vo held out rq cl w) : w.cell? ⟨c, 0, none⟩ = some (.pointer (some ⟨V.s, 0, none⟩)) ∧ w.cell? ⟨c, 1, none⟩ = some (.string held) ∧ w.cell? ⟨c, 2, none⟩ = some vo ∧ w.cell? ⟨c, 3, none⟩ = some (.int .i64 rq) ∧ w.cell? ⟨c, 4, none⟩ = some (.bool cl) := by
  refine ⟨?_, ?_, ?_, ?_, ?_⟩ <;> (rw [Lib.cell_of_heap h.blk]; rfl)
/- what a call on a connection may change -/
abbrev cnL (V : Sv) (c : Nat) (vo : Value) : List Nat := [V.s, V.h, c] ++ vo.ownBlock.toList
end Go.Proofs.YtbphabgjhoifbaaGreatDoor
