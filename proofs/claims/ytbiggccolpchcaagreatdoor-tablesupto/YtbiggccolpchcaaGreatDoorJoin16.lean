/- Texts that follow one another, joined. -/
import Derived.Test.YtbiggccolpchcaaGreatDoorJoin15
import Derived.Deep.RegionHeld3
/- Right handlers and wares, and their copies; nothing old in memory turns. -/
namespace Go.Proofs.YtbiggccolpchcaaGreatDoor
open Go.RowKit

def hndB (k st : Int) (t : List UInt8) : Bool := decide (200 ≤ st ∧ st ≤ 599 ∧ t.length ≤ 100) && (if k = 3 then labB t else decide (k = 0 ∨ k = 1 ∨ k = 2 ∨ k = 4))
def wareB (k : Int) (n v : List UInt8) (lim : Int) : Bool := decide (n.length ≤ 100 ∧ v.length ≤ 100) && (if k = 0 ∨ k = 4 then labB n else if k = 1 then Pm.isTok n else if k = 2 then decide (0 ≤ lim) else decide (k = 3))
set_option maxRecDepth 100000 in
set_option maxHeartbeats 4000000 in
theorem rightHandler_any (k st : Int) (t n : ByteArray) (w : World) (ht : t.size ≤ maxLen) :
    Calls Tryz.prog 249 #[.agg #[.int .i64 k, .int .i64 st, .string t, .string n]] w fun e w' => e = .returned (.bool (hndB k st t.data.toList)) ∧ Below w.heap.size w w' := by
  have HL := hid (fun W => isLabel_any t W ht)
  have hA := (Below.refl w.heap.size w).alloc (Nat.le_refl _) (.cells #[.int .i64 k, .int .i64 st, .string t, .string n] 73)
  have HH : Hid (hndB k st t.data.toList = (decide (200 ≤ st ∧ st ≤ 599 ∧ t.size ≤ 100) && (if k = 3 then labB t.data.toList else decide (k = 0 ∨ k = 1 ∨ k = 2 ∨ k = 4)))) := by
    unfold Hid hndB; rw [show t.data.toList.length = t.size from by simp]
  by_cases h1 : st < 200
  · go_enter Tryz.func249, Tryz.ntmps249
    go_wp2
    go_ret
    exact ⟨ret_bool (by rw [HH.out, decide_eq_false (by omega)]; rfl), hA⟩
  · by_cases h2 : st > 599
    · go_enter Tryz.func249, Tryz.ntmps249
      go_wp2
      go_ret
      exact ⟨ret_bool (by rw [HH.out, decide_eq_false (by omega)]; rfl), hA⟩
    · by_cases h3 : (t.size : Int) > 100
      · go_enter Tryz.func249, Tryz.ntmps249
        go_wp2
        go_ret
        exact ⟨ret_bool (by rw [HH.out, decide_eq_false (by omega)]; rfl), hA⟩
      · have HT : Hid (hndB k st t.data.toList = (if k = 3 then labB t.data.toList else decide (k = 0 ∨ k = 1 ∨ k = 2 ∨ k = 4))) := by
          unfold Hid; rw [HH.out, decide_eq_true (by omega)]; simp
        clear HH
        have hk : k = 0 ∨ k = 1 ∨ k = 2 ∨ k = 3 ∨ k = 4 ∨ (k ≠ 0 ∧ k ≠ 1 ∧ k ≠ 2 ∧ k ≠ 3 ∧ k ≠ 4) := by omega
        rcases hk with rfl | rfl | rfl | rfl | rfl | ⟨k0, k1, k2, k3, k4⟩
        case inr.inr.inr.inl =>
          go_enter Tryz.func249, Tryz.ntmps249
          go_wp2_with fail
          refine (HL.out _).mono ?_
          rintro e w1 ⟨rfl, hb1⟩
          have hB1 := bel_of hA hb1
          go_wp2
          go_ret
          exact ⟨ret_bool (by rw [HT.out]; simp), hB1⟩
        case inr.inr.inr.inr.inr =>
          go_enter Tryz.func249, Tryz.ntmps249
          go_wp2
          go_ret
          exact ⟨ret_bool (by rw [HT.out, if_neg k3, decide_eq_false (by omega)]), hA⟩
        all_goals
          go_enter Tryz.func249, Tryz.ntmps249
          go_wp2
          go_ret
          exact ⟨ret_bool (by rw [HT.out]; rfl), hA⟩
set_option maxRecDepth 100000 in
set_option maxHeartbeats 4000000 in
theorem rightWare_any (k lim : Int) (n v : ByteArray) (w : World) (hn : n.size ≤ maxLen) :
    Calls Tryz.prog 199 #[.agg #[.int .i64 k, .string n, .string v, .int .i64 lim]] w fun e w' => e = .returned (.bool (wareB k n.data.toList v.data.toList lim)) ∧ Below w.heap.size w w' := by
  have HL := hid (fun W => isLabel_any n W hn)
  have HK := hid (fun W => wIsToken_any n W hn)
  have hA := (Below.refl w.heap.size w).alloc (Nat.le_refl _) (.cells #[.int .i64 k, .string n, .string v, .int .i64 lim] 241)
  have HH : Hid (wareB k n.data.toList v.data.toList lim = (decide (n.size ≤ 100 ∧ v.size ≤ 100) && (if k = 0 ∨ k = 4 then labB n.data.toList else if k = 1 then Pm.isTok n.data.toList else if k = 2 then decide (0 ≤ lim) else decide (k = 3)))) := by
    unfold Hid wareB; rw [show n.data.toList.length = n.size from by simp, show v.data.toList.length = v.size from by simp]
  by_cases h1 : (n.size : Int) > 100
  · go_enter Tryz.func199, Tryz.ntmps199
    go_wp2
    go_ret
    exact ⟨ret_bool (by rw [HH.out, decide_eq_false (by omega)]; rfl), hA⟩
  · by_cases h2 : (v.size : Int) > 100
    · go_enter Tryz.func199, Tryz.ntmps199
      go_wp2
      go_ret
      exact ⟨ret_bool (by rw [HH.out, decide_eq_false (by omega)]; rfl), hA⟩
    · have HT : Hid (wareB k n.data.toList v.data.toList lim = (if k = 0 ∨ k = 4 then labB n.data.toList else if k = 1 then Pm.isTok n.data.toList else if k = 2 then decide (0 ≤ lim) else decide (k = 3))) := by
        unfold Hid; rw [HH.out, decide_eq_true (by omega)]; simp
      clear HH
      have hk : k = 0 ∨ k = 4 ∨ k = 1 ∨ k = 2 ∨ k = 3 ∨ (k ≠ 0 ∧ k ≠ 1 ∧ k ≠ 2 ∧ k ≠ 3 ∧ k ≠ 4) := by omega
      rcases hk with rfl | rfl | rfl | rfl | rfl | ⟨k0, k1, k2, k3, k4⟩
      · go_enter Tryz.func199, Tryz.ntmps199
        go_wp2_with fail
        refine (HL.out _).mono ?_
        rintro e w1 ⟨rfl, hb1⟩
        have hB1 := bel_of hA hb1
        go_wp2
        go_ret
        exact ⟨ret_bool (by rw [HT.out]; simp), hB1⟩
      · go_enter Tryz.func199, Tryz.ntmps199
        go_wp2_with fail
        refine (HL.out _).mono ?_
        rintro e w1 ⟨rfl, hb1⟩
        have hB1 := bel_of hA hb1
        go_wp2
        go_ret
        exact ⟨ret_bool (by rw [HT.out]; simp), hB1⟩
      · go_enter Tryz.func199, Tryz.ntmps199
        go_wp2_with fail
        refine (HK.out _).mono ?_
        rintro e w1 ⟨rfl, hw1⟩
        subst hw1
        go_wp2
        go_ret
        exact ⟨ret_bool (by rw [HT.out]; simp), hA⟩
      · go_enter Tryz.func199, Tryz.ntmps199
        go_wp2
        go_ret
        exact ⟨ret_bool (by rw [HT.out]; simp), hA⟩
      · go_enter Tryz.func199, Tryz.ntmps199
        go_wp2
        go_ret
        exact ⟨ret_bool (by rw [HT.out]; rfl), hA⟩
      · go_enter Tryz.func199, Tryz.ntmps199
        go_wp2
        go_ret
        exact ⟨ret_bool (by rw [HT.out, if_neg (by omega), if_neg k1, if_neg k2, decide_eq_false k3]), hA⟩
def HnB (g : Nat) (k st : Int) (t n : ByteArray) (w : World) : Prop := w.heap[g]? = some (.cells #[.int .i64 k, .int .i64 st, .string t, .string n] 73 (0, 0))
theorem HnB.cells {g : Nat} {k st : Int} {t n : ByteArray} {w : World} (h : HnB g k st t n w) : w.cell? ⟨g, 0, none⟩ = some (.int .i64 k) ∧ w.cell? ⟨g, 1, none⟩ = some (.int .i64 st) ∧ w.cell? ⟨g, 2, none⟩ = some (.string t) ∧ w.cell? ⟨g, 3, none⟩ = some (.string n) := by
  refine ⟨?_, ?_, ?_, ?_⟩ <;> (rw [Lib.cell_of_heap h]; rfl)
theorem HnB.free {g : Nat} {k st : Int} {t n : ByteArray} {w : World} (h : HnB g k st t n w) (j : Nat) : w.frozen? ⟨g, j, none⟩ = false := Lib.frozen_of_heap h j
theorem HnB.lt {g : Nat} {k st : Int} {t n : ByteArray} {w : World} (h : HnB g k st t n w) : g < w.heap.size := block_lt_of_cell h.cells.1
theorem HnB.below {g : Nat} {k st : Int} {t n : ByteArray} {w w' : World} (h : HnB g k st t n w) (hb : Below w.heap.size w w') : HnB g k st t n w' := by
  have := hb.block g h.lt; unfold HnB at *; rw [this]; exact h
theorem HnB.set2 {g : Nat} {k st : Int} {t n : ByteArray} {w : World} (h : HnB g k st t n w) (t' : ByteArray) : HnB g k st t' n (w.setCell ⟨g, 2, none⟩ (.string t')) := by
  unfold HnB at *; rw [heap_setCell_same w g 2 _ _ _ h]; rfl
theorem HnB.set3 {g : Nat} {k st : Int} {t n : ByteArray} {w : World} (h : HnB g k st t n w) (n' : ByteArray) : HnB g k st t n' (w.setCell ⟨g, 3, none⟩ (.string n')) := by
  unfold HnB at *; rw [heap_setCell_same w g 3 _ _ _ h]; rfl
theorem HnB.other {g' : Nat} {k st : Int} {t n : ByteArray} {w : World} (h : HnB g' k st t n w) {g : Nat} (hg : g' ≠ g) (o : Nat) (v : Value) : HnB g' k st t n (w.setCell ⟨g, o, none⟩ v) := by
  unfold HnB at *; rw [heap_setCell_other w ⟨g, o, none⟩ g' v hg]; exact h
structure ChI (w : World) (k st : Int) (t n : ByteArray) (W : World) : Prop where
  h : HnB w.heap.size k st t n W
  r : HnB (w.heap.size + 1) 0 0 ⟨#[]⟩ ⟨#[]⟩ W
  b : Below w.heap.size w W
theorem ChI.step {w W W' : World} {k st : Int} {t n : ByteArray} (h : ChI w k st t n W) (hb : Below W.heap.size W W') : ChI w k st t n W' := ⟨h.h.below hb, h.r.below hb, bel_of h.b hb⟩
theorem ChI.sets {w W : World} {k st : Int} {t n : ByteArray} (h : ChI w k st t n W) : (W.setCell ⟨w.heap.size, 2, none⟩ (.string t)).cell? ⟨w.heap.size, 2, none⟩ = some (.string t) ∧ (W.setCell ⟨w.heap.size, 2, none⟩ (.string t)).cell? ⟨w.heap.size, 3, none⟩ = some (.string n) ∧ ((W.setCell ⟨w.heap.size, 2, none⟩ (.string t)).setCell ⟨w.heap.size, 3, none⟩ (.string n)).cell? ⟨w.heap.size, 2, none⟩ = some (.string t) ∧ ((W.setCell ⟨w.heap.size, 2, none⟩ (.string t)).setCell ⟨w.heap.size, 3, none⟩ (.string n)).cell? ⟨w.heap.size, 3, none⟩ = some (.string n) :=
  ⟨(h.h.set2 t).cells.2.2.1, (h.h.set2 t).cells.2.2.2, ((h.h.set2 t).set3 n).cells.2.2.1, ((h.h.set2 t).set3 n).cells.2.2.2⟩
theorem ChI.fin {w W : World} {k st : Int} {t n : ByteArray} (h : ChI w k st t n W) : ChI w k st t n ((W.setCell ⟨w.heap.size, 2, none⟩ (.string t)).setCell ⟨w.heap.size, 3, none⟩ (.string n)) :=
  ⟨(h.h.set2 t).set3 n, (h.r.other (by omega) 2 _).other (by omega) 3 _, (h.b.setCell (Nat.le_refl _) _).setCell (Nat.le_refl _) _⟩
set_option maxRecDepth 100000 in
set_option maxHeartbeats 2000000 in
theorem cloneHandler_any (k st : Int) (t n : ByteArray) (w : World) (ht : t.size ≤ 281474976710656) (hn : n.size ≤ 281474976710656) :
    Calls Tryz.prog 250 #[.agg #[.int .i64 k, .int .i64 st, .string t, .string n]] w fun e w' => e = .returned (.agg #[.int .i64 k, .int .i64 st, .string t, .string n]) ∧ Below w.heap.size w w' := by
  have HC1 := hid (fun W => clone_any t W ht)
  have HC2 := hid (fun W => clone_any n W hn)
  have h1 : HnB w.heap.size k st t n (w.alloc (.cells #[.int .i64 k, .int .i64 st, .string t, .string n] 73)) := heap_alloc_new w _
  have z1 : (w.alloc (.cells #[.int .i64 k, .int .i64 st, .string t, .string n] 73)).heap.size = w.heap.size + 1 := by simp
  have h1' := h1.below ((Below.refl _ _).alloc (Nat.le_refl _) (.cells #[.int .i64 0, .int .i64 0, .string ⟨#[]⟩, .string ⟨#[]⟩] 73))
  have h2' : HnB (w.heap.size + 1) 0 0 ⟨#[]⟩ ⟨#[]⟩ ((w.alloc (.cells #[.int .i64 k, .int .i64 st, .string t, .string n] 73)).alloc (.cells #[.int .i64 0, .int .i64 0, .string ⟨#[]⟩, .string ⟨#[]⟩] 73)) := by
    rw [← z1]; exact heap_alloc_new _ _
  have hA := ((Below.refl w.heap.size w).alloc (Nat.le_refl _) (.cells #[.int .i64 k, .int .i64 st, .string t, .string n] 73)).alloc (by simp) (.cells #[.int .i64 0, .int .i64 0, .string ⟨#[]⟩, .string ⟨#[]⟩] 73)
  clear h1 z1 ht hn
  go_enter Tryz.func250, Tryz.ntmps250
  go_upto_region 1 with fail
  generalize (w.alloc (.cells #[.int .i64 k, .int .i64 st, .string t, .string n] 73)).alloc (.cells #[.int .i64 0, .int .i64 0, .string ⟨#[]⟩, .string ⟨#[]⟩] 73) = w1 at *
  have I1 := hid (ChI.step (w := w) ⟨h1', h2', hA⟩ (Below.refl w1.heap.size w1).drew)
  obtain ⟨c0, c1, c2, c3⟩ := h1'.cells
  have l1 := h1'.lt
  have f2 := h1'.free 2
  have f3 := h1'.free 3
  clear h1' h2' hA
  go_cut [3] from 3 (fun _ wx => Hid (ChI w k st t n wx))
  case first =>
    go_region_held3 (fun W => W.cell? ⟨w.heap.size, 2, none⟩ = some (.string t) ∧ W.cell? ⟨w.heap.size, 3, none⟩ = some (.string n)) (go_keep)
      (first
        | (go_at_call_of 154 (Value.string t); refine (HC1.out _).mono ?_; rintro e wA ⟨rfl, hbA⟩; have IA := hid (I1.out.step hbA); clear hbA; obtain ⟨a0, a1, a2, a3⟩ := IA.out.h.cells; have la := IA.out.h.lt)
        | (go_at_call_of 154 (Value.string n); refine (HC2.out _).mono ?_; rintro e wB ⟨rfl, hbB⟩; have IB := hid (IA.out.step hbB); clear hbB; obtain ⟨b0, b1, b2, b3⟩ := IB.out.h.cells; have lb := IB.out.h.lt; have g2 := IB.out.h.free 2; have g3 := IB.out.h.free 3; obtain ⟨s2, s3, s4, s5⟩ := IB.out.sets))
    all_goals (try go_wp2_with fail)
    all_goals go_meet
    all_goals exact IB.out.fin
  case rest =>
    obtain ⟨hh, hr, hb⟩ := hcut.out
    obtain ⟨d0, d1, d2, d3⟩ := hh.cells
    obtain ⟨r0, r1, r2, r3⟩ := hr.cells
    have y0 := hr.free 0
    have y1 := hr.free 1
    have y2 := hr.free 2
    have y3 := hr.free 3
    have ll := hh.lt
    have lr := hr.lt
    have BB := hid hb
    clear c0 c1 c2 c3 l1 f2 f3 HC1 HC2 I1 hcut hb
    go_wp2
    refine bodyPost_ret (v := .agg #[.int .i64 k, .int .i64 st, .string t, .string n]) (by simp [results, Tryz.results250, go_sem, r0, r1, r2, r3]) rfl ?_
    exact ⟨rfl, (((BB.out.setCell (Nat.le_succ _) _).setCell (Nat.le_succ _) _).setCell (Nat.le_succ _) _).setCell (Nat.le_succ _) _⟩
end Go.Proofs.YtbiggccolpchcaaGreatDoor

/- A configuration's routes and wares in memory; a site in memory; plain mathematics of what is right. -/
namespace Go.Proofs.YtbiggccolpchcaaGreatDoor
open Go.RowKit

structure Hn where
  k : Int
  st : Int
  t : ByteArray
  n : ByteArray
structure Rt where
  m : ByteArray
  p : ByteArray
  h : Hn
structure Wr where
  k : Int
  n : ByteArray
  v : ByteArray
  lim : Int
def Hn.cells (h : Hn) : List Value := [.int .i64 h.k, .int .i64 h.st, .string h.t, .string h.n]
def Wr.cells (x : Wr) : List Value := [.int .i64 x.k, .string x.n, .string x.v, .int .i64 x.lim]
def Rt.cells (r : Rt) : List Value := [.string r.m, .string r.p, .int .i64 r.h.k, .int .i64 r.h.st, .string r.h.t, .string r.h.n]
def hnC (hs : List Hn) : List Value := hs.flatMap Hn.cells
def wrC (ws : List Wr) : List Value := ws.flatMap Wr.cells
theorem hnC_snoc (hs : List Hn) (h : Hn) : hnC (hs ++ [h]) = hnC hs ++ h.cells := by simp [hnC]
theorem wrC_snoc (ws : List Wr) (x : Wr) : wrC (ws ++ [x]) = wrC ws ++ x.cells := by simp [wrC]
/- lists of elements of some cells, anywhere in a block -/
def MuAt {α : Type} (sz : Nat) (f : α → List Value) (l : List α) (a : Option Addr) (w : World) : Prop :=
  ∀ i (h : i < l.length), ∃ g o, a = some ⟨g, o, none⟩ ∧ g < w.heap.size ∧ ∀ j (v : Value), (f l[i])[j]? = some v → w.cell? ⟨g, o + i * sz + j, none⟩ = some v
theorem MuAt.below {α : Type} {sz : Nat} {f : α → List Value} {l : List α} {a : Option Addr} {w w' : World} (h : MuAt sz f l a w) (hb : Below w.heap.size w w') : MuAt sz f l a w' := fun i hi => by
  obtain ⟨g, o, h1, h2, h3⟩ := h i hi
  exact ⟨g, o, h1, Nat.lt_of_lt_of_le h2 hb.size, fun j v hv => cell_later hb (h3 j v hv)⟩
/- a site: its table, its handlers and its wares lie in blocks of their own -/
structure StI (gs B : Nat) (es : List Ent) (hs : List Hn) (ws : List Wr) (v vh vw : Value) (w : World) : Prop where
  blk : w.heap[gs]? = some (.cells #[v, vh, vw] 287 (0, 0))
  tb : TbAt gs 0 B es v w
  hr : w.ownsRow B 73 4 vh hs.length (hnC hs)
  wr : w.ownsRow B 241 4 vw ws.length (wrC ws)
  h1 : vh.ownBlock ≠ some gs
  h2 : ∀ r, vh.ownBlock = some r → v.ownBlock ≠ some r ∧ vw.ownBlock ≠ some r ∧ ∀ i (h : i < es.length), es[i].a ≠ some ⟨r, 0, none⟩
  w1 : vw.ownBlock ≠ some gs
  w2 : ∀ r, vw.ownBlock = some r → v.ownBlock ≠ some r ∧ vh.ownBlock ≠ some r ∧ ∀ i (h : i < es.length), es[i].a ≠ some ⟨r, 0, none⟩
theorem StI.below {gs B : Nat} {es : List Ent} {hs : List Hn} {ws : List Wr} {v vh vw : Value} {w w' : World} (h : StI gs B es hs ws v vh vw w) (hb : Below w.heap.size w w') : StI gs B es hs ws v vh vw w' :=
  ⟨by rw [hb.block gs h.tb.lt]; exact h.blk, h.tb.below hb, owns_below h.hr hb, owns_below h.wr hb, h.h1, h.h2, h.w1, h.w2⟩
/- what a route's error is, the table holding these -/
def rtE (es : List Ent) (r : Rt) : Int :=
  if Pm.isMethod r.m.data.toList = false then 1 else match patternOf r.p.data.toList with
    | none => 8
    | some p => if 24 ≤ es.length then 10 else if (hitG r.m.data.toList p es 0).isSome = true then 9 else if hndB r.h.k r.h.st r.h.t.data.toList = false then 12 else 0
theorem keepB {w w' : World} {B : Nat} {e : TypeId} {sz : Nat} {v : Value} {n : Nat} {xs : List Value} (h : w.ownsRow B e sz v n xs) (hk : ∀ r, v.ownBlock = some r → w'.heap[r]? = w.heap[r]?) : w'.ownsRow B e sz v n xs := by
  obtain ⟨q1, q2⟩ := h
  refine ⟨q1, ?_⟩
  rcases q2 with q2 | ⟨r, cap, cur, hv, hB, hgr, q3⟩
  · exact .inl q2
  · exact .inr ⟨r, cap, cur, hv, hB, by rw [hk r (by rw [hv]; rfl)]; exact hgr, q3⟩
end Go.Proofs.YtbiggccolpchcaaGreatDoor

/- The copy of a ware; nothing old in memory turns. -/
namespace Go.Proofs.YtbiggccolpchcaaGreatDoor
open Go.RowKit

def WrB (g : Nat) (k lim : Int) (n v : ByteArray) (w : World) : Prop := w.heap[g]? = some (.cells #[.int .i64 k, .string n, .string v, .int .i64 lim] 241 (0, 0))
theorem WrB.cells {g : Nat} {k lim : Int} {n v : ByteArray} {w : World} (h : WrB g k lim n v w) : w.cell? ⟨g, 0, none⟩ = some (.int .i64 k) ∧ w.cell? ⟨g, 1, none⟩ = some (.string n) ∧ w.cell? ⟨g, 2, none⟩ = some (.string v) ∧ w.cell? ⟨g, 3, none⟩ = some (.int .i64 lim) := by
  refine ⟨?_, ?_, ?_, ?_⟩ <;> (rw [Lib.cell_of_heap h]; rfl)
theorem WrB.free {g : Nat} {k lim : Int} {n v : ByteArray} {w : World} (h : WrB g k lim n v w) (j : Nat) : w.frozen? ⟨g, j, none⟩ = false := Lib.frozen_of_heap h j
theorem WrB.lt {g : Nat} {k lim : Int} {n v : ByteArray} {w : World} (h : WrB g k lim n v w) : g < w.heap.size := block_lt_of_cell h.cells.1
theorem WrB.below {g : Nat} {k lim : Int} {n v : ByteArray} {w w' : World} (h : WrB g k lim n v w) (hb : Below w.heap.size w w') : WrB g k lim n v w' := by
  have := hb.block g h.lt; unfold WrB at *; rw [this]; exact h
theorem WrB.set1 {g : Nat} {k lim : Int} {n v : ByteArray} {w : World} (h : WrB g k lim n v w) (n' : ByteArray) : WrB g k lim n' v (w.setCell ⟨g, 1, none⟩ (.string n')) := by
  unfold WrB at *; rw [heap_setCell_same w g 1 _ _ _ h]; rfl
theorem WrB.set2 {g : Nat} {k lim : Int} {n v : ByteArray} {w : World} (h : WrB g k lim n v w) (v' : ByteArray) : WrB g k lim n v' (w.setCell ⟨g, 2, none⟩ (.string v')) := by
  unfold WrB at *; rw [heap_setCell_same w g 2 _ _ _ h]; rfl
theorem WrB.other {g' : Nat} {k lim : Int} {n v : ByteArray} {w : World} (h : WrB g' k lim n v w) {g : Nat} (hg : g' ≠ g) (o : Nat) (x : Value) : WrB g' k lim n v (w.setCell ⟨g, o, none⟩ x) := by
  unfold WrB at *; rw [heap_setCell_other w ⟨g, o, none⟩ g' x hg]; exact h
structure CwI (w : World) (k lim : Int) (n v : ByteArray) (W : World) : Prop where
  h : WrB w.heap.size k lim n v W
  r : WrB (w.heap.size + 1) 0 0 ⟨#[]⟩ ⟨#[]⟩ W
  b : Below w.heap.size w W
theorem CwI.step {w W W' : World} {k lim : Int} {n v : ByteArray} (h : CwI w k lim n v W) (hb : Below W.heap.size W W') : CwI w k lim n v W' := ⟨h.h.below hb, h.r.below hb, bel_of h.b hb⟩
theorem CwI.sets {w W : World} {k lim : Int} {n v : ByteArray} (h : CwI w k lim n v W) : (W.setCell ⟨w.heap.size, 1, none⟩ (.string n)).cell? ⟨w.heap.size, 1, none⟩ = some (.string n) ∧ (W.setCell ⟨w.heap.size, 1, none⟩ (.string n)).cell? ⟨w.heap.size, 2, none⟩ = some (.string v) ∧ ((W.setCell ⟨w.heap.size, 1, none⟩ (.string n)).setCell ⟨w.heap.size, 2, none⟩ (.string v)).cell? ⟨w.heap.size, 1, none⟩ = some (.string n) ∧ ((W.setCell ⟨w.heap.size, 1, none⟩ (.string n)).setCell ⟨w.heap.size, 2, none⟩ (.string v)).cell? ⟨w.heap.size, 2, none⟩ = some (.string v) :=
  ⟨(h.h.set1 n).cells.2.1, (h.h.set1 n).cells.2.2.1, ((h.h.set1 n).set2 v).cells.2.1, ((h.h.set1 n).set2 v).cells.2.2.1⟩
theorem CwI.fin {w W : World} {k lim : Int} {n v : ByteArray} (h : CwI w k lim n v W) : CwI w k lim n v ((W.setCell ⟨w.heap.size, 1, none⟩ (.string n)).setCell ⟨w.heap.size, 2, none⟩ (.string v)) :=
  ⟨(h.h.set1 n).set2 v, (h.r.other (by omega) 1 _).other (by omega) 2 _, (h.b.setCell (Nat.le_refl _) _).setCell (Nat.le_refl _) _⟩
set_option maxRecDepth 100000 in
set_option maxHeartbeats 2000000 in
theorem cloneWare_any (k lim : Int) (n v : ByteArray) (w : World) (hn : n.size ≤ 281474976710656) (hv : v.size ≤ 281474976710656) :
    Calls Tryz.prog 200 #[.agg #[.int .i64 k, .string n, .string v, .int .i64 lim]] w fun e w' => e = .returned (.agg #[.int .i64 k, .string n, .string v, .int .i64 lim]) ∧ Below w.heap.size w w' := by
  have HC1 := hid (fun W => clone_any n W hn)
  have HC2 := hid (fun W => clone_any v W hv)
  have h1 : WrB w.heap.size k lim n v (w.alloc (.cells #[.int .i64 k, .string n, .string v, .int .i64 lim] 241)) := heap_alloc_new w _
  have z1 : (w.alloc (.cells #[.int .i64 k, .string n, .string v, .int .i64 lim] 241)).heap.size = w.heap.size + 1 := by simp
  have h1' := h1.below ((Below.refl _ _).alloc (Nat.le_refl _) (.cells #[.int .i64 0, .string ⟨#[]⟩, .string ⟨#[]⟩, .int .i64 0] 241))
  have h2' : WrB (w.heap.size + 1) 0 0 ⟨#[]⟩ ⟨#[]⟩ ((w.alloc (.cells #[.int .i64 k, .string n, .string v, .int .i64 lim] 241)).alloc (.cells #[.int .i64 0, .string ⟨#[]⟩, .string ⟨#[]⟩, .int .i64 0] 241)) := by
    rw [← z1]; exact heap_alloc_new _ _
  have hA := ((Below.refl w.heap.size w).alloc (Nat.le_refl _) (.cells #[.int .i64 k, .string n, .string v, .int .i64 lim] 241)).alloc (by simp) (.cells #[.int .i64 0, .string ⟨#[]⟩, .string ⟨#[]⟩, .int .i64 0] 241)
  clear h1 z1 hn hv
  go_enter Tryz.func200, Tryz.ntmps200
  go_upto_region 1 with fail
  generalize (w.alloc (.cells #[.int .i64 k, .string n, .string v, .int .i64 lim] 241)).alloc (.cells #[.int .i64 0, .string ⟨#[]⟩, .string ⟨#[]⟩, .int .i64 0] 241) = w1 at *
  have I1 := hid (CwI.step (w := w) ⟨h1', h2', hA⟩ (Below.refl w1.heap.size w1).drew)
  obtain ⟨c0, c1, c2, c3⟩ := h1'.cells
  have l1 := h1'.lt
  have f1 := h1'.free 1
  have f2 := h1'.free 2
  clear h1' h2' hA
  go_cut [3] from 3 (fun _ wx => Hid (CwI w k lim n v wx))
  case first =>
    go_region_held3 (fun W => W.cell? ⟨w.heap.size, 1, none⟩ = some (.string n) ∧ W.cell? ⟨w.heap.size, 2, none⟩ = some (.string v)) (go_keep)
      (first
        | (go_at_call_of 154 (Value.string n); refine (HC1.out _).mono ?_; rintro e wA ⟨rfl, hbA⟩; have IA := hid (I1.out.step hbA); clear hbA; obtain ⟨a0, a1, a2, a3⟩ := IA.out.h.cells; have la := IA.out.h.lt)
        | (go_at_call_of 154 (Value.string v); refine (HC2.out _).mono ?_; rintro e wB ⟨rfl, hbB⟩; have IB := hid (IA.out.step hbB); clear hbB; obtain ⟨b0, b1, b2, b3⟩ := IB.out.h.cells; have lb := IB.out.h.lt; have g1 := IB.out.h.free 1; have g2 := IB.out.h.free 2; obtain ⟨s2, s3, s4, s5⟩ := IB.out.sets))
    all_goals (try go_wp2_with fail)
    all_goals go_meet
    all_goals exact IB.out.fin
  case rest =>
    obtain ⟨hh, hr, hb⟩ := hcut.out
    obtain ⟨d0, d1, d2, d3⟩ := hh.cells
    obtain ⟨r0, r1, r2, r3⟩ := hr.cells
    have y0 := hr.free 0
    have y1 := hr.free 1
    have y2 := hr.free 2
    have y3 := hr.free 3
    have ll := hh.lt
    have lr := hr.lt
    have BB := hid hb
    clear c0 c1 c2 c3 l1 f1 f2 HC1 HC2 I1 hcut hb
    go_wp2
    refine bodyPost_ret (v := .agg #[.int .i64 k, .string n, .string v, .int .i64 lim]) (by simp [results, Tryz.results200, go_sem, r0, r1, r2, r3]) rfl ?_
    exact ⟨rfl, (((BB.out.setCell (Nat.le_succ _) _).setCell (Nat.le_succ _) _).setCell (Nat.le_succ _) _).setCell (Nat.le_succ _) _⟩
end Go.Proofs.YtbiggccolpchcaaGreatDoor
