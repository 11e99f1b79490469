/- Texts that follow one another, joined. -/
import Derived.Test.YtpilfanbfpbldaaGreatDoorJoin13
import Derived.Deep.RegionLaw
/- A configuration's routes and wares in memory; a site in memory; plain mathematics of what is right. -/
namespace Go.Proofs.YtpilfanbfpbldaaGreatDoor
open Go.RowKit

structure Hn where
  k : Int
  st : Int
  t : ByteArray
  n : ByteArray
structure Rt where
  m : ByteArray
  p : ByteArray
  h : Hn
structure Wr where
  k : Int
  n : ByteArray
  v : ByteArray
  lim : Int
def Hn.cells (h : Hn) : List Value := [.int .i64 h.k, .int .i64 h.st, .string h.t, .string h.n]
def Wr.cells (x : Wr) : List Value := [.int .i64 x.k, .string x.n, .string x.v, .int .i64 x.lim]
def Rt.cells (r : Rt) : List Value := [.string r.m, .string r.p, .int .i64 r.h.k, .int .i64 r.h.st, .string r.h.t, .string r.h.n]
def hnC (hs : List Hn) : List Value := hs.flatMap Hn.cells
def wrC (ws : List Wr) : List Value := ws.flatMap Wr.cells
theorem hnC_snoc (hs : List Hn) (h : Hn) : hnC (hs ++ [h]) = hnC hs ++ h.cells := by simp [hnC]
theorem wrC_snoc (ws : List Wr) (x : Wr) : wrC (ws ++ [x]) = wrC ws ++ x.cells := by simp [wrC]
/- lists of elements of some cells, anywhere in a block -/
def MuAt {α : Type} (sz : Nat) (f : α → List Value) (l : List α) (a : Option Addr) (w : World) : Prop :=
  ∀ i (h : i < l.length), ∃ g o, a = some ⟨g, o, none⟩ ∧ g < w.heap.size ∧ ∀ j (v : Value), (f l[i])[j]? = some v → w.cell? ⟨g, o + i * sz + j, none⟩ = some v
theorem MuAt.below {α : Type} {sz : Nat} {f : α → List Value} {l : List α} {a : Option Addr} {w w' : World} (h : MuAt sz f l a w) (hb : Below w.heap.size w w') : MuAt sz f l a w' := fun i hi => by
  obtain ⟨g, o, h1, h2, h3⟩ := h i hi
  exact ⟨g, o, h1, Nat.lt_of_lt_of_le h2 hb.size, fun j v hv => cell_later hb (h3 j v hv)⟩
/- a site: its table, its handlers and its wares lie in blocks of their own -/
structure StI (gs B : Nat) (es : List Ent) (hs : List Hn) (ws : List Wr) (v vh vw : Value) (w : World) : Prop where
  blk : w.heap[gs]? = some (.cells #[v, vh, vw] 100 (0, 0))
  tb : TbAt gs 0 B es v w
  hr : w.ownsRow B 52 4 vh hs.length (hnC hs)
  wr : w.ownsRow B 56 4 vw ws.length (wrC ws)
  h1 : vh.ownBlock ≠ some gs
  h2 : ∀ r, vh.ownBlock = some r → v.ownBlock ≠ some r ∧ vw.ownBlock ≠ some r ∧ ∀ i (h : i < es.length), es[i].a ≠ some ⟨r, 0, none⟩
  w1 : vw.ownBlock ≠ some gs
  w2 : ∀ r, vw.ownBlock = some r → v.ownBlock ≠ some r ∧ vh.ownBlock ≠ some r ∧ ∀ i (h : i < es.length), es[i].a ≠ some ⟨r, 0, none⟩
theorem StI.below {gs B : Nat} {es : List Ent} {hs : List Hn} {ws : List Wr} {v vh vw : Value} {w w' : World} (h : StI gs B es hs ws v vh vw w) (hb : Below w.heap.size w w') : StI gs B es hs ws v vh vw w' :=
  ⟨by rw [hb.block gs h.tb.lt]; exact h.blk, h.tb.below hb, owns_below h.hr hb, owns_below h.wr hb, h.h1, h.h2, h.w1, h.w2⟩
/- what a route's error is, the table holding these -/
def rtE (es : List Ent) (r : Rt) : Int :=
  if Pm.isMethod r.m.data.toList = false then 1 else match patternOf r.p.data.toList with
    | none => 8
    | some p => if 24 ≤ es.length then 10 else if (hitG r.m.data.toList p es 0).isSome = true then 9 else if hndB r.h.k r.h.st r.h.t.data.toList = false then 12 else 0
theorem keepB {w w' : World} {B : Nat} {e : TypeId} {sz : Nat} {v : Value} {n : Nat} {xs : List Value} (h : w.ownsRow B e sz v n xs) (hk : ∀ r, v.ownBlock = some r → w'.heap[r]? = w.heap[r]?) : w'.ownsRow B e sz v n xs := by
  obtain ⟨q1, q2⟩ := h
  refine ⟨q1, ?_⟩
  rcases q2 with q2 | ⟨r, cap, cur, hv, hB, hgr, q3⟩
  · exact .inl q2
  · exact .inr ⟨r, cap, cur, hv, hB, by rw [hk r (by rw [hv]; rfl)]; exact hgr, q3⟩
end Go.Proofs.YtpilfanbfpbldaaGreatDoor

/- The copy of a ware; nothing old in memory turns. -/
namespace Go.Proofs.YtpilfanbfpbldaaGreatDoor
open Go.RowKit

def WrB (g : Nat) (k lim : Int) (n v : ByteArray) (w : World) : Prop := w.heap[g]? = some (.cells #[.int .i64 k, .string n, .string v, .int .i64 lim] 56 (0, 0))
theorem WrB.cells {g : Nat} {k lim : Int} {n v : ByteArray} {w : World} (h : WrB g k lim n v w) : w.cell? ⟨g, 0, none⟩ = some (.int .i64 k) ∧ w.cell? ⟨g, 1, none⟩ = some (.string n) ∧ w.cell? ⟨g, 2, none⟩ = some (.string v) ∧ w.cell? ⟨g, 3, none⟩ = some (.int .i64 lim) := by
  refine ⟨?_, ?_, ?_, ?_⟩ <;> (rw [Lib.cell_of_heap h]; rfl)
theorem WrB.free {g : Nat} {k lim : Int} {n v : ByteArray} {w : World} (h : WrB g k lim n v w) (j : Nat) : w.frozen? ⟨g, j, none⟩ = false := Lib.frozen_of_heap h j
theorem WrB.lt {g : Nat} {k lim : Int} {n v : ByteArray} {w : World} (h : WrB g k lim n v w) : g < w.heap.size := block_lt_of_cell h.cells.1
theorem WrB.below {g : Nat} {k lim : Int} {n v : ByteArray} {w w' : World} (h : WrB g k lim n v w) (hb : Below w.heap.size w w') : WrB g k lim n v w' := by
  have := hb.block g h.lt; unfold WrB at *; rw [this]; exact h
theorem WrB.set1 {g : Nat} {k lim : Int} {n v : ByteArray} {w : World} (h : WrB g k lim n v w) (n' : ByteArray) : WrB g k lim n' v (w.setCell ⟨g, 1, none⟩ (.string n')) := by
  unfold WrB at *; rw [heap_setCell_same w g 1 _ _ _ h]; rfl
theorem WrB.set2 {g : Nat} {k lim : Int} {n v : ByteArray} {w : World} (h : WrB g k lim n v w) (v' : ByteArray) : WrB g k lim n v' (w.setCell ⟨g, 2, none⟩ (.string v')) := by
  unfold WrB at *; rw [heap_setCell_same w g 2 _ _ _ h]; rfl
theorem WrB.other {g' : Nat} {k lim : Int} {n v : ByteArray} {w : World} (h : WrB g' k lim n v w) {g : Nat} (hg : g' ≠ g) (o : Nat) (x : Value) : WrB g' k lim n v (w.setCell ⟨g, o, none⟩ x) := by
  unfold WrB at *; rw [heap_setCell_other w ⟨g, o, none⟩ g' x hg]; exact h
structure CwI (w : World) (k lim : Int) (n v : ByteArray) (W : World) : Prop where
  h : WrB w.heap.size k lim n v W
  r : WrB (w.heap.size + 1) 0 0 ⟨#[]⟩ ⟨#[]⟩ W
  b : Below w.heap.size w W
theorem CwI.step {w W W' : World} {k lim : Int} {n v : ByteArray} (h : CwI w k lim n v W) (hb : Below W.heap.size W W') : CwI w k lim n v W' := ⟨h.h.below hb, h.r.below hb, bel_of h.b hb⟩
theorem CwI.sets {w W : World} {k lim : Int} {n v : ByteArray} (h : CwI w k lim n v W) : (W.setCell ⟨w.heap.size, 1, none⟩ (.string n)).cell? ⟨w.heap.size, 1, none⟩ = some (.string n) ∧ (W.setCell ⟨w.heap.size, 1, none⟩ (.string n)).cell? ⟨w.heap.size, 2, none⟩ = some (.string v) ∧ ((W.setCell ⟨w.heap.size, 1, none⟩ (.string n)).setCell ⟨w.heap.size, 2, none⟩ (.string v)).cell? ⟨w.heap.size, 1, none⟩ = some (.string n) ∧ ((W.setCell ⟨w.heap.size, 1, none⟩ (.string n)).setCell ⟨w.heap.size, 2, none⟩ (.string v)).cell? ⟨w.heap.size, 2, none⟩ = some (.string v) :=
  ⟨(h.h.set1 n).cells.2.1, (h.h.set1 n).cells.2.2.1, ((h.h.set1 n).set2 v).cells.2.1, ((h.h.set1 n).set2 v).cells.2.2.1⟩
theorem CwI.fin {w W : World} {k lim : Int} {n v : ByteArray} (h : CwI w k lim n v W) : CwI w k lim n v ((W.setCell ⟨w.heap.size, 1, none⟩ (.string n)).setCell ⟨w.heap.size, 2, none⟩ (.string v)) :=
  ⟨(h.h.set1 n).set2 v, (h.r.other (by omega) 1 _).other (by omega) 2 _, (h.b.setCell (Nat.le_refl _) _).setCell (Nat.le_refl _) _⟩
set_option maxRecDepth 100000 in
set_option maxHeartbeats 2000000 in
theorem cloneWare_any (k lim : Int) (n v : ByteArray) (w : World) (hn : n.size ≤ 281474976710656) (hv : v.size ≤ 281474976710656) :
    Calls Tryz.prog 34 #[.agg #[.int .i64 k, .string n, .string v, .int .i64 lim]] w fun e w' => e = .returned (.agg #[.int .i64 k, .string n, .string v, .int .i64 lim]) ∧ Below w.heap.size w w' := by
  have HC1 := hid (fun W => clone_any n W hn)
  have HC2 := hid (fun W => clone_any v W hv)
  have h1 : WrB w.heap.size k lim n v (w.alloc (.cells #[.int .i64 k, .string n, .string v, .int .i64 lim] 56)) := heap_alloc_new w _
  have z1 : (w.alloc (.cells #[.int .i64 k, .string n, .string v, .int .i64 lim] 56)).heap.size = w.heap.size + 1 := by simp
  have h1' := h1.below ((Below.refl _ _).alloc (Nat.le_refl _) (.cells #[.int .i64 0, .string ⟨#[]⟩, .string ⟨#[]⟩, .int .i64 0] 56))
  have h2' : WrB (w.heap.size + 1) 0 0 ⟨#[]⟩ ⟨#[]⟩ ((w.alloc (.cells #[.int .i64 k, .string n, .string v, .int .i64 lim] 56)).alloc (.cells #[.int .i64 0, .string ⟨#[]⟩, .string ⟨#[]⟩, .int .i64 0] 56)) := by
    rw [← z1]; exact heap_alloc_new _ _
  have hA := ((Below.refl w.heap.size w).alloc (Nat.le_refl _) (.cells #[.int .i64 k, .string n, .string v, .int .i64 lim] 56)).alloc (by simp) (.cells #[.int .i64 0, .string ⟨#[]⟩, .string ⟨#[]⟩, .int .i64 0] 56)
  clear h1 z1 hn hv
  go_enter Tryz.func34, Tryz.ntmps34
  go_upto_region 1 with fail
  generalize (w.alloc (.cells #[.int .i64 k, .string n, .string v, .int .i64 lim] 56)).alloc (.cells #[.int .i64 0, .string ⟨#[]⟩, .string ⟨#[]⟩, .int .i64 0] 56) = w1 at *
  have I1 := hid (CwI.step (w := w) ⟨h1', h2', hA⟩ (Below.refl w1.heap.size w1).drew)
  obtain ⟨c0, c1, c2, c3⟩ := h1'.cells
  have l1 := h1'.lt
  have f1 := h1'.free 1
  have f2 := h1'.free 2
  clear h1' h2' hA
  go_cut [3] from 3 (fun _ wx => Hid (CwI w k lim n v wx))
  case first =>
    go_region_held3 (fun W => W.cell? ⟨w.heap.size, 1, none⟩ = some (.string n) ∧ W.cell? ⟨w.heap.size, 2, none⟩ = some (.string v)) (go_keep)
      (first
        | (go_at_call_of 26 (Value.string n); refine (HC1.out _).mono ?_; rintro e wA ⟨rfl, hbA⟩; have IA := hid (I1.out.step hbA); clear hbA; obtain ⟨a0, a1, a2, a3⟩ := IA.out.h.cells; have la := IA.out.h.lt)
        | (go_at_call_of 26 (Value.string v); refine (HC2.out _).mono ?_; rintro e wB ⟨rfl, hbB⟩; have IB := hid (IA.out.step hbB); clear hbB; obtain ⟨b0, b1, b2, b3⟩ := IB.out.h.cells; have lb := IB.out.h.lt; have g1 := IB.out.h.free 1; have g2 := IB.out.h.free 2; obtain ⟨s2, s3, s4, s5⟩ := IB.out.sets))
    all_goals (try go_wp2_with fail)
    all_goals go_meet
    all_goals exact IB.out.fin
  case rest =>
    obtain ⟨hh, hr, hb⟩ := hcut.out
    obtain ⟨d0, d1, d2, d3⟩ := hh.cells
    obtain ⟨r0, r1, r2, r3⟩ := hr.cells
    have y0 := hr.free 0
    have y1 := hr.free 1
    have y2 := hr.free 2
    have y3 := hr.free 3
    have ll := hh.lt
    have lr := hr.lt
    have BB := hid hb
    clear c0 c1 c2 c3 l1 f1 f2 HC1 HC2 I1 hcut hb
    go_wp2
    refine bodyPost_ret (v := .agg #[.int .i64 k, .string n, .string v, .int .i64 lim]) (by simp [results, Tryz.results34, go_sem, r0, r1, r2, r3]) rfl ?_
    exact ⟨rfl, (((BB.out.setCell (Nat.le_succ _) _).setCell (Nat.le_succ _) _).setCell (Nat.le_succ _) _).setCell (Nat.le_succ _) _⟩
end Go.Proofs.YtpilfanbfpbldaaGreatDoor

/- Adding a route to a site: the error that says why not, or the site with it. -/
namespace Go.Proofs.YtpilfanbfpbldaaGreatDoor
open Go.RowKit

def RtB (g : Nat) (r : Rt) (w : World) : Prop := w.heap[g]? = some (.cells #[.string r.m, .string r.p, .int .i64 r.h.k, .int .i64 r.h.st, .string r.h.t, .string r.h.n] 54 (0, 0))
theorem RtB.cells {g : Nat} {r : Rt} {w : World} (h : RtB g r w) : w.cell? ⟨g, 0, none⟩ = some (.string r.m) ∧ w.cell? ⟨g, 1, none⟩ = some (.string r.p) ∧ w.cell? ⟨g, 2, none⟩ = some (.int .i64 r.h.k) ∧ w.cell? ⟨g, 3, none⟩ = some (.int .i64 r.h.st) ∧ w.cell? ⟨g, 4, none⟩ = some (.string r.h.t) ∧ w.cell? ⟨g, 5, none⟩ = some (.string r.h.n) := by
  refine ⟨?_, ?_, ?_, ?_, ?_, ?_⟩ <;> (rw [Lib.cell_of_heap h]; rfl)
theorem RtB.lt {g : Nat} {r : Rt} {w : World} (h : RtB g r w) : g < w.heap.size := block_lt_of_cell h.cells.1
theorem RtB.below {g : Nat} {r : Rt} {w w' : World} (h : RtB g r w) (hb : Below w.heap.size w w') : RtB g r w' := by
  have := hb.block g h.lt; unfold RtB at *; rw [this]; exact h
/- a route's texts are not beyond bounds -/
structure RtOk (r : Rt) : Prop where
  m : r.m.size ≤ 281474976710656
  p : r.p.size ≤ 281474976710656
  t : r.h.t.size ≤ 281474976710656
  n : r.h.n.size ≤ 281474976710656
theorem pat_small {s : ByteArray} {p : List (Int × ByteArray)} (h : patternOf s.data.toList = some p) : s.size ≤ 64 := by
  unfold patternOf at h
  by_cases hc : s.data.toList.length ≤ 64 ∧ Lib.hasPrefix s.data.toList [47] = true
  · have : s.data.toList.length = s.size := by simp
    omega
  · rw [if_neg hc] at h; cases h
theorem meth_small {s : ByteArray} (h : Pm.isMethod s.data.toList = true) : s.size ≤ 1000 := by
  unfold Pm.isMethod at h
  rw [Bool.and_eq_true] at h
  have h1 := of_decide_eq_true h.1
  have : s.data.toList.length = s.size := by simp
  omega
/- the errors that Add itself tells -/
theorem add_errs (gs B : Nat) (es : List Ent) (v : Value) (r : Rt) (mx : Int) (w : World) (hT : TbAt gs 0 B es v w) (hr : RtOk r) (hm : w.cell? ⟨1, 0, none⟩ = some (.int .i64 mx)) (e : Int) (he : rtE es r = e) (h0 : e ≠ 0) (h12 : e ≠ 12) :
    Calls Tryz.prog 44 #[.pointer (some ⟨gs, 0, none⟩), .string r.m, .string r.p] w fun x w' => (∃ n, x = .returned (.tuple #[.int .i64 n, .int .i64 e])) ∧ Below w.heap.size w w' := by
  unfold rtE at he
  cases hmm : Pm.isMethod r.m.data.toList
  · rw [hmm, if_pos rfl] at he
    subst he
    exact (tAdd_arg _ r.m r.p w hmm (by have := hr.m; unfold maxLen; omega)).mono fun x w' ⟨h1, h2⟩ => ⟨⟨_, h1⟩, h2⟩
  · rw [hmm, if_neg (by simp)] at he
    cases hp : patternOf r.p.data.toList with
    | none =>
      rw [hp] at he
      simp only at he
      subst he
      exact (tAdd_pat _ r.m r.p mx w hmm (by have := hr.m; unfold maxLen; omega) hp hr.p hm).mono fun x w' ⟨h1, h2⟩ => ⟨⟨_, h1⟩, h2⟩
    | some p =>
      rw [hp] at he
      simp only at he
      have hs := pat_small hp
      by_cases h24 : 24 ≤ es.length
      · rw [if_pos h24] at he
        subst he
        exact (tAdd_no gs 0 B es v r.m r.p p mx w hT hmm (meth_small hmm) hp (by omega) hm 0 10 (.inl ⟨h24, rfl, rfl⟩)).mono fun x w' ⟨h1, h2⟩ => ⟨⟨_, h1⟩, h2⟩
      · rw [if_neg h24] at he
        cases hh : hitG r.m.data.toList p es 0 with
        | some j =>
          rw [hh] at he
          simp only [Option.isSome_some, if_true] at he
          subst he
          exact (tAdd_no gs 0 B es v r.m r.p p mx w hT hmm (meth_small hmm) hp (by omega) hm j 9 (.inr ⟨by omega, j, hh, rfl, rfl⟩)).mono fun x w' ⟨h1, h2⟩ => ⟨⟨_, h1⟩, h2⟩
        | none =>
          rw [hh] at he
          simp only [Option.isSome_none, Bool.false_eq_true, if_false] at he
          by_cases hq : hndB r.h.k r.h.st r.h.t.data.toList = false
          · rw [if_pos hq] at he; exact absurd he.symm h12
          · rw [if_neg hq] at he; exact absurd he.symm h0
/- where Add takes it in -/
theorem rtE_in {es : List Ent} {r : Rt} (h : rtE es r = 0 ∨ rtE es r = 12) : Pm.isMethod r.m.data.toList = true ∧ ∃ p, patternOf r.p.data.toList = some p ∧ es.length < 24 ∧ hitG r.m.data.toList p es 0 = none ∧ (rtE es r = 0 ↔ hndB r.h.k r.h.st r.h.t.data.toList = true) := by
  unfold rtE at h ⊢
  cases hmm : Pm.isMethod r.m.data.toList
  · rw [hmm, if_pos rfl] at h; omega
  · rw [hmm, if_neg (by simp)] at h
    refine ⟨rfl, ?_⟩
    cases hp : patternOf r.p.data.toList with
    | none => rw [hp] at h; simp only at h; omega
    | some p =>
      rw [hp] at h
      simp only at h
      by_cases h24 : 24 ≤ es.length
      · rw [if_pos h24] at h; omega
      · rw [if_neg h24] at h
        cases hh : hitG r.m.data.toList p es 0 with
        | some j => rw [hh] at h; simp at h
        | none =>
          refine ⟨p, rfl, by omega, hh, ?_⟩
          simp only [if_neg (show ¬ (true = false) by simp), if_neg h24, hh, Option.isSome_none, Bool.false_eq_true, if_false]
          cases hndB r.h.k r.h.st r.h.t.data.toList <;> simp
end Go.Proofs.YtpilfanbfpbldaaGreatDoor

/- Adding a route to a site: the error that says why not, or the site with it. -/
namespace Go.Proofs.YtpilfanbfpbldaaGreatDoor
open Go.RowKit

def Rt.agg (r : Rt) : Value := .agg #[.string r.m, .string r.p, .int .i64 r.h.k, .int .i64 r.h.st, .string r.h.t, .string r.h.n]
def Rt.obj (r : Rt) : Obj := .cells #[.string r.m, .string r.p, .int .i64 r.h.k, .int .i64 r.h.st, .string r.h.t, .string r.h.n] 54
set_option maxRecDepth 100000 in
set_option maxHeartbeats 2000000 in
theorem siteAdd_err (gs B : Nat) (es : List Ent) (v : Value) (r : Rt) (mx : Int) (w : World) (hT : TbAt gs 0 B es v w) (hr : RtOk r) (hm : w.cell? ⟨1, 0, none⟩ = some (.int .i64 mx)) (e : Int) (he : rtE es r = e) (h0 : e ≠ 0) (h12 : e ≠ 12) :
    Calls Tryz.prog 32 #[.pointer (some ⟨gs, 0, none⟩), r.agg] w fun x w' => x = .returned (.int .i64 e) ∧ Below w.heap.size w w' := by
  have lt0 := hT.lt
  have HA := hid (fun W (hW : Below w.heap.size w W) => add_errs gs B es v r mx W (hT.below hW) hr (cell_later hW hm) e he h0 h12)
  have hA := (Below.refl w.heap.size w).alloc (Nat.le_refl _) r.obj
  have h1 : RtB w.heap.size r (w.alloc r.obj) := heap_alloc_new w _
  have ltA : gs < (w.alloc r.obj).heap.size := by simp; omega
  obtain ⟨rm, rp, ⟨hk, hst, ht, hn⟩⟩ := r
  simp only [Rt.agg, Rt.obj] at *
  clear hT hm he hr
  go_enter Tryz.func32, Tryz.ntmps32
  go_upto_region 1 with fail
  generalize w.alloc (.cells #[.string rm, .string rp, .int .i64 hk, .int .i64 hst, .string ht, .string hn] 54) = w1 at *
  obtain ⟨c0, c1, c2, c3, c4, c5⟩ := h1.cells
  have l1 := h1.lt
  simp only at c0 c1 c2 c3 c4 c5
  have hA1 := hA.drew
  go_region_held3 (fun W => W.cell? ⟨w.heap.size, 0, none⟩ = some (.string rm) ∧ W.cell? ⟨w.heap.size, 1, none⟩ = some (.string rp)) (go_keep)
    (first | (go_at_call 44; refine (HA.out _ hA1).mono ?_; rintro x w2 ⟨⟨n, rfl⟩, hb2⟩; have hB2 := bel_of hA1 hb2; have d0 := cell_later hb2 (show w1.drew.cell? ⟨w.heap.size, 0, none⟩ = _ from c0); have d1 := cell_later hb2 (show w1.drew.cell? ⟨w.heap.size, 1, none⟩ = _ from c1)))
  all_goals (try go_wp2_with fail)
  all_goals go_ret
  all_goals exact ⟨rfl, hB2⟩
end Go.Proofs.YtpilfanbfpbldaaGreatDoor
