/- Texts that follow one another, joined. -/
import Derived.Test.YtbphabgjhoifbaaGreatDoorJoin09
import Derived.Deep.RegionLaw
/- The copy of a ware; nothing old in memory turns. -/
namespace Go.Proofs.YtbphabgjhoifbaaGreatDoor
open Go.RowKit

def WrB (g : Nat) (k lim : Int) (n v : ByteArray) (w : World) : Prop := w.heap[g]? = some (.cells #[.int .i64 k, .string n, .string v, .int .i64 lim] 83 (0, 0))
theorem WrB.cells {g : Nat} {k lim : Int} {n v : ByteArray} {w : World} (h : WrB g k lim n v w) : w.cell? ⟨g, 0, none⟩ = some (.int .i64 k) ∧ w.cell? ⟨g, 1, none⟩ = some (.string n) ∧ w.cell? ⟨g, 2, none⟩ = some (.string v) ∧ w.cell? ⟨g, 3, none⟩ = some (.int .i64 lim) := by
  refine ⟨?_, ?_, ?_, ?_⟩ <;> (rw [Lib.cell_of_heap h]; rfl)
theorem WrB.free {g : Nat} {k lim : Int} {n v : ByteArray} {w : World} (h : WrB g k lim n v w) (j : Nat) : w.frozen? ⟨g, j, none⟩ = false := Lib.frozen_of_heap h j
theorem WrB.lt {g : Nat} {k lim : Int} {n v : ByteArray} {w : World} (h : WrB g k lim n v w) : g < w.heap.size := block_lt_of_cell h.cells.1
theorem WrB.below {g : Nat} {k lim : Int} {n v : ByteArray} {w w' : World} (h : WrB g k lim n v w) (hb : Below w.heap.size w w') : WrB g k lim n v w' := by
  have := hb.block g h.lt; unfold WrB at *; rw [this]; exact h
theorem WrB.set1 {g : Nat} {k lim : Int} {n v : ByteArray} {w : World} (h : WrB g k lim n v w) (n' : ByteArray) : WrB g k lim n' v (w.setCell ⟨g, 1, none⟩ (.string n')) := by
  unfold WrB at *; rw [heap_setCell_same w g 1 _ _ _ h]; rfl
theorem WrB.set2 {g : Nat} {k lim : Int} {n v : ByteArray} {w : World} (h : WrB g k lim n v w) (v' : ByteArray) : WrB g k lim n v' (w.setCell ⟨g, 2, none⟩ (.string v')) := by
  unfold WrB at *; rw [heap_setCell_same w g 2 _ _ _ h]; rfl
theorem WrB.other {g' : Nat} {k lim : Int} {n v : ByteArray} {w : World} (h : WrB g' k lim n v w) {g : Nat} (hg : g' ≠ g) (o : Nat) (x : Value) : WrB g' k lim n v (w.setCell ⟨g, o, none⟩ x) := by
  unfold WrB at *; rw [heap_setCell_other w ⟨g, o, none⟩ g' x hg]; exact h
structure CwI (w : World) (k lim : Int) (n v : ByteArray) (W : World) : Prop where
  h : WrB w.heap.size k lim n v W
  r : WrB (w.heap.size + 1) 0 0 ⟨#[]⟩ ⟨#[]⟩ W
  b : Below w.heap.size w W
theorem CwI.step {w W W' : World} {k lim : Int} {n v : ByteArray} (h : CwI w k lim n v W) (hb : Below W.heap.size W W') : CwI w k lim n v W' := ⟨h.h.below hb, h.r.below hb, bel_of h.b hb⟩
theorem CwI.sets {w W : World} {k lim : Int} {n v : ByteArray} (h : CwI w k lim n v W) : (W.setCell ⟨w.heap.size, 1, none⟩ (.string n)).cell? ⟨w.heap.size, 1, none⟩ = some (.string n) ∧ (W.setCell ⟨w.heap.size, 1, none⟩ (.string n)).cell? ⟨w.heap.size, 2, none⟩ = some (.string v) ∧ ((W.setCell ⟨w.heap.size, 1, none⟩ (.string n)).setCell ⟨w.heap.size, 2, none⟩ (.string v)).cell? ⟨w.heap.size, 1, none⟩ = some (.string n) ∧ ((W.setCell ⟨w.heap.size, 1, none⟩ (.string n)).setCell ⟨w.heap.size, 2, none⟩ (.string v)).cell? ⟨w.heap.size, 2, none⟩ = some (.string v) :=
  ⟨(h.h.set1 n).cells.2.1, (h.h.set1 n).cells.2.2.1, ((h.h.set1 n).set2 v).cells.2.1, ((h.h.set1 n).set2 v).cells.2.2.1⟩
theorem CwI.fin {w W : World} {k lim : Int} {n v : ByteArray} (h : CwI w k lim n v W) : CwI w k lim n v ((W.setCell ⟨w.heap.size, 1, none⟩ (.string n)).setCell ⟨w.heap.size, 2, none⟩ (.string v)) :=
  ⟨(h.h.set1 n).set2 v, (h.r.other (by omega) 1 _).other (by omega) 2 _, (h.b.setCell (Nat.le_refl _) _).setCell (Nat.le_refl _) _⟩
set_option maxRecDepth 100000 in
set_option maxHeartbeats 2000000 in
theorem cloneWare_any (k lim : Int) (n v : ByteArray) (w : World) (hn : n.size ≤ 281474976710656) (hv : v.size ≤ 281474976710656) :
    Calls Tryz.prog 48 #[.agg #[.int .i64 k, .string n, .string v, .int .i64 lim]] w fun e w' => e = .returned (.agg #[.int .i64 k, .string n, .string v, .int .i64 lim]) ∧ Below w.heap.size w w' := by
  have HC1 := hid (fun W => clone_any n W hn)
  have HC2 := hid (fun W => clone_any v W hv)
  have h1 : WrB w.heap.size k lim n v (w.alloc (.cells #[.int .i64 k, .string n, .string v, .int .i64 lim] 83)) := heap_alloc_new w _
  have z1 : (w.alloc (.cells #[.int .i64 k, .string n, .string v, .int .i64 lim] 83)).heap.size = w.heap.size + 1 := by simp
  have h1' := h1.below ((Below.refl _ _).alloc (Nat.le_refl _) (.cells #[.int .i64 0, .string ⟨#[]⟩, .string ⟨#[]⟩, .int .i64 0] 83))
  have h2' : WrB (w.heap.size + 1) 0 0 ⟨#[]⟩ ⟨#[]⟩ ((w.alloc (.cells #[.int .i64 k, .string n, .string v, .int .i64 lim] 83)).alloc (.cells #[.int .i64 0, .string ⟨#[]⟩, .string ⟨#[]⟩, .int .i64 0] 83)) := by
    rw [← z1]; exact heap_alloc_new _ _
  have hA := ((Below.refl w.heap.size w).alloc (Nat.le_refl _) (.cells #[.int .i64 k, .string n, .string v, .int .i64 lim] 83)).alloc (by simp) (.cells #[.int .i64 0, .string ⟨#[]⟩, .string ⟨#[]⟩, .int .i64 0] 83)
  clear h1 z1 hn hv
  go_enter Tryz.func48, Tryz.ntmps48
  go_upto_region 1 with fail
  generalize (w.alloc (.cells #[.int .i64 k, .string n, .string v, .int .i64 lim] 83)).alloc (.cells #[.int .i64 0, .string ⟨#[]⟩, .string ⟨#[]⟩, .int .i64 0] 83) = w1 at *
  have I1 := hid (CwI.step (w := w) ⟨h1', h2', hA⟩ (Below.refl w1.heap.size w1).drew)
  obtain ⟨c0, c1, c2, c3⟩ := h1'.cells
  have l1 := h1'.lt
  have f1 := h1'.free 1
  have f2 := h1'.free 2
  clear h1' h2' hA
  go_cut [3] from 3 (fun _ wx => Hid (CwI w k lim n v wx))
  case first =>
    go_region_held3 (fun W => W.cell? ⟨w.heap.size, 1, none⟩ = some (.string n) ∧ W.cell? ⟨w.heap.size, 2, none⟩ = some (.string v)) (go_keep)
      (first
        | (go_at_call_of 44 (Value.string n); refine (HC1.out _).mono ?_; rintro e wA ⟨rfl, hbA⟩; have IA := hid (I1.out.step hbA); clear hbA; obtain ⟨a0, a1, a2, a3⟩ := IA.out.h.cells; have la := IA.out.h.lt)
        | (go_at_call_of 44 (Value.string v); refine (HC2.out _).mono ?_; rintro e wB ⟨rfl, hbB⟩; have IB := hid (IA.out.step hbB); clear hbB; obtain ⟨b0, b1, b2, b3⟩ := IB.out.h.cells; have lb := IB.out.h.lt; have g1 := IB.out.h.free 1; have g2 := IB.out.h.free 2; obtain ⟨s2, s3, s4, s5⟩ := IB.out.sets))
    all_goals (try go_wp2_with fail)
    all_goals go_meet
    all_goals exact IB.out.fin
  case rest =>
    obtain ⟨hh, hr, hb⟩ := hcut.out
    obtain ⟨d0, d1, d2, d3⟩ := hh.cells
    obtain ⟨r0, r1, r2, r3⟩ := hr.cells
    have y0 := hr.free 0
    have y1 := hr.free 1
    have y2 := hr.free 2
    have y3 := hr.free 3
    have ll := hh.lt
    have lr := hr.lt
    have BB := hid hb
    clear c0 c1 c2 c3 l1 f1 f2 HC1 HC2 I1 hcut hb
    go_wp2
    refine bodyPost_ret (v := .agg #[.int .i64 k, .string n, .string v, .int .i64 lim]) (by simp [results, Tryz.results48, go_sem, r0, r1, r2, r3]) rfl ?_
    exact ⟨rfl, (((BB.out.setCell (Nat.le_succ _) _).setCell (Nat.le_succ _) _).setCell (Nat.le_succ _) _).setCell (Nat.le_succ _) _⟩
end Go.Proofs.YtbphabgjhoifbaaGreatDoor

/- Adding a route to a site: the error that says why not, or the site with it. -/
namespace Go.Proofs.YtbphabgjhoifbaaGreatDoor
open Go.RowKit

def RtB (g : Nat) (r : Rt) (w : World) : Prop := w.heap[g]? = some (.cells #[.string r.m, .string r.p, .int .i64 r.h.k, .int .i64 r.h.st, .string r.h.t, .string r.h.n] 81 (0, 0))
theorem RtB.cells {g : Nat} {r : Rt} {w : World} (h : RtB g r w) : w.cell? ⟨g, 0, none⟩ = some (.string r.m) ∧ w.cell? ⟨g, 1, none⟩ = some (.string r.p) ∧ w.cell? ⟨g, 2, none⟩ = some (.int .i64 r.h.k) ∧ w.cell? ⟨g, 3, none⟩ = some (.int .i64 r.h.st) ∧ w.cell? ⟨g, 4, none⟩ = some (.string r.h.t) ∧ w.cell? ⟨g, 5, none⟩ = some (.string r.h.n) := by
  refine ⟨?_, ?_, ?_, ?_, ?_, ?_⟩ <;> (rw [Lib.cell_of_heap h]; rfl)
theorem RtB.lt {g : Nat} {r : Rt} {w : World} (h : RtB g r w) : g < w.heap.size := block_lt_of_cell h.cells.1
theorem RtB.below {g : Nat} {r : Rt} {w w' : World} (h : RtB g r w) (hb : Below w.heap.size w w') : RtB g r w' := by
  have := hb.block g h.lt; unfold RtB at *; rw [this]; exact h
/- a route's texts are not beyond bounds -/
structure RtOk (r : Rt) : Prop where
  m : r.m.size ≤ 281474976710656
  p : r.p.size ≤ 281474976710656
  t : r.h.t.size ≤ 281474976710656
  n : r.h.n.size ≤ 281474976710656
theorem pat_small {s : ByteArray} {p : List (Int × ByteArray)} (h : patternOf s.data.toList = some p) : s.size ≤ 64 := by
  unfold patternOf at h
  by_cases hc : s.data.toList.length ≤ 64 ∧ Lib.hasPrefix s.data.toList [47] = true
  · have : s.data.toList.length = s.size := by simp
    omega
  · rw [if_neg hc] at h; cases h
theorem meth_small {s : ByteArray} (h : Pm.isMethod s.data.toList = true) : s.size ≤ 1000 := by
  unfold Pm.isMethod at h
  rw [Bool.and_eq_true] at h
  have h1 := of_decide_eq_true h.1
  have : s.data.toList.length = s.size := by simp
  omega
/- the errors that Add itself tells -/
theorem add_errs (gs B : Nat) (es : List Ent) (v : Value) (r : Rt) (mx : Int) (w : World) (hT : TbAt gs 0 B es v w) (hr : RtOk r) (hm : w.cell? ⟨1, 0, none⟩ = some (.int .i64 mx)) (e : Int) (he : rtE es r = e) (h0 : e ≠ 0) (h12 : e ≠ 12) :
    Calls Tryz.prog 65 #[.pointer (some ⟨gs, 0, none⟩), .string r.m, .string r.p] w fun x w' => (∃ n, x = .returned (.tuple #[.int .i64 n, .int .i64 e])) ∧ Below w.heap.size w w' := by
  unfold rtE at he
  cases hmm : Pm.isMethod r.m.data.toList
  · rw [hmm, if_pos rfl] at he
    subst he
    exact (tAdd_arg _ r.m r.p w hmm (by have := hr.m; unfold maxLen; omega)).mono fun x w' ⟨h1, h2⟩ => ⟨⟨_, h1⟩, h2⟩
  · rw [hmm, if_neg (by simp)] at he
    cases hp : patternOf r.p.data.toList with
    | none =>
      rw [hp] at he
      simp only at he
      subst he
      exact (tAdd_pat _ r.m r.p mx w hmm (by have := hr.m; unfold maxLen; omega) hp hr.p hm).mono fun x w' ⟨h1, h2⟩ => ⟨⟨_, h1⟩, h2⟩
    | some p =>
      rw [hp] at he
      simp only at he
      have hs := pat_small hp
      by_cases h24 : 24 ≤ es.length
      · rw [if_pos h24] at he
        subst he
        exact (tAdd_no gs 0 B es v r.m r.p p mx w hT hmm (meth_small hmm) hp (by omega) hm 0 10 (.inl ⟨h24, rfl, rfl⟩)).mono fun x w' ⟨h1, h2⟩ => ⟨⟨_, h1⟩, h2⟩
      · rw [if_neg h24] at he
        cases hh : hitG r.m.data.toList p es 0 with
        | some j =>
          rw [hh] at he
          simp only [Option.isSome_some, if_true] at he
          subst he
          exact (tAdd_no gs 0 B es v r.m r.p p mx w hT hmm (meth_small hmm) hp (by omega) hm j 9 (.inr ⟨by omega, j, hh, rfl, rfl⟩)).mono fun x w' ⟨h1, h2⟩ => ⟨⟨_, h1⟩, h2⟩
        | none =>
          rw [hh] at he
          simp only [Option.isSome_none, Bool.false_eq_true, if_false] at he
          by_cases hq : hndB r.h.k r.h.st r.h.t.data.toList = false
          · rw [if_pos hq] at he; exact absurd he.symm h12
          · rw [if_neg hq] at he; exact absurd he.symm h0
/- where Add takes it in -/
theorem rtE_in {es : List Ent} {r : Rt} (h : rtE es r = 0 ∨ rtE es r = 12) : Pm.isMethod r.m.data.toList = true ∧ ∃ p, patternOf r.p.data.toList = some p ∧ es.length < 24 ∧ hitG r.m.data.toList p es 0 = none ∧ (rtE es r = 0 ↔ hndB r.h.k r.h.st r.h.t.data.toList = true) := by
  unfold rtE at h ⊢
  cases hmm : Pm.isMethod r.m.data.toList
  · rw [hmm, if_pos rfl] at h; omega
  · rw [hmm, if_neg (by simp)] at h
    refine ⟨rfl, ?_⟩
    cases hp : patternOf r.p.data.toList with
    | none => rw [hp] at h; simp only at h; omega
    | some p =>
      rw [hp] at h
      simp only at h
      by_cases h24 : 24 ≤ es.length
      · rw [if_pos h24] at h; omega
      · rw [if_neg h24] at h
        cases hh : hitG r.m.data.toList p es 0 with
        | some j => rw [hh] at h; simp at h
        | none =>
          refine ⟨p, rfl, by omega, hh, ?_⟩
          simp only [if_neg (show ¬ (true = false) by simp), if_neg h24, hh, Option.isSome_none, Bool.false_eq_true, if_false]
          cases hndB r.h.k r.h.st r.h.t.data.toList <;> simp
end Go.Proofs.YtbphabgjhoifbaaGreatDoor

/- Adding a route to a site: the error that says why not, or the site with it. -/
namespace Go.Proofs.YtbphabgjhoifbaaGreatDoor
open Go.RowKit

def Rt.agg (r : Rt) : Value := .agg #[.string r.m, .string r.p, .int .i64 r.h.k, .int .i64 r.h.st, .string r.h.t, .string r.h.n]
def Rt.obj (r : Rt) : Obj := .cells #[.string r.m, .string r.p, .int .i64 r.h.k, .int .i64 r.h.st, .string r.h.t, .string r.h.n] 81
set_option maxRecDepth 100000 in
set_option maxHeartbeats 2000000 in
theorem siteAdd_err (gs B : Nat) (es : List Ent) (v : Value) (r : Rt) (mx : Int) (w : World) (hT : TbAt gs 0 B es v w) (hr : RtOk r) (hm : w.cell? ⟨1, 0, none⟩ = some (.int .i64 mx)) (e : Int) (he : rtE es r = e) (h0 : e ≠ 0) (h12 : e ≠ 12) :
    Calls Tryz.prog 46 #[.pointer (some ⟨gs, 0, none⟩), r.agg] w fun x w' => x = .returned (.int .i64 e) ∧ Below w.heap.size w w' := by
  have lt0 := hT.lt
  have HA := hid (fun W (hW : Below w.heap.size w W) => add_errs gs B es v r mx W (hT.below hW) hr (cell_later hW hm) e he h0 h12)
  have hA := (Below.refl w.heap.size w).alloc (Nat.le_refl _) r.obj
  have h1 : RtB w.heap.size r (w.alloc r.obj) := heap_alloc_new w _
  have ltA : gs < (w.alloc r.obj).heap.size := by simp; omega
  obtain ⟨rm, rp, ⟨hk, hst, ht, hn⟩⟩ := r
  simp only [Rt.agg, Rt.obj] at *
  clear hT hm he hr
  go_enter Tryz.func46, Tryz.ntmps46
  go_upto_region 1 with fail
  generalize w.alloc (.cells #[.string rm, .string rp, .int .i64 hk, .int .i64 hst, .string ht, .string hn] 81) = w1 at *
  obtain ⟨c0, c1, c2, c3, c4, c5⟩ := h1.cells
  have l1 := h1.lt
  simp only at c0 c1 c2 c3 c4 c5
  have hA1 := hA.drew
  go_region_held3 (fun W => W.cell? ⟨w.heap.size, 0, none⟩ = some (.string rm) ∧ W.cell? ⟨w.heap.size, 1, none⟩ = some (.string rp)) (go_keep)
    (first | (go_at_call 65; refine (HA.out _ hA1).mono ?_; rintro x w2 ⟨⟨n, rfl⟩, hb2⟩; have hB2 := bel_of hA1 hb2; have d0 := cell_later hb2 (show w1.drew.cell? ⟨w.heap.size, 0, none⟩ = _ from c0); have d1 := cell_later hb2 (show w1.drew.cell? ⟨w.heap.size, 1, none⟩ = _ from c1)))
  all_goals (try go_wp2_with fail)
  all_goals go_ret
  all_goals exact ⟨rfl, hB2⟩
end Go.Proofs.YtbphabgjhoifbaaGreatDoor

/- A site keeps standing while its table takes a route in, and while its handlers and wares grow. -/
namespace Go.Proofs.YtbphabgjhoifbaaGreatDoor
open Go.RowKit

theorem owns_keepS {w w' : World} {B gs j : Nat} {e : TypeId} {sz : Nat} {v x : Value} {n : Nat} {xs : List Value} {row : Option Nat} (h : w.ownsRow B e sz v n xs) (hg : w.grownBy w' row) (h1 : v.ownBlock ≠ some gs) (h2 : ∀ r, row = some r → v.ownBlock ≠ some r) : (w'.setCell ⟨gs, j, none⟩ x).ownsRow B e sz v n xs :=
  keepB h fun r hr => by
    rw [heap_setCell_other w' ⟨gs, j, none⟩ r x (fun e => h1 (by rw [hr, e]))]
    exact hg.block r (own_ltw h r hr) (fun e => h2 r e.symm hr)
theorem tb_grown {gs B j : Nat} {es : List Ent} {v x : Value} {w w' : World} {row : Option Nat} {cs : Array Value} {t : TypeId} (hT : TbAt gs 0 B es v w) (hg : w.grownBy w' row) (h1 : row ≠ some gs) (h2 : ∀ r, row = some r → v.ownBlock ≠ some r ∧ ∀ i (h : i < es.length), es[i].a ≠ some ⟨r, 0, none⟩) (hj : j ≠ 0) (hb : w.heap[gs]? = some (.cells cs t (0, 0))) : TbAt gs 0 B es v (w'.setCell ⟨gs, j, none⟩ x) := by
  have hgs := hT.lt
  have hb' : w'.heap[gs]? = some (.cells cs t (0, 0)) := by rw [hg.block gs hgs (fun e => h1 e.symm)]; exact hb
  have hbn := heap_setCell_same w' gs j cs t x hb'
  have hz := hg.size
  refine ⟨?_, Lib.frozen_of_heap hbn 0, owns_keepS hT.row hg hT.own (fun r hr => (h2 r hr).1), fun i hi => ?_, hT.far, fun i hi g hgg => ?_, hT.own, hT.few, hT.szs⟩
  · rw [World.cell?_setCell_other _ _ _ _ (fun e => by simp only [Addr.mk.injEq] at e; first | exact hj e.2.1 | exact hj e.2.1.symm)]
    exact cell_grown hg hT.cel h1
  · refine (hT.pat i hi).keep (by simp; omega) (fun g hgg k => ?_)
    have hgl := hT.blk i hi g hgg
    have hne := (hT.far i hi g hgg).1
    rw [World.cell?_setCell_other _ _ _ _ (fun e => by simp only [Addr.mk.injEq] at e; first | exact hne e.1 | exact hne e.1.symm)]
    exact World.cell?_of_block (hg.block g hgl (fun e => (h2 g e.symm).2 i hi hgg))
  · have := hT.blk i hi g hgg; simp; omega
theorem StI.added {gs B : Nat} {es : List Ent} {hs : List Hn} {ws : List Wr} {v vh vw : Value} {w w' : World} {m : ByteArray} {p : List (Int × ByteArray)} (h : StI gs B es hs ws v vh vw w) (ha : Added gs 0 B es v m p w w') : ∃ a c v', StI gs B (es ++ [⟨m, p, a, c⟩]) hs ws v' vh vw w' := by
  obtain ⟨⟨a, c, v', ht, hvo, han⟩, hbl, hkp, ⟨x, hx⟩⟩ := ha
  have hb := hx _ _ h.blk
  have hxv : x = v' := by
    have := ht.cel
    rw [Lib.cell_of_heap hb] at this
    simpa using this
  subst hxv
  have far : ∀ (u : Value), (∀ r, u.ownBlock = some r → r < w.heap.size) → (∀ r, u.ownBlock = some r → v.ownBlock ≠ some r ∧ ∀ i (hi : i < es.length), es[i].a ≠ some ⟨r, 0, none⟩) → ∀ r, u.ownBlock = some r → x.ownBlock ≠ some r ∧ ∀ i (hi : i < (es ++ [(⟨m, p, a, c⟩ : Ent)]).length), (es ++ [(⟨m, p, a, c⟩ : Ent)])[i].a ≠ some ⟨r, 0, none⟩ := fun u hu hf r hr => by
    have hl := hu r hr
    refine ⟨fun e => ?_, fun i hi e => ?_⟩
    · rcases hvo with q | ⟨r', q, hq⟩
      · rw [q] at e; exact (hf r hr).1 e
      · rw [q] at e; simp at e; omega
    · by_cases hlt : i < es.length
      · rw [List.getElem_append_left hlt] at e; exact (hf r hr).2 i hlt e
      · have : i = es.length := by rw [List.length_append] at hi; simp at hi; omega
        subst this
        rw [List.getElem_append_right (Nat.le_refl _)] at e
        simp only [Nat.sub_self, List.getElem_cons_zero] at e
        have := han r e; omega
  have kh : ∀ r, vh.ownBlock = some r → w'.heap[r]? = w.heap[r]? := fun r hr => hkp r (own_ltw h.hr r hr) (fun e => h.h1 (by rw [hr, e])) (h.h2 r hr).1
  have kw : ∀ r, vw.ownBlock = some r → w'.heap[r]? = w.heap[r]? := fun r hr => hkp r (own_ltw h.wr r hr) (fun e => h.w1 (by rw [hr, e])) (h.w2 r hr).1
  refine ⟨a, c, x, hb, ht, keepB h.hr kh, keepB h.wr kw, h.h1, fun r hr => ?_, h.w1, fun r hr => ?_⟩
  · have := far vh (own_ltw h.hr) (fun r hr => ⟨(h.h2 r hr).1, (h.h2 r hr).2.2⟩) r hr
    exact ⟨this.1, (h.h2 r hr).2.1, this.2⟩
  · have := far vw (own_ltw h.wr) (fun r hr => ⟨(h.w2 r hr).1, (h.w2 r hr).2.2⟩) r hr
    exact ⟨this.1, (h.w2 r hr).2.1, this.2⟩
theorem StI.hand {gs B : Nat} {es : List Ent} {hs : List Hn} {ws : List Wr} {v vh vw : Value} {w w' : World} {gg cap : Nat} {h0 : Hn} (h : StI gs B es hs ws v vh vw w) (hg : w.grownBy w' vh.ownBlock)
    (ho : w'.ownsRow B 79 4 (.slice (some ⟨gg, 0, none⟩) (hs.length + 1) cap) (hs.length + 1) (hnC hs ++ h0.cells)) (hat : vh.ownBlock = some gg ∨ w.heap.size ≤ gg) :
    StI gs B es (hs ++ [h0]) ws v (.slice (some ⟨gg, 0, none⟩) (hs.length + 1) cap) vw (w'.setCell ⟨gs, 1, none⟩ (.slice (some ⟨gg, 0, none⟩) (hs.length + 1) cap)) := by
  have hgs := h.tb.lt
  have hb' : w'.heap[gs]? = _ := (hg.block gs hgs (fun e => h.h1 e.symm)).trans h.blk
  have hne : gg ≠ gs := by
    rcases hat with q | q
    · intro e; rw [e] at q; exact h.h1 q
    · omega
  have hbn := heap_setCell_same w' gs 1 _ _ (.slice (some ⟨gg, 0, none⟩) (hs.length + 1) cap) hb'
  have hfar : v.ownBlock ≠ some gg ∧ vw.ownBlock ≠ some gg ∧ ∀ i (h : i < es.length), es[i].a ≠ some ⟨gg, 0, none⟩ := by
    rcases hat with q | q
    · exact h.h2 gg q
    · refine ⟨fun e => ?_, fun e => ?_, fun i hi e => ?_⟩
      · have := own_ltw h.tb.row gg e; omega
      · have := own_ltw h.wr gg e; omega
      · have := h.tb.blk i hi gg e; omega
  refine ⟨hbn, tb_grown h.tb hg h.h1 (fun r hr => ⟨(h.h2 r hr).1, (h.h2 r hr).2.2⟩) (by omega) h.blk, ?_, owns_keepS h.wr hg h.w1 (fun r hr => (h.h2 r hr).2.1), by simp [Value.ownBlock, hne], fun r hr => ?_, h.w1, fun r hr => ⟨(h.w2 r hr).1, fun e => ?_, (h.w2 r hr).2.2⟩⟩
  · rw [List.length_append, hnC_snoc]
    exact owns_not ho (by simp [Value.ownBlock, hne]) 1 _
  · simp only [Value.ownBlock, Option.some.injEq] at hr
    subst hr; exact hfar
  · simp only [Value.ownBlock, Option.some.injEq] at e
    subst e; exact hfar.2.1 hr
theorem StI.ware {gs B : Nat} {es : List Ent} {hs : List Hn} {ws : List Wr} {v vh vw : Value} {w w' : World} {gg cap : Nat} {x0 : Wr} (h : StI gs B es hs ws v vh vw w) (hg : w.grownBy w' vw.ownBlock)
    (ho : w'.ownsRow B 83 4 (.slice (some ⟨gg, 0, none⟩) (ws.length + 1) cap) (ws.length + 1) (wrC ws ++ x0.cells)) (hat : vw.ownBlock = some gg ∨ w.heap.size ≤ gg) :
    StI gs B es hs (ws ++ [x0]) v vh (.slice (some ⟨gg, 0, none⟩) (ws.length + 1) cap) (w'.setCell ⟨gs, 2, none⟩ (.slice (some ⟨gg, 0, none⟩) (ws.length + 1) cap)) := by
  have hgs := h.tb.lt
  have hb' : w'.heap[gs]? = _ := (hg.block gs hgs (fun e => h.w1 e.symm)).trans h.blk
  have hne : gg ≠ gs := by
    rcases hat with q | q
    · intro e; rw [e] at q; exact h.w1 q
    · omega
  have hbn := heap_setCell_same w' gs 2 _ _ (.slice (some ⟨gg, 0, none⟩) (ws.length + 1) cap) hb'
  have hfar : v.ownBlock ≠ some gg ∧ vh.ownBlock ≠ some gg ∧ ∀ i (h : i < es.length), es[i].a ≠ some ⟨gg, 0, none⟩ := by
    rcases hat with q | q
    · exact h.w2 gg q
    · refine ⟨fun e => ?_, fun e => ?_, fun i hi e => ?_⟩
      · have := own_ltw h.tb.row gg e; omega
      · have := own_ltw h.hr gg e; omega
      · have := h.tb.blk i hi gg e; omega
  refine ⟨hbn, tb_grown h.tb hg h.w1 (fun r hr => ⟨(h.w2 r hr).1, (h.w2 r hr).2.2⟩) (by omega) h.blk, owns_keepS h.hr hg h.h1 (fun r hr => (h.w2 r hr).2.1), ?_, h.h1, fun r hr => ⟨(h.h2 r hr).1, fun e => ?_, (h.h2 r hr).2.2⟩, by simp [Value.ownBlock, hne], fun r hr => ?_⟩
  · rw [List.length_append, wrC_snoc]
    exact owns_not ho (by simp [Value.ownBlock, hne]) 2 _
  · simp only [Value.ownBlock, Option.some.injEq] at e
    subst e; exact hfar.2.1 hr
  · simp only [Value.ownBlock, Option.some.injEq] at hr
    subst hr; exact hfar
end Go.Proofs.YtbphabgjhoifbaaGreatDoor

/- Adding a route that the table takes in: the handler is not right, or the site has one route more. -/
namespace Go.Proofs.YtbphabgjhoifbaaGreatDoor
open Go.RowKit

theorem infoHn : (Tryz.prog.info? 79).map (fun i => (i.zero, i.size, i.bytes)) = some (some (.agg #[.int .i64 0, .int .i64 0, .string ⟨#[]⟩, .string ⟨#[]⟩]), 4, 48) := by kernel_rfl
theorem sl_of {w : World} {B : Nat} {e : TypeId} {sz : Nat} {v : Value} {n : Nat} {xs : List Value} (h : w.ownsRow B e sz v n xs) : ∃ a c, v = .slice a n c := by
  rcases h.2 with ⟨h2, h3⟩ | ⟨g, cap, cur, hv, _⟩
  · exact ⟨none, 0, by rw [h3]; exact h2⟩
  · exact ⟨_, _, hv⟩
theorem RtB.kept {g gt : Nat} {r : Rt} {v : Value} {w w' : World} (h : RtB g r w) (hk : Kept gt v w w') (h1 : g ≠ gt) (h2 : v.ownBlock ≠ some g) : RtB g r w' := by
  have := hk g h.lt h1 h2; unfold RtB at *; rw [this]; exact h
/- what adding leaves behind -/
def SAdd (gs B : Nat) (es : List Ent) (hs : List Hn) (ws : List Wr) (vw : Value) (r : Rt) (p : List (Int × ByteArray)) (w w' : World) : Prop :=
  (∃ a c v' vh', StI gs B (es ++ [⟨r.m, p, a, c⟩]) (hs ++ [r.h]) ws v' vh' vw w') ∧ Below B w w'
def SAdds (hb : Bool) (gs B : Nat) (es : List Ent) (hs : List Hn) (ws : List Wr) (vw : Value) (r : Rt) (p : List (Int × ByteArray)) (w : World) (x : Ending) (w' : World) : Prop :=
  (hb = false → x = .returned (.int .i64 12) ∧ Below B w w') ∧ (hb = true → x = .returned (.int .i64 0) ∧ SAdd gs B es hs ws vw r p w w')
theorem SAdds.no {gs B : Nat} {es : List Ent} {hs : List Hn} {ws : List Wr} {vw : Value} {r : Rt} {p : List (Int × ByteArray)} {w w' : World} {x : Ending} (h1 : x = .returned (.int .i64 12)) (h : Below B w w') : SAdds false gs B es hs ws vw r p w x w' := ⟨fun _ => ⟨h1, h⟩, fun e => by cases e⟩
theorem SAdds.yes {gs B : Nat} {es : List Ent} {hs : List Hn} {ws : List Wr} {vw : Value} {r : Rt} {p : List (Int × ByteArray)} {w w' : World} {x : Ending} (h1 : x = .returned (.int .i64 0)) (h : SAdd gs B es hs ws vw r p w w') : SAdds true gs B es hs ws vw r p w x w' := ⟨fun e => Bool.noConfusion e, fun _ => ⟨h1, h⟩⟩
/- the end: the handler's row has grown -/
theorem sadd_end {gs B : Nat} {es : List Ent} {hs : List Hn} {ws : List Wr} {v' vw : Value} {r : Rt} {p : List (Int × ByteArray)} {w w3 W4 w5 : World} {ah ea : Option Addr} {ch ec gg cap : Nat}
    (S3 : StI gs B (es ++ [⟨r.m, p, ea, ec⟩]) hs ws v' (.slice ah hs.length ch) vw w3) (hb : Below B w w3) (hbE : Below w3.heap.size w3 W4) (hg : W4.grownBy w5 (Value.slice ah hs.length ch).ownBlock)
    (ho : w5.ownsRow B 79 4 (.slice (some ⟨gg, 0, none⟩) (hs.length + 1) cap) (hs.length + 1) (hnC hs ++ r.h.cells)) (hat : (Value.slice ah hs.length ch).ownBlock = some gg ∨ W4.heap.size ≤ gg) (hB : B ≤ gs) (hBw : B ≤ w3.heap.size) :
    SAdd gs B es hs ws vw r p w (w5.setCell ⟨gs, 1, none⟩ (.slice (some ⟨gg, 0, none⟩) (hs.length + 1) cap)) := by
  have S4 := S3.below hbE
  exact ⟨⟨ea, ec, v', _, S4.hand hg ho hat⟩, (((hb.trans (hbE.mono hBw)).grown hg (Nat.le_trans hBw hbE.size) (fun k hk => own_ge S4.hr k hk)).setCell hB _)⟩
set_option maxRecDepth 100000 in
set_option maxHeartbeats 4000000 in
theorem siteAdd_in (gs B : Nat) (es : List Ent) (hs : List Hn) (ws : List Wr) (v vh vw : Value) (r : Rt) (mx : Int) (w : World) (hS : StI gs B es hs ws v vh vw w) (hr : RtOk r) (hm : w.cell? ⟨1, 0, none⟩ = some (.int .i64 mx)) (hB : B ≤ gs) (hBw : B ≤ w.heap.size) (hl : hs.length ≤ 1000) (p : List (Int × ByteArray)) (hp : patternOf r.p.data.toList = some p) (hme : Pm.isMethod r.m.data.toList = true) (hf : es.length < 24) (hno : hitG r.m.data.toList p es 0 = none) :
    Calls Tryz.prog 46 #[.pointer (some ⟨gs, 0, none⟩), r.agg] w (SAdds (hndB r.h.k r.h.st r.h.t.data.toList) gs B es hs ws vw r p w) := by
  obtain ⟨i0, hi, hz0, hz1, hz2⟩ := info_parts infoHn
  have lt0 := hS.tb.lt
  obtain ⟨ah, ch, rfl⟩ := sl_of hS.hr
  have HA := hid (fun W (hW : Below w.heap.size w W) => tAdd_yes gs 0 B es v r.m r.p p mx W (hS.tb.below hW) hme (meth_small hme) hp (patternOf_length hp) (by have := pat_small hp; omega) (cell_later hW hm) hB (Nat.le_trans hBw hW.size) hf hno)
  have HR := hid (fun W => rightHandler_any r.h.k r.h.st r.h.t r.h.n W (by have := hr.t; unfold maxLen; omega))
  have HC := hid (fun W => cloneHandler_any r.h.k r.h.st r.h.t r.h.n W hr.t hr.n)
  have hA := (Below.refl w.heap.size w).alloc (Nat.le_refl _) r.obj
  have h1 : RtB w.heap.size r (w.alloc r.obj) := heap_alloc_new w _
  have ltA : gs < (w.alloc r.obj).heap.size := by simp; omega
  have HS := hid hS
  have hvl := own_ltw hS.tb.row
  have HRC : Hid (r.h.cells = [.int .i64 r.h.k, .int .i64 r.h.st, .string r.h.t, .string r.h.n]) := rfl
  obtain ⟨rm, rp, ⟨hk, hst, ht, hn⟩⟩ := r
  simp only [Rt.agg, Rt.obj] at *
  generalize hHB : hndB hk hst ht.data.toList = hb at *
  clear hS hm hr hHB
  go_enter Tryz.func46, Tryz.ntmps46
  go_upto_region 1 with fail
  generalize w.alloc (.cells #[.string rm, .string rp, .int .i64 hk, .int .i64 hst, .string ht, .string hn] 81) = w1 at *
  obtain ⟨c0, c1, c2, c3, c4, c5⟩ := h1.cells
  have l1 := h1.lt
  simp only at c0 c1 c2 c3 c4 c5
  have hA1 := hA.drew
  have R1 : Hid (RtB w.heap.size ⟨rm, rp, ⟨hk, hst, ht, hn⟩⟩ w1.drew) := h1
  clear h1
  go_region_held3 (fun W => W.cell? ⟨w.heap.size, 0, none⟩ = some (.string rm) ∧ W.cell? ⟨w.heap.size, 1, none⟩ = some (.string rp)) (go_keep)
    (first | (go_at_call 65; refine (HA.out _ hA1).mono ?_; rintro x w2 ⟨rfl, had0⟩; have had := hid had0; clear had0; have R2 := hid (R1.out.kept had.out.kp (by omega) (fun e => by have := hvl _ e; omega)); obtain ⟨d0, d1, d2, d3, d4, d5⟩ := R2.out.cells; have l2 := R2.out.lt; simp only at d0 d1 d2 d3 d4 d5))
  all_goals
    obtain ⟨ea, ec, v', S2⟩ := (HS.out.below hA1).added had.out
    have hb2 := had.out.bl
    have l2s : gs < w2.heap.size := S2.tb.lt
    clear c0 c1 c2 c3 c4 c5 l1 HA had R1
    go_wp2_with fail
    refine (HR.out _).mono ?_
    rintro x w3 ⟨rfl, hb3⟩
    have R3 := hid (R2.out.below hb3)
    have S3 := hid (S2.below hb3)
    have hBb : Below B w w3 := ((hA1.mono hBw).trans hb2).trans (hb3.mono (Nat.le_trans (Nat.le_trans hBw hA1.size) hb2.size))
    cases hb
    · clear HC S3 S2 R2 R3 HS
      go_wp2_with fail
      go_ret
      exact SAdds.no rfl hBb
    · clear S2 R2 HS d0 d1 d2 d3 d4 d5
      obtain ⟨d0, d1, d2, d3, d4, d5⟩ := R3.out.cells
      simp only at d0 d1 d2 d3 d4 d5
      have l3 := R3.out.lt
      have cel3 : w3.cell? ⟨gs, 1, none⟩ = some (.slice ah hs.length ch) := by rw [Lib.cell_of_heap S3.out.blk]; rfl
      have fre3 : w3.frozen? ⟨gs, 1, none⟩ = false := Lib.frozen_of_heap S3.out.blk 1
      have lt3 : gs < w3.heap.size := S3.out.tb.lt
      have ow3 := S3.out.hr
      have hnown := S3.out.h1
      have hBr : B ≤ w3.heap.size := Nat.le_trans hBw hBb.size
      clear hb3 R3 l2 l2s
      go_wp2_with fail
      go_region_law
        (first
          | (refine step_append_lies _ (by rfl) _ _ _ (by rfl) B 79 i0 _ 4 48 Tryz.underlying114 hi hz0 hz1 hz2 rfl (by omega) (.slice ah hs.length ch) hs.length (hnC hs) (by rfl) ((owns_below ow3.drew hb4).alloc _) ⟨w4.heap.size, 0, none⟩ 1 1 [.int .i64 hk, .int .i64 hst, .string ht, .string hn] (by rfl) (by rfl) (World.news_of_block (cs := #[.int .i64 hk, .int .i64 hst, .string ht, .string hn]) (t := 79) (fr := (0, 0)) (heap_alloc_new w4 _)) (by simp [Value.oneCell']) (by omega) (by unfold maxLen; omega) (by omega) (Nat.le_trans (Nat.le_trans hBr hb4.size) (by simp)) (w4.heap.size + 1) (by simp) ?_; intro gg cap w5 hown5 hgrow hat hlt5; have c5 := cell_grown hgrow (cell_old k4) hnown; have f5 : w5.frozen? ⟨gs, 1, none⟩ = false := frozen_add hgrow hb4 fre3 lt3 hnown; have l5 : gs < w5.heap.size := Nat.lt_of_lt_of_le (Nat.lt_of_lt_of_le lt3 hb4.size) (Nat.le_trans (by simp) hgrow.size))
          | (go_simp; go_at_call 67; refine (HC.out _).mono ?_; rintro e w4 ⟨rfl, hb4⟩; have k4 := cell_later hb4 (show w3.drew.cell? ⟨gs, 1, none⟩ = _ from cel3); have l4 : gs < w4.heap.size := Nat.lt_of_lt_of_le lt3 hb4.size))
      all_goals
        have hE : Below w3.heap.size w3 (w4.alloc (.cells #[.int .i64 hk, .int .i64 hst, .string ht, .string hn] 79)) := (bel_of (Below.refl w3.heap.size w3).drew hb4).alloc (bel_of (Below.refl w3.heap.size w3).drew hb4).size _
        have hAD : Hid (SAdd gs B es hs ws vw ⟨rm, rp, ⟨hk, hst, ht, hn⟩⟩ p w _) := sadd_end S3.out hBb hE hgrow hown5 (hat.imp_right (fun h => by rw [h]; simp)) hB hBr
        clear hE hgrow hown5 hat hlt5
        go_wp2
        go_ret
        exact SAdds.yes rfl hAD.out
end Go.Proofs.YtbphabgjhoifbaaGreatDoor
