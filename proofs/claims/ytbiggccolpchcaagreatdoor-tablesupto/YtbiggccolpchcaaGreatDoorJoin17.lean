/- Texts that follow one another, joined. -/
import Derived.Test.YtbiggccolpchcaaGreatDoorJoin16
import Derived.Deep.RegionLaw
/- Adding a route to a site: the error that says why not, or the site with it. -/
namespace Go.Proofs.YtbiggccolpchcaaGreatDoor
open Go.RowKit

def RtB (g : Nat) (r : Rt) (w : World) : Prop := w.heap[g]? = some (.cells #[.string r.m, .string r.p, .int .i64 r.h.k, .int .i64 r.h.st, .string r.h.t, .string r.h.n] 75 (0, 0))
theorem RtB.cells {g : Nat} {r : Rt} {w : World} (h : RtB g r w) : w.cell? ⟨g, 0, none⟩ = some (.string r.m) ∧ w.cell? ⟨g, 1, none⟩ = some (.string r.p) ∧ w.cell? ⟨g, 2, none⟩ = some (.int .i64 r.h.k) ∧ w.cell? ⟨g, 3, none⟩ = some (.int .i64 r.h.st) ∧ w.cell? ⟨g, 4, none⟩ = some (.string r.h.t) ∧ w.cell? ⟨g, 5, none⟩ = some (.string r.h.n) := by
  refine ⟨?_, ?_, ?_, ?_, ?_, ?_⟩ <;> (rw [Lib.cell_of_heap h]; rfl)
theorem RtB.lt {g : Nat} {r : Rt} {w : World} (h : RtB g r w) : g < w.heap.size := block_lt_of_cell h.cells.1
theorem RtB.below {g : Nat} {r : Rt} {w w' : World} (h : RtB g r w) (hb : Below w.heap.size w w') : RtB g r w' := by
  have := hb.block g h.lt; unfold RtB at *; rw [this]; exact h
/- a route's texts are not beyond bounds -/
structure RtOk (r : Rt) : Prop where
  m : r.m.size ≤ 281474976710656
  p : r.p.size ≤ 281474976710656
  t : r.h.t.size ≤ 281474976710656
  n : r.h.n.size ≤ 281474976710656
theorem pat_small {s : ByteArray} {p : List (Int × ByteArray)} (h : patternOf s.data.toList = some p) : s.size ≤ 64 := by
  unfold patternOf at h
  by_cases hc : s.data.toList.length ≤ 64 ∧ Lib.hasPrefix s.data.toList [47] = true
  · have : s.data.toList.length = s.size := by simp
    omega
  · rw [if_neg hc] at h; cases h
theorem meth_small {s : ByteArray} (h : Pm.isMethod s.data.toList = true) : s.size ≤ 1000 := by
  unfold Pm.isMethod at h
  rw [Bool.and_eq_true] at h
  have h1 := of_decide_eq_true h.1
  have : s.data.toList.length = s.size := by simp
  omega
/- the errors that Add itself tells -/
theorem add_errs (gs B : Nat) (es : List Ent) (v : Value) (r : Rt) (mx : Int) (w : World) (hT : TbAt gs 0 B es v w) (hr : RtOk r) (hm : w.cell? ⟨0, 0, none⟩ = some (.int .i64 mx)) (e : Int) (he : rtE es r = e) (h0 : e ≠ 0) (h12 : e ≠ 12) :
    Calls Tryz.prog 102 #[.pointer (some ⟨gs, 0, none⟩), .string r.m, .string r.p] w fun x w' => (∃ n, x = .returned (.tuple #[.int .i64 n, .int .i64 e])) ∧ Below w.heap.size w w' := by
  unfold rtE at he
  cases hmm : Pm.isMethod r.m.data.toList
  · rw [hmm, if_pos rfl] at he
    subst he
    exact (tAdd_arg _ r.m r.p w hmm (by have := hr.m; unfold maxLen; omega)).mono fun x w' ⟨h1, h2⟩ => ⟨⟨_, h1⟩, h2⟩
  · rw [hmm, if_neg (by simp)] at he
    cases hp : patternOf r.p.data.toList with
    | none =>
      rw [hp] at he
      simp only at he
      subst he
      exact (tAdd_pat _ r.m r.p mx w hmm (by have := hr.m; unfold maxLen; omega) hp hr.p hm).mono fun x w' ⟨h1, h2⟩ => ⟨⟨_, h1⟩, h2⟩
    | some p =>
      rw [hp] at he
      simp only at he
      have hs := pat_small hp
      by_cases h24 : 24 ≤ es.length
      · rw [if_pos h24] at he
        subst he
        exact (tAdd_no gs 0 B es v r.m r.p p mx w hT hmm (meth_small hmm) hp (by omega) hm 0 10 (.inl ⟨h24, rfl, rfl⟩)).mono fun x w' ⟨h1, h2⟩ => ⟨⟨_, h1⟩, h2⟩
      · rw [if_neg h24] at he
        cases hh : hitG r.m.data.toList p es 0 with
        | some j =>
          rw [hh] at he
          simp only [Option.isSome_some, if_true] at he
          subst he
          exact (tAdd_no gs 0 B es v r.m r.p p mx w hT hmm (meth_small hmm) hp (by omega) hm j 9 (.inr ⟨by omega, j, hh, rfl, rfl⟩)).mono fun x w' ⟨h1, h2⟩ => ⟨⟨_, h1⟩, h2⟩
        | none =>
          rw [hh] at he
          simp only [Option.isSome_none, Bool.false_eq_true, if_false] at he
          by_cases hq : hndB r.h.k r.h.st r.h.t.data.toList = false
          · rw [if_pos hq] at he; exact absurd he.symm h12
          · rw [if_neg hq] at he; exact absurd he.symm h0
/- where Add takes it in -/
theorem rtE_in {es : List Ent} {r : Rt} (h : rtE es r = 0 ∨ rtE es r = 12) : Pm.isMethod r.m.data.toList = true ∧ ∃ p, patternOf r.p.data.toList = some p ∧ es.length < 24 ∧ hitG r.m.data.toList p es 0 = none ∧ (rtE es r = 0 ↔ hndB r.h.k r.h.st r.h.t.data.toList = true) := by
  unfold rtE at h ⊢
  cases hmm : Pm.isMethod r.m.data.toList
  · rw [hmm, if_pos rfl] at h; omega
  · rw [hmm, if_neg (by simp)] at h
    refine ⟨rfl, ?_⟩
    cases hp : patternOf r.p.data.toList with
    | none => rw [hp] at h; simp only at h; omega
    | some p =>
      rw [hp] at h
      simp only at h
      by_cases h24 : 24 ≤ es.length
      · rw [if_pos h24] at h; omega
      · rw [if_neg h24] at h
        cases hh : hitG r.m.data.toList p es 0 with
        | some j => rw [hh] at h; simp at h
        | none =>
          refine ⟨p, rfl, by omega, hh, ?_⟩
          simp only [if_neg (show ¬ (true = false) by simp), if_neg h24, hh, Option.isSome_none, Bool.false_eq_true, if_false]
          cases hndB r.h.k r.h.st r.h.t.data.toList <;> simp
end Go.Proofs.YtbiggccolpchcaaGreatDoor

/- Adding a route to a site: the error that says why not, or the site with it. -/
namespace Go.Proofs.YtbiggccolpchcaaGreatDoor
open Go.RowKit

def Rt.agg (r : Rt) : Value := .agg #[.string r.m, .string r.p, .int .i64 r.h.k, .int .i64 r.h.st, .string r.h.t, .string r.h.n]
def Rt.obj (r : Rt) : Obj := .cells #[.string r.m, .string r.p, .int .i64 r.h.k, .int .i64 r.h.st, .string r.h.t, .string r.h.n] 75
set_option maxRecDepth 100000 in
set_option maxHeartbeats 2000000 in
theorem siteAdd_err (gs B : Nat) (es : List Ent) (v : Value) (r : Rt) (mx : Int) (w : World) (hT : TbAt gs 0 B es v w) (hr : RtOk r) (hm : w.cell? ⟨0, 0, none⟩ = some (.int .i64 mx)) (e : Int) (he : rtE es r = e) (h0 : e ≠ 0) (h12 : e ≠ 12) :
    Calls Tryz.prog 198 #[.pointer (some ⟨gs, 0, none⟩), r.agg] w fun x w' => x = .returned (.int .i64 e) ∧ Below w.heap.size w w' := by
  have lt0 := hT.lt
  have HA := hid (fun W (hW : Below w.heap.size w W) => add_errs gs B es v r mx W (hT.below hW) hr (cell_later hW hm) e he h0 h12)
  have hA := (Below.refl w.heap.size w).alloc (Nat.le_refl _) r.obj
  have h1 : RtB w.heap.size r (w.alloc r.obj) := heap_alloc_new w _
  have ltA : gs < (w.alloc r.obj).heap.size := by simp; omega
  obtain ⟨rm, rp, ⟨hk, hst, ht, hn⟩⟩ := r
  simp only [Rt.agg, Rt.obj] at *
  clear hT hm he hr
  go_enter Tryz.func198, Tryz.ntmps198
  go_upto_region 1 with fail
  generalize w.alloc (.cells #[.string rm, .string rp, .int .i64 hk, .int .i64 hst, .string ht, .string hn] 75) = w1 at *
  obtain ⟨c0, c1, c2, c3, c4, c5⟩ := h1.cells
  have l1 := h1.lt
  simp only at c0 c1 c2 c3 c4 c5
  have hA1 := hA.drew
  go_region_held3 (fun W => W.cell? ⟨w.heap.size, 0, none⟩ = some (.string rm) ∧ W.cell? ⟨w.heap.size, 1, none⟩ = some (.string rp)) (go_keep)
    (first | (go_at_call 102; refine (HA.out _ hA1).mono ?_; rintro x w2 ⟨⟨n, rfl⟩, hb2⟩; have hB2 := bel_of hA1 hb2; have d0 := cell_later hb2 (show w1.drew.cell? ⟨w.heap.size, 0, none⟩ = _ from c0); have d1 := cell_later hb2 (show w1.drew.cell? ⟨w.heap.size, 1, none⟩ = _ from c1)))
  all_goals (try go_wp2_with fail)
  all_goals go_ret
  all_goals exact ⟨rfl, hB2⟩
end Go.Proofs.YtbiggccolpchcaaGreatDoor

/- A site keeps standing while its table takes a route in, and while its handlers and wares grow. -/
namespace Go.Proofs.YtbiggccolpchcaaGreatDoor
open Go.RowKit

theorem owns_keepS {w w' : World} {B gs j : Nat} {e : TypeId} {sz : Nat} {v x : Value} {n : Nat} {xs : List Value} {row : Option Nat} (h : w.ownsRow B e sz v n xs) (hg : w.grownBy w' row) (h1 : v.ownBlock ≠ some gs) (h2 : ∀ r, row = some r → v.ownBlock ≠ some r) : (w'.setCell ⟨gs, j, none⟩ x).ownsRow B e sz v n xs :=
  keepB h fun r hr => by
    rw [heap_setCell_other w' ⟨gs, j, none⟩ r x (fun e => h1 (by rw [hr, e]))]
    exact hg.block r (own_ltw h r hr) (fun e => h2 r e.symm hr)
theorem tb_grown {gs B j : Nat} {es : List Ent} {v x : Value} {w w' : World} {row : Option Nat} {cs : Array Value} {t : TypeId} (hT : TbAt gs 0 B es v w) (hg : w.grownBy w' row) (h1 : row ≠ some gs) (h2 : ∀ r, row = some r → v.ownBlock ≠ some r ∧ ∀ i (h : i < es.length), es[i].a ≠ some ⟨r, 0, none⟩) (hj : j ≠ 0) (hb : w.heap[gs]? = some (.cells cs t (0, 0))) : TbAt gs 0 B es v (w'.setCell ⟨gs, j, none⟩ x) := by
  have hgs := hT.lt
  have hb' : w'.heap[gs]? = some (.cells cs t (0, 0)) := by rw [hg.block gs hgs (fun e => h1 e.symm)]; exact hb
  have hbn := heap_setCell_same w' gs j cs t x hb'
  have hz := hg.size
  refine ⟨?_, Lib.frozen_of_heap hbn 0, owns_keepS hT.row hg hT.own (fun r hr => (h2 r hr).1), fun i hi => ?_, hT.far, fun i hi g hgg => ?_, hT.own, hT.few, hT.szs, hT.new⟩
  · rw [World.cell?_setCell_other _ _ _ _ (fun e => by simp only [Addr.mk.injEq] at e; first | exact hj e.2.1 | exact hj e.2.1.symm)]
    exact cell_grown hg hT.cel h1
  · refine (hT.pat i hi).keep (by simp; omega) (fun g hgg k => ?_)
    have hgl := hT.blk i hi g hgg
    have hne := (hT.far i hi g hgg).1
    rw [World.cell?_setCell_other _ _ _ _ (fun e => by simp only [Addr.mk.injEq] at e; first | exact hne e.1 | exact hne e.1.symm)]
    exact World.cell?_of_block (hg.block g hgl (fun e => (h2 g e.symm).2 i hi hgg))
  · have := hT.blk i hi g hgg; simp; omega
theorem StI.added {gs B : Nat} {es : List Ent} {hs : List Hn} {ws : List Wr} {v vh vw : Value} {w w' : World} {m : ByteArray} {p : List (Int × ByteArray)} (h : StI gs B es hs ws v vh vw w) (ha : Added gs 0 B es v m p w w') : ∃ a c v', StI gs B (es ++ [⟨m, p, a, c⟩]) hs ws v' vh vw w' := by
  obtain ⟨⟨a, c, v', ht, hvo, han⟩, hbl, hkp, ⟨x, hx⟩⟩ := ha
  have hb := hx _ _ h.blk
  have hxv : x = v' := by
    have := ht.cel
    rw [Lib.cell_of_heap hb] at this
    simpa using this
  subst hxv
  have far : ∀ (u : Value), (∀ r, u.ownBlock = some r → r < w.heap.size) → (∀ r, u.ownBlock = some r → v.ownBlock ≠ some r ∧ ∀ i (hi : i < es.length), es[i].a ≠ some ⟨r, 0, none⟩) → ∀ r, u.ownBlock = some r → x.ownBlock ≠ some r ∧ ∀ i (hi : i < (es ++ [(⟨m, p, a, c⟩ : Ent)]).length), (es ++ [(⟨m, p, a, c⟩ : Ent)])[i].a ≠ some ⟨r, 0, none⟩ := fun u hu hf r hr => by
    have hl := hu r hr
    refine ⟨fun e => ?_, fun i hi e => ?_⟩
    · rcases hvo with q | ⟨r', q, hq⟩
      · rw [q] at e; exact (hf r hr).1 e
      · rw [q] at e; simp at e; omega
    · by_cases hlt : i < es.length
      · rw [List.getElem_append_left hlt] at e; exact (hf r hr).2 i hlt e
      · have : i = es.length := by rw [List.length_append] at hi; simp at hi; omega
        subst this
        rw [List.getElem_append_right (Nat.le_refl _)] at e
        simp only [Nat.sub_self, List.getElem_cons_zero] at e
        have := han r e; omega
  have kh : ∀ r, vh.ownBlock = some r → w'.heap[r]? = w.heap[r]? := fun r hr => hkp r (own_ltw h.hr r hr) (fun e => h.h1 (by rw [hr, e])) (h.h2 r hr).1
  have kw : ∀ r, vw.ownBlock = some r → w'.heap[r]? = w.heap[r]? := fun r hr => hkp r (own_ltw h.wr r hr) (fun e => h.w1 (by rw [hr, e])) (h.w2 r hr).1
  refine ⟨a, c, x, hb, ht, keepB h.hr kh, keepB h.wr kw, h.h1, fun r hr => ?_, h.w1, fun r hr => ?_⟩
  · have := far vh (own_ltw h.hr) (fun r hr => ⟨(h.h2 r hr).1, (h.h2 r hr).2.2⟩) r hr
    exact ⟨this.1, (h.h2 r hr).2.1, this.2⟩
  · have := far vw (own_ltw h.wr) (fun r hr => ⟨(h.w2 r hr).1, (h.w2 r hr).2.2⟩) r hr
    exact ⟨this.1, (h.w2 r hr).2.1, this.2⟩
theorem StI.hand {gs B : Nat} {es : List Ent} {hs : List Hn} {ws : List Wr} {v vh vw : Value} {w w' : World} {gg cap : Nat} {h0 : Hn} (h : StI gs B es hs ws v vh vw w) (hg : w.grownBy w' vh.ownBlock)
    (ho : w'.ownsRow B 73 4 (.slice (some ⟨gg, 0, none⟩) (hs.length + 1) cap) (hs.length + 1) (hnC hs ++ h0.cells)) (hat : vh.ownBlock = some gg ∨ w.heap.size ≤ gg) :
    StI gs B es (hs ++ [h0]) ws v (.slice (some ⟨gg, 0, none⟩) (hs.length + 1) cap) vw (w'.setCell ⟨gs, 1, none⟩ (.slice (some ⟨gg, 0, none⟩) (hs.length + 1) cap)) := by
  have hgs := h.tb.lt
  have hb' : w'.heap[gs]? = _ := (hg.block gs hgs (fun e => h.h1 e.symm)).trans h.blk
  have hne : gg ≠ gs := by
    rcases hat with q | q
    · intro e; rw [e] at q; exact h.h1 q
    · omega
  have hbn := heap_setCell_same w' gs 1 _ _ (.slice (some ⟨gg, 0, none⟩) (hs.length + 1) cap) hb'
  have hfar : v.ownBlock ≠ some gg ∧ vw.ownBlock ≠ some gg ∧ ∀ i (h : i < es.length), es[i].a ≠ some ⟨gg, 0, none⟩ := by
    rcases hat with q | q
    · exact h.h2 gg q
    · refine ⟨fun e => ?_, fun e => ?_, fun i hi e => ?_⟩
      · have := own_ltw h.tb.row gg e; omega
      · have := own_ltw h.wr gg e; omega
      · have := h.tb.blk i hi gg e; omega
  refine ⟨hbn, tb_grown h.tb hg h.h1 (fun r hr => ⟨(h.h2 r hr).1, (h.h2 r hr).2.2⟩) (by omega) h.blk, ?_, owns_keepS h.wr hg h.w1 (fun r hr => (h.h2 r hr).2.1), by simp [Value.ownBlock, hne], fun r hr => ?_, h.w1, fun r hr => ⟨(h.w2 r hr).1, fun e => ?_, (h.w2 r hr).2.2⟩⟩
  · rw [List.length_append, hnC_snoc]
    exact owns_not ho (by simp [Value.ownBlock, hne]) 1 _
  · simp only [Value.ownBlock, Option.some.injEq] at hr
    subst hr; exact hfar
  · simp only [Value.ownBlock, Option.some.injEq] at e
    subst e; exact hfar.2.1 hr
theorem StI.ware {gs B : Nat} {es : List Ent} {hs : List Hn} {ws : List Wr} {v vh vw : Value} {w w' : World} {gg cap : Nat} {x0 : Wr} (h : StI gs B es hs ws v vh vw w) (hg : w.grownBy w' vw.ownBlock)
    (ho : w'.ownsRow B 241 4 (.slice (some ⟨gg, 0, none⟩) (ws.length + 1) cap) (ws.length + 1) (wrC ws ++ x0.cells)) (hat : vw.ownBlock = some gg ∨ w.heap.size ≤ gg) :
    StI gs B es hs (ws ++ [x0]) v vh (.slice (some ⟨gg, 0, none⟩) (ws.length + 1) cap) (w'.setCell ⟨gs, 2, none⟩ (.slice (some ⟨gg, 0, none⟩) (ws.length + 1) cap)) := by
  have hgs := h.tb.lt
  have hb' : w'.heap[gs]? = _ := (hg.block gs hgs (fun e => h.w1 e.symm)).trans h.blk
  have hne : gg ≠ gs := by
    rcases hat with q | q
    · intro e; rw [e] at q; exact h.w1 q
    · omega
  have hbn := heap_setCell_same w' gs 2 _ _ (.slice (some ⟨gg, 0, none⟩) (ws.length + 1) cap) hb'
  have hfar : v.ownBlock ≠ some gg ∧ vh.ownBlock ≠ some gg ∧ ∀ i (h : i < es.length), es[i].a ≠ some ⟨gg, 0, none⟩ := by
    rcases hat with q | q
    · exact h.w2 gg q
    · refine ⟨fun e => ?_, fun e => ?_, fun i hi e => ?_⟩
      · have := own_ltw h.tb.row gg e; omega
      · have := own_ltw h.hr gg e; omega
      · have := h.tb.blk i hi gg e; omega
  refine ⟨hbn, tb_grown h.tb hg h.w1 (fun r hr => ⟨(h.w2 r hr).1, (h.w2 r hr).2.2⟩) (by omega) h.blk, owns_keepS h.hr hg h.h1 (fun r hr => (h.w2 r hr).2.1), ?_, h.h1, fun r hr => ⟨(h.h2 r hr).1, fun e => ?_, (h.h2 r hr).2.2⟩, by simp [Value.ownBlock, hne], fun r hr => ?_⟩
  · rw [List.length_append, wrC_snoc]
    exact owns_not ho (by simp [Value.ownBlock, hne]) 2 _
  · simp only [Value.ownBlock, Option.some.injEq] at e
    subst e; exact hfar.2.1 hr
  · simp only [Value.ownBlock, Option.some.injEq] at hr
    subst hr; exact hfar
end Go.Proofs.YtbiggccolpchcaaGreatDoor
