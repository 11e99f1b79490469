/- Texts that follow one another, joined. -/
import Derived.Test.YtfdhmeojkagokaaGreatDoorJoin15
/- A site of any configuration; what rests on a table's methods and patterns alone; the list of methods is short. -/
namespace Go.Proofs.YtfdhmeojkagokaaGreatDoor
open Go.RowKit

theorem new_any (hd bd : Int) (rs : List Rt) (ws : List Wr) (ar : Option Addr) (cr : Nat) (aw : Option Addr) (cw : Nat) (mx : Int) (w : World) (hR : MuAt 6 Rt.cells rs ar w) (hW : MuAt 4 Wr.cells ws aw w) (hro : ∀ r ∈ rs, RtOk r) (hwo : ∀ x ∈ ws, x.n.size ≤ 281474976710656 ∧ x.v.size ≤ 281474976710656) (hm : w.cell? ⟨0, 0, none⟩ = some (.int .i64 mx)) :
    Calls Tryz.prog 22 #[.agg #[.int .i64 hd, .int .i64 bd, .slice ar rs.length cr, .slice aw ws.length cw]] w (NwPost rs ws (cfgE hd bd rs ws) w) := by
  unfold cfgE
  cases h : decide (32 ≤ hd ∧ hd ≤ 500 ∧ 0 ≤ bd ∧ bd ≤ 200)
  · rw [if_pos rfl]
    exact (new_lim hd bd ar rs.length cr aw ws.length cw w h).mono fun x w' ⟨h1, h2⟩ => NwPost.err h1 (by simp) h2
  · rw [if_neg (by simp)]
    by_cases hf : 24 < rs.length ∨ 6 < ws.length
    · rw [if_pos hf]
      exact (new_full hd bd ar rs.length cr aw ws.length cw w h hf).mono fun x w' ⟨h1, h2⟩ => NwPost.err h1 (by simp) h2
    · rw [if_neg hf]
      exact new_main hd bd rs ws ar cr aw cw mx w h (by omega) (by omega) hR hW hro hwo hm
theorem methG_bare (l : List UInt8) (es : List Ent) : methG l (es.map Ent.bare) = methG l es := by
  unfold methG
  induction es with
  | nil => rfl
  | cons e r ih =>
    rw [List.map_cons, List.filter_cons, List.filter_cons]
    have : (matchB e.bare.ps (l.drop 1) true []).isSome = (matchB e.ps (l.drop 1) true []).isSome := rfl
    rw [this]
    split
    · rw [List.map_cons, List.map_cons, ih]; rfl
    · exact ih
theorem alwG_bare (l : List UInt8) (es : List Ent) : alwG l (es.map Ent.bare) = alwG l es := by
  unfold alwG methS; rw [methG_bare]
theorem otG_bare (m l : List UInt8) (es : List Ent) : otG m l (es.map Ent.bare) = otG m l es := by
  unfold otG; rw [leadG_bare]
theorem dspG_bare (m t : List UInt8) (es : List Ent) : dspG m t (es.map Ent.bare) = dspG m t es := by
  unfold dspG; rw [leadG_bare, otG_bare, alwG_bare]
theorem join_len (K : Nat) (sep : List UInt8) : ∀ (l : List (List UInt8)), (∀ x ∈ l, x.length ≤ K) → (Lib.join l sep).length ≤ l.length * (K + sep.length)
  | [], _ => by simp [Lib.join, List.intercalate]
  | [x], h => by
    have := h x (by simp)
    simp [Lib.join, List.intercalate]; omega
  | x :: y :: r, h => by
    have hx := h x (by simp)
    have ih := join_len K sep (y :: r) (fun z hz => h z (by simp [hz]))
    have e : Lib.join (x :: y :: r) sep = x ++ (sep ++ Lib.join (y :: r) sep) := by simp [Lib.join, List.intercalate, List.intersperse]
    rw [e]
    simp only [List.length_append, List.length_cons] at ih ⊢
    rw [Nat.succ_mul]
    omega
theorem alw_mem {l x : List UInt8} {es : List Ent} (h : x ∈ alwG l es) : x = hdL ∨ ∃ e ∈ es, x = e.m.data.toList := by
  have key : ∀ y, y ∈ methS l es → ∃ e ∈ es, y = e.m.data.toList := fun y hy => by
    unfold methS srt at hy
    rw [List.mem_mergeSort, List.mem_map] at hy
    obtain ⟨b, hb, rfl⟩ := hy
    unfold methG at hb
    rw [List.mem_map] at hb
    obtain ⟨e, he, rfl⟩ := hb
    exact ⟨e, (List.mem_filter.1 he).1, rfl⟩
  unfold alwG at h
  split at h
  · unfold srt at h
    rw [List.mem_mergeSort, List.mem_append] at h
    rcases h with h | h
    · exact .inr (key x h)
    · exact .inl (by simpa using h)
  · exact .inr (key x h)
theorem alw_join (l : List UInt8) (es : List Ent) (h : ∀ e ∈ es, e.m.size ≤ 1000) (hf : es.length ≤ 24) : (Lib.join (alwG l es) [44, 32]).length ≤ 100000 := by
  have h1 := join_len 1000 [44, 32] (alwG l es) (fun x hx => by
    rcases alw_mem hx with rfl | ⟨e, he, rfl⟩
    · decide
    · have := h e he
      have e2 : e.m.data.toList.length = e.m.size := by simp
      omega)
  have h2 := alwG_few l es
  have h3 : (alwG l es).length ≤ 25 := by omega
  have h4 : (alwG l es).length * (1000 + [44, 32].length) ≤ 25 * (1000 + [44, 32].length) := Nat.mul_le_mul_right _ h3
  simp at h4 h1
  omega
/- routes that are right have methods -/
theorem rts_meth : ∀ (rs : List Rt) (es : List Ent) (k : Nat), (rtsE rs es k).2 = 0 → ∀ r ∈ rs, Pm.isMethod r.m.data.toList = true
  | [], _, _, _, r, hr => absurd hr (by simp)
  | r :: rs, es, k, h, q, hq => by
    rw [rtsE] at h
    by_cases h0 : rtE es r = 0
    · rw [if_pos h0] at h
      rcases List.mem_cons.1 hq with rfl | hq
      · exact (rtE_in (.inl h0)).1
      · exact rts_meth rs _ _ h q hq
    · rw [if_neg h0] at h; exact absurd h h0
theorem cfg_ok {hd bd : Int} {rs : List Rt} {ws : List Wr} (h : (cfgE hd bd rs ws).2 = 0) : rs.length ≤ 24 ∧ ws.length ≤ 6 ∧ (rtsE rs [] 0).2 = 0 ∧ (wrsE ws 0).2 = 0 := by
  unfold cfgE at h
  by_cases h1 : decide (32 ≤ hd ∧ hd ≤ 500 ∧ 0 ≤ bd ∧ bd ≤ 200) = false
  · rw [if_pos h1] at h; simp at h
  · rw [if_neg h1] at h
    by_cases h2 : 24 < rs.length ∨ 6 < ws.length
    · rw [if_pos h2] at h; simp at h
    · rw [if_neg h2] at h
      by_cases h3 : (rtsE rs [] 0).2 = 0
      · rw [if_pos h3] at h; exact ⟨by omega, by omega, h3, h⟩
      · rw [if_neg h3] at h; exact absurd h h3
def pdG (hd bd : Int) (rs : List Rt) (ws : List Wr) (m t : List UInt8) : DsR :=
  if (cfgE hd bd rs ws).2 = 0 then dspG m t (rs.map rtBare) else ⟨0, 0, [], [], [], (cfgE hd bd rs ws).2⟩
end Go.Proofs.YtfdhmeojkagokaaGreatDoor

/- The program's Dispatch, of any configuration, method and target. -/
namespace Go.Proofs.YtfdhmeojkagokaaGreatDoor
open Go.RowKit

theorem dispatch_any (gs B : Nat) (es : List Ent) (v : Value) (m t : ByteArray) (w : World) (hT : TbAt gs 0 B es v w) (hm : m.size ≤ maxLen) (ht : t.size ≤ 140737488350000) (hj : (Lib.join (alwG (Pm.ahead 63 t.data.toList) es) [44, 32]).length ≤ 140737488355328) :
    Calls Tryz.prog 39 #[.pointer (some ⟨gs, 0, none⟩), .string m, .string t] w (DpPost (dspG m.data.toList t.data.toList es) w) := by
  by_cases h : Pm.isMethod m.data.toList = false ∨ Pm.isTarget t.data.toList = false
  · have e : dspG m.data.toList t.data.toList es = ⟨0, 0, [], [], [], 3⟩ := if_pos h
    rw [e]
    exact dispatch_bad _ m t w hm (by omega) h
  · have h1 : Pm.isMethod m.data.toList = true := by cases q : Pm.isMethod m.data.toList; exact absurd (.inl q) h; rfl
    have h2 : Pm.isTarget t.data.toList = true := by cases q : Pm.isTarget t.data.toList; exact absurd (.inr q) h; rfl
    exact dispatch_ok gs B es v m t w hT hm ht h1 h2 hj
/- a site that New has made, at a world where it stands -/
theorem site_join {gs B : Nat} {es : List Ent} {hs : List Hn} {ws : List Wr} {v vh vw : Value} {w : World} {rs : List Rt} (l : List UInt8) (hS : StI gs B es hs ws v vh vw w) (he : es.map Ent.bare = rs.map rtBare) (hr : (rtsE rs [] 0).2 = 0) : (Lib.join (alwG l es) [44, 32]).length ≤ 100000 := by
  refine alw_join l es (fun e hme => ?_) hS.tb.few
  have h1 : e.bare ∈ rs.map rtBare := by rw [← he]; exact List.mem_map.2 ⟨e, hme, rfl⟩
  obtain ⟨r, hr1, hr2⟩ := List.mem_map.1 h1
  have h3 : e.m = r.m := by have := congrArg Ent.m hr2; simpa [rtBare, Ent.bare] using this.symm
  rw [h3]
  exact meth_small (rts_meth rs [] 0 hr r hr1)
end Go.Proofs.YtfdhmeojkagokaaGreatDoor

/- The program's Check. -/
namespace Go.Proofs.YtfdhmeojkagokaaGreatDoor
open Go.RowKit

end Go.Proofs.YtfdhmeojkagokaaGreatDoor

/- The program's Reply: what comes of a request, as plain mathematics; an answer and a request on its way in memory; param. -/
namespace Go.Proofs.YtfdhmeojkagokaaGreatDoor
open Go.RowKit

/- an answer, but for Close -/
structure An where
  st : Int
  fs : List Prm
  b : ByteArray
def stG (n : List UInt8) : List Prm → ByteArray
  | [] => ⟨#[]⟩
  | p :: r => if p.1.data.toList = n then p.2 else stG n r
/- what a handler answers; none: it gives up -/
def handG (h : Hn) (qb : ByteArray) (ps : List Prm) : Option An :=
  if h.k = 0 then some ⟨h.st, [], h.t⟩ else if h.k = 1 then some ⟨h.st, [], qb⟩ else if h.k = 2 then some ⟨h.st, [], stG h.n.data.toList ps⟩ else if h.k = 3 then some ⟨h.st, [(h.t, stG h.n.data.toList ps)], ⟨#[]⟩⟩ else none
def savedB : ByteArray := ⟨#[115, 97, 118, 101, 100]⟩
def wareG (x : Wr) (qf : List Prm) (qb : ByteArray) (G : Option An) : Option An :=
  if x.k = 0 then G.map fun a => ⟨a.st, a.fs ++ [(x.n, x.v)], a.b⟩
  else if x.k = 1 then (if x.v.data.toList ∈ (valsOf qf x.n.data.toList).map (fun b => b.data.toList) then G else some ⟨403, [], ⟨#[]⟩⟩)
  else if x.k = 2 then (if x.lim < (qb.size : Int) then some ⟨413, [], ⟨#[]⟩⟩ else G)
  else if x.k = 3 then (match G with
    | none => some ⟨500, [], savedB⟩
    | some a => some a)
  else if x.k = 4 then G.map fun a => ⟨a.st, a.fs ++ (valsOf qf x.n.data.toList).map (fun v => (x.n, v)), a.b⟩
  else G
def thrG (qf : List Prm) (qb : ByteArray) (h : Hn) (ps : List Prm) : List Wr → Option An
  | [] => handG h qb ps
  | x :: r => wareG x qf qb (thrG qf qb h ps r)
/- an answer's block -/
def AnB (g : Nat) (st : Int) (vv : Value) (b : ByteArray) (cl : Bool) (w : World) : Prop := w.heap[g]? = some (.cells #[.int .i64 st, vv, .string b, .bool cl] 44 (0, 0))
theorem AnB.cells {g : Nat} {st : Int} {vv : Value} {b : ByteArray} {cl : Bool} {w : World} (h : AnB g st vv b cl w) : w.cell? ⟨g, 0, none⟩ = some (.int .i64 st) ∧ w.cell? ⟨g, 1, none⟩ = some vv ∧ w.cell? ⟨g, 2, none⟩ = some (.string b) ∧ w.cell? ⟨g, 3, none⟩ = some (.bool cl) := by
  refine ⟨?_, ?_, ?_, ?_⟩ <;> (rw [Lib.cell_of_heap h]; rfl)
theorem AnB.free {g : Nat} {st : Int} {vv : Value} {b : ByteArray} {cl : Bool} {w : World} (h : AnB g st vv b cl w) (j : Nat) : w.frozen? ⟨g, j, none⟩ = false := Lib.frozen_of_heap h j
theorem AnB.lt {g : Nat} {st : Int} {vv : Value} {b : ByteArray} {cl : Bool} {w : World} (h : AnB g st vv b cl w) : g < w.heap.size := block_lt_of_cell h.cells.1
theorem AnB.below {g : Nat} {st : Int} {vv : Value} {b : ByteArray} {cl : Bool} {w w' : World} (h : AnB g st vv b cl w) (hb : Below w.heap.size w w') : AnB g st vv b cl w' := by
  have := hb.block g h.lt; unfold AnB at *; rw [this]; exact h
def setA (g : Nat) (st : Int) (vv : Value) (b : ByteArray) (cl : Bool) (w : World) : World := (((w.setCell ⟨g, 0, none⟩ (.int .i64 st)).setCell ⟨g, 1, none⟩ vv).setCell ⟨g, 2, none⟩ (.string b)).setCell ⟨g, 3, none⟩ (.bool cl)
theorem AnB.set {g : Nat} {st : Int} {vv : Value} {b : ByteArray} {cl : Bool} {w : World} (h : AnB g st vv b cl w) (st' : Int) (vv' : Value) (b' : ByteArray) (cl' : Bool) : AnB g st' vv' b' cl' (setA g st' vv' b' cl' w) := by
  unfold AnB setA at *
  rw [heap_setCell_same _ g 3 _ _ _ (heap_setCell_same _ g 2 _ _ _ (heap_setCell_same _ g 1 _ _ _ (heap_setCell_same _ g 0 _ _ _ h)))]
  rfl
theorem below_setA {g B : Nat} {st : Int} {vv : Value} {b : ByteArray} {cl : Bool} {w w' : World} (h : Below B w w') (hB : B ≤ g) : Below B w (setA g st vv b cl w') :=
  (((h.setCell hB _).setCell hB _).setCell hB _).setCell hB _
theorem owns_setA {g B : Nat} {e : TypeId} {sz n : Nat} {v : Value} {xs : List Value} {st : Int} {vv : Value} {b : ByteArray} {cl : Bool} {w : World} (h : w.ownsRow B e sz v n xs) (hn : v.ownBlock ≠ some g) : (setA g st vv b cl w).ownsRow B e sz v n xs :=
  owns_not (owns_not (owns_not (owns_not h hn 0 _) hn 1 _) hn 2 _) hn 3 _
/- a request on its way -/
structure Rn where
  qm : ByteArray
  qt : ByteArray
  qb : ByteArray
  fs : List Prm
  fa : Option Addr
  fc : Nat
  ps : List Prm
  pa : Option Addr
  pc : Nat
  h : Hn
def Rn.vals (r : Rn) : Array Value := #[.string r.qm, .string r.qt, .slice r.fa r.fs.length r.fc, .string r.qb, .slice r.pa r.ps.length r.pc, .int .i64 r.h.k, .int .i64 r.h.st, .string r.h.t, .string r.h.n]
structure RnAt (r : Rn) (w : World) : Prop where
  f : FlAt r.fs r.fa w
  p : FlAt r.ps r.pa w
  nf : r.fs.length ≤ 1000000
  np : r.ps.length ≤ 1000000
  zf : ∀ i (h : i < r.fs.length), r.fs[i].1.size ≤ maxLen
theorem RnAt.below {r : Rn} {w w' : World} (h : RnAt r w) (hb : Below w.heap.size w w') : RnAt r w' := ⟨h.f.below hb, h.p.below hb, h.nf, h.np, h.zf⟩
/- the block of such a request -/
def RnB (g : Nat) (r : Rn) (w : World) : Prop := w.heap[g]? = some (.cells r.vals 124 (0, 0))
theorem RnB.cells {g : Nat} {r : Rn} {w : World} (h : RnB g r w) : w.cell? ⟨g, 0, none⟩ = some (.string r.qm) ∧ w.cell? ⟨g, 1, none⟩ = some (.string r.qt) ∧ w.cell? ⟨g, 2, none⟩ = some (.slice r.fa r.fs.length r.fc) ∧ w.cell? ⟨g, 3, none⟩ = some (.string r.qb) ∧ w.cell? ⟨g, 4, none⟩ = some (.slice r.pa r.ps.length r.pc) ∧ w.cell? ⟨g, 5, none⟩ = some (.int .i64 r.h.k) ∧ w.cell? ⟨g, 6, none⟩ = some (.int .i64 r.h.st) ∧ w.cell? ⟨g, 7, none⟩ = some (.string r.h.t) ∧ w.cell? ⟨g, 8, none⟩ = some (.string r.h.n) := by
  refine ⟨?_, ?_, ?_, ?_, ?_, ?_, ?_, ?_, ?_⟩ <;> (rw [Lib.cell_of_heap h]; rfl)
theorem RnB.lt {g : Nat} {r : Rn} {w : World} (h : RnB g r w) : g < w.heap.size := block_lt_of_cell h.cells.1
theorem RnB.below {g : Nat} {r : Rn} {w w' : World} (h : RnB g r w) (hb : Below w.heap.size w w') : RnB g r w' := by
  have := hb.block g h.lt; unfold RnB at *; rw [this]; exact h
set_option maxRecDepth 100000 in
set_option maxHeartbeats 2000000 in
theorem param_any (r : Rn) (n : ByteArray) (w : World) (hr : RnAt r w) :
    Calls Tryz.prog 143 #[.agg r.vals, .string n] w fun x w' => x = .returned (.string (stG n.data.toList r.ps)) ∧ Below w.heap.size w w' := by
  have hA := (Below.refl w.heap.size w).alloc (Nat.le_refl _) (.cells r.vals 124)
  have hg : RnB w.heap.size r (w.alloc (.cells r.vals 124)) := heap_alloc_new w _
  have HP := hid hr.p
  have hnp := hr.np
  generalize hRES : stG n.data.toList r.ps = RES
  have HRES : Hid (stG n.data.toList (r.ps.drop 0) = RES) := hRES
  obtain ⟨c0, c1, c2, c3, c4, c5, c6, c7, c8⟩ := hg.cells
  have l0 := hg.lt
  clear hr hg hRES
  obtain ⟨qm, qt, qb, fs, fa, fc, ps, pa, pc, h⟩ := r
  simp only [Rn.vals] at *
  go_enter Tryz.func143, Tryz.ntmps143
  go_wp2_with fail
  generalize w.alloc (.cells #[.string qm, .string qt, .slice fa fs.length fc, .string qb, .slice pa ps.length pc, .int .i64 h.k, .int .i64 h.st, .string h.t, .string h.n] 124) = w1 at *
  clear c0 c1 c2 c3 c4 c5 c6 c7 c8
  go_loopw [10] (fun i wr => ∃ k : Nat, k ≤ ps.length ∧ i = .int .i64 k ∧ Hid (stG n.data.toList (ps.drop k) = RES) ∧ Below w.heap.size w wr) (fun i _ => ps.length - (intOf i).toNat)
  case atStart => exact ⟨0, Nat.zero_le _, rfl, HRES, hA⟩
  case round =>
    obtain ⟨k, hk, rfl, HK, hbw⟩ := hrel
    by_cases hlt : k < ps.length
    · obtain ⟨g, rfl, hg, hc1, hc2⟩ := (HP.out.below hbw) k hlt
      have hs := HK.out
      rw [← List.getElem_cons_drop hlt, stG] at hs
      have HS := hid hs
      generalize ps[k] = p at *
      obtain ⟨pn, pv⟩ := p
      simp only at hc1 hc2 HS
      have hbe := bne_lists pn n
      have hB := hbw.alloc hbw.size (.cells #[.string pn, .string pv] 76)
      clear hs HK HRES
      by_cases he : pn.data.toList = n.data.toList
      · have hs := HS.out
        rw [if_pos he] at hs
        subst hs
        rw [decide_eq_true he] at hbe
        clear HS
        go_wp2_with fail
        go_ret
        exact ⟨rfl, hB⟩
      · have hs := HS.out
        rw [if_neg he] at hs
        have HS2 := hid hs
        rw [decide_eq_false he] at hbe
        clear HS hs
        go_wp2_with fail
        exact ⟨⟨k + 1, by omega, by go_num, HS2, hB⟩, by simp [intOf]; omega⟩
    · have hne : ¬ (k : Int) < (ps.length : Int) := by omega
      have hs := HK.out
      rw [List.drop_eq_nil_of_le (by omega), stG] at hs
      subst hs
      clear HK HRES
      go_wp2_with fail
      go_ret
      exact ⟨rfl, hbw⟩
end Go.Proofs.YtfdhmeojkagokaaGreatDoor
