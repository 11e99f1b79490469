/- Texts that follow one another, joined. -/
import Derived.Test.YtpilfanbfpbldaaGreatDoorJoin17
/- The program's Dispatch, of any configuration, method and target. -/
namespace Go.Proofs.YtpilfanbfpbldaaGreatDoor
open Go.RowKit

theorem dispatch_any (gs B : Nat) (es : List Ent) (v : Value) (m t : ByteArray) (w : World) (hT : TbAt gs 0 B es v w) (hm : m.size ≤ maxLen) (ht : t.size ≤ 140737488350000) (hj : (Lib.join (alwG (Pm.ahead 63 t.data.toList) es) [44, 32]).length ≤ 140737488355328) :
    Calls Tryz.prog 58 #[.pointer (some ⟨gs, 0, none⟩), .string m, .string t] w (DpPost (dspG m.data.toList t.data.toList es) w) := by
  by_cases h : Pm.isMethod m.data.toList = false ∨ Pm.isTarget t.data.toList = false
  · have e : dspG m.data.toList t.data.toList es = ⟨0, 0, [], [], [], 3⟩ := if_pos h
    rw [e]
    exact dispatch_bad _ m t w hm (by omega) h
  · have h1 : Pm.isMethod m.data.toList = true := by cases q : Pm.isMethod m.data.toList; exact absurd (.inl q) h; rfl
    have h2 : Pm.isTarget t.data.toList = true := by cases q : Pm.isTarget t.data.toList; exact absurd (.inr q) h; rfl
    exact dispatch_ok gs B es v m t w hT hm ht h1 h2 hj
/- a site that New has made, at a world where it stands -/
theorem site_join {gs B : Nat} {es : List Ent} {hs : List Hn} {ws : List Wr} {v vh vw : Value} {w : World} {rs : List Rt} (l : List UInt8) (hS : StI gs B es hs ws v vh vw w) (he : es.map Ent.bare = rs.map rtBare) (hr : (rtsE rs [] 0).2 = 0) : (Lib.join (alwG l es) [44, 32]).length ≤ 100000 := by
  refine alw_join l es (fun e hme => ?_) hS.tb.few
  have h1 : e.bare ∈ rs.map rtBare := by rw [← he]; exact List.mem_map.2 ⟨e, hme, rfl⟩
  obtain ⟨r, hr1, hr2⟩ := List.mem_map.1 h1
  have h3 : e.m = r.m := by have := congrArg Ent.m hr2; simpa [rtBare, Ent.bare] using this.symm
  rw [h3]
  exact meth_small (rts_meth rs [] 0 hr r hr1)
end Go.Proofs.YtpilfanbfpbldaaGreatDoor

/- The program's Check. -/
namespace Go.Proofs.YtpilfanbfpbldaaGreatDoor
open Go.RowKit

end Go.Proofs.YtpilfanbfpbldaaGreatDoor

/- The program's Reply: what comes of a request, as plain mathematics; an answer and a request on its way in memory; param. -/
namespace Go.Proofs.YtpilfanbfpbldaaGreatDoor
open Go.RowKit

/- an answer, but for Close -/
structure An where
  st : Int
  fs : List Prm
  b : ByteArray
def stG (n : List UInt8) : List Prm → ByteArray
  | [] => ⟨#[]⟩
  | p :: r => if p.1.data.toList = n then p.2 else stG n r
/- what a handler answers; none: it gives up -/
def handG (h : Hn) (qb : ByteArray) (ps : List Prm) : Option An :=
  if h.k = 0 then some ⟨h.st, [], h.t⟩ else if h.k = 1 then some ⟨h.st, [], qb⟩ else if h.k = 2 then some ⟨h.st, [], stG h.n.data.toList ps⟩ else if h.k = 3 then some ⟨h.st, [(h.t, stG h.n.data.toList ps)], ⟨#[]⟩⟩ else none
def savedB : ByteArray := ⟨#[115, 97, 118, 101, 100]⟩
def wareG (x : Wr) (qf : List Prm) (qb : ByteArray) (G : Option An) : Option An :=
  if x.k = 0 then G.map fun a => ⟨a.st, a.fs ++ [(x.n, x.v)], a.b⟩
  else if x.k = 1 then (if x.v.data.toList ∈ (valsOf qf x.n.data.toList).map (fun b => b.data.toList) then G else some ⟨403, [], ⟨#[]⟩⟩)
  else if x.k = 2 then (if x.lim < (qb.size : Int) then some ⟨413, [], ⟨#[]⟩⟩ else G)
  else if x.k = 3 then (match G with
    | none => some ⟨500, [], savedB⟩
    | some a => some a)
  else if x.k = 4 then G.map fun a => ⟨a.st, a.fs ++ (valsOf qf x.n.data.toList).map (fun v => (x.n, v)), a.b⟩
  else G
def thrG (qf : List Prm) (qb : ByteArray) (h : Hn) (ps : List Prm) : List Wr → Option An
  | [] => handG h qb ps
  | x :: r => wareG x qf qb (thrG qf qb h ps r)
/- an answer's block -/
def AnB (g : Nat) (st : Int) (vv : Value) (b : ByteArray) (cl : Bool) (w : World) : Prop := w.heap[g]? = some (.cells #[.int .i64 st, vv, .string b, .bool cl] 89 (0, 0))
theorem AnB.cells {g : Nat} {st : Int} {vv : Value} {b : ByteArray} {cl : Bool} {w : World} (h : AnB g st vv b cl w) : w.cell? ⟨g, 0, none⟩ = some (.int .i64 st) ∧ w.cell? ⟨g, 1, none⟩ = some vv ∧ w.cell? ⟨g, 2, none⟩ = some (.string b) ∧ w.cell? ⟨g, 3, none⟩ = some (.bool cl) := by
  refine ⟨?_, ?_, ?_, ?_⟩ <;> (rw [Lib.cell_of_heap h]; rfl)
theorem AnB.free {g : Nat} {st : Int} {vv : Value} {b : ByteArray} {cl : Bool} {w : World} (h : AnB g st vv b cl w) (j : Nat) : w.frozen? ⟨g, j, none⟩ = false := Lib.frozen_of_heap h j
theorem AnB.lt {g : Nat} {st : Int} {vv : Value} {b : ByteArray} {cl : Bool} {w : World} (h : AnB g st vv b cl w) : g < w.heap.size := block_lt_of_cell h.cells.1
theorem AnB.below {g : Nat} {st : Int} {vv : Value} {b : ByteArray} {cl : Bool} {w w' : World} (h : AnB g st vv b cl w) (hb : Below w.heap.size w w') : AnB g st vv b cl w' := by
  have := hb.block g h.lt; unfold AnB at *; rw [this]; exact h
def setA (g : Nat) (st : Int) (vv : Value) (b : ByteArray) (cl : Bool) (w : World) : World := (((w.setCell ⟨g, 0, none⟩ (.int .i64 st)).setCell ⟨g, 1, none⟩ vv).setCell ⟨g, 2, none⟩ (.string b)).setCell ⟨g, 3, none⟩ (.bool cl)
theorem AnB.set {g : Nat} {st : Int} {vv : Value} {b : ByteArray} {cl : Bool} {w : World} (h : AnB g st vv b cl w) (st' : Int) (vv' : Value) (b' : ByteArray) (cl' : Bool) : AnB g st' vv' b' cl' (setA g st' vv' b' cl' w) := by
  unfold AnB setA at *
  rw [heap_setCell_same _ g 3 _ _ _ (heap_setCell_same _ g 2 _ _ _ (heap_setCell_same _ g 1 _ _ _ (heap_setCell_same _ g 0 _ _ _ h)))]
  rfl
theorem below_setA {g B : Nat} {st : Int} {vv : Value} {b : ByteArray} {cl : Bool} {w w' : World} (h : Below B w w') (hB : B ≤ g) : Below B w (setA g st vv b cl w') :=
  (((h.setCell hB _).setCell hB _).setCell hB _).setCell hB _
theorem owns_setA {g B : Nat} {e : TypeId} {sz n : Nat} {v : Value} {xs : List Value} {st : Int} {vv : Value} {b : ByteArray} {cl : Bool} {w : World} (h : w.ownsRow B e sz v n xs) (hn : v.ownBlock ≠ some g) : (setA g st vv b cl w).ownsRow B e sz v n xs :=
  owns_not (owns_not (owns_not (owns_not h hn 0 _) hn 1 _) hn 2 _) hn 3 _
/- a request on its way -/
structure Rn where
  qm : ByteArray
  qt : ByteArray
  qb : ByteArray
  fs : List Prm
  fa : Option Addr
  fc : Nat
  ps : List Prm
  pa : Option Addr
  pc : Nat
  h : Hn
def Rn.vals (r : Rn) : Array Value := #[.string r.qm, .string r.qt, .slice r.fa r.fs.length r.fc, .string r.qb, .slice r.pa r.ps.length r.pc, .int .i64 r.h.k, .int .i64 r.h.st, .string r.h.t, .string r.h.n]
structure RnAt (r : Rn) (w : World) : Prop where
  f : FlAt r.fs r.fa w
  p : FlAt r.ps r.pa w
  nf : r.fs.length ≤ 1000000
  np : r.ps.length ≤ 1000000
  zf : ∀ i (h : i < r.fs.length), r.fs[i].1.size ≤ maxLen
theorem RnAt.below {r : Rn} {w w' : World} (h : RnAt r w) (hb : Below w.heap.size w w') : RnAt r w' := ⟨h.f.below hb, h.p.below hb, h.nf, h.np, h.zf⟩
/- the block of such a request -/
def RnB (g : Nat) (r : Rn) (w : World) : Prop := w.heap[g]? = some (.cells r.vals 188 (0, 0))
theorem RnB.cells {g : Nat} {r : Rn} {w : World} (h : RnB g r w) : w.cell? ⟨g, 0, none⟩ = some (.string r.qm) ∧ w.cell? ⟨g, 1, none⟩ = some (.string r.qt) ∧ w.cell? ⟨g, 2, none⟩ = some (.slice r.fa r.fs.length r.fc) ∧ w.cell? ⟨g, 3, none⟩ = some (.string r.qb) ∧ w.cell? ⟨g, 4, none⟩ = some (.slice r.pa r.ps.length r.pc) ∧ w.cell? ⟨g, 5, none⟩ = some (.int .i64 r.h.k) ∧ w.cell? ⟨g, 6, none⟩ = some (.int .i64 r.h.st) ∧ w.cell? ⟨g, 7, none⟩ = some (.string r.h.t) ∧ w.cell? ⟨g, 8, none⟩ = some (.string r.h.n) := by
  refine ⟨?_, ?_, ?_, ?_, ?_, ?_, ?_, ?_, ?_⟩ <;> (rw [Lib.cell_of_heap h]; rfl)
theorem RnB.lt {g : Nat} {r : Rn} {w : World} (h : RnB g r w) : g < w.heap.size := block_lt_of_cell h.cells.1
theorem RnB.below {g : Nat} {r : Rn} {w w' : World} (h : RnB g r w) (hb : Below w.heap.size w w') : RnB g r w' := by
  have := hb.block g h.lt; unfold RnB at *; rw [this]; exact h
set_option maxRecDepth 100000 in
set_option maxHeartbeats 2000000 in
theorem param_any (r : Rn) (n : ByteArray) (w : World) (hr : RnAt r w) :
    Calls Tryz.prog 167 #[.agg r.vals, .string n] w fun x w' => x = .returned (.string (stG n.data.toList r.ps)) ∧ Below w.heap.size w w' := by
  have hA := (Below.refl w.heap.size w).alloc (Nat.le_refl _) (.cells r.vals 188)
  have hg : RnB w.heap.size r (w.alloc (.cells r.vals 188)) := heap_alloc_new w _
  have HP := hid hr.p
  have hnp := hr.np
  generalize hRES : stG n.data.toList r.ps = RES
  have HRES : Hid (stG n.data.toList (r.ps.drop 0) = RES) := hRES
  obtain ⟨c0, c1, c2, c3, c4, c5, c6, c7, c8⟩ := hg.cells
  have l0 := hg.lt
  clear hr hg hRES
  obtain ⟨qm, qt, qb, fs, fa, fc, ps, pa, pc, h⟩ := r
  simp only [Rn.vals] at *
  go_enter Tryz.func167, Tryz.ntmps167
  go_wp2_with fail
  generalize w.alloc (.cells #[.string qm, .string qt, .slice fa fs.length fc, .string qb, .slice pa ps.length pc, .int .i64 h.k, .int .i64 h.st, .string h.t, .string h.n] 188) = w1 at *
  clear c0 c1 c2 c3 c4 c5 c6 c7 c8
  go_loopw [10] (fun i wr => ∃ k : Nat, k ≤ ps.length ∧ i = .int .i64 k ∧ Hid (stG n.data.toList (ps.drop k) = RES) ∧ Below w.heap.size w wr) (fun i _ => ps.length - (intOf i).toNat)
  case atStart => exact ⟨0, Nat.zero_le _, rfl, HRES, hA⟩
  case round =>
    obtain ⟨k, hk, rfl, HK, hbw⟩ := hrel
    by_cases hlt : k < ps.length
    · obtain ⟨g, rfl, hg, hc1, hc2⟩ := (HP.out.below hbw) k hlt
      have hs := HK.out
      rw [← List.getElem_cons_drop hlt, stG] at hs
      have HS := hid hs
      generalize ps[k] = p at *
      obtain ⟨pn, pv⟩ := p
      simp only at hc1 hc2 HS
      have hbe := bne_lists pn n
      have hB := hbw.alloc hbw.size (.cells #[.string pn, .string pv] 257)
      clear hs HK HRES
      by_cases he : pn.data.toList = n.data.toList
      · have hs := HS.out
        rw [if_pos he] at hs
        subst hs
        rw [decide_eq_true he] at hbe
        clear HS
        go_wp2_with fail
        go_ret
        exact ⟨rfl, hB⟩
      · have hs := HS.out
        rw [if_neg he] at hs
        have HS2 := hid hs
        rw [decide_eq_false he] at hbe
        clear HS hs
        go_wp2_with fail
        exact ⟨⟨k + 1, by omega, by go_num, HS2, hB⟩, by simp [intOf]; omega⟩
    · have hne : ¬ (k : Int) < (ps.length : Int) := by omega
      have hs := HK.out
      rw [List.drop_eq_nil_of_le (by omega), stG] at hs
      subst hs
      clear HK HRES
      go_wp2_with fail
      go_ret
      exact ⟨rfl, hbw⟩
end Go.Proofs.YtpilfanbfpbldaaGreatDoor

/- A request that asks to close. -/
namespace Go.Proofs.YtpilfanbfpbldaaGreatDoor
open Go.RowKit

def closeB : ByteArray := ⟨#[99, 108, 111, 115, 101]⟩
set_option maxHeartbeats 2000000 in
theorem closes_any (x : ByteArray) (w : World) (hx : x.size ≤ maxLen) :
    Calls Tryz.prog 101 #[.string x] w fun e w' => e = .returned (.bool (Pm.alike x.data.toList closeB.data.toList)) ∧ Below w.heap.size w w' := by
  have HC := hid (wAlike_any x closeB w hx)
  unfold closeB at HC
  unfold closeB
  generalize Pm.alike x.data.toList (ByteArray.mk #[99, 108, 111, 115, 101]).data.toList = B at *
  go_enter Tryz.func101, Tryz.ntmps101
  go_wp2_with (go_at_call 76; refine HC.out.mono ?_; rintro e w1 ⟨rfl, hb1⟩)
  go_ret
  exact ⟨rfl, hb1⟩
end Go.Proofs.YtpilfanbfpbldaaGreatDoor
