/- Texts that follow one another, joined. -/
import Derived.Test.YtbphabgjhoifbaaGreatDoorJoin16
import Derived.Defers
import Derived.Recover
import Derived.Test.YtbphabgjhoifbaaGreatDoorJoin15
import Derived.Test.YtbphabgjhoifbaaGreatDoorJoin17
import Derived.Test.YtbphabgjhoifbaaGreatDoorJoin20
import Derived.Test.YtbphabgjhoifbaaGreatDoorJoin18
import Derived.Test.YtbphabgjhoifbaaGreatDoorJoin19
/- What gives up with no Save around it is caught. -/
namespace Go.Proofs.YtbphabgjhoifbaaGreatDoor
open Go.RowKit

set_option maxRecDepth 100000 in
set_option maxHeartbeats 1000000 in
theorem replyC_panicking (g h : Nat) (st er : Int) (vv : Value) (b : ByteArray) (cl : Bool) (u : TypeId) (pv : Value) (older : List PanicEntry) (w : World) (hg : AnB g st vv b cl w) (he : w.heap[h]? = some (.cells #[.int .i64 er] 40 (0, 0))) (hn : h ≠ g) :
    CallsD Tryz.prog 55 #[.pointer (some ⟨g, 0, none⟩), .pointer (some ⟨h, 0, none⟩)] (.panicking ({ v := .iface u pv, recovered := false } :: older)) w fun e u' w' =>
      e = .returned (.tuple #[]) ∧ u' = .panicking ({ v := .iface u pv, recovered := true } :: older) ∧ w' = (setA g 500 (.slice none 0 0) ⟨#[]⟩ true w).setCell ⟨h, 0, none⟩ (.int .i64 0) := by
  obtain ⟨c0, c1, c2, c3⟩ := hg.cells
  have f0 := hg.free 0
  have f1 := hg.free 1
  have f2 := hg.free 2
  have f3 := hg.free 3
  have e0 : w.cell? ⟨h, 0, none⟩ = some (.int .i64 er) := (Lib.cell_of_heap he 0).trans rfl
  have e1 := (cell_setA (st := 500) (vv := .slice none 0 0) (bb := ⟨#[]⟩) (cl := true) hn).trans e0
  have lg := hg.lt
  have lh := block_lt_of_cell e0
  have hk : (setA g 500 (.slice none 0 0) ⟨#[]⟩ true w).heap[h]? = w.heap[h]? := by
    unfold setA
    rw [heap_setCell_other _ ⟨g, 3, none⟩ h _ hn, heap_setCell_other _ ⟨g, 2, none⟩ h _ hn, heap_setCell_other _ ⟨g, 1, none⟩ h _ hn, heap_setCell_other _ ⟨g, 0, none⟩ h _ hn]
  have e2 := Lib.frozen_of_heap (hk.trans he) 0
  have hs : setA g 500 (.slice none 0 0) ⟨#[]⟩ true w = (((w.setCell ⟨g, 0, none⟩ (.int .i64 500)).setCell ⟨g, 1, none⟩ (.slice none 0 0)).setCell ⟨g, 2, none⟩ (.string ⟨#[]⟩)).setCell ⟨g, 3, none⟩ (.bool true) := rfl
  rw [hs] at e1 e2 ⊢
  refine callsD_of_wpS Tryz.func55 rfl fun c₀ cs hu => ?_
  apply wpS_seq
  apply wpS_region
  simp [wpOpsS, go_sem, recoverD, hu, Tryz.ntmps55, Exit.thenS]
  refine wpS_cond (t := true) (by simp [Act.eval, Array.replicate]) ?_
  simp only [if_true]
  refine wpS_of_wp ?_
  simp [Array.replicate]
  clear hs hk he hg
  go_wp2
  simp [bodyPostS, results, Tryz.results55]
set_option maxRecDepth 100000 in
set_option maxHeartbeats 1000000 in
theorem replyC_idle (p q : Addr) (w : World) :
    CallsD Tryz.prog 55 #[.pointer (some p), .pointer (some q)] .returning w fun e u' w' => e = .returned (.tuple #[]) ∧ u' = .returning ∧ w' = w := by
  refine callsD_of_wpS Tryz.func55 rfl fun c₀ cs hu => ?_
  apply wpS_seq
  apply wpS_region
  simp [wpOpsS, go_sem, recoverD, hu, Tryz.ntmps55, Exit.thenS]
  refine wpS_cond (t := false) (by simp [Act.eval, Array.replicate]) ?_
  simp only [Bool.false_eq_true, if_false]
  refine wpS_of_wp (wp_skip ?_)
  cases c₀
  simp_all [bodyPostS, results, Tryz.results55]
end Go.Proofs.YtbphabgjhoifbaaGreatDoor

/- Whether a field ends its line. -/
namespace Go.Proofs.YtbphabgjhoifbaaGreatDoor
open Go.RowKit

set_option maxRecDepth 100000 in
set_option maxHeartbeats 2000000 in
theorem index_fld (l : List Prm) (a : Option Addr) (c : Nat) (p : Prm → Bool) (w : World) (h : FlAt l a w) (hl : l.length ≤ 50000000) (HP : ∀ W i (hi : i < l.length), Below w.heap.size w W → Calls Tryz.prog 59 #[.agg #[.string l[i].1, .string l[i].2]] W fun e w' => e = .returned (.bool (p l[i])) ∧ Below W.heap.size W w') :
    Calls Tryz.prog 85 #[.slice a l.length c, .func (.func 59) #[] #[]] w fun e w' => (∃ k : Int, e = .returned (.int .i64 k) ∧ decide (0 ≤ k) = l.any p ∧ -1 ≤ k ∧ k ≤ 50000000) ∧ Below w.heap.size w w' := by
  have HS := hid h
  have HPP := hid HP
  have HD := hid (show (l.drop 0).any p = l.any p by rw [List.drop_zero])
  clear h HP
  go_enter Tryz.func85, Tryz.ntmps85
  go_wp2_with fail
  go_loopw [8] (fun i wr => ∃ k : Nat, k ≤ l.length ∧ i = .int .i64 k ∧ Hid ((l.drop k).any p = l.any p) ∧ Below w.heap.size w wr) (fun i _ => l.length - (intOf i).toNat)
  case atStart => exact ⟨0, Nat.zero_le _, rfl, HD, Below.refl _ _⟩
  case round =>
    obtain ⟨k, hk, rfl, HK, hbw⟩ := hrel
    by_cases hlt : k < l.length
    · obtain ⟨g, rfl, hg, hc1, hc2⟩ := (HS.out.below hbw) k hlt
      have HC := hid (HPP.out wr k hlt hbw)
      have hs := HK.out
      rw [← List.getElem_cons_drop hlt, List.any_cons] at hs
      have HN := hid hs
      generalize l[k] = x at *
      obtain ⟨xn, xv⟩ := x
      simp only at hc1 hc2 HC HN
      clear hs HK
      cases hp : p (xn, xv)
      · have e := HN.out
        rw [hp, Bool.false_or] at e
        have HE := hid e
        rw [hp] at HC
        clear e HN
        go_wp2_with (go_at_call 59; refine HC.out.mono ?_; rintro e w1 ⟨rfl, hb1⟩)
        exact ⟨⟨k + 1, by omega, by go_num, HE, bel_of hbw hb1⟩, by simp [intOf]; omega⟩
      · have e := HN.out
        rw [hp, Bool.true_or] at e
        have HE := hid e
        rw [hp] at HC
        clear e HN
        go_wp2_with (go_at_call 59; refine HC.out.mono ?_; rintro e w1 ⟨rfl, hb1⟩)
        go_ret
        exact ⟨⟨k, rfl, by rw [← HE.out]; simp, by omega, by omega⟩, bel_of hbw hb1⟩
    · have e := HK.out
      rw [List.drop_of_length_le (by omega), List.any_nil] at e
      have HE := hid e
      clear e HK
      have hne : ¬ (k : Int) < (l.length : Int) := by omega
      go_wp2_with fail
      go_ret
      exact ⟨⟨-1, rfl, by rw [← HE.out]; simp, by omega, by omega⟩, hbw⟩
set_option maxRecDepth 100000 in
set_option maxHeartbeats 2000000 in
theorem contains_fld (l : List Prm) (a : Option Addr) (c : Nat) (p : Prm → Bool) (w : World) (h : FlAt l a w) (hl : l.length ≤ 50000000) (HP : ∀ W i (hi : i < l.length), Below w.heap.size w W → Calls Tryz.prog 59 #[.agg #[.string l[i].1, .string l[i].2]] W fun e w' => e = .returned (.bool (p l[i])) ∧ Below W.heap.size W w') :
    Calls Tryz.prog 58 #[.slice a l.length c, .func (.func 59) #[] #[]] w fun e w' => e = .returned (.bool (l.any p)) ∧ Below w.heap.size w w' := by
  have HI := hid (index_fld l a c p w h hl HP)
  generalize l.any p = B at *
  clear h HP
  go_enter Tryz.func58, Tryz.ntmps58
  go_wp2_with (go_at_call 85; refine HI.out.mono ?_; rintro e w1 ⟨⟨k, rfl, hk, h1, h2⟩, hb1⟩)
  go_ret
  refine ⟨?_, hb1⟩
  first
    | (subst hk; rfl)
    | (subst hk; congr 2; simp)
end Go.Proofs.YtbphabgjhoifbaaGreatDoor

/- A site's Reply, out of what it calls. -/
namespace Go.Proofs.YtbphabgjhoifbaaGreatDoor
open Go.RowKit

structure RyI (B : Nat) (q : Array Value) (st : Int) (vv : Value) (b : ByteArray) (cl : Bool) (er : Int) (wr : World) : Prop where
  q : wr.heap[B]? = some (.cells q 58 (0, 0))
  a : AnB (B + 1) st vv b cl wr
  e : wr.heap[B + 1 + 1]? = some (.cells #[.int .i64 er] 40 (0, 0))
theorem RyI.lt {B : Nat} {q : Array Value} {st : Int} {vv : Value} {b : ByteArray} {cl : Bool} {er : Int} {w : World} (h : RyI B q st vv b cl er w) : B + 1 + 1 < w.heap.size := by
  have := h.e
  rcases Nat.lt_or_ge (B + 1 + 1) w.heap.size with h' | h'
  · exact h'
  · simp [Array.getElem?_eq_none h'] at this
theorem RyI.below {B : Nat} {q : Array Value} {st : Int} {vv : Value} {b : ByteArray} {cl : Bool} {er : Int} {w w' : World} (h : RyI B q st vv b cl er w) (hb : Below w.heap.size w w') : RyI B q st vv b cl er w' := by
  have hl := h.lt
  exact ⟨by rw [hb.block B (by omega)]; exact h.q, h.a.below hb, by rw [hb.block _ hl]; exact h.e⟩
theorem heap_setA_other {g b : Nat} {st : Int} {vv : Value} {bb : ByteArray} {cl : Bool} {w : World} (h : b ≠ g) : (setA g st vv bb cl w).heap[b]? = w.heap[b]? := by
  unfold setA
  rw [heap_setCell_other _ ⟨g, 3, none⟩ b _ h, heap_setCell_other _ ⟨g, 2, none⟩ b _ h, heap_setCell_other _ ⟨g, 1, none⟩ b _ h, heap_setCell_other _ ⟨g, 0, none⟩ b _ h]
theorem RyI.setA {B : Nat} {q : Array Value} {st : Int} {vv : Value} {b : ByteArray} {cl : Bool} {er : Int} {w : World} (h : RyI B q st vv b cl er w) (st' : Int) (vv' : Value) (b' : ByteArray) (cl' : Bool) : RyI B q st' vv' b' cl' er (setA (B + 1) st' vv' b' cl' w) :=
  ⟨by rw [heap_setA_other (by omega)]; exact h.q, h.a.set _ _ _ _, by rw [heap_setA_other (by omega)]; exact h.e⟩
theorem RyI.setE {B : Nat} {q : Array Value} {st : Int} {vv : Value} {b : ByteArray} {cl : Bool} {er : Int} {w : World} (h : RyI B q st vv b cl er w) (er' : Int) : RyI B q st vv b cl er' (w.setCell ⟨B + 1 + 1, 0, none⟩ (.int .i64 er')) := by
  refine ⟨by rw [heap_setCell_other _ _ _ _ (show B ≠ B + 1 + 1 by omega)]; exact h.q, ?_, ?_⟩
  · unfold AnB; rw [heap_setCell_other _ _ _ _ (show B + 1 ≠ B + 1 + 1 by omega)]; exact h.a
  · rw [heap_setCell_same _ (B + 1 + 1) 0 _ _ _ h.e]; rfl
theorem RyI.ecell {B : Nat} {q : Array Value} {st : Int} {vv : Value} {b : ByteArray} {cl : Bool} {er : Int} {w : World} (h : RyI B q st vv b cl er w) : w.cell? ⟨B + 1 + 1, 0, none⟩ = some (.int .i64 er) ∧ w.frozen? ⟨B + 1 + 1, 0, none⟩ = false := ⟨(Lib.cell_of_heap h.e 0).trans rfl, Lib.frozen_of_heap h.e 0⟩
theorem RyI.qcells {B : Nat} {a0 a1 a2 a3 : Value} {st : Int} {vv : Value} {b : ByteArray} {cl : Bool} {er : Int} {w : World} (h : RyI B #[a0, a1, a2, a3] st vv b cl er w) : w.cell? ⟨B, 0, none⟩ = some a0 ∧ w.cell? ⟨B, 1, none⟩ = some a1 ∧ w.cell? ⟨B, 2, none⟩ = some a2 ∧ w.cell? ⟨B, 3, none⟩ = some a3 := by
  refine ⟨?_, ?_, ?_, ?_⟩ <;> (rw [Lib.cell_of_heap h.q]; rfl)
theorem ryI_new (a0 a1 a2 a3 : Value) (w : World) : RyI w.heap.size #[a0, a1, a2, a3] 0 (.slice none 0 0) ⟨#[]⟩ false 0 (((w.alloc (.cells #[a0, a1, a2, a3] 58)).alloc (.cells #[.int .i64 0, .slice none 0 0, .string ⟨#[]⟩, .bool false] 64)).alloc (.cells #[.int .i64 0] 40)) ∧ Below w.heap.size w (((w.alloc (.cells #[a0, a1, a2, a3] 58)).alloc (.cells #[.int .i64 0, .slice none 0 0, .string ⟨#[]⟩, .bool false] 64)).alloc (.cells #[.int .i64 0] 40)) := by
  have h1 := (Below.refl w.heap.size w).alloc (Nat.le_refl _) (.cells #[a0, a1, a2, a3] 58)
  have q0 := heap_alloc_new w (.cells #[a0, a1, a2, a3] 58)
  have z1 : (w.alloc (.cells #[a0, a1, a2, a3] 58)).heap.size = w.heap.size + 1 := by simp
  generalize w.alloc (.cells #[a0, a1, a2, a3] 58) = W1 at *
  have h2 := h1.alloc h1.size (.cells #[.int .i64 0, .slice none 0 0, .string ⟨#[]⟩, .bool false] 64)
  have k2 := (Below.refl W1.heap.size W1).alloc (Nat.le_refl _) (.cells #[.int .i64 0, .slice none 0 0, .string ⟨#[]⟩, .bool false] 64)
  have q1 := heap_alloc_new W1 (.cells #[.int .i64 0, .slice none 0 0, .string ⟨#[]⟩, .bool false] 64)
  have z2 : (W1.alloc (.cells #[.int .i64 0, .slice none 0 0, .string ⟨#[]⟩, .bool false] 64)).heap.size = W1.heap.size + 1 := by simp
  have q0b := (k2.block w.heap.size (by omega)).trans q0
  generalize W1.alloc (.cells #[.int .i64 0, .slice none 0 0, .string ⟨#[]⟩, .bool false] 64) = W2 at *
  have h3 := h2.alloc h2.size (.cells #[.int .i64 0] 40)
  have k3 := (Below.refl W2.heap.size W2).alloc (Nat.le_refl _) (.cells #[.int .i64 0] 40)
  have q2 := heap_alloc_new W2 (.cells #[.int .i64 0] 40)
  rw [z1] at q1 z2
  rw [z2] at q2
  refine ⟨⟨(k3.block w.heap.size (by omega)).trans q0b, (k3.block (w.heap.size + 1) (by omega)).trans q1, q2⟩, h3⟩
theorem heap_setF_other {g b : Nat} {st ro : Int} {vv : Value} {al lo : ByteArray} {w : World} (h : b ≠ g) : (setF g st ro vv al lo w).heap[b]? = w.heap[b]? := by
  unfold setF
  rw [heap_setCell_other _ ⟨g, 4, none⟩ b _ h, heap_setCell_other _ ⟨g, 3, none⟩ b _ h, heap_setCell_other _ ⟨g, 2, none⟩ b _ h, heap_setCell_other _ ⟨g, 1, none⟩ b _ h, heap_setCell_other _ ⟨g, 0, none⟩ b _ h]
theorem RyI.setF {B g : Nat} {q : Array Value} {st : Int} {vv : Value} {b : ByteArray} {cl : Bool} {er : Int} {w : World} (h : RyI B q st vv b cl er w) (hg : B + 1 + 1 < g) (st' ro' : Int) (vv' : Value) (al' lo' : ByteArray) : RyI B q st vv b cl er (setF g st' ro' vv' al' lo' w) := by
  refine ⟨by rw [heap_setF_other (by omega)]; exact h.q, ?_, by rw [heap_setF_other (by omega)]; exact h.e⟩
  unfold AnB; rw [heap_setF_other (by omega)]; exact h.a
theorem FnB.setE {B g : Nat} {st ro : Int} {vv : Value} {al lo : ByteArray} {w : World} (h : FnB g st ro vv al lo w) (hg : B < g) (v : Value) : FnB g st ro vv al lo (w.setCell ⟨B, 0, none⟩ v) := by
  unfold FnB; rw [heap_setCell_other _ _ _ _ (show g ≠ B by omega)]; exact h
theorem RyI.setC {B : Nat} {q : Array Value} {st : Int} {vv : Value} {b : ByteArray} {cl : Bool} {er : Int} {w : World} (h : RyI B q st vv b cl er w) (cl' : Bool) : RyI B q st vv b cl' er (w.setCell ⟨B + 1, 3, none⟩ (.bool cl')) := by
  refine ⟨by rw [heap_setCell_other _ _ _ _ (show B ≠ B + 1 by omega)]; exact h.q, ?_, by rw [heap_setCell_other _ _ _ _ (show B + 1 + 1 ≠ B + 1 by omega)]; exact h.e⟩
  have := h.a
  unfold AnB at *
  rw [heap_setCell_same _ (B + 1) 3 _ _ _ this]; rfl
theorem RyI.low {B C : Nat} {q : Array Value} {st : Int} {vv : Value} {b : ByteArray} {cl : Bool} {er : Int} {w w' : World} (h : RyI B q st vv b cl er w) (hb : Below C w w') (hC : B + 1 + 1 < C) : RyI B q st vv b cl er w' := by
  refine ⟨by rw [hb.block B (by omega)]; exact h.q, ?_, by rw [hb.block _ hC]; exact h.e⟩
  unfold AnB; rw [hb.block _ (by omega)]; exact h.a
theorem fl_own {w : World} {B : Nat} {T : TypeId} {a : Option Addr} {c : Nat} {l : List Prm} (h : w.ownsRow B T 2 (.slice a l.length c) l.length (prCells l)) : FlAt l a w := fun i hi => by
  have hne : l ≠ [] := fun e => by rw [e] at hi; simp at hi
  obtain ⟨g, cap, cs, e, hB, hlt, hg, hc⟩ := own_row h hne
  simp only [Value.slice.injEq] at e
  obtain ⟨p1, p2⟩ := prC_get l i hi
  refine ⟨g, e.1, hlt, ?_, ?_⟩
  · rw [Lib.cell_of_heap hg]; exact hc _ _ p1
  · rw [Lib.cell_of_heap hg]; exact hc _ _ p2
theorem any_end {l : List Prm} (h : l.any (fun p => endG p.2) = true) (a : An) (hl : a.fs = l) (sh : Bool) : finG sh (some a) = ⟨500, [], ⟨#[]⟩, sh, 0⟩ := by
  subst hl; exact if_pos h
theorem any_no {l : List Prm} (h : l.any (fun p => endG p.2) = false) (a : An) (hl : a.fs = l) (sh : Bool) : finG sh (some a) = ⟨a.st, a.fs, a.b, sh, 0⟩ := by
  subst hl; exact if_neg (by rw [h]; simp)
end Go.Proofs.YtbphabgjhoifbaaGreatDoor

/- A site's Reply, out of what it calls. -/
namespace Go.Proofs.YtbphabgjhoifbaaGreatDoor
open Go.RowKit

set_option maxRecDepth 100000 in
set_option maxHeartbeats 4000000 in
theorem siteReply_of (gs : Nat) (qm qt qb : ByteArray) (fa : Option Addr) (fn fc : Nat) (R : DsR) (G : Option An) (sh : Bool) (w : World)
    (hG : ∀ a, G = some a → a.fs.length ≤ 50000000 ∧ a.b.size ≤ 281474976710656 ∧ ∀ i (h : i < a.fs.length), a.fs[i].1.size ≤ 281474976710656 ∧ a.fs[i].2.size ≤ 4000000000)
    (HD : ∀ W, Below w.heap.size w W → Calls Tryz.prog 56 #[.pointer (some ⟨gs, 0, none⟩), .string qm, .string qt] W (DpPost R W))
    (HA : ∀ W pa pc ua ul, Below w.heap.size w W → ua.data.toList = R.al → ul.data.toList = R.lo → W.ownsRow w.heap.size 256 2 (.slice pa R.ps.length pc) R.ps.length (prCells R.ps) → R.e = 0 → Calls Tryz.prog 57 #[.pointer (some ⟨gs, 0, none⟩), .agg #[.string qm, .string qt, .slice fa fn fc, .string qb], .agg #[.int .i64 R.st, .int .i64 R.ro, .slice pa R.ps.length pc, .string ua, .string ul]] W (ThPost G W))
    (HE : ∀ (n v : ByteArray) W, v.size ≤ 4000000000 → Calls Tryz.prog 59 #[.agg #[.string n, .string v]] W fun e w' => e = .returned (.bool (endG v)) ∧ Below W.heap.size W w')
    (HS : ∀ W, Below w.heap.size w W → Calls Tryz.prog 60 #[.agg #[.string qm, .string qt, .slice fa fn fc, .string qb]] W fun e w' => e = .returned (.bool sh) ∧ Below W.heap.size W w') :
    Calls Tryz.prog 37 #[.pointer (some ⟨gs, 0, none⟩), .agg #[.string qm, .string qt, .slice fa fn fc, .string qb]] w (RyPost (if R.e = 0 then finG sh G else ⟨0, [], ⟨#[]⟩, false, R.e⟩) w) := by
  have hmf : ∀ (fn : Fn) (first cap : Array Value) (w : World), (Instr.makeFunc fn first cap).run Tryz.prog w = .ok (.func fn first cap) w := fun _ _ _ _ => rfl
  obtain ⟨I0, hA⟩ := ryI_new (.string qm) (.string qt) (.slice fa fn fc) (.string qb) w
  have HDD := hid HD
  have HAA := hid HA
  have HEE := hid HE
  have HSS := hid HS
  have HGG := hid hG
  generalize hRES : (if R.e = 0 then finG sh G else ⟨0, [], ⟨#[]⟩, false, R.e⟩) = RES
  have HRES := hid hRES
  clear HD HA HE HS hG hRES
  obtain ⟨q0, q1, q2, q3⟩ := I0.qcells
  have l0 := I0.lt
  go_enter_defers Tryz.func37, Tryz.ntmps37
  go_wp2_with fail
  generalize ((w.alloc (.cells #[.string qm, .string qt, .slice fa fn fc, .string qb] 58)).alloc (.cells #[.int .i64 0, .slice none 0 0, .string ⟨#[]⟩, .bool false] 64)).alloc (.cells #[.int .i64 0] 40) = w1 at *
  clear q0 q1 q2 q3
  refine (HDD.out _ hA).mono ?_
  rintro x w2 ⟨⟨vv, ua, ul, rfl, hua, hul, ow⟩, hb2⟩
  have I2 := I0.below hb2
  have hB2 := bel_of hA hb2
  have l2 := I2.lt
  have HO2 := hid (owns_base ow hA.size)
  obtain ⟨pa, pc, rfl⟩ := sl_of ow
  have zs : (w2.setCell ⟨w.heap.size + 1 + 1, 0, none⟩ (.int .i64 R.e)).heap.size = w2.heap.size := by simp [World.setCell]
  have hb3 := (Below.refl w2.heap.size (w2.setCell ⟨w.heap.size + 1 + 1, 0, none⟩ (.int .i64 R.e))).alloc (Nat.le_of_eq zs.symm) (.cells #[.int .i64 R.st, .int .i64 R.ro, .slice pa R.ps.length pc, .string ua, .string ul] 138)
  have F3 := heap_alloc_new (w2.setCell ⟨w.heap.size + 1 + 1, 0, none⟩ (.int .i64 R.e)) (.cells #[.int .i64 R.st, .int .i64 R.ro, .slice pa R.ps.length pc, .string ua, .string ul] 138)
  rw [zs] at F3
  have I3 := (I2.setE R.e).below (hb3.mono (Nat.le_of_eq zs))
  obtain ⟨e0, e1⟩ := I2.ecell
  have HI5 := hid I3
  have HF5 : Hid (FnB w2.heap.size R.st R.ro (.slice pa R.ps.length pc) ua ul _) := F3
  have HB5 := hid ((hB2.setCell (p := ⟨w.heap.size + 1 + 1, 0, none⟩) (show w.heap.size ≤ w.heap.size + 1 + 1 by omega) (.int .i64 R.e)).trans (hb3.mono hB2.size))
  obtain ⟨e5, e6⟩ := I3.ecell
  have HO3 := hid (owns_below (owns_not HO2.out (fun e => by have := own_ge ow _ e; omega) 0 (.int .i64 R.e)) (hb3.mono (Nat.le_of_eq zs)))
  clear I0 I2 I3 F3 ow HDD HO2 zs hb3
  go_upto_region 3 with fail
  generalize (w2.setCell ⟨w.heap.size + 1 + 1, 0, none⟩ (.int .i64 R.e)).alloc (.cells #[.int .i64 R.st, .int .i64 R.ro, .slice pa R.ps.length pc, .string ua, .string ul] 138) = w3 at *
  have I3 := HI5.out
  have F3 := HF5.out
  have hB3 := HB5.out
  clear HI5 HF5 HB5 e0 e1
  by_cases q : R.e = 0
  · have hq : (R.e != 0) = false := by rw [q]; rfl
    have HR := HRES.out
    rw [if_pos q] at HR
    subst HR
    have HAN := hid (HAA.out w3 pa pc ua ul hB3 hua hul HO3.out q)
    obtain ⟨q0, q1, q2, q3⟩ := I3.qcells
    obtain ⟨g0, g1, g2, g3, g4⟩ := F3.cells
    have lf := F3.lt
    have le := I3.lt
    have HI3 := hid I3
    clear HRES HAA HO3 I3 F3
    go_wp2_with fail
    refine HAN.out.mono ?_
    cases G with
    | none =>
      rintro x w4 ⟨rfl, hb4⟩
      have I4 := HI3.out.below hb4
      have hB4 := bel_of hB3 hb4
      have J := (I4.setA 500 (.slice none 0 0) ⟨#[]⟩ true).setE 0
      obtain ⟨d0, d1, d2, d3⟩ := J.a.cells
      obtain ⟨d4, -⟩ := J.ecell
      refine leaves_cons (f := 55) (args := #[.pointer (some ⟨w.heap.size + 1, 0, none⟩), .pointer (some ⟨w.heap.size + 1 + 1, 0, none⟩)]) (by simp) (by simp [go_sem]) ?_
      refine (replyC_panicking (w.heap.size + 1) (w.heap.size + 1 + 1) _ _ _ _ _ _ _ [] w4 I4.a I4.e (by omega)).mono ?_
      rintro e u' w'' ⟨rfl, rfl, rfl⟩
      simp [Leaves, settle, results, Tryz.results37, go_sem, d0, d1, d2, d3, d4]
      exact ⟨⟨_, rfl, World.ownsRow_nil _ _ _ _⟩, (below_setA hB4 (Nat.le_succ _)).setCell (show w.heap.size ≤ w.heap.size + 1 + 1 by omega) _⟩
    | some a =>
      rintro x w4 ⟨⟨vv, rfl, ow⟩, hb4⟩
      have I4 := HI3.out.below hb4
      have hB4 := bel_of hB3 hb4
      have l4 := HI3.out.lt
      have hno : vv.ownBlock ≠ some (w.heap.size + 1) := fun e => by have := own_ge ow _ e; omega
      have hno2 : vv.ownBlock ≠ some (w.heap.size + 1 + 1) := fun e => by have := own_ge ow _ e; omega
      have HO4 := hid (owns_setA (st := a.st) (vv := vv) (b := a.b) (cl := false) (owns_base ow (show w.heap.size + 1 + 1 + 1 ≤ w3.heap.size from l4)) hno)
      have I5 := I4.setA a.st vv a.b false
      have hB5 := below_setA (st := a.st) (vv := vv) (b := a.b) (cl := false) hB4 (show w.heap.size ≤ w.heap.size + 1 by omega)
      obtain ⟨ax, cx, rfl⟩ := sl_of ow
      obtain ⟨c0, c1, c2, c3⟩ := I4.a.cells
      have f0 := I4.a.free 0
      have f1 := I4.a.free 1
      have f2 := I4.a.free 2
      have f3 := I4.a.free 3
      have la := I4.a.lt
      obtain ⟨gl, gb, gz⟩ := HGG.out a rfl
      have HZZ := hid gz
      have HCF := hid (contains_fld a.fs ax cx (fun p => endG p.2) _ (fl_own HO4.out) gl (fun W i hi _ => HEE.out _ _ W (gz i hi).2))
      have hFIN1 : a.fs.any (fun p => endG p.2) = true → finG sh (some a) = ⟨500, [], ⟨#[]⟩, sh, 0⟩ := fun h => any_end h a rfl sh
      have hFIN2 : a.fs.any (fun p => endG p.2) = false → finG sh (some a) = ⟨a.st, a.fs, a.b, sh, 0⟩ := fun h => any_no h a rfl sh
      have HF1 := hid hFIN1
      have HF2 := hid hFIN2
      generalize finG sh (some a) = FIN at *
      generalize a.fs.any (fun p => endG p.2) = EB at *
      obtain ⟨x0, x1, x2, x3⟩ := I5.a.cells
      have HI5 := hid I5
      have HB5 := hid hB5
      unfold setA at x0 x1 x2 x3 HCF HI5 HB5 HO4
      clear I5 hB5 I4 HI3 HAN ow gz hFIN1 hFIN2 HGG HEE
      go_wp2_with fail
      generalize (((w4.setCell ⟨w.heap.size + 1, 0, none⟩ (.int .i64 a.st)).setCell ⟨w.heap.size + 1, 1, none⟩ (.slice ax a.fs.length cx)).setCell ⟨w.heap.size + 1, 2, none⟩ (.string a.b)).setCell ⟨w.heap.size + 1, 3, none⟩ (.bool false) = w5 at *
      clear x0 x1 x2 x3 c0 c1 c2 c3 f0 f1 f2 f3 la
      refine HCF.out.mono ?_
      rintro x w6 ⟨rfl, hb6⟩
      have I6 := HI5.out.below hb6
      have hB6 := bel_of HB5.out hb6
      have HO6 := hid (owns_below HO4.out hb6)
      have l6 := I6.lt
      clear HCF HI5 HB5 HO4
      cases EB with
      | true =>
        have HE0 := HF1.out rfl
        subst HE0
        have I7 := I6.setA 500 (.slice none 0 0) ⟨#[]⟩ false
        have hB7 := below_setA (st := 500) (vv := .slice none 0 0) (b := ⟨#[]⟩) (cl := false) hB6 (show w.heap.size ≤ w.heap.size + 1 by omega)
        obtain ⟨c0, c1, c2, c3⟩ := I6.a.cells
        have f0 := I6.a.free 0
        have f1 := I6.a.free 1
        have f2 := I6.a.free 2
        have f3 := I6.a.free 3
        have la := I6.a.lt
        obtain ⟨q0, q1, q2, q3⟩ := I7.qcells
        have HI7 := hid I7
        have HB7 := hid hB7
        have HS7 := hid (HSS.out _ hB7)
        unfold setA at q0 q1 q2 q3 HI7 HB7 HS7
        clear I7 hB7 HSS HF1 HF2 I6
        have HO7 : Hid (World.ownsRow _ (w.heap.size + 1 + 1 + 1) 133 2 (.slice none 0 0) 0 (prCells [])) := hid (World.ownsRow_nil ((((w6.setCell ⟨w.heap.size + 1, 0, none⟩ (.int .i64 500)).setCell ⟨w.heap.size + 1, 1, none⟩ (.slice none 0 0)).setCell ⟨w.heap.size + 1, 2, none⟩ (.string ⟨#[]⟩)).setCell ⟨w.heap.size + 1, 3, none⟩ (.bool false)) _ _ _)
        go_wp2_with fail
        generalize (((w6.setCell ⟨w.heap.size + 1, 0, none⟩ (.int .i64 500)).setCell ⟨w.heap.size + 1, 1, none⟩ (.slice none 0 0)).setCell ⟨w.heap.size + 1, 2, none⟩ (.string ⟨#[]⟩)).setCell ⟨w.heap.size + 1, 3, none⟩ (.bool false) = w7 at *
        refine HS7.out.mono ?_
        rintro x w8 ⟨rfl, hb8⟩
        have I8 := HI7.out.below hb8
        have hB8 := bel_of HB7.out hb8
        have HO8 := owns_not (owns_below HO7.out hb8) (show (Value.slice none 0 0).ownBlock ≠ some (w.heap.size + 1) from (by simp [Value.ownBlock])) 3 (.bool sh)
        obtain ⟨v0, v1, v2, v3⟩ := I8.a.cells
        have t3 := I8.a.free 3
        have l8 := I8.a.lt
        have I9 := I8.setC sh
        have hB9 := hB8.setCell (p := ⟨w.heap.size + 1, 3, none⟩) (Nat.le_succ _) (.bool sh)
        have l9 := I9.lt
        have HOW := hid (ownA_any 500 [] (Value.slice none 0 0) ⟨#[]⟩ sh (w.heap.size + 1 + 1 + 1) _ HO8 l9 (by simp) (fun i h => absurd h (by simp)) (by decide))
        obtain ⟨y0, y1, y2, y3⟩ := I9.a.cells
        have HI9 := hid I9
        have HB9 := hid hB9
        clear HI7 HB7 HS7 HO7 HO8 I8 I9 hB8 hB9 q0 q1 q2 q3
        go_wp2_with fail
        generalize w8.setCell ⟨w.heap.size + 1, 3, none⟩ (.bool sh) = w9 at *
        refine HOW.out.mono ?_
        rintro x w10 ⟨rfl, ho10, hb10⟩
        have IA := HI9.out.low hb10 (Nat.lt_succ_self _)
        have hBA := HB9.out.trans (hb10.mono (show w.heap.size ≤ w.heap.size + 1 + 1 + 1 by omega))
        have IZ := (IA.setA 500 (Value.slice none 0 0) ⟨#[]⟩ sh).setE 0
        have HOZ := hid (owns_not (g := w.heap.size + 1 + 1) (owns_setA (g := w.heap.size + 1) (st := 500) (vv := (Value.slice none 0 0)) (b := ⟨#[]⟩) (cl := sh) ho10 (by simp [Value.ownBlock])) (by simp [Value.ownBlock]) 0 (.int .i64 0))
        have HBZ := hid ((below_setA (st := 500) (vv := (Value.slice none 0 0)) (b := ⟨#[]⟩) (cl := sh) hBA (Nat.le_succ _)).setCell (p := ⟨w.heap.size + 1 + 1, 0, none⟩) (show w.heap.size ≤ w.heap.size + 1 + 1 by omega) (.int .i64 0))
        obtain ⟨m0, m1, m2, m3⟩ := IA.a.cells
        have n0 := IA.a.free 0
        have n1 := IA.a.free 1
        have n2 := IA.a.free 2
        have n3 := IA.a.free 3
        have lA := IA.a.lt
        obtain ⟨o0, o1⟩ := (IA.setA 500 (Value.slice none 0 0) ⟨#[]⟩ sh).ecell
        have lE := IA.lt
        obtain ⟨d0, d1, d2, d3⟩ := IZ.a.cells
        obtain ⟨d4, -⟩ := IZ.ecell
        unfold setA at d0 d1 d2 d3 d4 o0 o1 HOZ HBZ
        clear HI9 HB9 HOW IZ IA y0 y1 y2 y3 ho10
        go_wp2_with fail
        refine leaves_cons (f := 55) (args := #[.pointer (some ⟨w.heap.size + 1, 0, none⟩), .pointer (some ⟨w.heap.size + 1 + 1, 0, none⟩)]) (by simp) (by simp [go_sem]) ?_
        refine (replyC_idle ⟨w.heap.size + 1, 0, none⟩ ⟨w.heap.size + 1 + 1, 0, none⟩ _).mono ?_
        rintro e u' w'' ⟨rfl, rfl, rfl⟩
        simp [Leaves, settle, results, Tryz.results37, go_sem, d0, d1, d2, d3, d4]
        exact ⟨⟨_, rfl, owns_base HOZ.out (show w.heap.size ≤ w.heap.size + 1 + 1 + 1 by omega)⟩, HBZ.out⟩
      | false =>
        have HE0 := HF2.out rfl
        subst HE0
        obtain ⟨q0, q1, q2, q3⟩ := I6.qcells
        have HI7 := hid I6
        have HB7 := hid hB6
        have HO7 := HO6
        have HS7 := hid (HSS.out _ hB6)
        clear HSS HF1 HF2 I6 HO6
        go_wp2_with fail
        refine HS7.out.mono ?_
        rintro x w8 ⟨rfl, hb8⟩
        have I8 := HI7.out.below hb8
        have hB8 := bel_of HB7.out hb8
        have HO8 := owns_not (owns_below HO7.out hb8) (show (Value.slice ax a.fs.length cx).ownBlock ≠ some (w.heap.size + 1) from hno) 3 (.bool sh)
        obtain ⟨v0, v1, v2, v3⟩ := I8.a.cells
        have t3 := I8.a.free 3
        have l8 := I8.a.lt
        have I9 := I8.setC sh
        have hB9 := hB8.setCell (p := ⟨w.heap.size + 1, 3, none⟩) (Nat.le_succ _) (.bool sh)
        have l9 := I9.lt
        have HOW := hid (ownA_any a.st a.fs (Value.slice ax a.fs.length cx) a.b sh (w.heap.size + 1 + 1 + 1) _ HO8 l9 (by omega) (fun i h => ⟨(HZZ.out i h).1, by have := (HZZ.out i h).2; omega⟩) gb)
        obtain ⟨y0, y1, y2, y3⟩ := I9.a.cells
        have HI9 := hid I9
        have HB9 := hid hB9
        clear HI7 HB7 HS7 HO7 HO8 I8 I9 hB8 hB9 q0 q1 q2 q3
        go_wp2_with fail
        generalize w8.setCell ⟨w.heap.size + 1, 3, none⟩ (.bool sh) = w9 at *
        refine HOW.out.mono ?_
        rintro x w10 ⟨rfl, ho10, hb10⟩
        have IA := HI9.out.low hb10 (Nat.lt_succ_self _)
        have hBA := HB9.out.trans (hb10.mono (show w.heap.size ≤ w.heap.size + 1 + 1 + 1 by omega))
        have IZ := (IA.setA a.st (Value.slice ax a.fs.length cx) a.b sh).setE 0
        have HOZ := hid (owns_not (g := w.heap.size + 1 + 1) (owns_setA (g := w.heap.size + 1) (st := a.st) (vv := (Value.slice ax a.fs.length cx)) (b := a.b) (cl := sh) ho10 hno) hno2 0 (.int .i64 0))
        have HBZ := hid ((below_setA (st := a.st) (vv := (Value.slice ax a.fs.length cx)) (b := a.b) (cl := sh) hBA (Nat.le_succ _)).setCell (p := ⟨w.heap.size + 1 + 1, 0, none⟩) (show w.heap.size ≤ w.heap.size + 1 + 1 by omega) (.int .i64 0))
        obtain ⟨m0, m1, m2, m3⟩ := IA.a.cells
        have n0 := IA.a.free 0
        have n1 := IA.a.free 1
        have n2 := IA.a.free 2
        have n3 := IA.a.free 3
        have lA := IA.a.lt
        obtain ⟨o0, o1⟩ := (IA.setA a.st (Value.slice ax a.fs.length cx) a.b sh).ecell
        have lE := IA.lt
        obtain ⟨d0, d1, d2, d3⟩ := IZ.a.cells
        obtain ⟨d4, -⟩ := IZ.ecell
        unfold setA at d0 d1 d2 d3 d4 o0 o1 HOZ HBZ
        clear HI9 HB9 HOW IZ IA y0 y1 y2 y3 ho10
        go_wp2_with fail
        refine leaves_cons (f := 55) (args := #[.pointer (some ⟨w.heap.size + 1, 0, none⟩), .pointer (some ⟨w.heap.size + 1 + 1, 0, none⟩)]) (by simp) (by simp [go_sem]) ?_
        refine (replyC_idle ⟨w.heap.size + 1, 0, none⟩ ⟨w.heap.size + 1 + 1, 0, none⟩ _).mono ?_
        rintro e u' w'' ⟨rfl, rfl, rfl⟩
        simp [Leaves, settle, results, Tryz.results37, go_sem, d0, d1, d2, d3, d4]
        exact ⟨⟨_, rfl, owns_base HOZ.out (show w.heap.size ≤ w.heap.size + 1 + 1 + 1 by omega)⟩, HBZ.out⟩
  · have hq : (R.e != 0) = true := by simpa using q
    have HR := HRES.out
    rw [if_neg q] at HR
    subst HR
    obtain ⟨c0, c1, c2, c3⟩ := I3.a.cells
    have f0 := I3.a.free 0
    have f1 := I3.a.free 1
    have f2 := I3.a.free 2
    have f3 := I3.a.free 3
    have la := I3.a.lt
    have le := I3.lt
    have J := I3.setA 0 (.slice none 0 0) ⟨#[]⟩ false
    have eJ := J.ecell
    have HJ := hid (J.setE R.e)
    have HBJ := hid ((below_setA (st := 0) (vv := .slice none 0 0) (b := ⟨#[]⟩) (cl := false) hB3 (show w.heap.size ≤ w.heap.size + 1 by omega)).setCell (p := ⟨w.heap.size + 1 + 1, 0, none⟩) (show w.heap.size ≤ w.heap.size + 1 + 1 by omega) (.int .i64 R.e))
    obtain ⟨j0, j1⟩ := eJ
    unfold setA at j0 j1
    clear HRES HAA HEE HSS HGG J
    go_wp2_with fail
    go_region
    have K := HJ.out.below (Below.refl _ _).drew
    have hBK := HBJ.out.drew
    obtain ⟨d0, d1, d2, d3⟩ := K.a.cells
    obtain ⟨d4, -⟩ := K.ecell
    unfold setA at d0 d1 d2 d3 d4 hBK
    clear HJ HBJ K
    go_wp2_with fail
    refine leaves_cons (f := 55) (args := #[.pointer (some ⟨w.heap.size + 1, 0, none⟩), .pointer (some ⟨w.heap.size + 1 + 1, 0, none⟩)]) (by simp) (by simp [go_sem]) ?_
    refine (replyC_idle ⟨w.heap.size + 1, 0, none⟩ ⟨w.heap.size + 1 + 1, 0, none⟩ _).mono ?_
    rintro e u' w'' ⟨rfl, rfl, rfl⟩
    simp [Leaves, settle, results, Tryz.results37, go_sem, d0, d1, d2, d3, d4]
    exact ⟨⟨_, rfl, World.ownsRow_nil _ _ _ _⟩, hBK⟩
end Go.Proofs.YtbphabgjhoifbaaGreatDoor

/- A site's answer, and how great it can be. -/
namespace Go.Proofs.YtbphabgjhoifbaaGreatDoor
open Go.RowKit

theorem fm_get {α : Type} {sz : Nat} {f : α → List Value} (hf : ∀ x, (f x).length = sz) : ∀ (l : List α) (i : Nat) (h : i < l.length) (j : Nat) (v : Value), (f l[i])[j]? = some v → (l.flatMap f)[i * sz + j]? = some v
  | [], i, h, _, _, _ => absurd h (by simp)
  | x :: r, 0, _, j, v, hv => by
    rw [List.flatMap_cons]
    simp only [Nat.zero_mul, Nat.zero_add]
    simp only [List.getElem_cons_zero] at hv
    obtain ⟨hj, rfl⟩ := List.getElem?_eq_some_iff.1 hv
    rw [List.getElem?_append_left hj]; simp
  | x :: r, i + 1, h, j, v, hv => by
    have ih := fm_get hf r i (by simpa using h) j v (by simpa using hv)
    rw [List.flatMap_cons, List.getElem?_append_right (by rw [hf x, Nat.succ_mul]; omega), hf x]
    rw [show (i + 1) * sz + j - sz = i * sz + j by rw [Nat.succ_mul]; omega]
    exact ih
theorem own_cells {α : Type} {sz : Nat} {f : α → List Value} (hf : ∀ x, (f x).length = sz) {l : List α} {B : Nat} {e : TypeId} {v : Value} {w : World} (h : w.ownsRow B e sz v l.length (l.flatMap f)) : (v = .slice none 0 0 ∧ l = []) ∨ ∃ g cap, v = .slice (some ⟨g, 0, none⟩) l.length cap ∧ g < w.heap.size ∧ l.length ≤ cap ∧ ∀ i (h : i < l.length) (j : Nat) (u : Value), (f l[i])[j]? = some u → w.cell? ⟨g, i * sz + j, none⟩ = some u := by
  rcases h.2 with ⟨h1, h2⟩ | ⟨g, cap, cur, hv, hB, hg, hc, hm, hz, ht⟩
  · exact .inl ⟨h1, List.eq_nil_of_length_eq_zero h2⟩
  · refine .inr ⟨g, cap, hv, (Array.getElem?_eq_some_iff.1 hg).1, hc, fun i hi j u hu => ?_⟩
    have h3 := fm_get hf l i hi j u hu
    rw [← ht, List.getElem?_take] at h3
    split at h3
    · rw [Lib.cell_of_heap hg]; simpa using h3
    · cases h3
theorem own_mu {α : Type} {sz : Nat} {f : α → List Value} (hf : ∀ x, (f x).length = sz) {l : List α} {B : Nat} {e : TypeId} {v : Value} {w : World} (h : w.ownsRow B e sz v l.length (l.flatMap f)) : ∃ a c, v = .slice a l.length c ∧ MuAt sz f l a w ∧ l.length ≤ c := by
  rcases own_cells hf h with ⟨h1, rfl⟩ | ⟨g, cap, hv, hg, hc, hcell⟩
  · exact ⟨none, 0, h1, fun i hi => absurd hi (by simp), Nat.le_refl _⟩
  · exact ⟨_, cap, hv, fun i hi => ⟨g, 0, rfl, hg, fun j u hu => by rw [Nat.zero_add]; exact hcell i hi j u hu⟩, hc⟩
theorem ba_of {u : ByteArray} {l : List UInt8} (h : u.data.toList = l) : u = ⟨l.toArray⟩ := by
  apply ByteArray.ext; simp [← h]
theorem answer_site (gs : Nat) (es : List Ent) (rs : List Rt) (ws : List Wr) (v vh vw : Value) (qm qt qb : ByteArray) (fs : List Prm) (fa : Option Addr) (fc : Nat) (R : DsR) (W : World) (S : StI gs gs es (rs.map Rt.h) ws v vh vw W) (pa : Option Addr) (pc : Nat) (ua ul : ByteArray) (hua : ua.data.toList = R.al) (hul : ul.data.toList = R.lo) (hps : FlAt R.ps pa W) (hok : DsOk R rs.length) (hnp : R.ps.length ≤ 1000000) (hf : FlAt fs fa W) (hl : fs.length ≤ 1000000) (hz : ∀ i (h : i < fs.length), fs[i].1.size ≤ maxLen) (hwl : ws.length ≤ 6) :
    Calls Tryz.prog 57 #[.pointer (some ⟨gs, 0, none⟩), .agg #[.string qm, .string qt, .slice fa fs.length fc, .string qb], .agg #[.int .i64 R.st, .int .i64 R.ro, .slice pa R.ps.length pc, .string ua, .string ul]] W (ThPost (toG R rs ws fs qb) W) := by
  by_cases h2 : R.st = 200
  · have e : toG R rs ws fs qb = thrG fs qb (hdOf rs R.ro) R.ps ws := if_pos h2
    have hro := hok.ro h2
    rw [e, h2]
    obtain ⟨aw, cw, hvw, mw, hcw⟩ := own_mu (f := Wr.cells) (fun _ => rfl) S.wr
    rcases own_cells (f := Hn.cells) (fun _ => rfl) S.hr with ⟨-, h0⟩ | ⟨gh, ch, hvh, hgh, hch, hcell⟩
    · rw [List.map_eq_nil_iff.1 h0] at hro; simp at hro
    have hlen : R.ro < (rs.map Rt.h).length := by simpa using hro
    have hhd : hdOf rs R.ro = (rs.map Rt.h)[R.ro]'hlen := by
      unfold hdOf; rw [List.getElem?_eq_getElem hro]; simp
    have hc := hcell R.ro hlen
    rw [← hhd] at hc
    have s1 : W.cell? ⟨gs, 1, none⟩ = some vh := by rw [Lib.cell_of_heap S.blk]; rfl
    have s2 : W.cell? ⟨gs, 2, none⟩ = some vw := by rw [Lib.cell_of_heap S.blk]; rfl
    rw [hvh] at s1
    rw [hvw] at s2
    have hb1 : 1 + ws.length * (fs.length + 1) ≤ 50000000 := by
      have : ws.length * (fs.length + 1) ≤ 6 * (fs.length + 1) := Nat.mul_le_mul_right _ hwl
      omega
    exact answer_found gs gh (rs.map Rt.h).length ch aw ws.length cw ⟨qm, qt, qb, fs, fa, fc, R.ps, pa, pc, hdOf rs R.ro⟩ R.ro ua ul _ W hlen s1 s2 (hc 0 _ rfl) (hc 1 _ rfl) (hc 2 _ rfl) (hc 3 _ rfl)
      (fun W' hb => through_any ⟨qm, qt, qb, fs, fa, fc, R.ps, pa, pc, hdOf rs R.ro⟩ ws aw cw W' (mw.below hb) hcw (by omega) hb1 ⟨hf.below hb, hps.below hb, hl, hnp, hz⟩)
  · have e : toG R rs ws fs qb = some (restG R.st ua ul) := by
      unfold toG; rw [if_neg h2, ba_of hua, ba_of hul]
    rw [e]
    exact answer_rest _ qm qt qb fa fs.length fc R.st R.ro pa R.ps.length pc ua ul W h2
theorem other_le (l : List UInt8) : (otherL l).length ≤ l.length + 1 := by
  unfold otherL
  split
  · rw [List.length_take]; omega
  · simp
theorem dsp_len (m t : List UInt8) (es : List Ent) : (dspG m t es).lo.length ≤ t.length + 1 ∧ (dspG m t es).al.length ≤ (Lib.join (alwG (Pm.ahead 63 t) es) [44, 32]).length := by
  have hab := congrArg List.length (Pm.ahead_behind 63 t)
  rw [List.length_append] at hab
  have ho := other_le (Pm.ahead 63 t)
  unfold dspG
  split
  · simp
  split
  · simp
  split
  · refine ⟨?_, by simp⟩
    simp only [List.length_append]
    unfold otG
    split
    · simp; omega
    · simp only; omega
  · split
    · simp
    · simp
theorem rest_small {K : Nat} {st : Int} {al lo : ByteArray} (h8 : 8 ≤ K) (h1 : al.size ≤ K) (h2 : lo.size ≤ K) : SmA K (restG st al lo) ∧ (restG st al lo).fs.length ≤ 1 := by
  unfold restG
  split
  · refine ⟨⟨Nat.zero_le _, fun p hp => ?_⟩, by simp⟩
    simp only [List.mem_singleton] at hp
    subst hp
    exact ⟨h8, h2⟩
  split
  · refine ⟨⟨Nat.zero_le _, fun p hp => ?_⟩, by simp⟩
    simp only [List.mem_singleton] at hp
    subst hp
    exact ⟨Nat.le_trans (show allowB.size ≤ 8 by decide) h8, h1⟩
  · exact ⟨none_small K _, by simp⟩
theorem to_small {K : Nat} {R : DsR} {rs : List Rt} {ws : List Wr} {qf : List Prm} {qb : ByteArray} (h8 : 8 ≤ K) (hf : ∀ p ∈ qf, p.2.size ≤ K) (hq : qb.size ≤ K) (hp : ∀ p ∈ R.ps, p.2.size ≤ K) (hw : ∀ x ∈ ws, x.n.size ≤ K ∧ x.v.size ≤ K) (hr : ∀ r ∈ rs, r.h.t.size ≤ K) (ha : R.al.length ≤ K) (hlo : R.lo.length ≤ K) (hwl : ws.length ≤ 6) (hfl : qf.length ≤ 1000000) {a : An} (e : toG R rs ws qf qb = some a) : SmA K a ∧ a.fs.length ≤ 50000000 := by
  unfold toG at e
  split at e
  · have ht : (hdOf rs R.ro).t.size ≤ K := by
      unfold hdOf
      cases h : rs[R.ro]? with
      | none => exact Nat.zero_le _
      | some r => exact hr r (List.mem_of_getElem? h)
    have h2 := thrG_le qf qb (hdOf rs R.ro) R.ps ws a e
    have : ws.length * (qf.length + 1) ≤ 6 * (qf.length + 1) := Nat.mul_le_mul_right _ hwl
    exact ⟨thr_small (by omega) hf ht hq hp ws a hw e, by omega⟩
  · cases e
    have := rest_small (K := K) (st := R.st) (al := ⟨R.al.toArray⟩) (lo := ⟨R.lo.toArray⟩) h8 (by show R.al.toArray.size ≤ K; simpa using ha) (by show R.lo.toArray.size ≤ K; simpa using hlo)
    exact ⟨this.1, by omega⟩
theorem ends_any (n v : ByteArray) (w : World) (hv : v.size ≤ 4000000000) :
    Calls Tryz.prog 59 #[.agg #[.string n, .string v]] w fun e w' => e = .returned (.bool (endG v)) ∧ Below w.heap.size w w' :=
  ends_of n v w (fun W _ => containsAny_all v W (by omega))
end Go.Proofs.YtbphabgjhoifbaaGreatDoor
