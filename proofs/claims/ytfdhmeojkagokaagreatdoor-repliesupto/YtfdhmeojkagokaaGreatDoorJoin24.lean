/- Texts that follow one another, joined. -/
import Derived.Test.YtfdhmeojkagokaaGreatDoorJoin18
import Derived.Test.YtfdhmeojkagokaaGreatDoorJoin23
import Derived.Test.YtfdhmeojkagokaaGreatDoorJoin21
import Derived.Test.YtfdhmeojkagokaaGreatDoorJoin22
import Derived.Deep.AppendLies
import Derived.Deep.RegionHeld3
import Derived.BigQuiet
import Derived.Deep.QuietTactic
/- A site's Reply, out of what it calls. -/
namespace Go.Proofs.YtfdhmeojkagokaaGreatDoor
open Go.RowKit

structure RyI (B : Nat) (q : Array Value) (st : Int) (vv : Value) (b : ByteArray) (cl : Bool) (er : Int) (wr : World) : Prop where
  q : wr.heap[B]? = some (.cells q 30 (0, 0))
  a : AnB (B + 1) st vv b cl wr
  e : wr.heap[B + 1 + 1]? = some (.cells #[.int .i64 er] 45 (0, 0))
theorem RyI.lt {B : Nat} {q : Array Value} {st : Int} {vv : Value} {b : ByteArray} {cl : Bool} {er : Int} {w : World} (h : RyI B q st vv b cl er w) : B + 1 + 1 < w.heap.size := by
  have := h.e
  rcases Nat.lt_or_ge (B + 1 + 1) w.heap.size with h' | h'
  · exact h'
  · simp [Array.getElem?_eq_none h'] at this
theorem RyI.below {B : Nat} {q : Array Value} {st : Int} {vv : Value} {b : ByteArray} {cl : Bool} {er : Int} {w w' : World} (h : RyI B q st vv b cl er w) (hb : Below w.heap.size w w') : RyI B q st vv b cl er w' := by
  have hl := h.lt
  exact ⟨by rw [hb.block B (by omega)]; exact h.q, h.a.below hb, by rw [hb.block _ hl]; exact h.e⟩
theorem heap_setA_other {g b : Nat} {st : Int} {vv : Value} {bb : ByteArray} {cl : Bool} {w : World} (h : b ≠ g) : (setA g st vv bb cl w).heap[b]? = w.heap[b]? := by
  unfold setA
  rw [heap_setCell_other _ ⟨g, 3, none⟩ b _ h, heap_setCell_other _ ⟨g, 2, none⟩ b _ h, heap_setCell_other _ ⟨g, 1, none⟩ b _ h, heap_setCell_other _ ⟨g, 0, none⟩ b _ h]
theorem RyI.setA {B : Nat} {q : Array Value} {st : Int} {vv : Value} {b : ByteArray} {cl : Bool} {er : Int} {w : World} (h : RyI B q st vv b cl er w) (st' : Int) (vv' : Value) (b' : ByteArray) (cl' : Bool) : RyI B q st' vv' b' cl' er (setA (B + 1) st' vv' b' cl' w) :=
  ⟨by rw [heap_setA_other (by omega)]; exact h.q, h.a.set _ _ _ _, by rw [heap_setA_other (by omega)]; exact h.e⟩
theorem RyI.setE {B : Nat} {q : Array Value} {st : Int} {vv : Value} {b : ByteArray} {cl : Bool} {er : Int} {w : World} (h : RyI B q st vv b cl er w) (er' : Int) : RyI B q st vv b cl er' (w.setCell ⟨B + 1 + 1, 0, none⟩ (.int .i64 er')) := by
  refine ⟨by rw [heap_setCell_other _ _ _ _ (show B ≠ B + 1 + 1 by omega)]; exact h.q, ?_, ?_⟩
  · unfold AnB; rw [heap_setCell_other _ _ _ _ (show B + 1 ≠ B + 1 + 1 by omega)]; exact h.a
  · rw [heap_setCell_same _ (B + 1 + 1) 0 _ _ _ h.e]; rfl
theorem RyI.ecell {B : Nat} {q : Array Value} {st : Int} {vv : Value} {b : ByteArray} {cl : Bool} {er : Int} {w : World} (h : RyI B q st vv b cl er w) : w.cell? ⟨B + 1 + 1, 0, none⟩ = some (.int .i64 er) ∧ w.frozen? ⟨B + 1 + 1, 0, none⟩ = false := ⟨(Lib.cell_of_heap h.e 0).trans rfl, Lib.frozen_of_heap h.e 0⟩
theorem RyI.qcells {B : Nat} {a0 a1 a2 a3 : Value} {st : Int} {vv : Value} {b : ByteArray} {cl : Bool} {er : Int} {w : World} (h : RyI B #[a0, a1, a2, a3] st vv b cl er w) : w.cell? ⟨B, 0, none⟩ = some a0 ∧ w.cell? ⟨B, 1, none⟩ = some a1 ∧ w.cell? ⟨B, 2, none⟩ = some a2 ∧ w.cell? ⟨B, 3, none⟩ = some a3 := by
  refine ⟨?_, ?_, ?_, ?_⟩ <;> (rw [Lib.cell_of_heap h.q]; rfl)
theorem ryI_new (a0 a1 a2 a3 : Value) (w : World) : RyI w.heap.size #[a0, a1, a2, a3] 0 (.slice none 0 0) ⟨#[]⟩ false 0 (((w.alloc (.cells #[a0, a1, a2, a3] 30)).alloc (.cells #[.int .i64 0, .slice none 0 0, .string ⟨#[]⟩, .bool false] 44)).alloc (.cells #[.int .i64 0] 45)) ∧ Below w.heap.size w (((w.alloc (.cells #[a0, a1, a2, a3] 30)).alloc (.cells #[.int .i64 0, .slice none 0 0, .string ⟨#[]⟩, .bool false] 44)).alloc (.cells #[.int .i64 0] 45)) := by
  have h1 := (Below.refl w.heap.size w).alloc (Nat.le_refl _) (.cells #[a0, a1, a2, a3] 30)
  have q0 := heap_alloc_new w (.cells #[a0, a1, a2, a3] 30)
  have z1 : (w.alloc (.cells #[a0, a1, a2, a3] 30)).heap.size = w.heap.size + 1 := by simp
  generalize w.alloc (.cells #[a0, a1, a2, a3] 30) = W1 at *
  have h2 := h1.alloc h1.size (.cells #[.int .i64 0, .slice none 0 0, .string ⟨#[]⟩, .bool false] 44)
  have k2 := (Below.refl W1.heap.size W1).alloc (Nat.le_refl _) (.cells #[.int .i64 0, .slice none 0 0, .string ⟨#[]⟩, .bool false] 44)
  have q1 := heap_alloc_new W1 (.cells #[.int .i64 0, .slice none 0 0, .string ⟨#[]⟩, .bool false] 44)
  have z2 : (W1.alloc (.cells #[.int .i64 0, .slice none 0 0, .string ⟨#[]⟩, .bool false] 44)).heap.size = W1.heap.size + 1 := by simp
  have q0b := (k2.block w.heap.size (by omega)).trans q0
  generalize W1.alloc (.cells #[.int .i64 0, .slice none 0 0, .string ⟨#[]⟩, .bool false] 44) = W2 at *
  have h3 := h2.alloc h2.size (.cells #[.int .i64 0] 45)
  have k3 := (Below.refl W2.heap.size W2).alloc (Nat.le_refl _) (.cells #[.int .i64 0] 45)
  have q2 := heap_alloc_new W2 (.cells #[.int .i64 0] 45)
  rw [z1] at q1 z2
  rw [z2] at q2
  refine ⟨⟨(k3.block w.heap.size (by omega)).trans q0b, (k3.block (w.heap.size + 1) (by omega)).trans q1, q2⟩, h3⟩
theorem heap_setF_other {g b : Nat} {st ro : Int} {vv : Value} {al lo : ByteArray} {w : World} (h : b ≠ g) : (setF g st ro vv al lo w).heap[b]? = w.heap[b]? := by
  unfold setF
  rw [heap_setCell_other _ ⟨g, 4, none⟩ b _ h, heap_setCell_other _ ⟨g, 3, none⟩ b _ h, heap_setCell_other _ ⟨g, 2, none⟩ b _ h, heap_setCell_other _ ⟨g, 1, none⟩ b _ h, heap_setCell_other _ ⟨g, 0, none⟩ b _ h]
theorem RyI.setF {B g : Nat} {q : Array Value} {st : Int} {vv : Value} {b : ByteArray} {cl : Bool} {er : Int} {w : World} (h : RyI B q st vv b cl er w) (hg : B + 1 + 1 < g) (st' ro' : Int) (vv' : Value) (al' lo' : ByteArray) : RyI B q st vv b cl er (setF g st' ro' vv' al' lo' w) := by
  refine ⟨by rw [heap_setF_other (by omega)]; exact h.q, ?_, by rw [heap_setF_other (by omega)]; exact h.e⟩
  unfold AnB; rw [heap_setF_other (by omega)]; exact h.a
theorem FnB.setE {B g : Nat} {st ro : Int} {vv : Value} {al lo : ByteArray} {w : World} (h : FnB g st ro vv al lo w) (hg : B < g) (v : Value) : FnB g st ro vv al lo (w.setCell ⟨B, 0, none⟩ v) := by
  unfold FnB; rw [heap_setCell_other _ _ _ _ (show g ≠ B by omega)]; exact h
theorem RyI.setC {B : Nat} {q : Array Value} {st : Int} {vv : Value} {b : ByteArray} {cl : Bool} {er : Int} {w : World} (h : RyI B q st vv b cl er w) (cl' : Bool) : RyI B q st vv b cl' er (w.setCell ⟨B + 1, 3, none⟩ (.bool cl')) := by
  refine ⟨by rw [heap_setCell_other _ _ _ _ (show B ≠ B + 1 by omega)]; exact h.q, ?_, by rw [heap_setCell_other _ _ _ _ (show B + 1 + 1 ≠ B + 1 by omega)]; exact h.e⟩
  have := h.a
  unfold AnB at *
  rw [heap_setCell_same _ (B + 1) 3 _ _ _ this]; rfl
theorem RyI.low {B C : Nat} {q : Array Value} {st : Int} {vv : Value} {b : ByteArray} {cl : Bool} {er : Int} {w w' : World} (h : RyI B q st vv b cl er w) (hb : Below C w w') (hC : B + 1 + 1 < C) : RyI B q st vv b cl er w' := by
  refine ⟨by rw [hb.block B (by omega)]; exact h.q, ?_, by rw [hb.block _ hC]; exact h.e⟩
  unfold AnB; rw [hb.block _ (by omega)]; exact h.a
theorem fl_own {w : World} {B : Nat} {T : TypeId} {a : Option Addr} {c : Nat} {l : List Prm} (h : w.ownsRow B T 2 (.slice a l.length c) l.length (prCells l)) : FlAt l a w := fun i hi => by
  have hne : l ≠ [] := fun e => by rw [e] at hi; simp at hi
  obtain ⟨g, cap, cs, e, hB, hlt, hg, hc⟩ := own_row h hne
  simp only [Value.slice.injEq] at e
  obtain ⟨p1, p2⟩ := prC_get l i hi
  refine ⟨g, e.1, hlt, ?_, ?_⟩
  · rw [Lib.cell_of_heap hg]; exact hc _ _ p1
  · rw [Lib.cell_of_heap hg]; exact hc _ _ p2
theorem any_end {l : List Prm} (h : l.any (fun p => endG p.2) = true) (a : An) (hl : a.fs = l) (sh : Bool) : finG sh (some a) = ⟨500, [], ⟨#[]⟩, sh, 0⟩ := by
  subst hl; exact if_pos h
theorem any_no {l : List Prm} (h : l.any (fun p => endG p.2) = false) (a : An) (hl : a.fs = l) (sh : Bool) : finG sh (some a) = ⟨a.st, a.fs, a.b, sh, 0⟩ := by
  subst hl; exact if_neg (by rw [h]; simp)
end Go.Proofs.YtfdhmeojkagokaaGreatDoor

/- Outwards again, by the reference: memory; the values of a name in a row of their own. -/
namespace Go.Proofs.YtfdhmeojkagokaaGreatDoor
open Go.RowKit

set_option maxRecDepth 100000 in
set_option maxHeartbeats 1000000 in
theorem rvaluesW_any (fs : List Pr2) (a : Option Addr) (cap : Nat) (name : ByteArray) (w : World) (hf : FoAt fs a w) (hl : fs.length ≤ 1000000000) (hn : name.size ≤ maxLen) (hsz : ∀ i (h : i < fs.length), fs[i].1.size ≤ maxLen) :
    Calls Tryz.prog 91 #[.slice a fs.length cap, .string name] w fun e w' => (∃ a' c', e = .returned (.slice a' (valsOf fs name.data.toList).length c') ∧ w'.ownsRow w.heap.size 9 1 (.slice a' (valsOf fs name.data.toList).length c') (valsOf fs name.data.toList).length ((valsOf fs name.data.toList).map Value.string)) ∧ Below w.heap.size w w' := by
  obtain ⟨i0, hi, hz0, hz1, hz2⟩ := info_parts Tryz.info9
  have HF : Hid (FoAt fs a w) := hf
  have HZ : Hid (∀ i (h : i < fs.length), fs[i].1.size ≤ maxLen) := hsz
  clear hf hsz
  go_enter Tryz.func91, Tryz.ntmps91
  go_wp2
  go_loopw [5, 6, 7] (fun v i _ wr => ∃ k : Nat, k ≤ fs.length ∧ i = .int .i64 k ∧ wr.ownsRow w.heap.size 9 1 v (valsOf (fs.take k) name.data.toList).length ((valsOf (fs.take k) name.data.toList).map Value.string) ∧ Below w.heap.size w wr) (fun _ i _ _ => fs.length - (intOf i).toNat)
  case atStart => exact ⟨0, Nat.zero_le _, rfl, World.ownsRow_nil _ _ _ _, Below.refl _ _⟩
  case round =>
    obtain ⟨k, hk, rfl, hown, hbw⟩ := hrel
    by_cases hlt : k < fs.length
    · obtain ⟨g, o, rfl, hg, hc1, hc2⟩ := (HF.out.below hbw) k hlt
      have hsk := HZ.out k hlt
      have HV : Hid ((Pm.alike fs[k].1.data.toList name.data.toList = true → valsOf (fs.take (k + 1)) name.data.toList = valsOf (fs.take k) name.data.toList ++ [fs[k].2]) ∧ (Pm.alike fs[k].1.data.toList name.data.toList = false → valsOf (fs.take (k + 1)) name.data.toList = valsOf (fs.take k) name.data.toList)) := ⟨valsOf_yes hlt, valsOf_no hlt⟩
      have hvl := valsOf_le (fs.take k) name.data.toList
      rw [List.length_take] at hvl
      obtain ⟨f, hfk⟩ : ∃ f, f = fs[k] := ⟨_, rfl⟩
      rw [← hfk] at hc1 hc2 hsk HV
      clear hfk
      obtain ⟨nm, vl⟩ := f
      simp only at hc1 hc2 hsk HV
      cases hal : Pm.alike nm.data.toList name.data.toList
      · have HE := (show Hid _ from HV.out.2 hal)
        go_wp2_with (go_at_call 92; refine (rAlike_any _ _ _ hsk hn).mono ?_; rintro e w1 ⟨rfl, rfl⟩)
        exact ⟨⟨k + 1, by omega, by go_num, by rw [HE.out]; exact hown, hbw⟩, by simp [intOf]; omega⟩
      · have HE := (show Hid _ from HV.out.1 hal)
        go_wp2_with fail
        refine (rAlike_any _ _ _ hsk hn).mono ?_
        rintro e w1 ⟨rfl, hw1⟩
        rw [hal, hw1]
        have hbs := hbw.size
        clear hw1 w1 hal hc1 hsk
        go_wp2_with (at_builtin; refine wpList_append_own _ rfl _ _ 75 rfl w.heap.size 9 i0 (.string ⟨#[]⟩) 1 16 Tryz.underlying75 hi hz0 hz1 hz2 rfl (by decide) _ _ _ rfl (hown.alloc _) ⟨wr.heap.size, 0, none⟩ 1 1 [.string vl] rfl rfl ?c1 ?c2 ?c3 ?c4 ?c5 ?_)
        case c1 =>
          intro j u hj
          match j, hj with
          | 0, hj => simp at hj; subst hj; simp [Addr.add]
        case c2 => intro u hu; simp at hu; subst hu; rfl
        case c3 => unfold maxLen; omega
        case c4 => omega
        case c5 => have := hbw.size; simp; omega
        intro v' w2 hown' hgrow _
        have hb3 : Below w.heap.size w w2 := (hbw.alloc hbw.size _).grown hgrow (by have := hbw.size; simp; omega) (own_ge hown)
        clear hgrow
        go_wp2
        refine ⟨⟨k + 1, by omega, by go_num, ?_, hb3⟩, by simp [intOf]; omega⟩
        rw [HE.out, List.length_append, List.map_append]
        exact hown'
    · have HT : Hid (fs.take k = fs) := List.take_of_length_le (by omega)
      rw [HT.out] at hown
      obtain ⟨a', c', rfl⟩ := sl_of hown
      have HOW := hid hown
      go_wp2
      go_ret
      exact ⟨⟨a', c', rfl, HOW.out⟩, hbw⟩
structure ArI (w0 w : World) (v0 : Value) (q : Array Value) (st : Int) (b : ByteArray) (fs : List Prm) (vv : Value) (wr : World) : Prop where
  q : Bl w.heap.size q 30 wr
  a : AnB (w.heap.size + 1) st vv b false wr
  r : AnB (w.heap.size + 1 + 1) 0 (.slice none 0 0) ⟨#[]⟩ false wr
  o : wr.ownsRow w0.heap.size 70 2 vv fs.length (prCells fs)
  n0 : vv.ownBlock ≠ some w.heap.size
  n1 : vv.ownBlock ≠ some (w.heap.size + 1)
  n2 : vv.ownBlock ≠ some (w.heap.size + 1 + 1)
  bl : Below w0.heap.size w0 wr
  hB : w0.heap.size ≤ w.heap.size
  kp : ∀ g, g < w.heap.size → v0.ownBlock ≠ some g → wr.heap[g]? = w.heap[g]?
  nk : ∀ g, g < w.heap.size → v0.ownBlock ≠ some g → vv.ownBlock ≠ some g
theorem ArI.lt {w0 w : World} {v0 : Value} {q : Array Value} {st : Int} {b : ByteArray} {fs : List Prm} {vv : Value} {wr : World} (h : ArI w0 w v0 q st b fs vv wr) : w.heap.size + 1 + 1 < wr.heap.size := h.r.lt
theorem ArI.below {w0 w : World} {v0 : Value} {q : Array Value} {st : Int} {b : ByteArray} {fs : List Prm} {vv : Value} {wr w' : World} (h : ArI w0 w v0 q st b fs vv wr) (hb : Below wr.heap.size wr w') : ArI w0 w v0 q st b fs vv w' :=
  ⟨h.q.below hb, h.a.below hb, h.r.below hb, owns_below h.o hb, h.n0, h.n1, h.n2, bel_of h.bl hb, h.hB, fun g hg hn => by rw [hb.block g (by have := h.r.lt; omega)]; exact h.kp g hg hn, h.nk⟩
theorem ArI.set {w0 w : World} {v0 : Value} {q : Array Value} {st : Int} {b : ByteArray} {fs : List Prm} {vv : Value} {wr : World} (h : ArI w0 w v0 q st b fs vv wr) : ArI w0 w v0 q 500 savedB [] (.slice none 0 0) (setA (w.heap.size + 1) 500 (.slice none 0 0) savedB false wr) :=
  ⟨h.q.otherA (by omega) _ _ _ _, h.a.set _ _ _ _, h.r.bl.otherA (by omega) _ _ _ _, World.ownsRow_nil _ _ _ _, by simp [Value.ownBlock], by simp [Value.ownBlock], by simp [Value.ownBlock], below_setA h.bl (by have := h.hB; omega), h.hB, fun g hg hn => by rw [heap_setA_other (by omega)]; exact h.kp g hg hn, fun g _ _ => by simp [Value.ownBlock]⟩
theorem Bl.keep {g : Nat} {cs : Array Value} {t : TypeId} {w w' : World} (h : Bl g cs t w) (hk : w'.heap[g]? = w.heap[g]?) : Bl g cs t w' := by
  unfold Bl at *; rw [hk]; exact h
theorem ArI.next {w0 w : World} {v0 : Value} {q : Array Value} {st : Int} {b : ByteArray} {fs : List Prm} {vk : Value} {wr w4 : World} {gg cap N : Nat} {n x : ByteArray} (h : ArI w0 w v0 q st b fs vk wr) {E : Obj}
    (hN : N = fs.length) (hgrow : (wr.alloc E).grownBy w4 vk.ownBlock)
    (hown : w4.ownsRow w0.heap.size 70 2 (.slice (some ⟨gg, 0, none⟩) (N + 1) cap) (N + 1) (prCells fs ++ [.string n, .string x])) (hat : vk.ownBlock = some gg ∨ gg = wr.heap.size + 1) :
    ArI w0 w v0 q st b (fs ++ [(n, x)]) (.slice (some ⟨gg, 0, none⟩) (N + 1) cap) (w4.setCell ⟨w.heap.size + 1, 1, none⟩ (.slice (some ⟨gg, 0, none⟩) (N + 1) cap)) ∧ w4.cell? ⟨w.heap.size + 1, 1, none⟩ = some vk ∧ w4.frozen? ⟨w.heap.size + 1, 1, none⟩ = false ∧ w.heap.size + 1 < w4.heap.size ∧ (∀ g, g < wr.heap.size → vk.ownBlock ≠ some g → w4.heap[g]? = wr.heap[g]?) ∧ wr.heap.size ≤ w4.heap.size := by
  have hb3 : Below wr.heap.size wr (wr.alloc E) := (Below.refl _ _).alloc (Nat.le_refl _) E
  have lr := h.lt
  have z3 := hgrow.size
  have zz : (wr.alloc E).heap.size = wr.heap.size + 1 := by simp
  have blk : ∀ g, g < wr.heap.size → vk.ownBlock ≠ some g → w4.heap[g]? = wr.heap[g]? := fun g hg hn => by
    rw [hgrow.block g (by omega) (fun e => hn e.symm), hb3.block g hg]
  have q4 := h.q.keep (blk _ (by omega) h.n0)
  have a4 := h.a.keep (blk _ (by omega) h.n1)
  have r4 := h.r.bl.keep (blk _ lr h.n2)
  have key : ∀ c, c < wr.heap.size → vk.ownBlock ≠ some c → gg ≠ c := fun c hc hn e => by
    rcases hat with e1 | e1
    · rw [e] at e1; exact hn e1
    · omega
  have e : prCells (fs ++ [(n, x)]) = prCells fs ++ [.string n, .string x] := prCells_snoc fs (n, x)
  refine ⟨⟨q4.other (by omega) _ _, a4.set1 _, r4.other (by omega) _ _, ?_, ?_, ?_, ?_, ?_, h.hB, ?_, ?_⟩, a4.cells.2.1, a4.free 1, a4.lt, blk, by omega⟩
  · rw [e, List.length_append, ← hN]
    exact owns_not hown (by have := key _ (show w.heap.size + 1 < wr.heap.size by omega) h.n1; simpa [Value.ownBlock] using this) 1 _
  · have := key _ (show w.heap.size < wr.heap.size by omega) h.n0; simpa [Value.ownBlock] using this
  · have := key _ (show w.heap.size + 1 < wr.heap.size by omega) h.n1; simpa [Value.ownBlock] using this
  · have := key _ lr h.n2; simpa [Value.ownBlock] using this
  · have hz := h.bl.size
    exact ((h.bl.trans (hb3.mono hz)).grown hgrow (by omega) (fun r hr => own_ge h.o r hr)).setCell (show w0.heap.size ≤ w.heap.size + 1 by have := h.hB; omega) _
  · intro g hg hn
    rw [heap_setCell_other _ _ _ _ (show g ≠ w.heap.size + 1 by omega), blk g (by omega) (h.nk g hg hn)]
    exact h.kp g hg hn
  · intro g hg hn
    have := key g (by omega) (h.nk g hg hn); simpa [Value.ownBlock] using this
def ArG (w0 w : World) (v0 : Value) (q : Array Value) (G : Option An) (up : Value) (wr : World) : Prop :=
  match G with
  | none => up = .bool true ∧ ArI w0 w v0 q 0 ⟨#[]⟩ [] (.slice none 0 0) wr
  | some a => up = .bool false ∧ ∃ vv, ArI w0 w v0 q a.st a.b a.fs vv wr
theorem aro_at (qf : List Prm) (G : Option An) (ws : List Wr) (k : Nat) (h : k < ws.length) : aroG qf G (ws.drop k) = stepG ws[k] qf (aroG qf G (ws.drop (k + 1))) := by
  rw [← List.getElem_cons_drop h, aroG]
end Go.Proofs.YtfdhmeojkagokaaGreatDoor

/- Outwards again, by the reference. -/
namespace Go.Proofs.YtfdhmeojkagokaaGreatDoor
open Go.RowKit

def AoPost (G : Option An) (w0 w : World) (v0 : Value) (x : Ending) (w' : World) : Prop :=
  (match G with
    | none => x = .returned (.tuple #[.agg #[.int .i64 0, .slice none 0 0, .string ⟨#[]⟩, .bool false], .bool true])
    | some a => ∃ vv, x = .returned (.tuple #[.agg #[.int .i64 a.st, vv, .string a.b, .bool false], .bool false]) ∧ w'.ownsRow w0.heap.size 70 2 vv a.fs.length (prCells a.fs) ∧ ∀ g, g < w.heap.size → v0.ownBlock ≠ some g → vv.ownBlock ≠ some g) ∧ Below w0.heap.size w0 w' ∧ w.heap.size ≤ w'.heap.size ∧ ∀ g, g < w.heap.size → v0.ownBlock ≠ some g → w'.heap[g]? = w.heap[g]?
theorem arI_new (q : Array Value) (st : Int) (b : ByteArray) (f0 : List Prm) (v0 : Value) (w0 w : World) (hw : Below w0.heap.size w0 w) (ho : w.ownsRow w0.heap.size 70 2 v0 f0.length (prCells f0)) :
    ArI w0 w v0 q st b f0 v0 (((w.alloc (.cells q 30)).alloc (.cells #[.int .i64 st, v0, .string b, .bool false] 44)).alloc (.cells #[.int .i64 0, .slice none 0 0, .string ⟨#[]⟩, .bool false] 44)) := by
  have h1 := (Below.refl w.heap.size w).alloc (Nat.le_refl _) (.cells q 30)
  have b1 := Bl.new w q 30
  have z1 : (w.alloc (.cells q 30)).heap.size = w.heap.size + 1 := by simp
  generalize w.alloc (.cells q 30) = W1 at *
  have h2 := h1.alloc h1.size (.cells #[.int .i64 st, v0, .string b, .bool false] 44)
  have b2 := Bl.new W1 #[.int .i64 st, v0, .string b, .bool false] 44
  have k1 := b1.alloc (.cells #[.int .i64 st, v0, .string b, .bool false] 44)
  have z2 : (W1.alloc (.cells #[.int .i64 st, v0, .string b, .bool false] 44)).heap.size = w.heap.size + 1 + 1 := by simp [z1]
  rw [z1] at b2
  generalize W1.alloc (.cells #[.int .i64 st, v0, .string b, .bool false] 44) = W2 at *
  have b3 := Bl.new W2 #[.int .i64 0, .slice none 0 0, .string ⟨#[]⟩, .bool false] 44
  rw [z2] at b3
  have h3 := h2.alloc h2.size (.cells #[.int .i64 0, .slice none 0 0, .string ⟨#[]⟩, .bool false] 44)
  have hl : ∀ g, v0.ownBlock = some g → g < w.heap.size := fun g e => own_ltw ho _ e
  exact ⟨k1.alloc _, b2.alloc _, b3, owns_below ho h3, fun e => by have := hl _ e; omega, fun e => by have := hl _ e; omega, fun e => by have := hl _ e; omega, bel_of hw h3, hw.size, fun g hg _ => h3.block g hg, fun _ _ h => h⟩
structure CpI (w0 w : World) (V0 : Value) (q : Array Value) (st : Int) (b : ByteArray) (fs : List Prm) (n : ByteArray) (vals : List ByteArray) (va : Option Addr) (m : Nat) (vv : Value) (wr : World) : Prop where
  i : ArI w0 w V0 q st b (fs ++ (vals.take m).map (fun v => (n, v))) vv wr
  s : StAt vals va wr
  k : ∀ g, va = some ⟨g, 0, none⟩ → vv.ownBlock ≠ some g ∧ w.heap.size + 1 + 1 < g ∧ g < wr.heap.size
theorem CpI.next {w0 w : World} {V0 : Value} {q : Array Value} {st : Int} {b : ByteArray} {fs : List Prm} {n : ByteArray} {vals : List ByteArray} {va : Option Addr} {m : Nat} {vv : Value} {wr w4 : World} {gg cap N : Nat} {x : ByteArray} (h : CpI w0 w V0 q st b fs n vals va m vv wr) (hm : m < vals.length) (hx : vals[m] = x) {E : Obj}
    (hN : N = (fs ++ (vals.take m).map (fun v => (n, v))).length) (hgrow : (wr.alloc E).grownBy w4 vv.ownBlock)
    (hown : w4.ownsRow w0.heap.size 70 2 (.slice (some ⟨gg, 0, none⟩) (N + 1) cap) (N + 1) (prCells (fs ++ (vals.take m).map (fun v => (n, v))) ++ [.string n, .string x])) (hat : vv.ownBlock = some gg ∨ gg = wr.heap.size + 1) :
    CpI w0 w V0 q st b fs n vals va (m + 1) (.slice (some ⟨gg, 0, none⟩) (N + 1) cap) (w4.setCell ⟨w.heap.size + 1, 1, none⟩ (.slice (some ⟨gg, 0, none⟩) (N + 1) cap)) ∧ w4.cell? ⟨w.heap.size + 1, 1, none⟩ = some vv ∧ w4.frozen? ⟨w.heap.size + 1, 1, none⟩ = false ∧ w.heap.size + 1 < w4.heap.size := by
  obtain ⟨r1, r2, r3, r4, r5, r6⟩ := h.i.next hN hgrow hown hat
  have e : fs ++ (vals.take (m + 1)).map (fun v => (n, v)) = (fs ++ (vals.take m).map (fun v => (n, v))) ++ [(n, x)] := by
    rw [List.take_succ_eq_append_getElem hm, List.map_append, hx, List.append_assoc]; rfl
  have hz : (w4.setCell ⟨w.heap.size + 1, 1, none⟩ (.slice (some ⟨gg, 0, none⟩) (N + 1) cap)).heap.size = w4.heap.size := by simp [World.setCell]
  refine ⟨⟨by rw [e]; exact r1, ?_, ?_⟩, r2, r3, r4⟩
  · refine h.s.keep (by omega) (fun g hg => ?_)
    obtain ⟨k1, k2, k3⟩ := h.k g hg
    rw [heap_setCell_other _ _ _ _ (show g ≠ w.heap.size + 1 by omega), r5 g k3 k1]
  · intro g hg
    obtain ⟨k1, k2, k3⟩ := h.k g hg
    refine ⟨?_, k2, by omega⟩
    rcases hat with e1 | e1
    · rw [e1] at k1; simpa [Value.ownBlock] using k1
    · simp [Value.ownBlock]; omega
theorem CpI.below {w0 w : World} {V0 : Value} {q : Array Value} {st : Int} {b : ByteArray} {fs : List Prm} {n : ByteArray} {vals : List ByteArray} {va : Option Addr} {m : Nat} {vv : Value} {wr w' : World} (h : CpI w0 w V0 q st b fs n vals va m vv wr) (hb : Below wr.heap.size wr w') : CpI w0 w V0 q st b fs n vals va m vv w' :=
  ⟨h.i.below hb, h.s.below hb, fun g hg => ⟨(h.k g hg).1, (h.k g hg).2.1, Nat.lt_of_lt_of_le (h.k g hg).2.2 hb.size⟩⟩
theorem cpI_new {w0 w : World} {V0 : Value} {q : Array Value} {st : Int} {b : ByteArray} {fs : List Prm} {vals : List ByteArray} {va : Option Addr} {vc : Nat} {vv : Value} {wr w4 : World} (n : ByteArray) (h : ArI w0 w V0 q st b fs vv wr) (hb : Below wr.heap.size wr w4) (ho : w4.ownsRow wr.heap.size 9 1 (.slice va vals.length vc) vals.length (vals.map Value.string)) : CpI w0 w V0 q st b fs n vals va 0 vv w4 := by
  refine ⟨by simpa using h.below hb, StAt.of_sl ho, fun g hg => ?_⟩
  have h1 := own_ge ho g (sl_own hg)
  have h2 := own_ltw ho g (sl_own hg)
  have h3 := h.lt
  exact ⟨fun e => by have := own_ltw h.o g e; omega, by omega, h2⟩
theorem step_add (n v : ByteArray) (l : Int) (qf : List Prm) (a : An) : stepG ⟨0, n, v, l⟩ qf (some a) = some ⟨a.st, a.fs ++ [(n, v)], a.b⟩ := if_pos rfl
theorem step_copy (n v : ByteArray) (l : Int) (qf : List Prm) (a : An) : stepG ⟨4, n, v, l⟩ qf (some a) = some ⟨a.st, a.fs ++ (valsOf qf n.data.toList).map (fun v => (n, v)), a.b⟩ := rfl
theorem step_save (n v : ByteArray) (l : Int) (qf : List Prm) : stepG ⟨3, n, v, l⟩ qf none = some ⟨500, [], savedB⟩ := rfl
theorem step_none (k : Int) (n v : ByteArray) (l : Int) (qf : List Prm) (h : k ≠ 3) : stepG ⟨k, n, v, l⟩ qf none = none := by
  unfold stepG
  simp only [Option.map_none]
  rw [if_neg h]
  split
  · rfl
  · split <;> rfl
theorem step_some (k : Int) (n v : ByteArray) (l : Int) (qf : List Prm) (a : An) (h : k ≠ 0) (h4 : k ≠ 4) : stepG ⟨k, n, v, l⟩ qf (some a) = some a := by
  unfold stepG
  simp only
  rw [if_neg h, if_neg h4]
  split <;> rfl
theorem arG_new {q : Array Value} {st : Int} {b : ByteArray} {f0 : List Prm} {v0 : Value} {up : Bool} {G : Option An} {w0 w W : World} (I0 : ArI w0 w v0 q st b f0 v0 W) (hG : G = if up = true then none else some ⟨st, f0, b⟩) (hup : up = true → st = 0 ∧ b = ⟨#[]⟩ ∧ f0 = [] ∧ v0 = .slice none 0 0) : ArG w0 w v0 q G (.bool up) W := by
  rw [hG]
  cases up with
  | true =>
    obtain ⟨rfl, rfl, rfl, e⟩ := hup rfl
    subst e
    exact ⟨rfl, I0⟩
  | false => exact ⟨rfl, _, I0⟩
set_option maxRecDepth 100000 in
set_option maxHeartbeats 2000000 in
theorem raround_any (ws : List Wr) (a : Option Addr) (c : Nat) (qm qt qb : ByteArray) (fs : List Prm) (fa : Option Addr) (fc : Nat) (st : Int) (b : ByteArray) (f0 : List Prm) (v0 : Value) (up : Bool) (G : Option An) (w0 w : World) (hw : Below w0.heap.size w0 w) (ho : w.ownsRow w0.heap.size 70 2 v0 f0.length (prCells f0))
    (hG : G = if up = true then none else some ⟨st, f0, b⟩) (hup : up = true → st = 0 ∧ b = ⟨#[]⟩ ∧ f0 = [] ∧ v0 = .slice none 0 0)
    (hm : MuAt 4 Wr.cells ws a w0) (hwl : ws.length ≤ 1000000) (hf : FoAt fs fa w0) (hl : fs.length ≤ 1000000) (hz : ∀ i (h : i < fs.length), fs[i].1.size ≤ maxLen) (hwn : ∀ x ∈ ws, x.n.size ≤ maxLen) (hbig : ∀ k a, aroG fs G (ws.drop k) = some a → a.fs.length ≤ 50000000) :
    Calls Tryz.prog 89 #[.slice a ws.length c, .agg #[.string qm, .string qt, .slice fa fs.length fc, .string qb], .agg #[.int .i64 st, v0, .string b, .bool false], .bool up] w (AoPost (aroG fs G ws) w0 w v0) := by
  obtain ⟨i0, hi, hz0, hz1, hz2⟩ := info_parts infoFd
  have I0 := arI_new #[.string qm, .string qt, .slice fa fs.length fc, .string qb] st b f0 v0 w0 w hw ho
  obtain ⟨av, cv, rfl⟩ := sl_of ho
  have HG0 := hid (arG_new I0 hG hup)
  rw [show G = aroG fs G (ws.drop ws.length) by rw [List.drop_length, aroG]] at HG0
  generalize hV0 : Value.slice av f0.length cv = V0 at *
  have hGF : aroG fs G ws = aroG fs G (ws.drop 0) := by rw [List.drop_zero]
  rw [hGF]
  have HW := hid hm
  have HF := hid hf
  have HZ := hid hz
  have HWN := hid hwn
  have HBG := hid hbig
  have HAT := hid (aro_at fs G ws)
  clear hm hf hz hwn hG hup hbig hGF I0 ho
  subst hV0
  go_enter Tryz.func89, Tryz.ntmps89
  go_wp2_with fail
  generalize ((w.alloc (.cells #[.string qm, .string qt, .slice fa fs.length fc, .string qb] 30)).alloc (.cells #[.int .i64 st, .slice av f0.length cv, .string b, .bool false] 44)).alloc (.cells #[.int .i64 0, .slice none 0 0, .string ⟨#[]⟩, .bool false] 44) = w1 at *
  generalize Value.slice av f0.length cv = V0 at *
  go_loopw [10, 3, 11, 12] (fun i u _ _ wr => ∃ j : Nat, j ≤ ws.length ∧ i = .int .i64 ((j : Int) - 1) ∧ Hid (ArG w0 w V0 #[.string qm, .string qt, .slice fa fs.length fc, .string qb] (aroG fs G (ws.drop j)) u wr)) (fun i _ _ _ _ => (intOf i + 1).toNat)
  case atStart => exact ⟨ws.length, Nat.le_refl _, by go_num, HG0⟩
  case round =>
    clear HG0
    obtain ⟨j, hj, rfl, HA⟩ := hrel
    cases j with
    | zero =>
      generalize aroG fs G (ws.drop 0) = H at *
      have hne : ¬ (0 : Int) ≤ ((0 : Nat) : Int) - 1 := by omega
      cases H with
      | none =>
        obtain ⟨rfl, I⟩ := HA.out
        obtain ⟨x0, x1, x2, x3⟩ := I.a.cells
        obtain ⟨c0, c1, c2, c3⟩ := I.r.cells
        have f0 := I.r.free 0
        have f1 := I.r.free 1
        have f2 := I.r.free 2
        have f3 := I.r.free 3
        have lr := I.r.lt
        have la := I.a.lt
        obtain ⟨d0, d1, d2, d3⟩ := (I.r.set 0 (.slice none 0 0) ⟨#[]⟩ false).cells
        have hB := I.hB
        have HBZ := hid (And.intro (below_setA (g := w.heap.size + 1 + 1) (st := 0) (vv := .slice none 0 0) (b := ⟨#[]⟩) (cl := false) I.bl (by omega)) (And.intro (show w.heap.size ≤ (setA (w.heap.size + 1 + 1) 0 (.slice none 0 0) ⟨#[]⟩ false wr).heap.size by simp [setA, World.setCell]; omega) (fun g (hg : g < w.heap.size) hn => (heap_setA_other (st := 0) (vv := .slice none 0 0) (bb := ⟨#[]⟩) (cl := false) (show g ≠ w.heap.size + 1 + 1 by omega)).trans (I.kp g hg hn))))
        unfold setA at d0 d1 d2 d3 HBZ
        clear I HA HW HF HZ HWN HBG HAT
        go_wp2_with fail
        refine bodyPost_ret (v := .tuple #[.agg #[.int .i64 0, .slice none 0 0, .string ⟨#[]⟩, .bool false], .bool true]) (by simp [results, Tryz.results89, go_sem, d0, d1, d2, d3]) rfl ?_
        exact ⟨rfl, HBZ.out⟩
      | some an =>
        obtain ⟨rfl, vv, I⟩ := HA.out
        obtain ⟨ak, ck, rfl⟩ := sl_of I.o
        obtain ⟨x0, x1, x2, x3⟩ := I.a.cells
        obtain ⟨c0, c1, c2, c3⟩ := I.r.cells
        have f0 := I.r.free 0
        have f1 := I.r.free 1
        have f2 := I.r.free 2
        have f3 := I.r.free 3
        have lr := I.r.lt
        have la := I.a.lt
        obtain ⟨d0, d1, d2, d3⟩ := (I.r.set an.st (.slice ak an.fs.length ck) an.b false).cells
        have hB := I.hB
        have HBZ := hid (And.intro (below_setA (g := w.heap.size + 1 + 1) (st := an.st) (vv := .slice ak an.fs.length ck) (b := an.b) (cl := false) I.bl (by omega)) (And.intro (show w.heap.size ≤ (setA (w.heap.size + 1 + 1) an.st (.slice ak an.fs.length ck) an.b false wr).heap.size by simp [setA, World.setCell]; omega) (fun g (hg : g < w.heap.size) hn => (heap_setA_other (st := an.st) (vv := .slice ak an.fs.length ck) (bb := an.b) (cl := false) (show g ≠ w.heap.size + 1 + 1 by omega)).trans (I.kp g hg hn))))
        have HOZ := hid (owns_setA (g := w.heap.size + 1 + 1) (st := an.st) (vv := .slice ak an.fs.length ck) (b := an.b) (cl := false) I.o I.n2)
        have HNK := hid I.nk
        unfold setA at d0 d1 d2 d3 HBZ HOZ
        clear I HA HW HF HZ HWN HBG HAT
        go_wp2_with fail
        refine bodyPost_ret (v := .tuple #[.agg #[.int .i64 an.st, .slice ak an.fs.length ck, .string an.b, .bool false], .bool false]) (by simp [results, Tryz.results89, go_sem, d0, d1, d2, d3]) rfl ?_
        exact ⟨⟨_, rfl, HOZ.out, HNK.out⟩, HBZ.out⟩
    | succ k =>
      have hlt : k < ws.length := by omega
      have hat := HAT.out k hlt
      have hbg := HBG.out (k + 1)
      have hbg2 := HBG.out k
      generalize aroG fs G (ws.drop (k + 1)) = H at *
      generalize hH2 : aroG fs G (ws.drop k) = H2 at *
      have HE2 := hid hH2
      have HL := hid hbg
      clear hH2
      have HL2 := hid hbg2
      clear HAT HBG hbg hbg2
      have hkk : ((k + 1 : Nat) : Int) - 1 = (k : Int) := by omega
      rw [hkk]
      obtain ⟨g, o, rfl, hg0, p0, p1, p2, p3⟩ := wr_cells HW.out hlt
      have hnk := HWN.out _ (List.getElem_mem hlt)
      generalize ws[k] = x at *
      obtain ⟨xk, xn, xv, xl⟩ := x
      simp only at *
      cases H with
      | none =>
        obtain ⟨rfl, I⟩ := HA.out
        have c0 := cell_later I.bl p0
        have hg : g < wr.heap.size := Nat.lt_of_lt_of_le hg0 I.bl.size
        obtain ⟨x0, x1, x2, x3⟩ := I.a.cells
        have f0 := I.a.free 0
        have f1 := I.a.free 1
        have f2 := I.a.free 2
        have f3 := I.a.free 3
        have la := I.a.lt
        clear HA p0 p1 p2 p3 HL HL2
        by_cases z3 : xk = 3
        · subst z3
          rw [step_save] at hat
          subst hat
          have HNX : Hid (ArG w0 w V0 #[.string qm, .string qt, .slice fa fs.length fc, .string qb] (some ⟨500, [], savedB⟩) (.bool false) _) := ⟨rfl, _, I.set⟩
          unfold setA savedB at HNX
          clear I
          go_wp2_with fail
          exact ⟨⟨k, by omega, by go_num, by rw [HE2.out]; exact HNX⟩, by simp [intOf]⟩
        · rw [step_none _ _ _ _ _ z3] at hat
          subst hat
          have u3 : (xk == 3) = false := by simpa using z3
          have HNX : Hid (ArG w0 w V0 #[.string qm, .string qt, .slice fa fs.length fc, .string qb] none (.bool true) wr) := ⟨rfl, I⟩
          clear I z3
          go_wp2_with fail
          exact ⟨⟨k, by omega, by go_num, by rw [HE2.out]; exact HNX⟩, by simp [intOf]⟩
      | some an =>
        obtain ⟨rfl, vv, I⟩ := HA.out
        have c0 := cell_later I.bl p0
        have c1 := cell_later I.bl p1
        have c2 := cell_later I.bl p2
        have hg : g < wr.heap.size := Nat.lt_of_lt_of_le hg0 I.bl.size
        have hfz := HL.out an rfl
        clear HA p0 p2 p3
        by_cases z0 : xk = 0
        · subst z0
          rw [step_add] at hat
          subst hat
          obtain ⟨an_st, an_fs, an_b⟩ := an
          simp only at *
          obtain ⟨ak, ck, rfl⟩ := sl_of I.o
          obtain ⟨x0, x1, x2, x3⟩ := I.a.cells
          have la := I.a.lt
          have ow := I.o
          have hBr := I.bl.size
          have ID := I.below (Below.refl wr.heap.size wr).drew
          have HN := hid (fun N gg cap w4 E hN hgrow hown hat => ID.next (n := xn) (x := xv) (N := N) (gg := gg) (cap := cap) (w4 := w4) (E := E) hN hgrow hown hat)
          clear I ID
          go_wp2_with fail
          go_region_law
            (first
              | (refine step_append_lies _ (by rfl) _ _ _ (by rfl) w0.heap.size 70 i0 _ 2 32 Tryz.underlying28 hi hz0 hz1 hz2 rfl (by omega) (.slice ak an_fs.length ck) an_fs.length (prCells an_fs) (by rfl) (ow.drew.alloc _) ⟨wr.heap.size, 0, none⟩ 1 1 [.string xn, .string xv] (by rfl) (by rfl) (World.news_of_block (cs := #[.string xn, .string xv]) (t := 70) (fr := (0, 0)) (heap_alloc_new wr.drew _)) (by simp [Value.oneCell']) (by omega) (by unfold maxLen; omega) (by omega) (by simp; omega) (wr.heap.size + 1) (by simp) ?_; intro gg cap w5 hown5 hgrow hat5 hlt5; obtain ⟨r1, r2, r3, r4, r5, r6⟩ := HN.out _ gg cap w5 _ rfl hgrow hown5 (hat5.imp_right (fun h => by rw [h]; simp)); have HR1 := hid r1; clear r1 hown5 hgrow r5))
          all_goals
            have HNX : Hid (ArG w0 w V0 #[.string qm, .string qt, .slice fa fs.length fc, .string qb] (some ⟨an_st, an_fs ++ [(xn, xv)], an_b⟩) (.bool false) _) := ⟨rfl, _, HR1.out⟩
            clear HR1
            go_wp2_with fail
            exact ⟨⟨k, by omega, by go_num, by rw [HE2.out]; exact HNX⟩, by simp [intOf]⟩
        · have u0 : (xk == 0) = false := by simpa using z0
          by_cases z4 : xk = 4
          · subst z4
            rw [step_copy] at hat
            subst hat
            have hfz2 := HL2.out _ rfl
            obtain ⟨an_st, an_fs, an_b⟩ := an
            simp only at *
            have hLz : (valsOf fs xn.data.toList).length ≤ 50000000 := by
              simp only [List.length_append, List.length_map] at hfz2
              omega
            have q2 : wr.cell? ⟨w.heap.size, 2, none⟩ = some (.slice fa fs.length fc) := (I.q.cell 2).trans rfl
            have lq := I.q.lt
            have HVL := hid (fun W (hW : Below wr.heap.size wr W) => rvaluesW_any fs fa fc xn W (HF.out.below (bel_of I.bl hW)) (by omega) hnk HZ.out)
            generalize hLL : valsOf fs xn.data.toList = L at *
            have HP1 := hid p1
            have HI := hid I
            clear I hLL p1 HL HL2 z0 c2
            go_upto_region 10 with fail
            go_region_held3 (fun W => W.cell? ⟨w.heap.size, 2, none⟩ = some (.slice fa fs.length fc) ∧ W.cell? ⟨g, o + k * 4 + 1, none⟩ = some (.string xn)) (first | go_keep)
              (first | (go_at_call 91; refine (HVL.out _ (Below.refl wr.heap.size wr).drew).mono ?_; rintro x w4 ⟨⟨a4, e4, rfl, st4⟩, hb4⟩; have hb4' := bel_of (Below.refl wr.heap.size wr).drew hb4; have k1 := cell_later hb4' c1; have k2 := cell_later hb4' q2; have C4 := hid (cpI_new xn HI.out hb4' st4); clear st4 hb4))
            all_goals
              clear HI HVL hb4' q2 c0 c1 k1 k2 lq
              go_wp2_with fail
              go_loopw [12] (fun i wx => ∃ (m : Nat) (vm : Value), m ≤ L.length ∧ i = .int .i64 m ∧ Hid (CpI w0 w V0 #[.string qm, .string qt, .slice fa fs.length fc, .string qb] an_st an_b an_fs xn L a4 m vm wx)) (fun i _ => L.length - (intOf i).toNat)
              case atStart => exact ⟨0, _, Nat.zero_le _, rfl, C4⟩
              case round =>
                clear C4
                obtain ⟨m, vm, hm, rfl, HC⟩ := hrel
                have hBr := HC.out.i.bl.size
                have c1 := cell_later HC.out.i.bl HP1.out
                have hg2 : g < wr.heap.size := Nat.lt_of_lt_of_le hg0 hBr
                obtain ⟨x0, x1, x2, x3⟩ := HC.out.i.a.cells
                have la := HC.out.i.a.lt
                by_cases hml : m < L.length
                · obtain ⟨g2, rfl, hg3, hc⟩ := HC.out.s m hml
                  obtain ⟨yv, hyv⟩ : ∃ yv, L[m] = yv := ⟨_, rfl⟩
                  rw [hyv] at hc
                  have ow := HC.out.i.o
                  have CD := HC.out.below (Below.refl wr.heap.size wr).drew
                  have HN := hid (fun N gg cap w4 E hN hgrow hown hat => CD.next (x := yv) (N := N) (gg := gg) (cap := cap) (w4 := w4) (E := E) hml hyv hN hgrow hown hat)
                  have hlen : (an_fs ++ (L.take m).map (fun v => (xn, v))).length ≤ 50000000 := by
                    simp only [List.length_append, List.length_map, List.length_take] at hfz2 ⊢
                    omega
                  generalize an_fs ++ (L.take m).map (fun v => (xn, v)) = FS at *
                  obtain ⟨ak, ck, rfl⟩ := sl_of ow
                  clear HC CD hyv
                  go_wp2_with fail
                  go_region_law
                    (first
                      | (refine step_append_lies _ (by rfl) _ _ _ (by rfl) w0.heap.size 70 i0 _ 2 32 Tryz.underlying28 hi hz0 hz1 hz2 rfl (by omega) (.slice ak FS.length ck) FS.length (prCells FS) (by rfl) (ow.drew.alloc _) ⟨wr.heap.size, 0, none⟩ 1 1 [.string xn, .string yv] (by rfl) (by rfl) (World.news_of_block (cs := #[.string xn, .string yv]) (t := 70) (fr := (0, 0)) (heap_alloc_new wr.drew _)) (by simp [Value.oneCell']) (by omega) (by unfold maxLen; omega) (by omega) (by simp; omega) (wr.heap.size + 1) (by simp) ?_; intro gg cap w5 hown5 hgrow hat5 hlt5; obtain ⟨r1, r2, r3, r4⟩ := HN.out _ gg cap w5 _ rfl hgrow hown5 (hat5.imp_right (fun h => by rw [h]; simp)); have HR1 := hid r1; clear r1 hown5 hgrow))
                  all_goals
                    clear HN ow
                    go_wp2_with fail
                    exact ⟨⟨m + 1, _, by omega, by go_num, HR1⟩, by simp [intOf]; omega⟩
                · have hne : ¬ (m : Int) < (L.length : Int) := by omega
                  have hI := HC.out.i
                  rw [List.take_of_length_le (by omega)] at hI
                  have HNX : Hid (ArG w0 w V0 #[.string qm, .string qt, .slice fa fs.length fc, .string qb] (some ⟨an_st, an_fs ++ L.map (fun v => (xn, v)), an_b⟩) (.bool false) wr) := ⟨rfl, _, hI⟩
                  clear HC hI
                  go_wp2_with fail
                  exact ⟨⟨k, by omega, by go_num, by rw [HE2.out]; exact HNX⟩, by simp [intOf]⟩
          · have u4 : (xk == 4) = false := by simpa using z4
            rw [step_some _ _ _ _ _ _ z0 z4] at hat
            subst hat
            have HNX : Hid (ArG w0 w V0 #[.string qm, .string qt, .slice fa fs.length fc, .string qb] (some an) (.bool false) wr) := ⟨rfl, _, I⟩
            clear I z0 z4
            go_wp2_with fail
            exact ⟨⟨k, by omega, by go_num, by rw [HE2.out]; exact HNX⟩, by simp [intOf]⟩
end Go.Proofs.YtfdhmeojkagokaaGreatDoor

/- How far a request comes inwards, by the reference. -/
namespace Go.Proofs.YtfdhmeojkagokaaGreatDoor
open Go.RowKit

theorem hol_mem (l : List ByteArray) (s : List UInt8) : holG l s = decide (s ∈ l.map (fun b => b.data.toList)) := by
  unfold holG
  rw [Bool.eq_iff_iff]
  simp only [List.any_eq_true, decide_eq_true_eq, List.mem_map]
theorem blk_of (k lim : Int) (n v : ByteArray) (qf : List Prm) (qb : ByteArray) : blkG ⟨k, n, v, lim⟩ qf qb = if k = 1 ∧ holG (valsOf qf n.data.toList) v.data.toList = false then 403 else if k = 2 ∧ lim < (qb.size : Int) then 413 else 0 := by
  unfold blkG
  rw [hol_mem]
  simp only [decide_eq_false_iff_not]
theorem deep_at (qf : List Prm) (qb : ByteArray) (ws : List Wr) (k : Nat) (h : k < ws.length) : deepG qf qb (ws.drop k) = if blkG ws[k] qf qb = 0 then ((deepG qf qb (ws.drop (k + 1))).1 + 1, (deepG qf qb (ws.drop (k + 1))).2) else (0, blkG ws[k] qf qb) := by
  rw [← List.getElem_cons_drop h, deepG]
theorem deep_cases {D : Nat × Int} {k : Nat} {xk xl : Int} {HB : Bool} {n : Nat} {T : Nat × Int} (h : D = ((if (if xk = 1 ∧ HB = false then (403 : Int) else if xk = 2 ∧ xl < (n : Int) then 413 else 0) = 0 then (T.1 + 1, T.2) else (0, if xk = 1 ∧ HB = false then (403 : Int) else if xk = 2 ∧ xl < (n : Int) then 413 else 0)).1 + k, (if (if xk = 1 ∧ HB = false then (403 : Int) else if xk = 2 ∧ xl < (n : Int) then 413 else 0) = 0 then (T.1 + 1, T.2) else (0, if xk = 1 ∧ HB = false then (403 : Int) else if xk = 2 ∧ xl < (n : Int) then 413 else 0)).2)) :
    (xk = 1 → HB = false → D = (k, 403)) ∧ (xk = 2 → xl < (n : Int) → D = (k, 413)) ∧ (¬ (xk = 1 ∧ HB = false) → ¬ (xk = 2 ∧ xl < (n : Int)) → D = (T.1 + (k + 1), T.2)) := by
  refine ⟨fun h1 h2 => ?_, fun h1 h2 => ?_, fun h1 h2 => ?_⟩
  · subst h1 h2; simpa using h
  · subst h1; simpa [h2] using h
  · rw [if_neg h1, if_neg h2, if_pos rfl] at h
    rw [h]
    simp only [Prod.mk.injEq, and_true]
    omega
set_option maxRecDepth 100000 in
set_option maxHeartbeats 4000000 in
theorem rdeep_any (ws : List Wr) (a : Option Addr) (c : Nat) (qm qt qb : ByteArray) (fs : List Prm) (fa : Option Addr) (fc : Nat) (w : World) (hm : MuAt 4 Wr.cells ws a w) (hwl : ws.length ≤ 1000000) (hf : FoAt fs fa w) (hl : fs.length ≤ 1000000) (hz : ∀ i (h : i < fs.length), fs[i].1.size ≤ maxLen) (hwn : ∀ x ∈ ws, x.n.size ≤ maxLen) :
    Calls Tryz.prog 87 #[.slice a ws.length c, .agg #[.string qm, .string qt, .slice fa fs.length fc, .string qb]] w fun x w' => x = .returned (.tuple #[.int .i64 (deepG fs qb ws).1, .int .i64 (deepG fs qb ws).2]) ∧ Below w.heap.size w w' := by
  have hA := (Below.refl w.heap.size w).alloc (Nat.le_refl _) (.cells #[.string qm, .string qt, .slice fa fs.length fc, .string qb] 30)
  have Q0 := Bl.new w #[.string qm, .string qt, .slice fa fs.length fc, .string qb] 30
  have HW := hid hm
  have HF := hid hf
  have HZ := hid hz
  have HWN := hid hwn
  generalize hD : deepG fs qb ws = D
  have HD0 : Hid (D = ((deepG fs qb (ws.drop 0)).1 + 0, (deepG fs qb (ws.drop 0)).2)) := hid (by rw [List.drop_zero, hD, Nat.add_zero])
  clear hm hf hz hwn hD
  go_enter Tryz.func87, Tryz.ntmps87
  go_wp2_with fail
  generalize w.alloc (.cells #[.string qm, .string qt, .slice fa fs.length fc, .string qb] 30) = w1 at *
  have l1 := Q0.lt
  go_loopw [6, 7, 8] (fun i _ _ wr => ∃ k : Nat, k ≤ ws.length ∧ i = .int .i64 k ∧ Hid (D = ((deepG fs qb (ws.drop k)).1 + k, (deepG fs qb (ws.drop k)).2)) ∧ Below w1.heap.size w1 wr) (fun i _ _ _ => ws.length - (intOf i).toNat)
  case atStart => exact ⟨0, Nat.zero_le _, rfl, HD0, Below.refl _ _⟩
  case round =>
    obtain ⟨k, hk, rfl, HK, hbw⟩ := hrel
    have hbW := bel_of hA hbw
    have Q1 := Q0.below hbw
    have q2 : wr.cell? ⟨w.heap.size, 2, none⟩ = some (.slice fa fs.length fc) := (Q1.cell 2).trans rfl
    have q3 : wr.cell? ⟨w.heap.size, 3, none⟩ = some (.string qb) := (Q1.cell 3).trans rfl
    have lq := Q1.lt
    by_cases hlt : k < ws.length
    · obtain ⟨g, o, rfl, hg0, p0, p1, p2, p3⟩ := wr_cells HW.out hlt
      have c0 := cell_later hbW p0
      have c1 := cell_later hbW p1
      have c2 := cell_later hbW p2
      have c3 := cell_later hbW p3
      have hg : g < wr.heap.size := Nat.lt_of_lt_of_le hg0 hbW.size
      have hda := deep_at fs qb ws k hlt
      have hnk := HWN.out _ (List.getElem_mem hlt)
      generalize ws[k] = x at *
      obtain ⟨xk, xn, xv, xl⟩ := x
      simp only at *
      rw [blk_of] at hda
      have hd := HK.out
      rw [hda] at hd
      obtain ⟨hd1, hd2, hd3⟩ := deep_cases hd
      have HD1 := hid hd1
      have HD2 := hid hd2
      have HD3 := hid hd3
      clear hd1 hd2 hd3
      have HVL := hid (fun W (hW : Below w.heap.size w W) => rvaluesO_any fs fa fc xn W (HF.out.below hW) (by omega) hnk HZ.out)
      have hvl : (valsOf fs xn.data.toList).length ≤ 1000000 := Nat.le_trans (valsOf_le _ _) hl
      generalize valsOf fs xn.data.toList = L at *
      have HHO := hid (fun a c W (h : StAt L a W) => rholds_any L a c xv W h hvl)
      generalize holG L xv.data.toList = HB at *
      clear HK HD0 hda hd p0 p1 p2 p3 Q1
      go_upto_region 4 with fail
      go_region_held3 (fun W => W.cell? ⟨w.heap.size, 2, none⟩ = some (.slice fa fs.length fc) ∧ W.cell? ⟨g, o + k * 4 + 1, none⟩ = some (.string xn)) (first | go_keep)
        (first | (go_at_call 91; refine (HVL.out _ hbW.drew).mono ?_; rintro x w4 ⟨⟨a4, e4, rfl, st4⟩, hb4⟩; have hb4' := bel_of (Below.refl wr.heap.size wr).drew hb4; have k0 := cell_later hb4' c0; have k1 := cell_later hb4' c1; have k2 := cell_later hb4' c2; have k3 := cell_later hb4' c3; have j2 := cell_later hb4' q2; have j3 := cell_later hb4' q3; have hg4 := Nat.lt_of_lt_of_le hg hb4'.size; have lq4 := Nat.lt_of_lt_of_le lq hb4'.size; have ST4 := hid st4; clear st4 hb4))
      all_goals
        have HH := hid (HHO.out a4 e4 w4 ST4.out)
        have hB4 := bel_of hbW hb4'
        have hbw4 := bel_of hbw hb4'
        clear HVL HHO ST4 hb4'
        go_wp2_with fail
        refine HH.out.mono ?_
        rintro x w5 ⟨rfl, hb5⟩
        have r0 := cell_later hb5 k0
        have r3 := cell_later hb5 k3
        have s3 := cell_later hb5 j3
        have hg5 := Nat.lt_of_lt_of_le hg4 hb5.size
        have lq5 := Nat.lt_of_lt_of_le lq4 hb5.size
        have hB5 := bel_of hB4 hb5
        have hbw5 := bel_of hbw4 hb5
        clear HH k0 k1 k2 k3 j2 j3
        by_cases z1 : xk = 1
        · subst z1
          have v1 : ((1 : Int) == 1) = true := rfl
          have v2 : ((1 : Int) == 2) = false := rfl
          cases HB with
          | false =>
            have hd := HD1.out rfl rfl
            subst hd
            clear HD1 HD2 HD3
            go_wp2_with fail
            refine bodyPost_ret (v := .tuple #[.int .i64 k, .int .i64 403]) (by simp [results, Tryz.results87, go_sem]) rfl ?_
            exact ⟨rfl, hB5⟩
          | true =>
            have HDN := hid (HD3.out (by simp) (by simp))
            clear HD1 HD2 HD3
            go_wp2_with fail
            go_quiet (fail)
            go_wp2_with fail
            exact ⟨⟨k + 1, by omega, by go_num, HDN, below_drewN hbw5 _⟩, by simp [intOf]; omega⟩
        · have u1 : (xk == 1) = false := by simpa using z1
          by_cases z2 : xk = 2
          · subst z2
            have v2 : ((2 : Int) == 2) = true := rfl
            by_cases z3 : xl < (qb.size : Int)
            · have hd := HD2.out rfl z3
              subst hd
              clear HD1 HD2 HD3
              go_wp2_with fail
              go_quiet (fail)
              go_wp2_with fail
              refine bodyPost_ret (v := .tuple #[.int .i64 k, .int .i64 413]) (by simp [results, Tryz.results87, go_sem]) rfl ?_
              exact ⟨rfl, below_drewN hB5 _⟩
            · have HDN := hid (HD3.out (fun q => z1 q.1) (fun q => z3 q.2))
              clear HD1 HD2 HD3
              go_wp2_with fail
              go_quiet (fail)
              go_wp2_with fail
              exact ⟨⟨k + 1, by omega, by go_num, HDN, below_drewN hbw5 _⟩, by simp [intOf]; omega⟩
          · have u2 : (xk == 2) = false := by simpa using z2
            have HDN := hid (HD3.out (fun q => z1 q.1) (fun q => z2 q.1))
            clear HD1 HD2 HD3 z1 z2
            go_wp2_with fail
            go_quiet (fail)
            go_wp2_with fail
            exact ⟨⟨k + 1, by omega, by go_num, HDN, below_drewN hbw5 _⟩, by simp [intOf]; omega⟩
    · have hne : ¬ (k : Int) < (ws.length : Int) := by omega
      obtain rfl : k = ws.length := by omega
      have hs := HK.out
      rw [List.drop_eq_nil_of_le (by omega)] at hs
      simp only [deepG, Nat.zero_add] at hs
      subst hs
      clear HK HD0
      go_wp2_with fail
      refine bodyPost_ret (v := .tuple #[.int .i64 ws.length, .int .i64 0]) (by simp [results, Tryz.results87, go_sem]) rfl ?_
      exact ⟨rfl, hbW⟩
end Go.Proofs.YtfdhmeojkagokaaGreatDoor
