/- Texts that follow one another, joined. -/
import Derived.Test.YtpilfanbfpbldaaGreatDoorJoin20
import Derived.Deep.RegionWith
import Derived.RegionDies
/- A ware around what is inside. -/
namespace Go.Proofs.YtpilfanbfpbldaaGreatDoor
open Go.RowKit

def WrBk (g : Nat) (x : Wr) (w : World) : Prop := w.heap[g]? = some (.cells #[.int .i64 x.k, .string x.n, .string x.v, .int .i64 x.lim] 56 (0, 0))
theorem WrBk.cells {g : Nat} {x : Wr} {w : World} (h : WrBk g x w) : w.cell? ⟨g, 0, none⟩ = some (.int .i64 x.k) ∧ w.cell? ⟨g, 1, none⟩ = some (.string x.n) ∧ w.cell? ⟨g, 2, none⟩ = some (.string x.v) ∧ w.cell? ⟨g, 3, none⟩ = some (.int .i64 x.lim) := by
  refine ⟨?_, ?_, ?_, ?_⟩ <;> (rw [Lib.cell_of_heap h]; rfl)
theorem WrBk.lt {g : Nat} {x : Wr} {w : World} (h : WrBk g x w) : g < w.heap.size := block_lt_of_cell h.cells.1
theorem WrBk.below {g : Nat} {x : Wr} {w w' : World} (h : WrBk g x w) (hb : Below w.heap.size w w') : WrBk g x w' := by
  have := hb.block g h.lt; unfold WrBk at *; rw [this]; exact h
theorem contains_st (l : List ByteArray) (a : Option Addr) (c : Nat) (x : ByteArray) (w : World) (h : StAt l a w) (hl : l.length ≤ 1000000) :
    Calls Tryz.prog 131 #[.slice a l.length c, .string x] w fun e w' => e = .returned (.bool (decide (x.data.toList ∈ l.map fun b => b.data.toList))) ∧ w' = w := by
  by_cases hz : l = []
  · subst hz
    exact (Tryz.slices_Contains_string_empty a c x w).mono fun e w' ⟨h1, h2⟩ => ⟨by rw [h1]; simp, h2⟩
  · obtain ⟨g, rfl, -, -⟩ := h 0 (List.length_pos_iff.2 hz)
    refine (Tryz.slices_Contains_string g 0 l.length c l x w (by simp) (by omega) (fun j hj => ?_)).mono fun e w' ⟨h1, h2⟩ => ⟨?_, h2⟩
    · obtain ⟨g', e, -, hc⟩ := h j hj
      simp only [Option.some.injEq, Addr.mk.injEq, and_true] at e
      subst e
      rw [Nat.zero_add, hc]
      simp [List.getD, hj]
    · rw [h1, List.take_of_length_le (by simp)]
      have key : Lib.containsS l x = decide (x.data.toList ∈ l.map fun b => b.data.toList) := by
        rw [Bool.eq_iff_iff, Lib.containsS_iff, decide_eq_true_iff, List.mem_map]
        constructor
        · intro h; exact ⟨x, h, rfl⟩
        · rintro ⟨b, hb, e⟩
          have : b = x := by
            cases b; cases x
            simp only at e
            rw [Array.toList_inj.1 e]
          rw [← this]; exact hb
      rw [key]
theorem around_mem (r : Rn) (x : Wr) (w : World) : Below w.heap.size w (((w.alloc (.cells r.vals 188)).alloc (.cells #[.int .i64 x.k, .string x.n, .string x.v, .int .i64 x.lim] 56)).alloc (.cells #[.int .i64 0, .slice none 0 0, .string ⟨#[]⟩, .bool false] 89)) ∧ RnB w.heap.size r (((w.alloc (.cells r.vals 188)).alloc (.cells #[.int .i64 x.k, .string x.n, .string x.v, .int .i64 x.lim] 56)).alloc (.cells #[.int .i64 0, .slice none 0 0, .string ⟨#[]⟩, .bool false] 89)) ∧ WrBk (w.heap.size + 1) x (((w.alloc (.cells r.vals 188)).alloc (.cells #[.int .i64 x.k, .string x.n, .string x.v, .int .i64 x.lim] 56)).alloc (.cells #[.int .i64 0, .slice none 0 0, .string ⟨#[]⟩, .bool false] 89)) ∧ AnB (w.heap.size + 1 + 1) 0 (.slice none 0 0) ⟨#[]⟩ false (((w.alloc (.cells r.vals 188)).alloc (.cells #[.int .i64 x.k, .string x.n, .string x.v, .int .i64 x.lim] 56)).alloc (.cells #[.int .i64 0, .slice none 0 0, .string ⟨#[]⟩, .bool false] 89)) := by
  have hA1 := (Below.refl w.heap.size w).alloc (Nat.le_refl _) (.cells r.vals 188)
  have hA2 := hA1.alloc hA1.size (.cells #[.int .i64 x.k, .string x.n, .string x.v, .int .i64 x.lim] 56)
  have hA := hA2.alloc hA2.size (.cells #[.int .i64 0, .slice none 0 0, .string ⟨#[]⟩, .bool false] 89)
  have z1 : (w.alloc (.cells r.vals 188)).heap.size = w.heap.size + 1 := by simp
  have z2 : ((w.alloc (.cells r.vals 188)).alloc (.cells #[.int .i64 x.k, .string x.n, .string x.v, .int .i64 x.lim] 56)).heap.size = w.heap.size + 1 + 1 := by simp
  have b1 : Below (w.alloc (.cells r.vals 188)).heap.size (w.alloc (.cells r.vals 188)) ((w.alloc (.cells r.vals 188)).alloc (.cells #[.int .i64 x.k, .string x.n, .string x.v, .int .i64 x.lim] 56)) := (Below.refl _ _).alloc (Nat.le_refl _) _
  have b2 : Below ((w.alloc (.cells r.vals 188)).alloc (.cells #[.int .i64 x.k, .string x.n, .string x.v, .int .i64 x.lim] 56)).heap.size ((w.alloc (.cells r.vals 188)).alloc (.cells #[.int .i64 x.k, .string x.n, .string x.v, .int .i64 x.lim] 56)) (((w.alloc (.cells r.vals 188)).alloc (.cells #[.int .i64 x.k, .string x.n, .string x.v, .int .i64 x.lim] 56)).alloc (.cells #[.int .i64 0, .slice none 0 0, .string ⟨#[]⟩, .bool false] 89)) := (Below.refl _ _).alloc (Nat.le_refl _) _
  have R0 : RnB w.heap.size r (w.alloc (.cells r.vals 188)) := heap_alloc_new w _
  have X0 : WrBk (w.heap.size + 1) x ((w.alloc (.cells r.vals 188)).alloc (.cells #[.int .i64 x.k, .string x.n, .string x.v, .int .i64 x.lim] 56)) := by
    have h := heap_alloc_new (w.alloc (.cells r.vals 188)) (.cells #[.int .i64 x.k, .string x.n, .string x.v, .int .i64 x.lim] 56)
    rw [z1] at h; exact h
  have A0 : AnB (w.heap.size + 1 + 1) 0 (.slice none 0 0) ⟨#[]⟩ false (((w.alloc (.cells r.vals 188)).alloc (.cells #[.int .i64 x.k, .string x.n, .string x.v, .int .i64 x.lim] 56)).alloc (.cells #[.int .i64 0, .slice none 0 0, .string ⟨#[]⟩, .bool false] 89)) := by
    have h := heap_alloc_new ((w.alloc (.cells r.vals 188)).alloc (.cells #[.int .i64 x.k, .string x.n, .string x.v, .int .i64 x.lim] 56)) (.cells #[.int .i64 0, .slice none 0 0, .string ⟨#[]⟩, .bool false] 89)
    rw [z2] at h; exact h
  exact ⟨hA, (R0.below b1).below b2, X0.below b2, A0⟩
/- the end: inside, and out -/
set_option maxRecDepth 100000 in
set_option maxHeartbeats 4000000 in
theorem around_plain (r : Rn) (x : Wr) (p1 p2 : Addr) (G : Option An) (w : World) (hk : x.k = 2 ∨ x.k = 3 ∨ (x.k ≠ 0 ∧ x.k ≠ 1 ∧ x.k ≠ 2 ∧ x.k ≠ 3 ∧ x.k ≠ 4)) (HIN : ∀ W, Below w.heap.size w W → Calls Tryz.prog 136 #[.pointer (some p1), .pointer (some p2)] W (ThPost G W)) :
    Calls Tryz.prog 135 #[.agg r.vals, .agg #[.int .i64 x.k, .string x.n, .string x.v, .int .i64 x.lim], .func (.func 136) #[] #[.pointer (some p1), .pointer (some p2)]] w (ThPost (wareG x r.fs r.qb G) w) := by
  obtain ⟨hA, R1, X1, A1⟩ := around_mem r x w
  have HI := hid HIN
  have hG : wareG x r.fs r.qb G = if x.k = 0 then G.map fun a => ⟨a.st, a.fs ++ [(x.n, x.v)], a.b⟩
    else if x.k = 1 then (if x.v.data.toList ∈ (valsOf r.fs x.n.data.toList).map (fun b => b.data.toList) then G else some ⟨403, [], ⟨#[]⟩⟩)
    else if x.k = 2 then (if x.lim < (r.qb.size : Int) then some ⟨413, [], ⟨#[]⟩⟩ else G)
    else if x.k = 3 then saveG G
    else if x.k = 4 then G.map fun a => ⟨a.st, a.fs ++ (valsOf r.fs x.n.data.toList).map (fun v => (x.n, v)), a.b⟩
    else G := by unfold wareG saveG; rfl
  generalize wareG x r.fs r.qb G = GG at *
  have HG := hid hG
  obtain ⟨r0, r1, r2, r3, r4, r5, r6, r7, r8⟩ := R1.cells
  obtain ⟨x0, x1, x2, x3⟩ := X1.cells
  have lr := R1.lt
  have lx := X1.lt
  clear HIN hG R1 X1
  obtain ⟨qm, qt, qb, fs, fa, fc, ps, pa, pc, ⟨hk', hst, ht, hn⟩⟩ := r
  obtain ⟨xk, xn, xv, xl⟩ := x
  simp only [Rn.vals] at *
  go_enter Tryz.func135, Tryz.ntmps135
  go_upto_region 1 with fail
  generalize ((w.alloc (.cells #[.string qm, .string qt, .slice fa fs.length fc, .string qb, .slice pa ps.length pc, .int .i64 hk', .int .i64 hst, .string ht, .string hn] 188)).alloc (.cells #[.int .i64 xk, .string xn, .string xv, .int .i64 xl] 56)).alloc (.cells #[.int .i64 0, .slice none 0 0, .string ⟨#[]⟩, .bool false] 89) = w1 at *
  have HEND := hid (HI.out w1 hA)
  have HSAVE := hid (save_any p1 p2 G w1 (fun W hW => HI.out W (bel_of hA hW)))
  have la := A1.lt
  rcases hk with rfl | rfl | ⟨n0, n1, n2, n3, n4⟩
  · have hg := HG.out
    simp at hg
    by_cases hl : xl < (qb.size : Int)
    · rw [if_pos hl] at hg
      subst hg
      obtain ⟨c0, c1, c2, c3⟩ := A1.cells
      have f0 := A1.free 0
      have f1 := A1.free 1
      have f2 := A1.free 2
      have f3 := A1.free 3
      obtain ⟨d0, d1, d2, d3⟩ := (A1.set 413 (.slice none 0 0) ⟨#[]⟩ false).cells
      unfold setA at d0 d1 d2 d3
      clear HG HEND HSAVE HI
      go_wp2_with fail
      refine bodyPost_ret (v := .agg #[.int .i64 413, .slice none 0 0, .string ⟨#[]⟩, .bool false]) (by simp [results, Tryz.results135, go_sem, d0, d1, d2, d3]) rfl ?_
      exact ⟨⟨_, rfl, World.ownsRow_nil _ _ _ _⟩, below_setA hA (by omega)⟩
    · rw [if_neg hl] at hg
      subst hg
      clear HG HSAVE HI
      go_wp2_with fail
      refine HEND.out.mono ?_
      cases GG with
      | none =>
        rintro x w2 ⟨rfl, hb2⟩
        exact ⟨rfl, rfl, bel_of hA hb2⟩
      | some a =>
        rintro x w2 ⟨⟨vv, rfl, ow⟩, hb2⟩
        have A2 := A1.below hb2
        have hB2 := bel_of hA hb2
        have hno : vv.ownBlock ≠ some (w.heap.size + 1 + 1) := fun e => by have := own_ge ow _ e; omega
        have HO := hid (owns_base ow hA.size)
        obtain ⟨ax, cx, rfl⟩ := sl_of ow
        obtain ⟨c0, c1, c2, c3⟩ := A2.cells
        have f0 := A2.free 0
        have f1 := A2.free 1
        have f2 := A2.free 2
        have f3 := A2.free 3
        have l2 := A2.lt
        obtain ⟨d0, d1, d2, d3⟩ := (A2.set a.st (.slice ax a.fs.length cx) a.b false).cells
        have HF : Hid ((setA (w.heap.size + 1 + 1) a.st (.slice ax a.fs.length cx) a.b false w2).ownsRow w.heap.size 134 2 (.slice ax a.fs.length cx) a.fs.length (prCells a.fs) ∧ Below w.heap.size w (setA (w.heap.size + 1 + 1) a.st (.slice ax a.fs.length cx) a.b false w2)) := ⟨owns_setA HO.out hno, below_setA hB2 (by omega)⟩
        unfold setA at d0 d1 d2 d3
        clear ow HO A1
        go_wp2_with fail
        refine bodyPost_ret (v := .agg #[.int .i64 a.st, .slice ax a.fs.length cx, .string a.b, .bool false]) (by simp [results, Tryz.results135, go_sem, d0, d1, d2, d3]) rfl ?_
        exact ⟨⟨_, rfl, HF.out.1⟩, HF.out.2⟩
  · have hg := HG.out
    simp at hg
    subst hg
    clear HG HEND HI
    go_wp2_with fail
    refine HSAVE.out.mono ?_
    generalize saveG G = G at *
    cases G with
    | none =>
      rintro x w2 ⟨rfl, hb2⟩
      exact ⟨rfl, rfl, bel_of hA hb2⟩
    | some a =>
      rintro x w2 ⟨⟨vv, rfl, ow⟩, hb2⟩
      have A2 := A1.below hb2
      have hB2 := bel_of hA hb2
      have hno : vv.ownBlock ≠ some (w.heap.size + 1 + 1) := fun e => by have := own_ge ow _ e; omega
      have HO := hid (owns_base ow hA.size)
      obtain ⟨ax, cx, rfl⟩ := sl_of ow
      obtain ⟨c0, c1, c2, c3⟩ := A2.cells
      have f0 := A2.free 0
      have f1 := A2.free 1
      have f2 := A2.free 2
      have f3 := A2.free 3
      have l2 := A2.lt
      obtain ⟨d0, d1, d2, d3⟩ := (A2.set a.st (.slice ax a.fs.length cx) a.b false).cells
      have HF : Hid ((setA (w.heap.size + 1 + 1) a.st (.slice ax a.fs.length cx) a.b false w2).ownsRow w.heap.size 134 2 (.slice ax a.fs.length cx) a.fs.length (prCells a.fs) ∧ Below w.heap.size w (setA (w.heap.size + 1 + 1) a.st (.slice ax a.fs.length cx) a.b false w2)) := ⟨owns_setA HO.out hno, below_setA hB2 (by omega)⟩
      unfold setA at d0 d1 d2 d3
      clear ow HO A1
      go_wp2_with fail
      refine bodyPost_ret (v := .agg #[.int .i64 a.st, .slice ax a.fs.length cx, .string a.b, .bool false]) (by simp [results, Tryz.results135, go_sem, d0, d1, d2, d3]) rfl ?_
      exact ⟨⟨_, rfl, HF.out.1⟩, HF.out.2⟩
  · have hg := HG.out
    rw [if_neg n0, if_neg n1, if_neg n2, if_neg n3, if_neg n4] at hg
    subst hg
    have m0 : (xk == 0) = false := by simpa using n0
    have m1 : (xk == 1) = false := by simpa using n1
    have m2 : (xk == 2) = false := by simpa using n2
    have m3 : (xk == 3) = false := by simpa using n3
    have m4 : (xk == 4) = false := by simpa using n4
    clear HG HSAVE HI n0 n1 n2 n3 n4
    go_wp2_with fail
    refine HEND.out.mono ?_
    cases GG with
    | none =>
      rintro x w2 ⟨rfl, hb2⟩
      exact ⟨rfl, rfl, bel_of hA hb2⟩
    | some a =>
      rintro x w2 ⟨⟨vv, rfl, ow⟩, hb2⟩
      have A2 := A1.below hb2
      have hB2 := bel_of hA hb2
      have hno : vv.ownBlock ≠ some (w.heap.size + 1 + 1) := fun e => by have := own_ge ow _ e; omega
      have HO := hid (owns_base ow hA.size)
      obtain ⟨ax, cx, rfl⟩ := sl_of ow
      obtain ⟨c0, c1, c2, c3⟩ := A2.cells
      have f0 := A2.free 0
      have f1 := A2.free 1
      have f2 := A2.free 2
      have f3 := A2.free 3
      have l2 := A2.lt
      obtain ⟨d0, d1, d2, d3⟩ := (A2.set a.st (.slice ax a.fs.length cx) a.b false).cells
      have HF : Hid ((setA (w.heap.size + 1 + 1) a.st (.slice ax a.fs.length cx) a.b false w2).ownsRow w.heap.size 134 2 (.slice ax a.fs.length cx) a.fs.length (prCells a.fs) ∧ Below w.heap.size w (setA (w.heap.size + 1 + 1) a.st (.slice ax a.fs.length cx) a.b false w2)) := ⟨owns_setA HO.out hno, below_setA hB2 (by omega)⟩
      unfold setA at d0 d1 d2 d3
      clear ow HO A1
      go_wp2_with fail
      refine bodyPost_ret (v := .agg #[.int .i64 a.st, .slice ax a.fs.length cx, .string a.b, .bool false]) (by simp [results, Tryz.results135, go_sem, d0, d1, d2, d3]) rfl ?_
      exact ⟨⟨_, rfl, HF.out.1⟩, HF.out.2⟩
end Go.Proofs.YtpilfanbfpbldaaGreatDoor

/- A ware that adds a field. -/
namespace Go.Proofs.YtpilfanbfpbldaaGreatDoor
open Go.RowKit

theorem st_one {w : World} {x : ByteArray} {g : Nat} (h : w.cell? ⟨g, 0, none⟩ = some (.string x)) : StAt [x] (some ⟨g, 0, none⟩) w := fun i hi => by
  have : i = 0 := by simp at hi; omega
  subst this
  exact ⟨g, rfl, block_lt_of_cell h, h⟩
theorem one_lt {L N : Nat} (h : L < N) : ∀ g', (some ⟨L, 0, none⟩ : Option Addr) = some ⟨g', 0, none⟩ → g' < N := fun g' e => by
  simp only [Option.some.injEq, Addr.mk.injEq, and_true] at e
  omega
theorem one_ne {vv : Value} {L : Nat} (h : vv.ownBlock ≠ some L) : ∀ g', (some ⟨L, 0, none⟩ : Option Addr) = some ⟨g', 0, none⟩ → vv.ownBlock ≠ some g' := fun g' e => by
  simp only [Option.some.injEq, Addr.mk.injEq, and_true] at e
  rw [← e]; exact h
/- fields more, of an answer that came from within -/
theorem wf_rows (a : An) (vv : Value) (n : ByteArray) (vals : List ByteArray) (va : Option Addr) (vc : Nat) (w1 W : World) (ow : W.ownsRow w1.heap.size 134 2 vv a.fs.length (prCells a.fs)) (hb : Below w1.heap.size w1 W) (hv : StAt vals va W) (hlv : ∀ g, va = some ⟨g, 0, none⟩ → g < W.heap.size) (hvb : ∀ g, va = some ⟨g, 0, none⟩ → vv.ownBlock ≠ some g) (hl : a.fs.length + vals.length ≤ 100000000) :
    Calls Tryz.prog 168 #[.agg #[.int .i64 a.st, vv, .string a.b, .bool false], .string n, .slice va vals.length vc] W fun x w' => ∃ ax cx, x = .returned (.agg #[.int .i64 a.st, .slice ax (a.fs ++ vals.map (fun v => (n, v))).length cx, .string a.b, .bool false]) ∧ w'.ownsRow w1.heap.size 134 2 (.slice ax (a.fs ++ vals.map (fun v => (n, v))).length cx) (a.fs ++ vals.map (fun v => (n, v))).length (prCells (a.fs ++ vals.map (fun v => (n, v)))) ∧ Below w1.heap.size w1 w' := by
  refine (withFields_any a.st a.fs vv a.b n false vals va vc w1.heap.size W ow hb.size hv hlv hvb hl).mono ?_
  rintro x w' ⟨⟨v', rfl, o'⟩, hb'⟩
  obtain ⟨ax, cx, rfl⟩ := sl_of o'
  exact ⟨ax, cx, rfl, o', hb.trans hb'⟩
/- what is stored at the end -/
theorem end_rows {a : An} {fs : List Prm} {ax : Option Addr} {cx : Nat} {w w1 w3 : World} (hA : Below w.heap.size w w1) (la : w.heap.size + 1 + 1 < w1.heap.size) (A1 : AnB (w.heap.size + 1 + 1) 0 (.slice none 0 0) ⟨#[]⟩ false w1) (o3 : w3.ownsRow w1.heap.size 134 2 (.slice ax fs.length cx) fs.length (prCells fs)) (hb3 : Below w1.heap.size w1 w3) :
    AnB (w.heap.size + 1 + 1) 0 (.slice none 0 0) ⟨#[]⟩ false w3 ∧ (setA (w.heap.size + 1 + 1) a.st (.slice ax fs.length cx) a.b false w3).ownsRow w.heap.size 134 2 (.slice ax fs.length cx) fs.length (prCells fs) ∧ Below w.heap.size w (setA (w.heap.size + 1 + 1) a.st (.slice ax fs.length cx) a.b false w3) :=
  ⟨A1.below hb3, owns_setA (owns_base o3 hA.size) (fun e => by have := own_ge o3 _ e; omega), below_setA (bel_of hA hb3) (by omega)⟩
set_option maxRecDepth 100000 in
set_option maxHeartbeats 8000000 in
theorem around_add (r : Rn) (x : Wr) (p1 p2 : Addr) (G : Option An) (w : World) (hk : x.k = 0) (hGl : ∀ a, G = some a → a.fs.length ≤ 50000000) (HIN : ∀ W, Below w.heap.size w W → Calls Tryz.prog 136 #[.pointer (some p1), .pointer (some p2)] W (ThPost G W)) :
    Calls Tryz.prog 135 #[.agg r.vals, .agg #[.int .i64 x.k, .string x.n, .string x.v, .int .i64 x.lim], .func (.func 136) #[] #[.pointer (some p1), .pointer (some p2)]] w (ThPost (G.map fun a => ⟨a.st, a.fs ++ [(x.n, x.v)], a.b⟩) w) := by
  obtain ⟨hA, R1, X1, A1⟩ := around_mem r x w
  have HI := hid HIN
  obtain ⟨r0, r1, r2, r3, r4, r5, r6, r7, r8⟩ := R1.cells
  obtain ⟨x0, x1, x2, x3⟩ := X1.cells
  have lr := R1.lt
  have lx := X1.lt
  clear HIN R1 X1
  obtain ⟨qm, qt, qb, fs, fa, fc, ps, pa, pc, ⟨hk', hst, ht, hn⟩⟩ := r
  obtain ⟨xk, xn, xv, xl⟩ := x
  simp only [Rn.vals] at *
  subst hk
  go_enter Tryz.func135, Tryz.ntmps135
  go_upto_region 1 with fail
  generalize ((w.alloc (.cells #[.string qm, .string qt, .slice fa fs.length fc, .string qb, .slice pa ps.length pc, .int .i64 hk', .int .i64 hst, .string ht, .string hn] 188)).alloc (.cells #[.int .i64 0, .string xn, .string xv, .int .i64 xl] 56)).alloc (.cells #[.int .i64 0, .slice none 0 0, .string ⟨#[]⟩, .bool false] 89) = w1 at *
  have la := A1.lt
  have HI1 := hid (fun W (hW : Below w1.heap.size w1 W) => HI.out W (bel_of hA hW))
  have HA1 := hid A1
  have hb1 := Below.refl w1.heap.size w1
  have hbS := hb1.alloc (Nat.le_refl _) (.cells #[.string xv] 9)
  clear HI r0 r1 r2 r3 r4 r5 r6 r7 r8
  go_upto_region 3 with fail
  cases G with
  | none =>
    go_region_dies
    all_goals go_wp2_with (first
        | (go_at_call 136; refine (HI1.out _ hb1.drew).mono ?_; rintro x wA ⟨rfl, hbA⟩; exact ⟨rfl, rfl, bel_of hA (bel_of hb1.drew hbA)⟩)
        | (go_at_call 136; refine (HI1.out _ hbS.drew).mono ?_; rintro x wA ⟨rfl, hbA⟩; exact ⟨rfl, rfl, bel_of hA (bel_of hbS.drew hbA)⟩))
  | some a =>
    have hlen := hGl a rfl
    have HW1 := hid (fun (wA : World) (vv : Value) (ow : wA.ownsRow w1.drew.heap.size 134 2 vv a.fs.length (prCells a.fs)) (hbA : Below w1.drew.heap.size w1.drew wA) => wf_rows a vv xn [xv] (some ⟨wA.heap.size, 0, none⟩) 1 w1 (wA.alloc (.cells #[.string xv] 9)) (owns_below ow ((Below.refl _ _).alloc (Nat.le_refl _) _)) (bel_of (hb1.drew) (hbA.alloc hbA.size _)) (st_one (by rw [Lib.cell_of_heap (heap_alloc_new wA _)]; rfl)) (one_lt (by simp)) (one_ne (fun e => by have := own_ltw ow _ e; omega)) (by simp; omega))
    have HW2 := hid (fun (wA : World) (vv : Value) (ow : wA.ownsRow (w1.alloc (.cells #[.string xv] 9)).drew.heap.size 134 2 vv a.fs.length (prCells a.fs)) (hbA : Below (w1.alloc (.cells #[.string xv] 9)).drew.heap.size (w1.alloc (.cells #[.string xv] 9)).drew wA) => wf_rows a vv xn [xv] (some ⟨w1.heap.size, 0, none⟩) 1 w1 wA (owns_base ow hbS.drew.size) (bel_of hbS.drew hbA) (st_one (cell_later hbA (by show (w1.alloc (.cells #[.string xv] 9)).cell? _ = _; rw [Lib.cell_of_heap (heap_alloc_new w1 _)]; rfl))) (one_lt (by have := (bel_of hbS.drew hbA).size; have := hbA.size; have e : (w1.alloc (.cells #[.string xv] 9)).drew.heap.size = w1.heap.size + 1 := (by simp); omega)) (one_ne (fun e => by have := own_ge ow _ e; have e : (w1.alloc (.cells #[.string xv] 9)).drew.heap.size = w1.heap.size + 1 := (by simp); omega)) (by simp; omega))
    have HE := hid (fun (fs : List Prm) (ax : Option Addr) (cx : Nat) (w3 : World) => end_rows (a := a) (fs := fs) (ax := ax) (cx := cx) (w3 := w3) hA la HA1.out)
    generalize hFS : a.fs ++ [xv].map (fun v => (xn, v)) = FS at *
    have hFS2 : a.fs ++ [(xn, xv)] = FS := hFS

    go_region_held3 (fun W => W.cell? ⟨w.heap.size + 1, 1, none⟩ = some (.string xn) ∧ W.cell? ⟨w.heap.size + 1, 2, none⟩ = some (.string xv)) (go_keep)
      (first
        | (go_at_call 136; refine (HI1.out _ hb1.drew).mono ?_; rintro x wA ⟨⟨vv, rfl, ow⟩, hbA⟩; have HW := hid (HW1.out wA vv ow hbA); have e1 := cell_later hbA x1; have e2 := cell_later hbA x2; obtain ⟨av, cv, rfl⟩ := sl_of ow; clear ow)
        | (go_at_call 136; refine (HI1.out _ hbS.drew).mono ?_; rintro x wA ⟨⟨vv, rfl, ow⟩, hbA⟩; have HW := hid (HW2.out wA vv ow hbA); have e1 := cell_later (bel_of hbS.drew hbA) x1; have e2 := cell_later (bel_of hbS.drew hbA) x2; obtain ⟨av, cv, rfl⟩ := sl_of ow; clear ow)
        | (go_at_call 168; refine HW.out.mono ?_; rintro x w3 ⟨ax, cx, rfl, o3, hb3⟩; obtain ⟨A3, o4, hb4⟩ := HE.out FS ax cx w3 o3 hb3; obtain ⟨c0, c1, c2, c3⟩ := A3.cells; have f0 := A3.free 0; have f1 := A3.free 1; have f2 := A3.free 2; have f3 := A3.free 3; have l3 := A3.lt; obtain ⟨d0, d1, d2, d3⟩ := (A3.set a.st (.slice ax FS.length cx) a.b false).cells; unfold setA at d0 d1 d2 d3; have HF := hid (And.intro o4 hb4); have e1 := cell_later hb3 x1; have e2 := cell_later hb3 x2; clear o3 o4))
    all_goals clear HW HW1 HW2 HE HI1 A1
    all_goals go_wp2_with fail
    all_goals
      refine bodyPost_ret (v := .agg #[.int .i64 a.st, .slice ax FS.length cx, .string a.b, .bool false]) (by simp [results, Tryz.results135, go_sem, d0, d1, d2, d3]) rfl ?_
      have h1 := HF.out.1
      have h2 := HF.out.2
      clear HF hFS
      subst hFS2
      exact ⟨⟨_, rfl, h1⟩, h2⟩
end Go.Proofs.YtpilfanbfpbldaaGreatDoor

/- A ware that copies fields. -/
namespace Go.Proofs.YtpilfanbfpbldaaGreatDoor
open Go.RowKit

theorem StAt.of_sl {w : World} {B : Nat} {e : TypeId} {a : Option Addr} {n c : Nat} {l : List ByteArray} (h : w.ownsRow B e 1 (.slice a n c) n (l.map Value.string)) : StAt l a w := by
  obtain ⟨a', c', e, hs⟩ := StAt.of_owns h
  simp only [Value.slice.injEq] at e
  rw [e.1]; exact hs
theorem sl_own {a : Option Addr} {n c g : Nat} (h : a = some ⟨g, 0, none⟩) : (Value.slice a n c).ownBlock = some g := by rw [h]; rfl
set_option maxRecDepth 100000 in
set_option maxHeartbeats 1000000 in
theorem values_own (fs : List (ByteArray × ByteArray)) (a : Option Addr) (cap : Nat) (name : ByteArray) (w : World) (hf : FlAt fs a w) (hl : fs.length ≤ 1000000) (hsz : ∀ i (h : i < fs.length), fs[i].1.size ≤ maxLen) :
    Calls Tryz.prog 83 #[.slice a fs.length cap, .string name] w fun e w' => (∃ a' c', e = .returned (.slice a' (valsOf fs name.data.toList).length c') ∧ w'.ownsRow w.heap.size 9 1 (.slice a' (valsOf fs name.data.toList).length c') (valsOf fs name.data.toList).length ((valsOf fs name.data.toList).map Value.string)) ∧ Below w.heap.size w w' := by
  obtain ⟨i0, hi, hz0, hz1, hz2⟩ := info_parts Tryz.info9
  have HF : Hid (FlAt fs a w) := hf
  have HZ : Hid (∀ i (h : i < fs.length), fs[i].1.size ≤ maxLen) := hsz
  clear hf hsz
  go_enter Tryz.func83, Tryz.ntmps83
  go_wp2
  go_loopw [5, 7, 10] (fun v _ i wr => ∃ k : Nat, k ≤ fs.length ∧ i = .int .i64 k ∧ wr.ownsRow w.heap.size 9 1 v (valsOf (fs.take k) name.data.toList).length ((valsOf (fs.take k) name.data.toList).map Value.string) ∧ Below w.heap.size w wr) (fun _ _ i _ => fs.length - (intOf i).toNat)
  case atStart => exact ⟨0, Nat.zero_le _, rfl, World.ownsRow_nil _ _ _ _, Below.refl _ _⟩
  case round =>
    obtain ⟨k, hk, rfl, hown, hbw⟩ := hrel
    by_cases hlt : k < fs.length
    · obtain ⟨g, rfl, hg, hc1, hc2⟩ := (HF.out.below hbw) k hlt
      have hsk := HZ.out k hlt
      have HV : Hid ((Pm.alike fs[k].1.data.toList name.data.toList = true → valsOf (fs.take (k + 1)) name.data.toList = valsOf (fs.take k) name.data.toList ++ [fs[k].2]) ∧ (Pm.alike fs[k].1.data.toList name.data.toList = false → valsOf (fs.take (k + 1)) name.data.toList = valsOf (fs.take k) name.data.toList)) := ⟨valsOf_yes hlt, valsOf_no hlt⟩
      have hvl := valsOf_le (fs.take k) name.data.toList
      rw [List.length_take] at hvl
      obtain ⟨f, hfk⟩ : ∃ f, f = fs[k] := ⟨_, rfl⟩
      rw [← hfk] at hc1 hc2 hsk HV
      clear hfk
      obtain ⟨nm, vl⟩ := f
      simp only at hc1 hc2 hsk HV
      cases hal : Pm.alike nm.data.toList name.data.toList
      · have HE := (show Hid _ from HV.out.2 hal)
        go_wp2_with (go_at_call 76; refine (wAlike_any _ _ _ hsk).mono ?_; rintro e w1 ⟨rfl, hb1⟩)
        have hb2 := bel_of ((Below.refl _ wr).alloc (Nat.le_refl _) _) hb1
        exact ⟨⟨k + 1, by omega, by go_num, by rw [HE.out]; exact owns_below hown hb2, hbw.trans (hb2.mono hbw.size)⟩, by simp [intOf]; omega⟩
      · have HE := (show Hid _ from HV.out.1 hal)
        go_wp2_with fail
        refine (wAlike_any _ _ _ hsk).mono ?_
        rintro e w1 ⟨rfl, hb1⟩
        rw [hal]
        have hb2 := bel_of ((Below.refl _ wr).alloc (Nat.le_refl _) _) hb1
        have hown2 := owns_below hown hb2
        have q1 := cell_later hb1 (a := ⟨wr.heap.size, 1, none⟩) (v := .string vl) (by simp)
        have hsz1 : w.heap.size ≤ w1.heap.size := Nat.le_trans hbw.size hb2.size
        clear hb1 hown hal hc1 hc2 hsk
        go_wp2_with (at_builtin; refine wpList_append_own _ rfl _ _ 172 rfl w.heap.size 9 i0 (.string ⟨#[]⟩) 1 16 Tryz.underlying172 hi hz0 hz1 hz2 rfl (by decide) _ _ _ rfl (hown2.alloc _) ⟨w1.heap.size, 0, none⟩ 1 1 [.string vl] rfl rfl ?c1 ?c2 ?c3 ?c4 ?c5 ?_)
        case c1 =>
          intro j u hj
          match j, hj with
          | 0, hj => simp at hj; subst hj; simp [Addr.add]
        case c2 => intro u hu; simp at hu; subst hu; rfl
        case c3 => unfold maxLen; omega
        case c4 => omega
        case c5 => simp; omega
        intro v' w2 hown' hgrow _
        have hb3 : Below w.heap.size w w2 := ((hbw.trans (hb2.mono hbw.size)).alloc hsz1 _).grown hgrow (by simp; omega) (own_ge hown2)
        clear hgrow
        go_wp2
        refine ⟨⟨k + 1, by omega, by go_num, ?_, hb3⟩, by simp [intOf]; omega⟩
        rw [HE.out, List.length_append, List.map_append]
        exact hown'
    · have HT : Hid (fs.take k = fs) := List.take_of_length_le (by omega)
      rw [HT.out] at hown
      obtain ⟨a', c', rfl, -⟩ := StAt.of_owns hown
      go_wp2
      go_ret
      exact ⟨⟨a', c', rfl, hown⟩, hbw⟩
set_option maxRecDepth 100000 in
set_option maxHeartbeats 8000000 in
theorem around_copy (r : Rn) (x : Wr) (p1 p2 : Addr) (G : Option An) (w : World) (hk : x.k = 4) (hr : RnAt r w) (hGl : ∀ a, G = some a → a.fs.length ≤ 50000000) (HIN : ∀ W, Below w.heap.size w W → Calls Tryz.prog 136 #[.pointer (some p1), .pointer (some p2)] W (ThPost G W)) :
    Calls Tryz.prog 135 #[.agg r.vals, .agg #[.int .i64 x.k, .string x.n, .string x.v, .int .i64 x.lim], .func (.func 136) #[] #[.pointer (some p1), .pointer (some p2)]] w (ThPost (G.map fun a => ⟨a.st, a.fs ++ (valsOf r.fs x.n.data.toList).map (fun v => (x.n, v)), a.b⟩) w) := by
  obtain ⟨hA, R1, X1, A1⟩ := around_mem r x w
  have HI := hid HIN
  have hvl : (valsOf r.fs x.n.data.toList).length ≤ 1000000 := Nat.le_trans (valsOf_le _ _) hr.nf
  have HV := hid (fun W (hW : Below w.heap.size w W) => values_own r.fs r.fa r.fc x.n W (hr.f.below hW) hr.nf hr.zf)
  obtain ⟨r0, r1, r2, r3, r4, r5, r6, r7, r8⟩ := R1.cells
  obtain ⟨x0, x1, x2, x3⟩ := X1.cells
  have lr := R1.lt
  have lx := X1.lt
  clear HIN R1 X1 hr
  obtain ⟨qm, qt, qb, fs, fa, fc, ps, pa, pc, ⟨hk', hst, ht, hn⟩⟩ := r
  obtain ⟨xk, xn, xv, xl⟩ := x
  simp only [Rn.vals] at *
  subst hk
  go_enter Tryz.func135, Tryz.ntmps135
  go_upto_region 1 with fail
  generalize ((w.alloc (.cells #[.string qm, .string qt, .slice fa fs.length fc, .string qb, .slice pa ps.length pc, .int .i64 hk', .int .i64 hst, .string ht, .string hn] 188)).alloc (.cells #[.int .i64 4, .string xn, .string xv, .int .i64 xl] 56)).alloc (.cells #[.int .i64 0, .slice none 0 0, .string ⟨#[]⟩, .bool false] 89) = w1 at *
  have la := A1.lt
  have HI1 := hid (fun W (hW : Below w1.heap.size w1 W) => HI.out W (bel_of hA hW))
  have HV1 := hid (fun W (hW : Below w1.heap.size w1 W) => HV.out W (bel_of hA hW))
  have HA1 := hid A1
  have hb1 := Below.refl w1.heap.size w1
  generalize hVS : valsOf fs xn.data.toList = vals at *
  have HVS := hid hVS
  clear HI HV r0 r1 r3 r4 r5 r6 r7 r8 hVS
  go_upto_region 13 with fail
  cases G with
  | none =>
    go_region_dies
    all_goals go_wp2_with (go_at_call 136; refine (HI1.out _ hb1.drew).mono ?_; rintro x wA ⟨rfl, hbA⟩; exact ⟨rfl, rfl, bel_of hA (bel_of hb1.drew hbA)⟩)
  | some a =>
    have hlen := hGl a rfl
    have ne0 : w.heap.size ≠ w.heap.size + 1 + 1 := by omega
    have ne1 : w.heap.size + 1 ≠ w.heap.size + 1 + 1 := by omega
    have HW1 := hid (fun (wA wB : World) (vv : Value) (va : Option Addr) (vc : Nat) (ow : wA.ownsRow w1.drew.heap.size 134 2 vv a.fs.length (prCells a.fs)) (hbA : Below w1.drew.heap.size w1.drew wA) (ov : wB.ownsRow wA.heap.size 9 1 (.slice va vals.length vc) vals.length (vals.map Value.string)) (hbB : Below wA.heap.size wA wB) => wf_rows a vv xn vals va vc w1 wB (owns_below ow hbB) (bel_of (bel_of hb1.drew hbA) hbB) (StAt.of_sl ov) (fun g e => own_ltw ov g (sl_own e)) (fun g e e2 => by have := own_ltw ow _ e2; have := own_ge ov g (sl_own e); omega) (by omega))
    have HKP : Hid (∀ (w3 w4 : World), (∃ vv, w4 = setA (w.heap.size + 1 + 1) a.st vv a.b false w3) → Below w1.heap.size w1 w3 → w4.cell? ⟨w.heap.size, 2, none⟩ = some (.slice fa fs.length fc) ∧ w4.cell? ⟨w.heap.size + 1, 1, none⟩ = some (.string xn)) := by
      rintro w3 w4 ⟨vv, rfl⟩ hb
      exact ⟨(cell_setA ne0).trans (cell_later hb r2), (cell_setA ne1).trans (cell_later hb x1)⟩
    have HE := hid (fun (fs : List Prm) (ax : Option Addr) (cx : Nat) (w3 : World) => end_rows (a := a) (fs := fs) (ax := ax) (cx := cx) (w3 := w3) hA la HA1.out)
    generalize hFS : a.fs ++ vals.map (fun v => (xn, v)) = FS at *
    go_region_held3 (fun W => W.cell? ⟨w.heap.size, 2, none⟩ = some (.slice fa fs.length fc) ∧ W.cell? ⟨w.heap.size + 1, 1, none⟩ = some (.string xn)) (first | exact HKEEP.out | exact ⟨HKEEP.out.1, HKEEP.out.2⟩ | go_keep)
      (first
        | (go_at_call 136; refine (HI1.out _ hb1.drew).mono ?_; rintro x wA ⟨⟨vv, rfl, ow⟩, hbA⟩; have e1 := cell_later hbA x1; have e2 := cell_later hbA r2; obtain ⟨av, cv, rfl⟩ := sl_of ow; have HWA := hid (And.intro ow hbA); have HB := hid (bel_of hb1.drew hbA); clear ow)
        | (go_at_call 83; refine (HV1.out _ HB.out).mono ?_; rintro x wB ⟨⟨va, vc, rfl, ov⟩, hbB⟩; have e1 := cell_later (bel_of HB.out hbB) x1; have e2 := cell_later (bel_of HB.out hbB) r2; have HW := hid (HW1.out _ wB _ va vc HWA.out.1 HWA.out.2 ov hbB); clear ov)
        | (go_at_call 168; refine HW.out.mono ?_; rintro x w3 ⟨ax, cx, rfl, o3, hb3⟩; obtain ⟨A3, o4, hb4⟩ := HE.out FS ax cx w3 o3 hb3; obtain ⟨c0, c1, c2, c3⟩ := A3.cells; have f0 := A3.free 0; have f1 := A3.free 1; have f2 := A3.free 2; have f3 := A3.free 3; have l3 := A3.lt; obtain ⟨d0, d1, d2, d3⟩ := (A3.set a.st (.slice ax FS.length cx) a.b false).cells; unfold setA at d0 d1 d2 d3; have HF := hid (And.intro o4 hb4); have e1 := cell_later hb3 x1; have e2 := cell_later hb3 r2; have HKEEP := hid (HKP.out w3 (setA (w.heap.size + 1 + 1) a.st (.slice ax FS.length cx) a.b false w3) ⟨_, rfl⟩ hb3); unfold setA at HKEEP; clear o3 o4))
    all_goals clear HW HW1 HE HKP HI1 HV1 A1
    all_goals go_wp2_with fail
    all_goals
      refine bodyPost_ret (v := .agg #[.int .i64 a.st, .slice ax FS.length cx, .string a.b, .bool false]) (by simp [results, Tryz.results135, go_sem, d0, d1, d2, d3]) rfl ?_
      have h1 := HF.out.1
      have h2 := HF.out.2
      clear HF
      have hvs := HVS.out
      clear HVS
      subst hFS
      subst hvs
      exact ⟨⟨_, rfl, h1⟩, h2⟩
end Go.Proofs.YtpilfanbfpbldaaGreatDoor

/- A ware that guards. -/
namespace Go.Proofs.YtpilfanbfpbldaaGreatDoor
open Go.RowKit

set_option maxRecDepth 100000 in
set_option maxHeartbeats 8000000 in
theorem around_guard (r : Rn) (x : Wr) (p1 p2 : Addr) (G : Option An) (w : World) (hk : x.k = 1) (hr : RnAt r w) (HIN : ∀ W, Below w.heap.size w W → Calls Tryz.prog 136 #[.pointer (some p1), .pointer (some p2)] W (ThPost G W)) :
    Calls Tryz.prog 135 #[.agg r.vals, .agg #[.int .i64 x.k, .string x.n, .string x.v, .int .i64 x.lim], .func (.func 136) #[] #[.pointer (some p1), .pointer (some p2)]] w (ThPost (if x.v.data.toList ∈ (valsOf r.fs x.n.data.toList).map (fun b => b.data.toList) then G else some ⟨403, [], ⟨#[]⟩⟩) w) := by
  obtain ⟨hA, R1, X1, A1⟩ := around_mem r x w
  have HI := hid HIN
  have hvl : (valsOf r.fs x.n.data.toList).length ≤ 1000000 := Nat.le_trans (valsOf_le _ _) hr.nf
  have HV := hid (fun W (hW : Below w.heap.size w W) => values_any r.fs r.fa r.fc x.n W (hr.f.below hW) hr.nf hr.zf)
  generalize hGG : (if x.v.data.toList ∈ (valsOf r.fs x.n.data.toList).map (fun b => b.data.toList) then G else some ⟨403, [], ⟨#[]⟩⟩) = GG at *
  obtain ⟨r0, r1, r2, r3, r4, r5, r6, r7, r8⟩ := R1.cells
  obtain ⟨x0, x1, x2, x3⟩ := X1.cells
  have lr := R1.lt
  have lx := X1.lt
  clear HIN R1 X1 hr
  obtain ⟨qm, qt, qb, fs, fa, fc, ps, pa, pc, ⟨hk', hst, ht, hn⟩⟩ := r
  obtain ⟨xk, xn, xv, xl⟩ := x
  simp only [Rn.vals] at *
  subst hk
  go_enter Tryz.func135, Tryz.ntmps135
  go_upto_region 1 with fail
  generalize ((w.alloc (.cells #[.string qm, .string qt, .slice fa fs.length fc, .string qb, .slice pa ps.length pc, .int .i64 hk', .int .i64 hst, .string ht, .string hn] 188)).alloc (.cells #[.int .i64 1, .string xn, .string xv, .int .i64 xl] 56)).alloc (.cells #[.int .i64 0, .slice none 0 0, .string ⟨#[]⟩, .bool false] 89) = w1 at *
  have la := A1.lt
  have HV1 := hid (fun W (hW : Below w1.heap.size w1 W) => HV.out W (bel_of hA hW))
  have HI1 := hid (fun W (hW : Below w1.heap.size w1 W) => HI.out W (bel_of hA hW))
  have HA1 := hid A1
  have hb1 := Below.refl w1.heap.size w1
  generalize hVS : valsOf fs xn.data.toList = vals at *
  clear HI HV r0 r1 r3 r4 r5 r6 r7 r8 hVS A1
  go_upto_region 5 with fail
  by_cases hm : xv.data.toList ∈ vals.map (fun b => b.data.toList)
  · rw [if_pos hm] at hGG
    subst hGG
    have HC := hid (fun (l : Option Addr) (c : Nat) (W : World) (h : StAt vals l W) => contains_st vals l c xv W h hvl)
    rw [decide_eq_true hm] at HC
    clear hm
    go_region_held3 (fun W => W.cell? ⟨w.heap.size, 2, none⟩ = some (.slice fa fs.length fc) ∧ W.cell? ⟨w.heap.size + 1, 1, none⟩ = some (.string xn) ∧ W.cell? ⟨w.heap.size + 1, 2, none⟩ = some (.string xv)) (go_keep)
      (first
        | (go_at_call 83; refine (HV1.out _ hb1.drew).mono ?_; rintro x wB ⟨⟨va, vc, rfl, ov⟩, hbB⟩; have e1 := cell_later hbB x1; have e2 := cell_later hbB x2; have e3 := cell_later hbB r2; have HB := hid (bel_of hb1.drew hbB); have HQ := hid (HC.out va vc wB ov); clear ov)
        | (go_at_call 131; refine HQ.out.mono ?_; rintro x w3 ⟨rfl, rfl⟩))
    have HEND := hid (HI1.out _ HB.out)
    have A1 := HA1.out.below HB.out
    have hAB := bel_of hA HB.out
    have lw := HB.out.size
    clear HI1 HV1 HC HQ HA1
    go_wp2_with fail
    refine HEND.out.mono ?_
    cases G with
    | none =>
      rintro x w2 ⟨rfl, hb2⟩
      exact ⟨rfl, rfl, bel_of hAB hb2⟩
    | some a =>
      rintro x w2 ⟨⟨vv, rfl, ow⟩, hb2⟩
      have A2 := A1.below hb2
      have hB2 := bel_of hAB hb2
      have hno : vv.ownBlock ≠ some (w.heap.size + 1 + 1) := fun e => by have := own_ge ow _ e; omega
      have HO := hid (owns_base ow hAB.size)
      obtain ⟨ax, cx, rfl⟩ := sl_of ow
      obtain ⟨c0, c1, c2, c3⟩ := A2.cells
      have f0 := A2.free 0
      have f1 := A2.free 1
      have f2 := A2.free 2
      have f3 := A2.free 3
      have l2 := A2.lt
      obtain ⟨d0, d1, d2, d3⟩ := (A2.set a.st (.slice ax a.fs.length cx) a.b false).cells
      have HF : Hid ((setA (w.heap.size + 1 + 1) a.st (.slice ax a.fs.length cx) a.b false w2).ownsRow w.heap.size 134 2 (.slice ax a.fs.length cx) a.fs.length (prCells a.fs) ∧ Below w.heap.size w (setA (w.heap.size + 1 + 1) a.st (.slice ax a.fs.length cx) a.b false w2)) := ⟨owns_setA HO.out hno, below_setA hB2 (by omega)⟩
      unfold setA at d0 d1 d2 d3
      clear ow HO A1
      go_wp2_with fail
      refine bodyPost_ret (v := .agg #[.int .i64 a.st, .slice ax a.fs.length cx, .string a.b, .bool false]) (by simp [results, Tryz.results135, go_sem, d0, d1, d2, d3]) rfl ?_
      exact ⟨⟨_, rfl, HF.out.1⟩, HF.out.2⟩
  · rw [if_neg hm] at hGG
    subst hGG
    have HC := hid (fun (l : Option Addr) (c : Nat) (W : World) (h : StAt vals l W) => contains_st vals l c xv W h hvl)
    rw [decide_eq_false hm] at HC
    clear hm
    go_region_held3 (fun W => W.cell? ⟨w.heap.size, 2, none⟩ = some (.slice fa fs.length fc) ∧ W.cell? ⟨w.heap.size + 1, 1, none⟩ = some (.string xn) ∧ W.cell? ⟨w.heap.size + 1, 2, none⟩ = some (.string xv)) (go_keep)
      (first
        | (go_at_call 83; refine (HV1.out _ hb1.drew).mono ?_; rintro x wB ⟨⟨va, vc, rfl, ov⟩, hbB⟩; have e1 := cell_later hbB x1; have e2 := cell_later hbB x2; have e3 := cell_later hbB r2; have HB := hid (bel_of hb1.drew hbB); have HQ := hid (HC.out va vc wB ov); clear ov)
        | (go_at_call 131; refine HQ.out.mono ?_; rintro x w3 ⟨rfl, rfl⟩))
    have A1 := HA1.out.below HB.out
    have hAB := bel_of hA HB.out
    obtain ⟨c0, c1, c2, c3⟩ := A1.cells
    have f0 := A1.free 0
    have f1 := A1.free 1
    have f2 := A1.free 2
    have f3 := A1.free 3
    have l2 := A1.lt
    obtain ⟨d0, d1, d2, d3⟩ := (A1.set 403 (.slice none 0 0) ⟨#[]⟩ false).cells
    unfold setA at d0 d1 d2 d3
    clear HI1 HV1 HC HQ HA1
    go_wp2_with fail
    refine bodyPost_ret (v := .agg #[.int .i64 403, .slice none 0 0, .string ⟨#[]⟩, .bool false]) (by simp [results, Tryz.results135, go_sem, d0, d1, d2, d3]) rfl ?_
    exact ⟨⟨_, rfl, World.ownsRow_nil _ _ _ _⟩, below_setA hAB (by omega)⟩
end Go.Proofs.YtpilfanbfpbldaaGreatDoor
