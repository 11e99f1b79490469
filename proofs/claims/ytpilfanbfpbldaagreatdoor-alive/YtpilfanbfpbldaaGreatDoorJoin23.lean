/- Texts that follow one another, joined. -/
import Derived.Test.YtpilfanbfpbldaaGreatDoorJoin22
import Derived.Test.YtpilfanbfpbldaaGreatDoorJoin19
import Derived.Laws.RangeAny
/- Through the first ware and the rest. -/
namespace Go.Proofs.YtpilfanbfpbldaaGreatDoor
open Go.RowKit

set_option maxRecDepth 100000 in
set_option maxHeartbeats 16000000 in
theorem through_cons (r : Rn) (x : Wr) (g o n c : Nat) (G : Option An) (w : World) (h0 : w.cell? ⟨g, o, none⟩ = some (.int .i64 x.k)) (h1 : w.cell? ⟨g, o + 1, none⟩ = some (.string x.n)) (h2 : w.cell? ⟨g, o + 2, none⟩ = some (.string x.v)) (h3 : w.cell? ⟨g, o + 3, none⟩ = some (.int .i64 x.lim)) (hn : n ≤ 1000000)
    (HAR : ∀ W, Below w.heap.size w W → RnB w.heap.size r W → W.cell? ⟨w.heap.size + 1, 0, none⟩ = some (.slice (some ⟨g, o, none⟩) (n + 1) c) → Calls Tryz.prog 135 #[.agg r.vals, .agg #[.int .i64 x.k, .string x.n, .string x.v, .int .i64 x.lim], .func (.func 136) #[] #[.pointer (some ⟨w.heap.size, 0, none⟩), .pointer (some ⟨w.heap.size + 1, 0, none⟩)]] W (ThPost G W)) :
    Calls Tryz.prog 97 #[.agg r.vals, .slice (some ⟨g, o, none⟩) (n + 1) c] w (ThPost G w) := by
  obtain ⟨hA, R1, s1, A1⟩ := through_mem r (.slice (some ⟨g, o, none⟩) (n + 1) c) w
  have HA := hid (HAR _ (hA.drew) (by have := R1; unfold RnB at *; exact this) s1)
  clear HAR
  obtain ⟨r0, r1, r2, r3, r4, r5, r6, r7, r8⟩ := R1.cells
  have lr := R1.lt
  have ls := block_lt_of_cell s1
  have y0 := cell_later hA h0
  have y1 := cell_later hA h1
  have y2 := cell_later hA h2
  have y3 := cell_later hA h3
  have lg := block_lt_of_cell h0
  have lg1 := block_lt_of_cell y0
  have k0 : (0 : Int) < (n : Int) + 1 := by omega
  have k1 : ((n : Int) + 1 == 0) = false := by have : (n : Int) + 1 ≠ 0 := by omega
                                               simpa using this
  have k2 : ¬ ((n : Int) + 1 = 0) := by omega
  clear R1 h0 h1 h2 h3
  obtain ⟨qm, qt, qb, fs, fa, fc, ps, pa, pc, ⟨hk', hst, ht, hn'⟩⟩ := r
  obtain ⟨xk, xn, xv, xl⟩ := x
  simp only [Rn.vals] at *
  go_enter Tryz.func97, Tryz.ntmps97
  go_upto_region 3 with fail
  generalize ((w.alloc (.cells #[.string qm, .string qt, .slice fa fs.length fc, .string qb, .slice pa ps.length pc, .int .i64 hk', .int .i64 hst, .string ht, .string hn'] 188)).alloc (.cells #[.slice (some ⟨g, o, none⟩) (n + 1) c] 30)).alloc (.cells #[.int .i64 0, .slice none 0 0, .string ⟨#[]⟩, .bool false] 89) = w1 at *
  have la := A1.lt
  have HA1 := hid A1
  have hb1 := Below.refl w1.heap.size w1
  cases G with
  | none =>
    go_region_dies
    all_goals go_wp2_with (go_at_call 135; refine HA.out.mono ?_; rintro x wA ⟨rfl, hbA⟩; exact ⟨rfl, rfl, bel_of hA (bel_of hb1.drew hbA)⟩)
  | some a =>
    have nr : w.heap.size ≠ w.heap.size + 1 + 1 := by omega
    have ns : w.heap.size + 1 ≠ w.heap.size + 1 + 1 := by omega
    have ng : g ≠ w.heap.size + 1 + 1 := by omega
    have HE := hid (fun (ax : Option Addr) (cx : Nat) (w3 : World) (o3 : w3.ownsRow w1.heap.size 134 2 (.slice ax a.fs.length cx) a.fs.length (prCells a.fs)) (hb3 : Below w1.heap.size w1 w3) => (And.intro (owns_setA (st := a.st) (vv := .slice ax a.fs.length cx) (b := a.b) (cl := false) (owns_base o3 hA.size) (fun e => by have := own_ge o3 _ e; omega)) (below_setA (st := a.st) (vv := .slice ax a.fs.length cx) (b := a.b) (cl := false) (bel_of hA hb3) (by omega)) : (setA (w.heap.size + 1 + 1) a.st (.slice ax a.fs.length cx) a.b false w3).ownsRow w.heap.size 134 2 (.slice ax a.fs.length cx) a.fs.length (prCells a.fs) ∧ Below w.heap.size w (setA (w.heap.size + 1 + 1) a.st (.slice ax a.fs.length cx) a.b false w3)))
    have HKP : Hid (∀ (w3 w4 : World), (∃ vv, w4 = setA (w.heap.size + 1 + 1) a.st vv a.b false w3) → Below w1.heap.size w1 w3 → w4.cell? ⟨w.heap.size + 1, 0, none⟩ = some (.slice (some ⟨g, o, none⟩) (n + 1) c) ∧ w4.cell? ⟨w.heap.size, 0, none⟩ = some (.string qm) ∧ w4.cell? ⟨w.heap.size, 1, none⟩ = some (.string qt) ∧ w4.cell? ⟨w.heap.size, 2, none⟩ = some (.slice fa fs.length fc) ∧ w4.cell? ⟨w.heap.size, 3, none⟩ = some (.string qb) ∧ w4.cell? ⟨w.heap.size, 4, none⟩ = some (.slice pa ps.length pc) ∧ w4.cell? ⟨w.heap.size, 5, none⟩ = some (.int .i64 hk') ∧ w4.cell? ⟨w.heap.size, 6, none⟩ = some (.int .i64 hst) ∧ w4.cell? ⟨w.heap.size, 7, none⟩ = some (.string ht) ∧ w4.cell? ⟨w.heap.size, 8, none⟩ = some (.string hn') ∧ w4.cell? ⟨g, o, none⟩ = some (.int .i64 xk) ∧ w4.cell? ⟨g, o + 1, none⟩ = some (.string xn) ∧ w4.cell? ⟨g, o + 2, none⟩ = some (.string xv) ∧ w4.cell? ⟨g, o + 3, none⟩ = some (.int .i64 xl)) := by
      rintro w3 w4 ⟨vv, rfl⟩ hb
      exact ⟨(cell_setA ns).trans (cell_later hb s1), (cell_setA nr).trans (cell_later hb r0), (cell_setA nr).trans (cell_later hb r1), (cell_setA nr).trans (cell_later hb r2), (cell_setA nr).trans (cell_later hb r3), (cell_setA nr).trans (cell_later hb r4), (cell_setA nr).trans (cell_later hb r5), (cell_setA nr).trans (cell_later hb r6), (cell_setA nr).trans (cell_later hb r7), (cell_setA nr).trans (cell_later hb r8), (cell_setA ng).trans (cell_later hb y0), (cell_setA ng).trans (cell_later hb y1), (cell_setA ng).trans (cell_later hb y2), (cell_setA ng).trans (cell_later hb y3)⟩
    go_region_held3 (fun W => W.cell? ⟨w.heap.size + 1, 0, none⟩ = some (.slice (some ⟨g, o, none⟩) (n + 1) c) ∧ W.cell? ⟨w.heap.size, 0, none⟩ = some (.string qm) ∧ W.cell? ⟨w.heap.size, 1, none⟩ = some (.string qt) ∧ W.cell? ⟨w.heap.size, 2, none⟩ = some (.slice fa fs.length fc) ∧ W.cell? ⟨w.heap.size, 3, none⟩ = some (.string qb) ∧ W.cell? ⟨w.heap.size, 4, none⟩ = some (.slice pa ps.length pc) ∧ W.cell? ⟨w.heap.size, 5, none⟩ = some (.int .i64 hk') ∧ W.cell? ⟨w.heap.size, 6, none⟩ = some (.int .i64 hst) ∧ W.cell? ⟨w.heap.size, 7, none⟩ = some (.string ht) ∧ W.cell? ⟨w.heap.size, 8, none⟩ = some (.string hn') ∧ W.cell? ⟨g, o, none⟩ = some (.int .i64 xk) ∧ W.cell? ⟨g, o + 1, none⟩ = some (.string xn) ∧ W.cell? ⟨g, o + 2, none⟩ = some (.string xv) ∧ W.cell? ⟨g, o + 3, none⟩ = some (.int .i64 xl)) (first | exact HKEEP.out | go_keep)
      (first | (go_at_call 135; refine HA.out.mono ?_; rintro x w3 ⟨⟨vv, rfl, ow⟩, hb3⟩; obtain ⟨ax, cx, rfl⟩ := sl_of ow; have hbD := bel_of hb1.drew hb3; have o3 := owns_base ow hb1.drew.size; have A3 := HA1.out.below hbD; obtain ⟨c0, c1, c2, c3⟩ := A3.cells; have f0 := A3.free 0; have f1 := A3.free 1; have f2 := A3.free 2; have f3 := A3.free 3; have l3 := A3.lt; obtain ⟨d0, d1, d2, d3⟩ := (A3.set a.st (.slice ax a.fs.length cx) a.b false).cells; have HF := hid (HE.out ax cx w3 o3 hbD); have z0 := cell_later hbD r0; have z1 := cell_later hbD r1; have z2 := cell_later hbD r2; have z3 := cell_later hbD r3; have z4 := cell_later hbD r4; have z5 := cell_later hbD r5; have z6 := cell_later hbD r6; have z7 := cell_later hbD r7; have z8 := cell_later hbD r8; have zs := cell_later hbD s1; have zy0 := cell_later hbD y0; have zy1 := cell_later hbD y1; have zy2 := cell_later hbD y2; have zy3 := cell_later hbD y3; have HKEEP := hid (HKP.out w3 (setA (w.heap.size + 1 + 1) a.st (.slice ax a.fs.length cx) a.b false w3) ⟨_, rfl⟩ hbD); unfold setA at d0 d1 d2 d3 HKEEP; clear ow o3))
    all_goals clear HA HE HKP A1
    all_goals go_wp2_with fail
    all_goals
      refine bodyPost_ret (v := .agg #[.int .i64 a.st, .slice ax a.fs.length cx, .string a.b, .bool false]) (by simp [results, Tryz.results97, go_sem, d0, d1, d2, d3]) rfl ?_
      exact ⟨⟨_, rfl, HF.out.1⟩, HF.out.2⟩
end Go.Proofs.YtpilfanbfpbldaaGreatDoor

/- Through any wares. -/
namespace Go.Proofs.YtpilfanbfpbldaaGreatDoor
open Go.RowKit

theorem through_any (r : Rn) : ∀ (ws : List Wr) (a : Option Addr) (c : Nat) (w : World), MuAt 4 Wr.cells ws a w → ws.length ≤ c → ws.length ≤ 1000000 → 1 + ws.length * (r.fs.length + 1) ≤ 50000000 → RnAt r w →
    Calls Tryz.prog 97 #[.agg r.vals, .slice a ws.length c] w (ThPost (thrG r.fs r.qb r.h r.ps ws) w)
  | [], a, c, w, _, _, _, _, hr => through_nil r a c w hr
  | x :: ws, a, c, w, hm, hc, hl, hz, hr => by
    obtain ⟨g, o, rfl, hg, hcells⟩ := hm 0 (by simp)
    have hlc : (x :: ws).length = ws.length + 1 := rfl
    rw [hlc] at hc hl hz ⊢
    have hz2 : 1 + ws.length * (r.fs.length + 1) ≤ 50000000 := by
      rw [Nat.add_mul] at hz; omega
    have hrest : MuAt 4 Wr.cells ws (if c = 1 then some ⟨g, o, none⟩ else some ⟨g, o + 4, none⟩) w := by
      intro i hi
      have hc1 : ¬ c = 1 := by omega
      rw [if_neg hc1]
      obtain ⟨g', o', e, hg', hcc⟩ := hm (i + 1) (by simp; omega)
      simp only [Option.some.injEq, Addr.mk.injEq, and_true] at e
      obtain ⟨rfl, rfl⟩ := e
      refine ⟨g, o + 4, rfl, hg', fun j v hv => ?_⟩
      have := hcc j v (by simpa using hv)
      rw [show o + 4 + i * 4 + j = o + (i + 1) * 4 + j by omega]
      exact this
    refine through_cons r x g o ws.length c (wareG x r.fs r.qb (thrG r.fs r.qb r.h r.ps ws)) w ?_ ?_ ?_ ?_ (by omega) ?_
    · simpa using hcells 0 (.int .i64 x.k) rfl
    · simpa using hcells 1 (.string x.n) rfl
    · simpa using hcells 2 (.string x.v) rfl
    · simpa using hcells 3 (.int .i64 x.lim) rfl
    · intro W hW R s
      refine around_any r x _ _ _ W (hr.below hW) (fun a e => Nat.le_trans (thrG_le _ _ _ _ ws a e) hz2) (fun W' hW' => ?_)
      have hWW := bel_of hW hW'
      exact inside_any r _ _ g o ws.length c _ W' (R.below hW') (cell_later hW' s) (by omega) (by omega) (fun V hV => through_any r ws _ (c - 1) V (hrest.below (bel_of hWW hV)) (by omega) (by omega) hz2 (hr.below (bel_of hWW hV)))
end Go.Proofs.YtpilfanbfpbldaaGreatDoor

/- What is answered where a route is found. -/
namespace Go.Proofs.YtpilfanbfpbldaaGreatDoor
open Go.RowKit

theorem answer_mem (qm qt qb : ByteArray) (v : Value) (rt : Int) (pv : Value) (al lo : ByteArray) (w : World) : Below w.heap.size w (((w.alloc (.cells #[.string qm, .string qt, v, .string qb] 84)).alloc (.cells #[.int .i64 200, .int .i64 rt, pv, .string al, .string lo] 139)).alloc (.cells #[.int .i64 0, .slice none 0 0, .string ⟨#[]⟩, .bool false] 89)) ∧ (((w.alloc (.cells #[.string qm, .string qt, v, .string qb] 84)).alloc (.cells #[.int .i64 200, .int .i64 rt, pv, .string al, .string lo] 139)).alloc (.cells #[.int .i64 0, .slice none 0 0, .string ⟨#[]⟩, .bool false] 89)).heap[w.heap.size]? = some (.cells #[.string qm, .string qt, v, .string qb] 84 (0, 0)) ∧ (((w.alloc (.cells #[.string qm, .string qt, v, .string qb] 84)).alloc (.cells #[.int .i64 200, .int .i64 rt, pv, .string al, .string lo] 139)).alloc (.cells #[.int .i64 0, .slice none 0 0, .string ⟨#[]⟩, .bool false] 89)).heap[w.heap.size + 1]? = some (.cells #[.int .i64 200, .int .i64 rt, pv, .string al, .string lo] 139 (0, 0)) ∧ AnB (w.heap.size + 1 + 1) 0 (.slice none 0 0) ⟨#[]⟩ false (((w.alloc (.cells #[.string qm, .string qt, v, .string qb] 84)).alloc (.cells #[.int .i64 200, .int .i64 rt, pv, .string al, .string lo] 139)).alloc (.cells #[.int .i64 0, .slice none 0 0, .string ⟨#[]⟩, .bool false] 89)) := by
  have hA1 := (Below.refl w.heap.size w).alloc (Nat.le_refl _) (.cells #[.string qm, .string qt, v, .string qb] 84)
  have hA2 := hA1.alloc hA1.size (.cells #[.int .i64 200, .int .i64 rt, pv, .string al, .string lo] 139)
  have hA := hA2.alloc hA2.size (.cells #[.int .i64 0, .slice none 0 0, .string ⟨#[]⟩, .bool false] 89)
  have q0 := heap_alloc_new w (.cells #[.string qm, .string qt, v, .string qb] 84)
  generalize hW1 : w.alloc (.cells #[.string qm, .string qt, v, .string qb] 84) = W1 at *
  have z1 : W1.heap.size = w.heap.size + 1 := by rw [← hW1]; simp
  have q1 := heap_alloc_new W1 (.cells #[.int .i64 200, .int .i64 rt, pv, .string al, .string lo] 139)
  have b1 : Below W1.heap.size W1 (W1.alloc (.cells #[.int .i64 200, .int .i64 rt, pv, .string al, .string lo] 139)) := (Below.refl _ _).alloc (Nat.le_refl _) _
  generalize hW2 : W1.alloc (.cells #[.int .i64 200, .int .i64 rt, pv, .string al, .string lo] 139) = W2 at *
  have z2 : W2.heap.size = w.heap.size + 1 + 1 := by rw [← hW2]; simp [z1]
  have q2 := heap_alloc_new W2 (.cells #[.int .i64 0, .slice none 0 0, .string ⟨#[]⟩, .bool false] 89)
  have b2 : Below W2.heap.size W2 (W2.alloc (.cells #[.int .i64 0, .slice none 0 0, .string ⟨#[]⟩, .bool false] 89)) := (Below.refl _ _).alloc (Nat.le_refl _) _
  rw [z1] at q1
  rw [z2] at q2
  exact ⟨hA, by rw [b2.block _ (by omega), b1.block _ (by omega)]; exact q0, by rw [b2.block _ (by omega)]; exact q1, q2⟩
set_option maxRecDepth 100000 in
set_option maxHeartbeats 16000000 in
theorem answer_found (gs gh nh ch : Nat) (aw : Option Addr) (nw cw : Nat) (r : Rn) (rt : Nat) (al lo : ByteArray) (G : Option An) (w : World) (hrt : rt < nh)
    (s1 : w.cell? ⟨gs, 1, none⟩ = some (.slice (some ⟨gh, 0, none⟩) nh ch)) (s2 : w.cell? ⟨gs, 2, none⟩ = some (.slice aw nw cw))
    (h0 : w.cell? ⟨gh, rt * 4, none⟩ = some (.int .i64 r.h.k)) (h1 : w.cell? ⟨gh, rt * 4 + 1, none⟩ = some (.int .i64 r.h.st)) (h2 : w.cell? ⟨gh, rt * 4 + 2, none⟩ = some (.string r.h.t)) (h3 : w.cell? ⟨gh, rt * 4 + 3, none⟩ = some (.string r.h.n))
    (HTH : ∀ W, Below w.heap.size w W → Calls Tryz.prog 97 #[.agg r.vals, .slice aw nw cw] W (ThPost G W)) :
    Calls Tryz.prog 60 #[.pointer (some ⟨gs, 0, none⟩), .agg #[.string r.qm, .string r.qt, .slice r.fa r.fs.length r.fc, .string r.qb], .agg #[.int .i64 200, .int .i64 rt, .slice r.pa r.ps.length r.pc, .string al, .string lo]] w (ThPost G w) := by
  obtain ⟨hA, Q1, F1, A1⟩ := answer_mem r.qm r.qt r.qb (.slice r.fa r.fs.length r.fc) rt (.slice r.pa r.ps.length r.pc) al lo w
  have HT := hid HTH
  have q0 : _ = some (Value.string r.qm) := (Lib.cell_of_heap Q1 0).trans rfl
  have q1 : _ = some (Value.string r.qt) := (Lib.cell_of_heap Q1 1).trans rfl
  have q2 : _ = some (Value.slice r.fa r.fs.length r.fc) := (Lib.cell_of_heap Q1 2).trans rfl
  have q3 : _ = some (Value.string r.qb) := (Lib.cell_of_heap Q1 3).trans rfl
  have f0 : _ = some (Value.int .i64 200) := (Lib.cell_of_heap F1 0).trans rfl
  have f1 : _ = some (Value.int .i64 rt) := (Lib.cell_of_heap F1 1).trans rfl
  have f2 : _ = some (Value.slice r.pa r.ps.length r.pc) := (Lib.cell_of_heap F1 2).trans rfl
  have lg0 : gs < w.heap.size := block_lt_of_cell s1
  have y1 := cell_later hA s1
  have y2 := cell_later hA s2
  have g0 := cell_later hA h0
  have g1 := cell_later hA h1
  have g2 := cell_later hA h2
  have g3 := cell_later hA h3
  have k0 : (0 : Int) ≤ (rt : Int) := by omega
  have k1 : (rt : Int) < (nh : Int) := by omega
  clear HTH Q1 F1 s1 s2 h0 h1 h2 h3
  obtain ⟨qm, qt, qb, fs, fa, fc, ps, pa, pc, ⟨hk', hst, ht, hn'⟩⟩ := r
  simp only [Rn.vals] at *
  go_enter Tryz.func60, Tryz.ntmps60
  go_upto_region 1 with fail
  generalize ((w.alloc (.cells #[.string qm, .string qt, .slice fa fs.length fc, .string qb] 84)).alloc (.cells #[.int .i64 200, .int .i64 rt, .slice pa ps.length pc, .string al, .string lo] 139)).alloc (.cells #[.int .i64 0, .slice none 0 0, .string ⟨#[]⟩, .bool false] 89) = w1 at *
  have la := A1.lt
  have lgs := block_lt_of_cell y1
  have lgh := block_lt_of_cell g0
  go_upto_region 3 with fail
  go_region_held3 (fun W => W.cell? ⟨w.heap.size, 0, none⟩ = some (.string qm) ∧ W.cell? ⟨w.heap.size, 1, none⟩ = some (.string qt) ∧ W.cell? ⟨w.heap.size, 2, none⟩ = some (.slice fa fs.length fc) ∧ W.cell? ⟨w.heap.size, 3, none⟩ = some (.string qb) ∧ W.cell? ⟨w.heap.size + 1, 1, none⟩ = some (.int .i64 rt) ∧ W.cell? ⟨w.heap.size + 1, 2, none⟩ = some (.slice pa ps.length pc) ∧ W.cell? ⟨gs, 1, none⟩ = some (.slice (some ⟨gh, 0, none⟩) nh ch) ∧ W.cell? ⟨gh, rt * 4, none⟩ = some (.int .i64 hk') ∧ W.cell? ⟨gh, rt * 4 + 1, none⟩ = some (.int .i64 hst) ∧ W.cell? ⟨gh, rt * 4 + 2, none⟩ = some (.string ht) ∧ W.cell? ⟨gh, rt * 4 + 3, none⟩ = some (.string hn')) (go_keep) (fail)
  go_upto_region 4 with fail
  have hA2 := (hA.alloc hA.size (.cells #[.string qm, .string qt, .slice fa fs.length fc, .string qb, .slice pa ps.length pc, .int .i64 hk', .int .i64 hst, .string ht, .string hn'] 188)).drew
  have hb12 := ((Below.refl w1.heap.size w1).alloc (Nat.le_refl _) (.cells #[.string qm, .string qt, .slice fa fs.length fc, .string qb, .slice pa ps.length pc, .int .i64 hk', .int .i64 hst, .string ht, .string hn'] 188)).drew
  have RR : (w1.alloc (.cells #[.string qm, .string qt, .slice fa fs.length fc, .string qb, .slice pa ps.length pc, .int .i64 hk', .int .i64 hst, .string ht, .string hn'] 188)).drew.heap[w1.heap.size]? = some (.cells #[.string qm, .string qt, .slice fa fs.length fc, .string qb, .slice pa ps.length pc, .int .i64 hk', .int .i64 hst, .string ht, .string hn'] 188 (0, 0)) := heap_alloc_new w1 _
  have y22 := cell_later hb12 y2
  have A2 := A1.below hb12
  generalize hgr : w1.heap.size = gr at *
  have lgr : gr < (w1.alloc (.cells #[.string qm, .string qt, .slice fa fs.length fc, .string qb, .slice pa ps.length pc, .int .i64 hk', .int .i64 hst, .string ht, .string hn'] 188)).drew.heap.size := by
    rw [← hgr]; simp
  generalize (w1.alloc (.cells #[.string qm, .string qt, .slice fa fs.length fc, .string qb, .slice pa ps.length pc, .int .i64 hk', .int .i64 hst, .string ht, .string hn'] 188)).drew = w2 at *
  have r0 : w2.cell? ⟨gr, 0, none⟩ = some (.string qm) := (Lib.cell_of_heap RR 0).trans rfl
  have r1 : w2.cell? ⟨gr, 1, none⟩ = some (.string qt) := (Lib.cell_of_heap RR 1).trans rfl
  have r2 : w2.cell? ⟨gr, 2, none⟩ = some (.slice fa fs.length fc) := (Lib.cell_of_heap RR 2).trans rfl
  have r3 : w2.cell? ⟨gr, 3, none⟩ = some (.string qb) := (Lib.cell_of_heap RR 3).trans rfl
  have r4 : w2.cell? ⟨gr, 4, none⟩ = some (.slice pa ps.length pc) := (Lib.cell_of_heap RR 4).trans rfl
  have r5 : w2.cell? ⟨gr, 5, none⟩ = some (.int .i64 hk') := (Lib.cell_of_heap RR 5).trans rfl
  have r6 : w2.cell? ⟨gr, 6, none⟩ = some (.int .i64 hst) := (Lib.cell_of_heap RR 6).trans rfl
  have r7 : w2.cell? ⟨gr, 7, none⟩ = some (.string ht) := (Lib.cell_of_heap RR 7).trans rfl
  have r8 : w2.cell? ⟨gr, 8, none⟩ = some (.string hn') := (Lib.cell_of_heap RR 8).trans rfl
  have la2 := A2.lt
  have ls2 := block_lt_of_cell y22
  have HT2 := hid (fun W (hW : Below w2.heap.size w2 W) => HT.out W (bel_of hA2 hW))
  have HA2 := hid A2
  have hb2 := Below.refl w2.heap.size w2
  clear HT RR q0 q1 q2 q3 f0 f1 f2 y1 y2 g0 g1 g2 g3 A1 hb12
  cases G with
  | none =>
    go_region_dies
    all_goals go_wp2_with (go_at_call 97; refine (HT2.out _ hb2.drew).mono ?_; rintro x wA ⟨rfl, hbA⟩; exact ⟨rfl, rfl, bel_of hA2 (bel_of hb2.drew hbA)⟩)
  | some a =>
    have nr : gr ≠ w.heap.size + 1 + 1 := by omega
    have ns : gs ≠ w.heap.size + 1 + 1 := by omega
    have HE := hid (fun (ax : Option Addr) (cx : Nat) (w3 : World) (o3 : w3.ownsRow w2.heap.size 134 2 (.slice ax a.fs.length cx) a.fs.length (prCells a.fs)) (hb3 : Below w2.heap.size w2 w3) => (And.intro (owns_setA (st := a.st) (vv := .slice ax a.fs.length cx) (b := a.b) (cl := false) (owns_base o3 hA2.size) (fun e => by have := own_ge o3 _ e; omega)) (below_setA (st := a.st) (vv := .slice ax a.fs.length cx) (b := a.b) (cl := false) (bel_of hA2 hb3) (by omega)) : (setA (w.heap.size + 1 + 1) a.st (.slice ax a.fs.length cx) a.b false w3).ownsRow w.heap.size 134 2 (.slice ax a.fs.length cx) a.fs.length (prCells a.fs) ∧ Below w.heap.size w (setA (w.heap.size + 1 + 1) a.st (.slice ax a.fs.length cx) a.b false w3)))
    have HKP : Hid (∀ (w3 w4 : World), (∃ vv, w4 = setA (w.heap.size + 1 + 1) a.st vv a.b false w3) → Below w2.heap.size w2 w3 → w4.cell? ⟨gs, 2, none⟩ = some (.slice aw nw cw) ∧ w4.cell? ⟨gr, 0, none⟩ = some (.string qm) ∧ w4.cell? ⟨gr, 1, none⟩ = some (.string qt) ∧ w4.cell? ⟨gr, 2, none⟩ = some (.slice fa fs.length fc) ∧ w4.cell? ⟨gr, 3, none⟩ = some (.string qb) ∧ w4.cell? ⟨gr, 4, none⟩ = some (.slice pa ps.length pc) ∧ w4.cell? ⟨gr, 5, none⟩ = some (.int .i64 hk') ∧ w4.cell? ⟨gr, 6, none⟩ = some (.int .i64 hst) ∧ w4.cell? ⟨gr, 7, none⟩ = some (.string ht) ∧ w4.cell? ⟨gr, 8, none⟩ = some (.string hn')) := by
      rintro w3 w4 ⟨vv, rfl⟩ hb
      exact ⟨(cell_setA ns).trans (cell_later hb y22), (cell_setA nr).trans (cell_later hb r0), (cell_setA nr).trans (cell_later hb r1), (cell_setA nr).trans (cell_later hb r2), (cell_setA nr).trans (cell_later hb r3), (cell_setA nr).trans (cell_later hb r4), (cell_setA nr).trans (cell_later hb r5), (cell_setA nr).trans (cell_later hb r6), (cell_setA nr).trans (cell_later hb r7), (cell_setA nr).trans (cell_later hb r8)⟩
    go_region_held3 (fun W => W.cell? ⟨gs, 2, none⟩ = some (.slice aw nw cw) ∧ W.cell? ⟨gr, 0, none⟩ = some (.string qm) ∧ W.cell? ⟨gr, 1, none⟩ = some (.string qt) ∧ W.cell? ⟨gr, 2, none⟩ = some (.slice fa fs.length fc) ∧ W.cell? ⟨gr, 3, none⟩ = some (.string qb) ∧ W.cell? ⟨gr, 4, none⟩ = some (.slice pa ps.length pc) ∧ W.cell? ⟨gr, 5, none⟩ = some (.int .i64 hk') ∧ W.cell? ⟨gr, 6, none⟩ = some (.int .i64 hst) ∧ W.cell? ⟨gr, 7, none⟩ = some (.string ht) ∧ W.cell? ⟨gr, 8, none⟩ = some (.string hn')) (first | exact HKEEP.out | go_keep)
      (first | (go_at_call 97; refine (HT2.out _ hb2.drew).mono ?_; rintro x w3 ⟨⟨vv, rfl, ow⟩, hb3⟩; obtain ⟨ax, cx, rfl⟩ := sl_of ow; have hbD := bel_of hb2.drew hb3; have o3 := owns_base ow hb2.drew.size; have A3 := HA2.out.below hbD; obtain ⟨c0, c1, c2, c3⟩ := A3.cells; have f0 := A3.free 0; have f1 := A3.free 1; have f2 := A3.free 2; have f3 := A3.free 3; have l3 := A3.lt; obtain ⟨d0, d1, d2, d3⟩ := (A3.set a.st (.slice ax a.fs.length cx) a.b false).cells; have HF := hid (HE.out ax cx w3 o3 hbD); have z0 := cell_later hbD r0; have z1 := cell_later hbD r1; have z2 := cell_later hbD r2; have z3 := cell_later hbD r3; have z4 := cell_later hbD r4; have z5 := cell_later hbD r5; have z6 := cell_later hbD r6; have z7 := cell_later hbD r7; have z8 := cell_later hbD r8; have zs := cell_later hbD y22; have HKEEP := hid (HKP.out w3 (setA (w.heap.size + 1 + 1) a.st (.slice ax a.fs.length cx) a.b false w3) ⟨_, rfl⟩ hbD); unfold setA at d0 d1 d2 d3 HKEEP; clear ow o3))
    all_goals clear HT2 HE HKP A2
    all_goals go_wp2_with fail
    all_goals
      refine bodyPost_ret (v := .agg #[.int .i64 a.st, .slice ax a.fs.length cx, .string a.b, .bool false]) (by simp [results, Tryz.results60, go_sem, d0, d1, d2, d3]) rfl ?_
      exact ⟨⟨_, rfl, HF.out.1⟩, HF.out.2⟩
end Go.Proofs.YtpilfanbfpbldaaGreatDoor

/- Runes and their bytes: what is told apart by the bytes below 128. -/
namespace Go.Proofs.YtpilfanbfpbldaaGreatDoor

theorem decode_span (s : ByteArray) (pos : Nat) (h : pos < s.size) (ha : 128 ≤ (s[pos]'h).toNat) :
    pos + (Utf8.decode s pos).2 ≤ s.size ∧ ∀ j, j < (Utf8.decode s pos).2 → 128 ≤ (s.get! (pos + j)).toNat := by
  have hn : ¬ (s[pos]'h).toNat < 128 := by omega
  have h0 : 128 ≤ (s.get! (pos + 0)).toNat := by rw [get_at s pos h]; exact ha
  have key : ∀ k, (decide (pos + k < s.size) && (s.get! (pos + k)).toNat / 64 == 2) = true → pos + k < s.size ∧ 128 ≤ (s.get! (pos + k)).toNat := by
    intro k hk
    simp only [Bool.and_eq_true, decide_eq_true_eq, beq_iff_eq] at hk
    omega
  have one : pos + 1 ≤ s.size ∧ ∀ j, j < 1 → 128 ≤ (s.get! (pos + j)).toNat := by
    refine ⟨by omega, fun j hj => ?_⟩
    obtain rfl : j = 0 := by omega
    exact h0
  simp only [Utf8.decode, get_at s pos h, hn, if_false]
  repeat' split
  all_goals first | exact one | skip
  · rename_i h1 _
    rw [Bool.and_eq_true] at h1
    have k1 := key 1 h1.2
    refine ⟨by simp only; omega, fun j hj => ?_⟩
    have hj2 : j < 2 := hj
    rcases (show j = 0 ∨ j = 1 by omega) with rfl | rfl
    · exact h0
    · exact k1.2
  · rename_i h1 _
    rw [Bool.and_eq_true, Bool.and_eq_true] at h1
    have k1 := key 1 h1.1.2
    have k2 := key 2 h1.2
    refine ⟨by simp only; omega, fun j hj => ?_⟩
    have hj2 : j < 3 := hj
    rcases (show j = 0 ∨ j = 1 ∨ j = 2 by omega) with rfl | rfl | rfl
    · exact h0
    · exact k1.2
    · exact k2.2
  · rename_i h1 _
    rw [Bool.and_eq_true, Bool.and_eq_true, Bool.and_eq_true] at h1
    have k1 := key 1 h1.1.1.2
    have k2 := key 2 h1.1.2
    have k3 := key 3 h1.2
    refine ⟨by simp only; omega, fun j hj => ?_⟩
    have hj2 : j < 4 := hj
    rcases (show j = 0 ∨ j = 1 ∨ j = 2 ∨ j = 3 by omega) with rfl | rfl | rfl | rfl
    · exact h0
    · exact k1.2
    · exact k2.2
    · exact k3.2
theorem decode_valid (s : ByteArray) (pos : Nat) (h : pos < s.size) (ha : 128 ≤ (s[pos]'h).toNat) : Utf8.valid (Utf8.decode s pos).1 = true := by
  have hn : ¬ (s[pos]'h).toNat < 128 := by omega
  have hb : ∀ k, (s.get! (pos + k)).toNat < 256 := fun k => (s.get! (pos + k)).toNat_lt
  have b0 := hb 0
  have b1 := hb 1
  rw [get_at s pos h] at b0
  have e : Utf8.valid ((Utf8.runeError : Nat) : Int) = true := by decide
  simp only [Utf8.decode, get_at s pos h, hn, if_false]
  repeat' split
  all_goals first | (with_reducible exact e) | skip
  · rename_i h1 h2
    rw [Bool.and_eq_true] at h1
    have h3 : (s[pos]'h).toNat / 32 = 6 := by simpa using h1.1
    simp only [Utf8.valid, Bool.or_eq_true, Bool.and_eq_true, decide_eq_true_eq]
    left
    omega
  · rename_i h1 h2
    rw [Bool.and_eq_true] at h2
    exact h2.2
  · rename_i h1 h2
    rw [Bool.and_eq_true] at h2
    exact h2.2
theorem encode_high (r : Nat) (h : 128 ≤ r) (hv : Utf8.valid (r : Int) = true) :
    (∃ a b : UInt8, 128 ≤ b.toNat ∧ Utf8.encode (r : Int) = ⟨#[a, b]⟩) ∨ (∃ a b c : UInt8, 128 ≤ c.toNat ∧ Utf8.encode (r : Int) = ⟨#[a, b, c]⟩) ∨ (∃ a b c d : UInt8, 128 ≤ d.toNat ∧ Utf8.encode (r : Int) = ⟨#[a, b, c, d]⟩) := by
  have hl : ∀ x : Nat, 128 ≤ (UInt8.ofNat (128 + x % 64)).toNat := fun x => by
    rw [UInt8.toNat_ofNat']
    have : x % 64 < 64 := Nat.mod_lt _ (by decide)
    rw [Nat.mod_eq_of_lt (by omega)]
    omega
  have hn : ¬ r < 128 := by omega
  unfold Utf8.encode
  simp only [hv, if_true, Int.toNat_natCast, hn, if_false]
  by_cases h1 : r < 2048
  · left
    exact ⟨_, _, hl r, by rw [if_pos h1]⟩
  · rw [if_neg h1]
    by_cases h2 : r < 65536
    · right; left
      exact ⟨_, _, _, hl r, by rw [if_pos h2]⟩
    · right; right
      exact ⟨_, _, _, _, hl r, by rw [if_neg h2]⟩
end Go.Proofs.YtpilfanbfpbldaaGreatDoor
