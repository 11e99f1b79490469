/- Texts that follow one another, joined. -/
import Derived.Test.YtbphabgjhoifbaaGreatDoorJoin17
import Derived.RegionDies
import Derived.Test.YtbphabgjhoifbaaGreatDoorJoin18
import Derived.Test.YtbphabgjhoifbaaGreatDoorJoin16
/- The rest of the wares, from within. -/
namespace Go.Proofs.YtbphabgjhoifbaaGreatDoor
open Go.RowKit

set_option maxRecDepth 100000 in
set_option maxHeartbeats 8000000 in
theorem inside_one (r : Rn) (g1 g2 g o : Nat) (G : Option An) (w : World) (R : RnB g1 r w) (hs : w.cell? ⟨g2, 0, none⟩ = some (.slice (some ⟨g, o, none⟩) 1 1)) (HIN : ∀ W, Below w.heap.size w W → Calls Tryz.prog 84 #[.agg r.vals, .slice (some ⟨g, o, none⟩) 0 0] W (ThPost G W)) :
    Calls Tryz.prog 118 #[.pointer (some ⟨g1, 0, none⟩), .pointer (some ⟨g2, 0, none⟩)] w (ThPost G w) := by
  have hA := (Below.refl w.heap.size w).alloc (Nat.le_refl _) (.cells #[.int .i64 0, .slice none 0 0, .string ⟨#[]⟩, .bool false] 64)
  have A1 : AnB w.heap.size 0 (.slice none 0 0) ⟨#[]⟩ false (w.alloc (.cells #[.int .i64 0, .slice none 0 0, .string ⟨#[]⟩, .bool false] 64)) := heap_alloc_new w _
  have R1 := R.below hA
  have s1 := cell_later hA hs
  have HI := hid HIN
  obtain ⟨r0, r1, r2, r3, r4, r5, r6, r7, r8⟩ := R1.cells
  have lr := R1.lt
  have lr0 := R.lt
  have ls := block_lt_of_cell s1
  have ls0 := block_lt_of_cell hs
  clear HIN R1 R hs
  obtain ⟨qm, qt, qb, fs, fa, fc, ps, pa, pc, ⟨hk', hst, ht, hn'⟩⟩ := r
  simp only [Rn.vals] at *
  go_enter Tryz.func118, Tryz.ntmps118
  go_upto_region 1 with fail
  generalize w.alloc (.cells #[.int .i64 0, .slice none 0 0, .string ⟨#[]⟩, .bool false] 64) = w1 at *
  have la := A1.lt
  have HI1 := hid (fun W (hW : Below w1.heap.size w1 W) => HI.out W (bel_of hA hW))
  have HA1 := hid A1
  have hb1 := Below.refl w1.heap.size w1
  clear HI
  cases G with
  | none =>
    go_region_dies
    all_goals go_wp2_with (go_at_call 84; refine (HI1.out _ hb1.drew).mono ?_; rintro x wA ⟨rfl, hbA⟩; exact ⟨rfl, rfl, bel_of hA (bel_of hb1.drew hbA)⟩)
  | some a =>
    have nr : g1 ≠ w.heap.size := by omega
    have ns : g2 ≠ w.heap.size := by omega
    have HE := hid (fun (ax : Option Addr) (cx : Nat) (w3 : World) (o3 : w3.ownsRow w1.heap.size 133 2 (.slice ax a.fs.length cx) a.fs.length (prCells a.fs)) (hb3 : Below w1.heap.size w1 w3) => (And.intro (owns_setA (st := a.st) (vv := .slice ax a.fs.length cx) (b := a.b) (cl := false) (owns_base o3 hA.size) (fun e => by have := own_ge o3 _ e; omega)) (below_setA (st := a.st) (vv := .slice ax a.fs.length cx) (b := a.b) (cl := false) (bel_of hA hb3) (Nat.le_refl w.heap.size)) : (setA w.heap.size a.st (.slice ax a.fs.length cx) a.b false w3).ownsRow w.heap.size 133 2 (.slice ax a.fs.length cx) a.fs.length (prCells a.fs) ∧ Below w.heap.size w (setA w.heap.size a.st (.slice ax a.fs.length cx) a.b false w3)))
    have HKP : Hid (∀ (w3 w4 : World), (∃ vv, w4 = setA w.heap.size a.st vv a.b false w3) → Below w1.heap.size w1 w3 → w4.cell? ⟨g2, 0, none⟩ = some (.slice (some ⟨g, o, none⟩) 1 1) ∧ w4.cell? ⟨g1, 0, none⟩ = some (.string qm) ∧ w4.cell? ⟨g1, 1, none⟩ = some (.string qt) ∧ w4.cell? ⟨g1, 2, none⟩ = some (.slice fa fs.length fc) ∧ w4.cell? ⟨g1, 3, none⟩ = some (.string qb) ∧ w4.cell? ⟨g1, 4, none⟩ = some (.slice pa ps.length pc) ∧ w4.cell? ⟨g1, 5, none⟩ = some (.int .i64 hk') ∧ w4.cell? ⟨g1, 6, none⟩ = some (.int .i64 hst) ∧ w4.cell? ⟨g1, 7, none⟩ = some (.string ht) ∧ w4.cell? ⟨g1, 8, none⟩ = some (.string hn')) := by
      rintro w3 w4 ⟨vv, rfl⟩ hb
      exact ⟨(cell_setA ns).trans (cell_later hb s1), (cell_setA nr).trans (cell_later hb r0), (cell_setA nr).trans (cell_later hb r1), (cell_setA nr).trans (cell_later hb r2), (cell_setA nr).trans (cell_later hb r3), (cell_setA nr).trans (cell_later hb r4), (cell_setA nr).trans (cell_later hb r5), (cell_setA nr).trans (cell_later hb r6), (cell_setA nr).trans (cell_later hb r7), (cell_setA nr).trans (cell_later hb r8)⟩
    go_region_held3 (fun W => W.cell? ⟨g2, 0, none⟩ = some (.slice (some ⟨g, o, none⟩) 1 1) ∧ W.cell? ⟨g1, 0, none⟩ = some (.string qm) ∧ W.cell? ⟨g1, 1, none⟩ = some (.string qt) ∧ W.cell? ⟨g1, 2, none⟩ = some (.slice fa fs.length fc) ∧ W.cell? ⟨g1, 3, none⟩ = some (.string qb) ∧ W.cell? ⟨g1, 4, none⟩ = some (.slice pa ps.length pc) ∧ W.cell? ⟨g1, 5, none⟩ = some (.int .i64 hk') ∧ W.cell? ⟨g1, 6, none⟩ = some (.int .i64 hst) ∧ W.cell? ⟨g1, 7, none⟩ = some (.string ht) ∧ W.cell? ⟨g1, 8, none⟩ = some (.string hn')) (first | go_keep | exact HKEEP.out)
      (first | (go_at_call 84; refine (HI1.out _ hb1.drew).mono ?_; rintro x w3 ⟨⟨vv, rfl, ow⟩, hb3⟩; obtain ⟨ax, cx, rfl⟩ := sl_of ow; have hbD := bel_of hb1.drew hb3; have o3 := owns_base ow hb1.drew.size; have A3 := HA1.out.below hbD; obtain ⟨c0, c1, c2, c3⟩ := A3.cells; have f0 := A3.free 0; have f1 := A3.free 1; have f2 := A3.free 2; have f3 := A3.free 3; have l3 := A3.lt; obtain ⟨d0, d1, d2, d3⟩ := (A3.set a.st (.slice ax a.fs.length cx) a.b false).cells; have HF := hid (HE.out ax cx w3 o3 hbD); have z0 := cell_later hbD r0; have z1 := cell_later hbD r1; have z2 := cell_later hbD r2; have z3 := cell_later hbD r3; have z4 := cell_later hbD r4; have z5 := cell_later hbD r5; have z6 := cell_later hbD r6; have z7 := cell_later hbD r7; have z8 := cell_later hbD r8; have zs := cell_later hbD s1; have HKEEP := hid (HKP.out w3 (setA w.heap.size a.st (.slice ax a.fs.length cx) a.b false w3) ⟨_, rfl⟩ hbD); unfold setA at d0 d1 d2 d3 HKEEP; clear ow o3))
    all_goals clear HI1 HE HKP A1
    all_goals go_wp2_with fail
    all_goals
      refine bodyPost_ret (v := .agg #[.int .i64 a.st, .slice ax a.fs.length cx, .string a.b, .bool false]) (by simp [results, Tryz.results118, go_sem, d0, d1, d2, d3]) rfl ?_
      exact ⟨⟨_, rfl, HF.out.1⟩, HF.out.2⟩
set_option maxRecDepth 100000 in
set_option maxHeartbeats 8000000 in
theorem inside_more (r : Rn) (g1 g2 g o n c : Nat) (G : Option An) (w : World) (R : RnB g1 r w) (hs : w.cell? ⟨g2, 0, none⟩ = some (.slice (some ⟨g, o, none⟩) (n + 1) c)) (hc : n + 1 ≤ c) (hn : n ≤ 1000000) (hc1 : ¬ c = 1) (HIN : ∀ W, Below w.heap.size w W → Calls Tryz.prog 84 #[.agg r.vals, .slice (some ⟨g, o + 4, none⟩) n (c - 1)] W (ThPost G W)) :
    Calls Tryz.prog 118 #[.pointer (some ⟨g1, 0, none⟩), .pointer (some ⟨g2, 0, none⟩)] w (ThPost G w) := by
  have hA := (Below.refl w.heap.size w).alloc (Nat.le_refl _) (.cells #[.int .i64 0, .slice none 0 0, .string ⟨#[]⟩, .bool false] 64)
  have A1 : AnB w.heap.size 0 (.slice none 0 0) ⟨#[]⟩ false (w.alloc (.cells #[.int .i64 0, .slice none 0 0, .string ⟨#[]⟩, .bool false] 64)) := heap_alloc_new w _
  have R1 := R.below hA
  have s1 := cell_later hA hs
  have HI := hid HIN
  obtain ⟨r0, r1, r2, r3, r4, r5, r6, r7, r8⟩ := R1.cells
  have lr := R1.lt
  have lr0 := R.lt
  have ls := block_lt_of_cell s1
  have ls0 := block_lt_of_cell hs
  have k1 : (1 : Int) ≤ (n : Int) + 1 := by omega
  have k2 : (n : Int) + 1 ≤ (c : Int) := by omega
  clear HIN R1 R hs
  obtain ⟨qm, qt, qb, fs, fa, fc, ps, pa, pc, ⟨hk', hst, ht, hn'⟩⟩ := r
  simp only [Rn.vals] at *
  go_enter Tryz.func118, Tryz.ntmps118
  go_upto_region 1 with fail
  generalize w.alloc (.cells #[.int .i64 0, .slice none 0 0, .string ⟨#[]⟩, .bool false] 64) = w1 at *
  have la := A1.lt
  have HI1 := hid (fun W (hW : Below w1.heap.size w1 W) => HI.out W (bel_of hA hW))
  have HA1 := hid A1
  have hb1 := Below.refl w1.heap.size w1
  clear HI
  cases G with
  | none =>
    go_region_dies
    all_goals go_wp2_with (go_at_call 84; refine (HI1.out _ hb1.drew).mono ?_; rintro x wA ⟨rfl, hbA⟩; exact ⟨rfl, rfl, bel_of hA (bel_of hb1.drew hbA)⟩)
  | some a =>
    have nr : g1 ≠ w.heap.size := by omega
    have ns : g2 ≠ w.heap.size := by omega
    have HE := hid (fun (ax : Option Addr) (cx : Nat) (w3 : World) (o3 : w3.ownsRow w1.heap.size 133 2 (.slice ax a.fs.length cx) a.fs.length (prCells a.fs)) (hb3 : Below w1.heap.size w1 w3) => (And.intro (owns_setA (st := a.st) (vv := .slice ax a.fs.length cx) (b := a.b) (cl := false) (owns_base o3 hA.size) (fun e => by have := own_ge o3 _ e; omega)) (below_setA (st := a.st) (vv := .slice ax a.fs.length cx) (b := a.b) (cl := false) (bel_of hA hb3) (Nat.le_refl w.heap.size)) : (setA w.heap.size a.st (.slice ax a.fs.length cx) a.b false w3).ownsRow w.heap.size 133 2 (.slice ax a.fs.length cx) a.fs.length (prCells a.fs) ∧ Below w.heap.size w (setA w.heap.size a.st (.slice ax a.fs.length cx) a.b false w3)))
    have HKP : Hid (∀ (w3 w4 : World), (∃ vv, w4 = setA w.heap.size a.st vv a.b false w3) → Below w1.heap.size w1 w3 → w4.cell? ⟨g2, 0, none⟩ = some (.slice (some ⟨g, o, none⟩) (n + 1) c) ∧ w4.cell? ⟨g1, 0, none⟩ = some (.string qm) ∧ w4.cell? ⟨g1, 1, none⟩ = some (.string qt) ∧ w4.cell? ⟨g1, 2, none⟩ = some (.slice fa fs.length fc) ∧ w4.cell? ⟨g1, 3, none⟩ = some (.string qb) ∧ w4.cell? ⟨g1, 4, none⟩ = some (.slice pa ps.length pc) ∧ w4.cell? ⟨g1, 5, none⟩ = some (.int .i64 hk') ∧ w4.cell? ⟨g1, 6, none⟩ = some (.int .i64 hst) ∧ w4.cell? ⟨g1, 7, none⟩ = some (.string ht) ∧ w4.cell? ⟨g1, 8, none⟩ = some (.string hn')) := by
      rintro w3 w4 ⟨vv, rfl⟩ hb
      exact ⟨(cell_setA ns).trans (cell_later hb s1), (cell_setA nr).trans (cell_later hb r0), (cell_setA nr).trans (cell_later hb r1), (cell_setA nr).trans (cell_later hb r2), (cell_setA nr).trans (cell_later hb r3), (cell_setA nr).trans (cell_later hb r4), (cell_setA nr).trans (cell_later hb r5), (cell_setA nr).trans (cell_later hb r6), (cell_setA nr).trans (cell_later hb r7), (cell_setA nr).trans (cell_later hb r8)⟩
    go_region_held3 (fun W => W.cell? ⟨g2, 0, none⟩ = some (.slice (some ⟨g, o, none⟩) (n + 1) c) ∧ W.cell? ⟨g1, 0, none⟩ = some (.string qm) ∧ W.cell? ⟨g1, 1, none⟩ = some (.string qt) ∧ W.cell? ⟨g1, 2, none⟩ = some (.slice fa fs.length fc) ∧ W.cell? ⟨g1, 3, none⟩ = some (.string qb) ∧ W.cell? ⟨g1, 4, none⟩ = some (.slice pa ps.length pc) ∧ W.cell? ⟨g1, 5, none⟩ = some (.int .i64 hk') ∧ W.cell? ⟨g1, 6, none⟩ = some (.int .i64 hst) ∧ W.cell? ⟨g1, 7, none⟩ = some (.string ht) ∧ W.cell? ⟨g1, 8, none⟩ = some (.string hn')) (first | go_keep | exact HKEEP.out)
      (first | (go_at_call 84; refine (HI1.out _ hb1.drew).mono ?_; rintro x w3 ⟨⟨vv, rfl, ow⟩, hb3⟩; obtain ⟨ax, cx, rfl⟩ := sl_of ow; have hbD := bel_of hb1.drew hb3; have o3 := owns_base ow hb1.drew.size; have A3 := HA1.out.below hbD; obtain ⟨c0, c1, c2, c3⟩ := A3.cells; have f0 := A3.free 0; have f1 := A3.free 1; have f2 := A3.free 2; have f3 := A3.free 3; have l3 := A3.lt; obtain ⟨d0, d1, d2, d3⟩ := (A3.set a.st (.slice ax a.fs.length cx) a.b false).cells; have HF := hid (HE.out ax cx w3 o3 hbD); have z0 := cell_later hbD r0; have z1 := cell_later hbD r1; have z2 := cell_later hbD r2; have z3 := cell_later hbD r3; have z4 := cell_later hbD r4; have z5 := cell_later hbD r5; have z6 := cell_later hbD r6; have z7 := cell_later hbD r7; have z8 := cell_later hbD r8; have zs := cell_later hbD s1; have HKEEP := hid (HKP.out w3 (setA w.heap.size a.st (.slice ax a.fs.length cx) a.b false w3) ⟨_, rfl⟩ hbD); unfold setA at d0 d1 d2 d3 HKEEP; clear ow o3))
    all_goals clear HI1 HE HKP A1
    all_goals go_wp2_with fail
    all_goals
      refine bodyPost_ret (v := .agg #[.int .i64 a.st, .slice ax a.fs.length cx, .string a.b, .bool false]) (by simp [results, Tryz.results118, go_sem, d0, d1, d2, d3]) rfl ?_
      exact ⟨⟨_, rfl, HF.out.1⟩, HF.out.2⟩
theorem inside_any (r : Rn) (g1 g2 g o n c : Nat) (G : Option An) (w : World) (R : RnB g1 r w) (hs : w.cell? ⟨g2, 0, none⟩ = some (.slice (some ⟨g, o, none⟩) (n + 1) c)) (hc : n + 1 ≤ c) (hn : n ≤ 1000000) (HIN : ∀ W, Below w.heap.size w W → Calls Tryz.prog 84 #[.agg r.vals, .slice (if c = 1 then some ⟨g, o, none⟩ else some ⟨g, o + 4, none⟩) n (c - 1)] W (ThPost G W)) :
    Calls Tryz.prog 118 #[.pointer (some ⟨g1, 0, none⟩), .pointer (some ⟨g2, 0, none⟩)] w (ThPost G w) := by
  by_cases hc1 : c = 1
  · subst hc1
    obtain rfl : n = 0 := by omega
    exact inside_one r g1 g2 g o G w R hs HIN
  · refine inside_more r g1 g2 g o n c G w R hs hc hn hc1 (fun W hW => ?_)
    have := HIN W hW
    rw [if_neg hc1] at this
    exact this
end Go.Proofs.YtbphabgjhoifbaaGreatDoor

/- Through all wares. -/
namespace Go.Proofs.YtbphabgjhoifbaaGreatDoor
open Go.RowKit

theorem through_mem (r : Rn) (v : Value) (w : World) : Below w.heap.size w (((w.alloc (.cells r.vals 166)).alloc (.cells #[v] 25)).alloc (.cells #[.int .i64 0, .slice none 0 0, .string ⟨#[]⟩, .bool false] 64)) ∧ RnB w.heap.size r (((w.alloc (.cells r.vals 166)).alloc (.cells #[v] 25)).alloc (.cells #[.int .i64 0, .slice none 0 0, .string ⟨#[]⟩, .bool false] 64)) ∧ (((w.alloc (.cells r.vals 166)).alloc (.cells #[v] 25)).alloc (.cells #[.int .i64 0, .slice none 0 0, .string ⟨#[]⟩, .bool false] 64)).cell? ⟨w.heap.size + 1, 0, none⟩ = some v ∧ AnB (w.heap.size + 1 + 1) 0 (.slice none 0 0) ⟨#[]⟩ false (((w.alloc (.cells r.vals 166)).alloc (.cells #[v] 25)).alloc (.cells #[.int .i64 0, .slice none 0 0, .string ⟨#[]⟩, .bool false] 64)) := by
  have hA1 := (Below.refl w.heap.size w).alloc (Nat.le_refl _) (.cells r.vals 166)
  have hA2 := hA1.alloc hA1.size (.cells #[v] 25)
  have hA := hA2.alloc hA2.size (.cells #[.int .i64 0, .slice none 0 0, .string ⟨#[]⟩, .bool false] 64)
  have z1 : (w.alloc (.cells r.vals 166)).heap.size = w.heap.size + 1 := by simp
  have z2 : ((w.alloc (.cells r.vals 166)).alloc (.cells #[v] 25)).heap.size = w.heap.size + 1 + 1 := by simp
  have b1 : Below (w.alloc (.cells r.vals 166)).heap.size (w.alloc (.cells r.vals 166)) ((w.alloc (.cells r.vals 166)).alloc (.cells #[v] 25)) := (Below.refl _ _).alloc (Nat.le_refl _) _
  have b2 : Below ((w.alloc (.cells r.vals 166)).alloc (.cells #[v] 25)).heap.size ((w.alloc (.cells r.vals 166)).alloc (.cells #[v] 25)) (((w.alloc (.cells r.vals 166)).alloc (.cells #[v] 25)).alloc (.cells #[.int .i64 0, .slice none 0 0, .string ⟨#[]⟩, .bool false] 64)) := (Below.refl _ _).alloc (Nat.le_refl _) _
  have R0 : RnB w.heap.size r (w.alloc (.cells r.vals 166)) := heap_alloc_new w _
  have X0 : ((w.alloc (.cells r.vals 166)).alloc (.cells #[v] 25)).cell? ⟨w.heap.size + 1, 0, none⟩ = some v := by
    have h := heap_alloc_new (w.alloc (.cells r.vals 166)) (.cells #[v] 25)
    rw [z1] at h; rw [Lib.cell_of_heap h]; rfl
  have A0 : AnB (w.heap.size + 1 + 1) 0 (.slice none 0 0) ⟨#[]⟩ false (((w.alloc (.cells r.vals 166)).alloc (.cells #[v] 25)).alloc (.cells #[.int .i64 0, .slice none 0 0, .string ⟨#[]⟩, .bool false] 64)) := by
    have h := heap_alloc_new ((w.alloc (.cells r.vals 166)).alloc (.cells #[v] 25)) (.cells #[.int .i64 0, .slice none 0 0, .string ⟨#[]⟩, .bool false] 64)
    rw [z2] at h; exact h
  exact ⟨hA, (R0.below b1).below b2, cell_later b2 X0, A0⟩
set_option maxRecDepth 100000 in
set_option maxHeartbeats 8000000 in
theorem through_nil (r : Rn) (a : Option Addr) (c : Nat) (w : World) (hr : RnAt r w) :
    Calls Tryz.prog 84 #[.agg r.vals, .slice a 0 c] w (ThPost (handG r.h r.qb r.ps) w) := by
  obtain ⟨hA, R1, s1, A1⟩ := through_mem r (.slice a 0 c) w
  have HH := hid (fun W (hW : Below w.heap.size w W) => handle_any r W (hr.below hW))
  generalize handG r.h r.qb r.ps = G at *
  obtain ⟨r0, r1, r2, r3, r4, r5, r6, r7, r8⟩ := R1.cells
  have lr := R1.lt
  clear hr R1
  obtain ⟨qm, qt, qb, fs, fa, fc, ps, pa, pc, ⟨hk', hst, ht, hn⟩⟩ := r
  simp only [Rn.vals] at *
  go_enter Tryz.func84, Tryz.ntmps84
  go_upto_region 2 with fail
  generalize ((w.alloc (.cells #[.string qm, .string qt, .slice fa fs.length fc, .string qb, .slice pa ps.length pc, .int .i64 hk', .int .i64 hst, .string ht, .string hn] 166)).alloc (.cells #[.slice a 0 c] 25)).alloc (.cells #[.int .i64 0, .slice none 0 0, .string ⟨#[]⟩, .bool false] 64) = w1 at *
  have HEND := hid (HH.out w1 hA)
  have la := A1.lt
  clear HH
  go_wp2_with fail
  refine HEND.out.mono ?_
  cases G with
  | none =>
    rintro x w2 ⟨rfl, hb2⟩
    exact ⟨rfl, rfl, bel_of hA hb2⟩
  | some a =>
    rintro x w2 ⟨⟨vv, rfl, ow⟩, hb2⟩
    have A2 := A1.below hb2
    have hB2 := bel_of hA hb2
    have hno : vv.ownBlock ≠ some (w.heap.size + 1 + 1) := fun e => by have := own_ge ow _ e; omega
    have HO := hid (owns_base ow hA.size)
    obtain ⟨ax, cx, rfl⟩ := sl_of ow
    obtain ⟨c0, c1, c2, c3⟩ := A2.cells
    have f0 := A2.free 0
    have f1 := A2.free 1
    have f2 := A2.free 2
    have f3 := A2.free 3
    have l2 := A2.lt
    obtain ⟨d0, d1, d2, d3⟩ := (A2.set a.st (.slice ax a.fs.length cx) a.b false).cells
    have HF : Hid ((setA (w.heap.size + 1 + 1) a.st (.slice ax a.fs.length cx) a.b false w2).ownsRow w.heap.size 133 2 (.slice ax a.fs.length cx) a.fs.length (prCells a.fs) ∧ Below w.heap.size w (setA (w.heap.size + 1 + 1) a.st (.slice ax a.fs.length cx) a.b false w2)) := ⟨owns_setA HO.out hno, below_setA hB2 (by omega)⟩
    unfold setA at d0 d1 d2 d3
    clear ow HO A1
    go_wp2_with fail
    refine bodyPost_ret (v := .agg #[.int .i64 a.st, .slice ax a.fs.length cx, .string a.b, .bool false]) (by simp [results, Tryz.results84, go_sem, d0, d1, d2, d3]) rfl ?_
    exact ⟨⟨_, rfl, HF.out.1⟩, HF.out.2⟩
end Go.Proofs.YtbphabgjhoifbaaGreatDoor

/- Through the first ware and the rest. -/
namespace Go.Proofs.YtbphabgjhoifbaaGreatDoor
open Go.RowKit

set_option maxRecDepth 100000 in
set_option maxHeartbeats 16000000 in
theorem through_cons (r : Rn) (x : Wr) (g o n c : Nat) (G : Option An) (w : World) (h0 : w.cell? ⟨g, o, none⟩ = some (.int .i64 x.k)) (h1 : w.cell? ⟨g, o + 1, none⟩ = some (.string x.n)) (h2 : w.cell? ⟨g, o + 2, none⟩ = some (.string x.v)) (h3 : w.cell? ⟨g, o + 3, none⟩ = some (.int .i64 x.lim)) (hn : n ≤ 1000000)
    (HAR : ∀ W, Below w.heap.size w W → RnB w.heap.size r W → W.cell? ⟨w.heap.size + 1, 0, none⟩ = some (.slice (some ⟨g, o, none⟩) (n + 1) c) → Calls Tryz.prog 117 #[.agg r.vals, .agg #[.int .i64 x.k, .string x.n, .string x.v, .int .i64 x.lim], .func (.func 118) #[] #[.pointer (some ⟨w.heap.size, 0, none⟩), .pointer (some ⟨w.heap.size + 1, 0, none⟩)]] W (ThPost G W)) :
    Calls Tryz.prog 84 #[.agg r.vals, .slice (some ⟨g, o, none⟩) (n + 1) c] w (ThPost G w) := by
  obtain ⟨hA, R1, s1, A1⟩ := through_mem r (.slice (some ⟨g, o, none⟩) (n + 1) c) w
  have HA := hid (HAR _ (hA.drew) (by have := R1; unfold RnB at *; exact this) s1)
  clear HAR
  obtain ⟨r0, r1, r2, r3, r4, r5, r6, r7, r8⟩ := R1.cells
  have lr := R1.lt
  have ls := block_lt_of_cell s1
  have y0 := cell_later hA h0
  have y1 := cell_later hA h1
  have y2 := cell_later hA h2
  have y3 := cell_later hA h3
  have lg := block_lt_of_cell h0
  have lg1 := block_lt_of_cell y0
  have k0 : (0 : Int) < (n : Int) + 1 := by omega
  have k1 : ((n : Int) + 1 == 0) = false := by have : (n : Int) + 1 ≠ 0 := by omega
                                               simpa using this
  have k2 : ¬ ((n : Int) + 1 = 0) := by omega
  clear R1 h0 h1 h2 h3
  obtain ⟨qm, qt, qb, fs, fa, fc, ps, pa, pc, ⟨hk', hst, ht, hn'⟩⟩ := r
  obtain ⟨xk, xn, xv, xl⟩ := x
  simp only [Rn.vals] at *
  go_enter Tryz.func84, Tryz.ntmps84
  go_upto_region 3 with fail
  generalize ((w.alloc (.cells #[.string qm, .string qt, .slice fa fs.length fc, .string qb, .slice pa ps.length pc, .int .i64 hk', .int .i64 hst, .string ht, .string hn'] 166)).alloc (.cells #[.slice (some ⟨g, o, none⟩) (n + 1) c] 25)).alloc (.cells #[.int .i64 0, .slice none 0 0, .string ⟨#[]⟩, .bool false] 64) = w1 at *
  have la := A1.lt
  have HA1 := hid A1
  have hb1 := Below.refl w1.heap.size w1
  cases G with
  | none =>
    go_region_dies
    all_goals go_wp2_with (go_at_call 117; refine HA.out.mono ?_; rintro x wA ⟨rfl, hbA⟩; exact ⟨rfl, rfl, bel_of hA (bel_of hb1.drew hbA)⟩)
  | some a =>
    have nr : w.heap.size ≠ w.heap.size + 1 + 1 := by omega
    have ns : w.heap.size + 1 ≠ w.heap.size + 1 + 1 := by omega
    have ng : g ≠ w.heap.size + 1 + 1 := by omega
    have HE := hid (fun (ax : Option Addr) (cx : Nat) (w3 : World) (o3 : w3.ownsRow w1.heap.size 133 2 (.slice ax a.fs.length cx) a.fs.length (prCells a.fs)) (hb3 : Below w1.heap.size w1 w3) => (And.intro (owns_setA (st := a.st) (vv := .slice ax a.fs.length cx) (b := a.b) (cl := false) (owns_base o3 hA.size) (fun e => by have := own_ge o3 _ e; omega)) (below_setA (st := a.st) (vv := .slice ax a.fs.length cx) (b := a.b) (cl := false) (bel_of hA hb3) (by omega)) : (setA (w.heap.size + 1 + 1) a.st (.slice ax a.fs.length cx) a.b false w3).ownsRow w.heap.size 133 2 (.slice ax a.fs.length cx) a.fs.length (prCells a.fs) ∧ Below w.heap.size w (setA (w.heap.size + 1 + 1) a.st (.slice ax a.fs.length cx) a.b false w3)))
    have HKP : Hid (∀ (w3 w4 : World), (∃ vv, w4 = setA (w.heap.size + 1 + 1) a.st vv a.b false w3) → Below w1.heap.size w1 w3 → w4.cell? ⟨w.heap.size + 1, 0, none⟩ = some (.slice (some ⟨g, o, none⟩) (n + 1) c) ∧ w4.cell? ⟨w.heap.size, 0, none⟩ = some (.string qm) ∧ w4.cell? ⟨w.heap.size, 1, none⟩ = some (.string qt) ∧ w4.cell? ⟨w.heap.size, 2, none⟩ = some (.slice fa fs.length fc) ∧ w4.cell? ⟨w.heap.size, 3, none⟩ = some (.string qb) ∧ w4.cell? ⟨w.heap.size, 4, none⟩ = some (.slice pa ps.length pc) ∧ w4.cell? ⟨w.heap.size, 5, none⟩ = some (.int .i64 hk') ∧ w4.cell? ⟨w.heap.size, 6, none⟩ = some (.int .i64 hst) ∧ w4.cell? ⟨w.heap.size, 7, none⟩ = some (.string ht) ∧ w4.cell? ⟨w.heap.size, 8, none⟩ = some (.string hn') ∧ w4.cell? ⟨g, o, none⟩ = some (.int .i64 xk) ∧ w4.cell? ⟨g, o + 1, none⟩ = some (.string xn) ∧ w4.cell? ⟨g, o + 2, none⟩ = some (.string xv) ∧ w4.cell? ⟨g, o + 3, none⟩ = some (.int .i64 xl)) := by
      rintro w3 w4 ⟨vv, rfl⟩ hb
      exact ⟨(cell_setA ns).trans (cell_later hb s1), (cell_setA nr).trans (cell_later hb r0), (cell_setA nr).trans (cell_later hb r1), (cell_setA nr).trans (cell_later hb r2), (cell_setA nr).trans (cell_later hb r3), (cell_setA nr).trans (cell_later hb r4), (cell_setA nr).trans (cell_later hb r5), (cell_setA nr).trans (cell_later hb r6), (cell_setA nr).trans (cell_later hb r7), (cell_setA nr).trans (cell_later hb r8), (cell_setA ng).trans (cell_later hb y0), (cell_setA ng).trans (cell_later hb y1), (cell_setA ng).trans (cell_later hb y2), (cell_setA ng).trans (cell_later hb y3)⟩
    go_region_held3 (fun W => W.cell? ⟨w.heap.size + 1, 0, none⟩ = some (.slice (some ⟨g, o, none⟩) (n + 1) c) ∧ W.cell? ⟨w.heap.size, 0, none⟩ = some (.string qm) ∧ W.cell? ⟨w.heap.size, 1, none⟩ = some (.string qt) ∧ W.cell? ⟨w.heap.size, 2, none⟩ = some (.slice fa fs.length fc) ∧ W.cell? ⟨w.heap.size, 3, none⟩ = some (.string qb) ∧ W.cell? ⟨w.heap.size, 4, none⟩ = some (.slice pa ps.length pc) ∧ W.cell? ⟨w.heap.size, 5, none⟩ = some (.int .i64 hk') ∧ W.cell? ⟨w.heap.size, 6, none⟩ = some (.int .i64 hst) ∧ W.cell? ⟨w.heap.size, 7, none⟩ = some (.string ht) ∧ W.cell? ⟨w.heap.size, 8, none⟩ = some (.string hn') ∧ W.cell? ⟨g, o, none⟩ = some (.int .i64 xk) ∧ W.cell? ⟨g, o + 1, none⟩ = some (.string xn) ∧ W.cell? ⟨g, o + 2, none⟩ = some (.string xv) ∧ W.cell? ⟨g, o + 3, none⟩ = some (.int .i64 xl)) (first | exact HKEEP.out | go_keep)
      (first | (go_at_call 117; refine HA.out.mono ?_; rintro x w3 ⟨⟨vv, rfl, ow⟩, hb3⟩; obtain ⟨ax, cx, rfl⟩ := sl_of ow; have hbD := bel_of hb1.drew hb3; have o3 := owns_base ow hb1.drew.size; have A3 := HA1.out.below hbD; obtain ⟨c0, c1, c2, c3⟩ := A3.cells; have f0 := A3.free 0; have f1 := A3.free 1; have f2 := A3.free 2; have f3 := A3.free 3; have l3 := A3.lt; obtain ⟨d0, d1, d2, d3⟩ := (A3.set a.st (.slice ax a.fs.length cx) a.b false).cells; have HF := hid (HE.out ax cx w3 o3 hbD); have z0 := cell_later hbD r0; have z1 := cell_later hbD r1; have z2 := cell_later hbD r2; have z3 := cell_later hbD r3; have z4 := cell_later hbD r4; have z5 := cell_later hbD r5; have z6 := cell_later hbD r6; have z7 := cell_later hbD r7; have z8 := cell_later hbD r8; have zs := cell_later hbD s1; have zy0 := cell_later hbD y0; have zy1 := cell_later hbD y1; have zy2 := cell_later hbD y2; have zy3 := cell_later hbD y3; have HKEEP := hid (HKP.out w3 (setA (w.heap.size + 1 + 1) a.st (.slice ax a.fs.length cx) a.b false w3) ⟨_, rfl⟩ hbD); unfold setA at d0 d1 d2 d3 HKEEP; clear ow o3))
    all_goals clear HA HE HKP A1
    all_goals go_wp2_with fail
    all_goals
      refine bodyPost_ret (v := .agg #[.int .i64 a.st, .slice ax a.fs.length cx, .string a.b, .bool false]) (by simp [results, Tryz.results84, go_sem, d0, d1, d2, d3]) rfl ?_
      exact ⟨⟨_, rfl, HF.out.1⟩, HF.out.2⟩
end Go.Proofs.YtbphabgjhoifbaaGreatDoor

/- Through any wares. -/
namespace Go.Proofs.YtbphabgjhoifbaaGreatDoor
open Go.RowKit

theorem through_any (r : Rn) : ∀ (ws : List Wr) (a : Option Addr) (c : Nat) (w : World), MuAt 4 Wr.cells ws a w → ws.length ≤ c → ws.length ≤ 1000000 → 1 + ws.length * (r.fs.length + 1) ≤ 50000000 → RnAt r w →
    Calls Tryz.prog 84 #[.agg r.vals, .slice a ws.length c] w (ThPost (thrG r.fs r.qb r.h r.ps ws) w)
  | [], a, c, w, _, _, _, _, hr => through_nil r a c w hr
  | x :: ws, a, c, w, hm, hc, hl, hz, hr => by
    obtain ⟨g, o, rfl, hg, hcells⟩ := hm 0 (by simp)
    have hlc : (x :: ws).length = ws.length + 1 := rfl
    rw [hlc] at hc hl hz ⊢
    have hz2 : 1 + ws.length * (r.fs.length + 1) ≤ 50000000 := by
      rw [Nat.add_mul] at hz; omega
    have hrest : MuAt 4 Wr.cells ws (if c = 1 then some ⟨g, o, none⟩ else some ⟨g, o + 4, none⟩) w := by
      intro i hi
      have hc1 : ¬ c = 1 := by omega
      rw [if_neg hc1]
      obtain ⟨g', o', e, hg', hcc⟩ := hm (i + 1) (by simp; omega)
      simp only [Option.some.injEq, Addr.mk.injEq, and_true] at e
      obtain ⟨rfl, rfl⟩ := e
      refine ⟨g, o + 4, rfl, hg', fun j v hv => ?_⟩
      have := hcc j v (by simpa using hv)
      rw [show o + 4 + i * 4 + j = o + (i + 1) * 4 + j by omega]
      exact this
    refine through_cons r x g o ws.length c (wareG x r.fs r.qb (thrG r.fs r.qb r.h r.ps ws)) w ?_ ?_ ?_ ?_ (by omega) ?_
    · simpa using hcells 0 (.int .i64 x.k) rfl
    · simpa using hcells 1 (.string x.n) rfl
    · simpa using hcells 2 (.string x.v) rfl
    · simpa using hcells 3 (.int .i64 x.lim) rfl
    · intro W hW R s
      refine around_any r x _ _ _ W (hr.below hW) (fun a e => Nat.le_trans (thrG_le _ _ _ _ ws a e) hz2) (fun W' hW' => ?_)
      have hWW := bel_of hW hW'
      exact inside_any r _ _ g o ws.length c _ W' (R.below hW') (cell_later hW' s) (by omega) (by omega) (fun V hV => through_any r ws _ (c - 1) V (hrest.below (bel_of hWW hV)) (by omega) (by omega) hz2 (hr.below (bel_of hWW hV)))
end Go.Proofs.YtbphabgjhoifbaaGreatDoor

/- What is answered where a route is found. -/
namespace Go.Proofs.YtbphabgjhoifbaaGreatDoor
open Go.RowKit

theorem answer_mem (qm qt qb : ByteArray) (v : Value) (rt : Int) (pv : Value) (al lo : ByteArray) (w : World) : Below w.heap.size w (((w.alloc (.cells #[.string qm, .string qt, v, .string qb] 58)).alloc (.cells #[.int .i64 200, .int .i64 rt, pv, .string al, .string lo] 138)).alloc (.cells #[.int .i64 0, .slice none 0 0, .string ⟨#[]⟩, .bool false] 64)) ∧ (((w.alloc (.cells #[.string qm, .string qt, v, .string qb] 58)).alloc (.cells #[.int .i64 200, .int .i64 rt, pv, .string al, .string lo] 138)).alloc (.cells #[.int .i64 0, .slice none 0 0, .string ⟨#[]⟩, .bool false] 64)).heap[w.heap.size]? = some (.cells #[.string qm, .string qt, v, .string qb] 58 (0, 0)) ∧ (((w.alloc (.cells #[.string qm, .string qt, v, .string qb] 58)).alloc (.cells #[.int .i64 200, .int .i64 rt, pv, .string al, .string lo] 138)).alloc (.cells #[.int .i64 0, .slice none 0 0, .string ⟨#[]⟩, .bool false] 64)).heap[w.heap.size + 1]? = some (.cells #[.int .i64 200, .int .i64 rt, pv, .string al, .string lo] 138 (0, 0)) ∧ AnB (w.heap.size + 1 + 1) 0 (.slice none 0 0) ⟨#[]⟩ false (((w.alloc (.cells #[.string qm, .string qt, v, .string qb] 58)).alloc (.cells #[.int .i64 200, .int .i64 rt, pv, .string al, .string lo] 138)).alloc (.cells #[.int .i64 0, .slice none 0 0, .string ⟨#[]⟩, .bool false] 64)) := by
  have hA1 := (Below.refl w.heap.size w).alloc (Nat.le_refl _) (.cells #[.string qm, .string qt, v, .string qb] 58)
  have hA2 := hA1.alloc hA1.size (.cells #[.int .i64 200, .int .i64 rt, pv, .string al, .string lo] 138)
  have hA := hA2.alloc hA2.size (.cells #[.int .i64 0, .slice none 0 0, .string ⟨#[]⟩, .bool false] 64)
  have q0 := heap_alloc_new w (.cells #[.string qm, .string qt, v, .string qb] 58)
  generalize hW1 : w.alloc (.cells #[.string qm, .string qt, v, .string qb] 58) = W1 at *
  have z1 : W1.heap.size = w.heap.size + 1 := by rw [← hW1]; simp
  have q1 := heap_alloc_new W1 (.cells #[.int .i64 200, .int .i64 rt, pv, .string al, .string lo] 138)
  have b1 : Below W1.heap.size W1 (W1.alloc (.cells #[.int .i64 200, .int .i64 rt, pv, .string al, .string lo] 138)) := (Below.refl _ _).alloc (Nat.le_refl _) _
  generalize hW2 : W1.alloc (.cells #[.int .i64 200, .int .i64 rt, pv, .string al, .string lo] 138) = W2 at *
  have z2 : W2.heap.size = w.heap.size + 1 + 1 := by rw [← hW2]; simp [z1]
  have q2 := heap_alloc_new W2 (.cells #[.int .i64 0, .slice none 0 0, .string ⟨#[]⟩, .bool false] 64)
  have b2 : Below W2.heap.size W2 (W2.alloc (.cells #[.int .i64 0, .slice none 0 0, .string ⟨#[]⟩, .bool false] 64)) := (Below.refl _ _).alloc (Nat.le_refl _) _
  rw [z1] at q1
  rw [z2] at q2
  exact ⟨hA, by rw [b2.block _ (by omega), b1.block _ (by omega)]; exact q0, by rw [b2.block _ (by omega)]; exact q1, q2⟩
set_option maxRecDepth 100000 in
set_option maxHeartbeats 16000000 in
theorem answer_found (gs gh nh ch : Nat) (aw : Option Addr) (nw cw : Nat) (r : Rn) (rt : Nat) (al lo : ByteArray) (G : Option An) (w : World) (hrt : rt < nh)
    (s1 : w.cell? ⟨gs, 1, none⟩ = some (.slice (some ⟨gh, 0, none⟩) nh ch)) (s2 : w.cell? ⟨gs, 2, none⟩ = some (.slice aw nw cw))
    (h0 : w.cell? ⟨gh, rt * 4, none⟩ = some (.int .i64 r.h.k)) (h1 : w.cell? ⟨gh, rt * 4 + 1, none⟩ = some (.int .i64 r.h.st)) (h2 : w.cell? ⟨gh, rt * 4 + 2, none⟩ = some (.string r.h.t)) (h3 : w.cell? ⟨gh, rt * 4 + 3, none⟩ = some (.string r.h.n))
    (HTH : ∀ W, Below w.heap.size w W → Calls Tryz.prog 84 #[.agg r.vals, .slice aw nw cw] W (ThPost G W)) :
    Calls Tryz.prog 57 #[.pointer (some ⟨gs, 0, none⟩), .agg #[.string r.qm, .string r.qt, .slice r.fa r.fs.length r.fc, .string r.qb], .agg #[.int .i64 200, .int .i64 rt, .slice r.pa r.ps.length r.pc, .string al, .string lo]] w (ThPost G w) := by
  obtain ⟨hA, Q1, F1, A1⟩ := answer_mem r.qm r.qt r.qb (.slice r.fa r.fs.length r.fc) rt (.slice r.pa r.ps.length r.pc) al lo w
  have HT := hid HTH
  have q0 : _ = some (Value.string r.qm) := (Lib.cell_of_heap Q1 0).trans rfl
  have q1 : _ = some (Value.string r.qt) := (Lib.cell_of_heap Q1 1).trans rfl
  have q2 : _ = some (Value.slice r.fa r.fs.length r.fc) := (Lib.cell_of_heap Q1 2).trans rfl
  have q3 : _ = some (Value.string r.qb) := (Lib.cell_of_heap Q1 3).trans rfl
  have f0 : _ = some (Value.int .i64 200) := (Lib.cell_of_heap F1 0).trans rfl
  have f1 : _ = some (Value.int .i64 rt) := (Lib.cell_of_heap F1 1).trans rfl
  have f2 : _ = some (Value.slice r.pa r.ps.length r.pc) := (Lib.cell_of_heap F1 2).trans rfl
  have lg0 : gs < w.heap.size := block_lt_of_cell s1
  have y1 := cell_later hA s1
  have y2 := cell_later hA s2
  have g0 := cell_later hA h0
  have g1 := cell_later hA h1
  have g2 := cell_later hA h2
  have g3 := cell_later hA h3
  have k0 : (0 : Int) ≤ (rt : Int) := by omega
  have k1 : (rt : Int) < (nh : Int) := by omega
  clear HTH Q1 F1 s1 s2 h0 h1 h2 h3
  obtain ⟨qm, qt, qb, fs, fa, fc, ps, pa, pc, ⟨hk', hst, ht, hn'⟩⟩ := r
  simp only [Rn.vals] at *
  go_enter Tryz.func57, Tryz.ntmps57
  go_upto_region 1 with fail
  generalize ((w.alloc (.cells #[.string qm, .string qt, .slice fa fs.length fc, .string qb] 58)).alloc (.cells #[.int .i64 200, .int .i64 rt, .slice pa ps.length pc, .string al, .string lo] 138)).alloc (.cells #[.int .i64 0, .slice none 0 0, .string ⟨#[]⟩, .bool false] 64) = w1 at *
  have la := A1.lt
  have lgs := block_lt_of_cell y1
  have lgh := block_lt_of_cell g0
  go_upto_region 3 with fail
  go_region_held3 (fun W => W.cell? ⟨w.heap.size, 0, none⟩ = some (.string qm) ∧ W.cell? ⟨w.heap.size, 1, none⟩ = some (.string qt) ∧ W.cell? ⟨w.heap.size, 2, none⟩ = some (.slice fa fs.length fc) ∧ W.cell? ⟨w.heap.size, 3, none⟩ = some (.string qb) ∧ W.cell? ⟨w.heap.size + 1, 1, none⟩ = some (.int .i64 rt) ∧ W.cell? ⟨w.heap.size + 1, 2, none⟩ = some (.slice pa ps.length pc) ∧ W.cell? ⟨gs, 1, none⟩ = some (.slice (some ⟨gh, 0, none⟩) nh ch) ∧ W.cell? ⟨gh, rt * 4, none⟩ = some (.int .i64 hk') ∧ W.cell? ⟨gh, rt * 4 + 1, none⟩ = some (.int .i64 hst) ∧ W.cell? ⟨gh, rt * 4 + 2, none⟩ = some (.string ht) ∧ W.cell? ⟨gh, rt * 4 + 3, none⟩ = some (.string hn')) (go_keep) (fail)
  go_upto_region 4 with fail
  have hA2 := (hA.alloc hA.size (.cells #[.string qm, .string qt, .slice fa fs.length fc, .string qb, .slice pa ps.length pc, .int .i64 hk', .int .i64 hst, .string ht, .string hn'] 166)).drew
  have hb12 := ((Below.refl w1.heap.size w1).alloc (Nat.le_refl _) (.cells #[.string qm, .string qt, .slice fa fs.length fc, .string qb, .slice pa ps.length pc, .int .i64 hk', .int .i64 hst, .string ht, .string hn'] 166)).drew
  have RR : (w1.alloc (.cells #[.string qm, .string qt, .slice fa fs.length fc, .string qb, .slice pa ps.length pc, .int .i64 hk', .int .i64 hst, .string ht, .string hn'] 166)).drew.heap[w1.heap.size]? = some (.cells #[.string qm, .string qt, .slice fa fs.length fc, .string qb, .slice pa ps.length pc, .int .i64 hk', .int .i64 hst, .string ht, .string hn'] 166 (0, 0)) := heap_alloc_new w1 _
  have y22 := cell_later hb12 y2
  have A2 := A1.below hb12
  generalize hgr : w1.heap.size = gr at *
  have lgr : gr < (w1.alloc (.cells #[.string qm, .string qt, .slice fa fs.length fc, .string qb, .slice pa ps.length pc, .int .i64 hk', .int .i64 hst, .string ht, .string hn'] 166)).drew.heap.size := by
    rw [← hgr]; simp
  generalize (w1.alloc (.cells #[.string qm, .string qt, .slice fa fs.length fc, .string qb, .slice pa ps.length pc, .int .i64 hk', .int .i64 hst, .string ht, .string hn'] 166)).drew = w2 at *
  have r0 : w2.cell? ⟨gr, 0, none⟩ = some (.string qm) := (Lib.cell_of_heap RR 0).trans rfl
  have r1 : w2.cell? ⟨gr, 1, none⟩ = some (.string qt) := (Lib.cell_of_heap RR 1).trans rfl
  have r2 : w2.cell? ⟨gr, 2, none⟩ = some (.slice fa fs.length fc) := (Lib.cell_of_heap RR 2).trans rfl
  have r3 : w2.cell? ⟨gr, 3, none⟩ = some (.string qb) := (Lib.cell_of_heap RR 3).trans rfl
  have r4 : w2.cell? ⟨gr, 4, none⟩ = some (.slice pa ps.length pc) := (Lib.cell_of_heap RR 4).trans rfl
  have r5 : w2.cell? ⟨gr, 5, none⟩ = some (.int .i64 hk') := (Lib.cell_of_heap RR 5).trans rfl
  have r6 : w2.cell? ⟨gr, 6, none⟩ = some (.int .i64 hst) := (Lib.cell_of_heap RR 6).trans rfl
  have r7 : w2.cell? ⟨gr, 7, none⟩ = some (.string ht) := (Lib.cell_of_heap RR 7).trans rfl
  have r8 : w2.cell? ⟨gr, 8, none⟩ = some (.string hn') := (Lib.cell_of_heap RR 8).trans rfl
  have la2 := A2.lt
  have ls2 := block_lt_of_cell y22
  have HT2 := hid (fun W (hW : Below w2.heap.size w2 W) => HT.out W (bel_of hA2 hW))
  have HA2 := hid A2
  have hb2 := Below.refl w2.heap.size w2
  clear HT RR q0 q1 q2 q3 f0 f1 f2 y1 y2 g0 g1 g2 g3 A1 hb12
  cases G with
  | none =>
    go_region_dies
    all_goals go_wp2_with (go_at_call 84; refine (HT2.out _ hb2.drew).mono ?_; rintro x wA ⟨rfl, hbA⟩; exact ⟨rfl, rfl, bel_of hA2 (bel_of hb2.drew hbA)⟩)
  | some a =>
    have nr : gr ≠ w.heap.size + 1 + 1 := by omega
    have ns : gs ≠ w.heap.size + 1 + 1 := by omega
    have HE := hid (fun (ax : Option Addr) (cx : Nat) (w3 : World) (o3 : w3.ownsRow w2.heap.size 133 2 (.slice ax a.fs.length cx) a.fs.length (prCells a.fs)) (hb3 : Below w2.heap.size w2 w3) => (And.intro (owns_setA (st := a.st) (vv := .slice ax a.fs.length cx) (b := a.b) (cl := false) (owns_base o3 hA2.size) (fun e => by have := own_ge o3 _ e; omega)) (below_setA (st := a.st) (vv := .slice ax a.fs.length cx) (b := a.b) (cl := false) (bel_of hA2 hb3) (by omega)) : (setA (w.heap.size + 1 + 1) a.st (.slice ax a.fs.length cx) a.b false w3).ownsRow w.heap.size 133 2 (.slice ax a.fs.length cx) a.fs.length (prCells a.fs) ∧ Below w.heap.size w (setA (w.heap.size + 1 + 1) a.st (.slice ax a.fs.length cx) a.b false w3)))
    have HKP : Hid (∀ (w3 w4 : World), (∃ vv, w4 = setA (w.heap.size + 1 + 1) a.st vv a.b false w3) → Below w2.heap.size w2 w3 → w4.cell? ⟨gs, 2, none⟩ = some (.slice aw nw cw) ∧ w4.cell? ⟨gr, 0, none⟩ = some (.string qm) ∧ w4.cell? ⟨gr, 1, none⟩ = some (.string qt) ∧ w4.cell? ⟨gr, 2, none⟩ = some (.slice fa fs.length fc) ∧ w4.cell? ⟨gr, 3, none⟩ = some (.string qb) ∧ w4.cell? ⟨gr, 4, none⟩ = some (.slice pa ps.length pc) ∧ w4.cell? ⟨gr, 5, none⟩ = some (.int .i64 hk') ∧ w4.cell? ⟨gr, 6, none⟩ = some (.int .i64 hst) ∧ w4.cell? ⟨gr, 7, none⟩ = some (.string ht) ∧ w4.cell? ⟨gr, 8, none⟩ = some (.string hn')) := by
      rintro w3 w4 ⟨vv, rfl⟩ hb
      exact ⟨(cell_setA ns).trans (cell_later hb y22), (cell_setA nr).trans (cell_later hb r0), (cell_setA nr).trans (cell_later hb r1), (cell_setA nr).trans (cell_later hb r2), (cell_setA nr).trans (cell_later hb r3), (cell_setA nr).trans (cell_later hb r4), (cell_setA nr).trans (cell_later hb r5), (cell_setA nr).trans (cell_later hb r6), (cell_setA nr).trans (cell_later hb r7), (cell_setA nr).trans (cell_later hb r8)⟩
    go_region_held3 (fun W => W.cell? ⟨gs, 2, none⟩ = some (.slice aw nw cw) ∧ W.cell? ⟨gr, 0, none⟩ = some (.string qm) ∧ W.cell? ⟨gr, 1, none⟩ = some (.string qt) ∧ W.cell? ⟨gr, 2, none⟩ = some (.slice fa fs.length fc) ∧ W.cell? ⟨gr, 3, none⟩ = some (.string qb) ∧ W.cell? ⟨gr, 4, none⟩ = some (.slice pa ps.length pc) ∧ W.cell? ⟨gr, 5, none⟩ = some (.int .i64 hk') ∧ W.cell? ⟨gr, 6, none⟩ = some (.int .i64 hst) ∧ W.cell? ⟨gr, 7, none⟩ = some (.string ht) ∧ W.cell? ⟨gr, 8, none⟩ = some (.string hn')) (first | exact HKEEP.out | go_keep)
      (first | (go_at_call 84; refine (HT2.out _ hb2.drew).mono ?_; rintro x w3 ⟨⟨vv, rfl, ow⟩, hb3⟩; obtain ⟨ax, cx, rfl⟩ := sl_of ow; have hbD := bel_of hb2.drew hb3; have o3 := owns_base ow hb2.drew.size; have A3 := HA2.out.below hbD; obtain ⟨c0, c1, c2, c3⟩ := A3.cells; have f0 := A3.free 0; have f1 := A3.free 1; have f2 := A3.free 2; have f3 := A3.free 3; have l3 := A3.lt; obtain ⟨d0, d1, d2, d3⟩ := (A3.set a.st (.slice ax a.fs.length cx) a.b false).cells; have HF := hid (HE.out ax cx w3 o3 hbD); have z0 := cell_later hbD r0; have z1 := cell_later hbD r1; have z2 := cell_later hbD r2; have z3 := cell_later hbD r3; have z4 := cell_later hbD r4; have z5 := cell_later hbD r5; have z6 := cell_later hbD r6; have z7 := cell_later hbD r7; have z8 := cell_later hbD r8; have zs := cell_later hbD y22; have HKEEP := hid (HKP.out w3 (setA (w.heap.size + 1 + 1) a.st (.slice ax a.fs.length cx) a.b false w3) ⟨_, rfl⟩ hbD); unfold setA at d0 d1 d2 d3 HKEEP; clear ow o3))
    all_goals clear HT2 HE HKP A2
    all_goals go_wp2_with fail
    all_goals
      refine bodyPost_ret (v := .agg #[.int .i64 a.st, .slice ax a.fs.length cx, .string a.b, .bool false]) (by simp [results, Tryz.results57, go_sem, d0, d1, d2, d3]) rfl ?_
      exact ⟨⟨_, rfl, HF.out.1⟩, HF.out.2⟩
end Go.Proofs.YtbphabgjhoifbaaGreatDoor
