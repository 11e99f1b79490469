/- Texts that follow one another, joined. -/
import Derived.Test.YtpilfanbfpbldaaGreatDoorJoin21
import Derived.Test.YtpilfanbfpbldaaGreatDoorJoin20
import Derived.RegionDies
/- Through the wares. -/
namespace Go.Proofs.YtpilfanbfpbldaaGreatDoor
open Go.RowKit

theorem around_any (r : Rn) (x : Wr) (p1 p2 : Addr) (G : Option An) (w : World) (hr : RnAt r w) (hGl : ∀ a, G = some a → a.fs.length ≤ 50000000) (HIN : ∀ W, Below w.heap.size w W → Calls Tryz.prog 136 #[.pointer (some p1), .pointer (some p2)] W (ThPost G W)) :
    Calls Tryz.prog 135 #[.agg r.vals, .agg #[.int .i64 x.k, .string x.n, .string x.v, .int .i64 x.lim], .func (.func 136) #[] #[.pointer (some p1), .pointer (some p2)]] w (ThPost (wareG x r.fs r.qb G) w) := by
  by_cases k0 : x.k = 0
  · have e : wareG x r.fs r.qb G = G.map fun a => ⟨a.st, a.fs ++ [(x.n, x.v)], a.b⟩ := by unfold wareG; rw [if_pos k0]
    rw [e]; exact around_add r x p1 p2 G w k0 hGl HIN
  by_cases k1 : x.k = 1
  · have e : wareG x r.fs r.qb G = if x.v.data.toList ∈ (valsOf r.fs x.n.data.toList).map (fun b => b.data.toList) then G else some ⟨403, [], ⟨#[]⟩⟩ := by unfold wareG; rw [if_neg k0, if_pos k1]
    rw [e]; exact around_guard r x p1 p2 G w k1 hr HIN
  by_cases k2 : x.k = 2
  · exact around_plain r x p1 p2 G w (.inl k2) HIN
  by_cases k3 : x.k = 3
  · exact around_plain r x p1 p2 G w (.inr (.inl k3)) HIN
  by_cases k4 : x.k = 4
  · have e : wareG x r.fs r.qb G = G.map fun a => ⟨a.st, a.fs ++ (valsOf r.fs x.n.data.toList).map (fun v => (x.n, v)), a.b⟩ := by unfold wareG; rw [if_neg k0, if_neg k1, if_neg k2, if_neg k3, if_pos k4]
    rw [e]; exact around_copy r x p1 p2 G w k4 hr hGl HIN
  exact around_plain r x p1 p2 G w (.inr (.inr ⟨k0, k1, k2, k3, k4⟩)) HIN
theorem handG_le {h : Hn} {qb : ByteArray} {ps : List Prm} {a : An} (e : handG h qb ps = some a) : a.fs.length ≤ 1 := by
  unfold handG at e
  split at e
  · cases e; simp
  split at e
  · cases e; simp
  split at e
  · cases e; simp
  split at e
  · cases e; simp
  · cases e
theorem wareG_le {x : Wr} {qf : List Prm} {qb : ByteArray} {G : Option An} {N : Nat} (h : ∀ a, G = some a → a.fs.length ≤ N) {a : An} (e : wareG x qf qb G = some a) : a.fs.length ≤ N + (qf.length + 1) := by
  unfold wareG at e
  split at e
  · obtain ⟨b, hb, rfl⟩ := Option.map_eq_some_iff.1 e
    have := h b hb
    simp; omega
  split at e
  · split at e
    · have := h a e; omega
    · cases e; simp
  split at e
  · split at e
    · cases e; simp
    · have := h a e; omega
  split at e
  · cases G with
    | none => cases e; simp
    | some b => have := h a e; omega
  split at e
  · obtain ⟨b, hb, rfl⟩ := Option.map_eq_some_iff.1 e
    have := h b hb
    have := valsOf_le qf x.n.data.toList
    simp; omega
  · have := h a e; omega
theorem thrG_le (qf : List Prm) (qb : ByteArray) (h : Hn) (ps : List Prm) : ∀ (ws : List Wr) (a : An), thrG qf qb h ps ws = some a → a.fs.length ≤ 1 + ws.length * (qf.length + 1)
  | [], a, e => by have := handG_le e; simp; omega
  | x :: r, a, e => by
    have := wareG_le (thrG_le qf qb h ps r) e
    rw [List.length_cons, Nat.add_mul]; omega
end Go.Proofs.YtpilfanbfpbldaaGreatDoor

/- How great an answer can be. -/
namespace Go.Proofs.YtpilfanbfpbldaaGreatDoor
open Go.RowKit

def SmA (K : Nat) (a : An) : Prop := a.b.size ≤ K ∧ ∀ p ∈ a.fs, p.1.size ≤ K ∧ p.2.size ≤ K
theorem st_small {K : Nat} (n : List UInt8) : ∀ ps : List Prm, (∀ p ∈ ps, p.2.size ≤ K) → (stG n ps).size ≤ K
  | [], _ => Nat.zero_le K
  | p :: r, h => by
    rw [stG]
    split
    · exact h p (by simp)
    · exact st_small n r (fun q hq => h q (by simp [hq]))
theorem hand_small {K : Nat} {h : Hn} {qb : ByteArray} {ps : List Prm} {a : An} (ht : h.t.size ≤ K) (hq : qb.size ≤ K) (hp : ∀ p ∈ ps, p.2.size ≤ K) (e : handG h qb ps = some a) : SmA K a := by
  have hs := st_small h.n.data.toList ps hp
  unfold handG at e
  split at e
  · cases e; exact ⟨ht, by simp⟩
  split at e
  · cases e; exact ⟨hq, by simp⟩
  split at e
  · cases e; exact ⟨hs, by simp⟩
  split at e
  · cases e
    refine ⟨Nat.zero_le _, fun p hp => ?_⟩
    simp only [List.mem_singleton] at hp
    subst hp
    exact ⟨ht, hs⟩
  · cases e
theorem none_small (K : Nat) (st : Int) : SmA K ⟨st, [], ⟨#[]⟩⟩ := ⟨Nat.zero_le _, by simp⟩
theorem vals_in {qf : List Prm} {n : List UInt8} {v : ByteArray} (h : v ∈ valsOf qf n) : ∃ p ∈ qf, p.2 = v := by
  unfold valsOf at h
  obtain ⟨p, hp, rfl⟩ := List.mem_map.1 h
  exact ⟨p, (List.mem_filter.1 hp).1, rfl⟩
theorem ware_small {K : Nat} {x : Wr} {qf : List Prm} {qb : ByteArray} {G : Option An} (h5 : 5 ≤ K) (hx : x.n.size ≤ K ∧ x.v.size ≤ K) (hf : ∀ p ∈ qf, p.2.size ≤ K) (h : ∀ a, G = some a → SmA K a) {a : An} (e : wareG x qf qb G = some a) : SmA K a := by
  unfold wareG at e
  split at e
  · obtain ⟨b, hb, rfl⟩ := Option.map_eq_some_iff.1 e
    refine ⟨(h b hb).1, fun p hp => ?_⟩
    rcases List.mem_append.1 hp with hp | hp
    · exact (h b hb).2 p hp
    · simp only [List.mem_singleton] at hp; subst hp; exact hx
  split at e
  · split at e
    · exact h a e
    · cases e; exact none_small K _
  split at e
  · split at e
    · cases e; exact none_small K _
    · exact h a e
  split at e
  · cases G with
    | none => cases e; exact ⟨h5, by simp⟩
    | some b => exact h a e
  split at e
  · obtain ⟨b, hb, rfl⟩ := Option.map_eq_some_iff.1 e
    refine ⟨(h b hb).1, fun p hp => ?_⟩
    rcases List.mem_append.1 hp with hp | hp
    · exact (h b hb).2 p hp
    · obtain ⟨v, hv, rfl⟩ := List.mem_map.1 hp
      obtain ⟨q, hq, rfl⟩ := vals_in hv
      exact ⟨hx.1, hf q hq⟩
  · exact h a e
theorem thr_small {K : Nat} {qf : List Prm} {qb : ByteArray} {h : Hn} {ps : List Prm} (h5 : 5 ≤ K) (hf : ∀ p ∈ qf, p.2.size ≤ K) (ht : h.t.size ≤ K) (hq : qb.size ≤ K) (hp : ∀ p ∈ ps, p.2.size ≤ K) : ∀ (ws : List Wr) (a : An), (∀ x ∈ ws, x.n.size ≤ K ∧ x.v.size ≤ K) → thrG qf qb h ps ws = some a → SmA K a
  | [], a, _, e => hand_small ht hq hp e
  | x :: r, a, hw, e => ware_small h5 (hw x (by simp)) hf (fun b hb => thr_small h5 hf ht hq hp r b (fun y hy => hw y (by simp [hy])) hb) e
theorem unesc_le : ∀ (n : Nat) (l o : List UInt8), l.length ≤ n → Pm.unesc l = some o → o.length ≤ l.length
  | 0, l, o, hl, h => by
    have : l = [] := List.eq_nil_of_length_eq_zero (by omega)
    subst this
    simp [Pm.unesc] at h; simp [← h]
  | n + 1, [], o, _, h => by simp [Pm.unesc] at h; simp [← h]
  | n + 1, c :: r, o, hl, h => by
    by_cases hc : c = 37
    · subst hc
      match r, hl, h with
      | [], _, h => rw [Pm.unesc_short [] (by simp)] at h; simp at h
      | [a], _, h => rw [Pm.unesc_short [a] (by simp)] at h; simp at h
      | a :: b :: r, hl, h =>
        rw [Pm.unesc, if_pos rfl] at h
        split at h
        · obtain ⟨y, hy, rfl⟩ := Option.map_eq_some_iff.1 h
          have := unesc_le n r y (by simp at hl; omega) hy
          simp; omega
        · simp at h
    · rw [Pm.unesc_plain c r hc] at h
      obtain ⟨y, hy, rfl⟩ := Option.map_eq_some_iff.1 h
      have := unesc_le n r y (by simp at hl; omega) hy
      simp; omega
theorem unT_le (l : List UInt8) : (Pm.unT l).size ≤ l.length := by
  unfold Pm.unT
  cases h : Pm.unesc l with
  | none => exact Nat.zero_le _
  | some o =>
    have := unesc_le l.length l o (Nat.le_refl _) h
    show o.toArray.size ≤ l.length
    simpa using this
theorem match_small (K : Nat) : ∀ (ps : List (Int × ByteArray)) (l : List UInt8) (mr : Bool) (acc fs : List Prm), l.length ≤ K → (∀ p ∈ acc, p.2.size ≤ K) → matchB ps l mr acc = some fs → ∀ p ∈ fs, p.2.size ≤ K
  | [], l, mr, acc, fs, _, ha, h => by
    rw [matchB] at h
    split at h
    · simp at h
    · cases h; exact ha
  | q :: r, l, mr, acc, fs, hl, ha, h => by
    rw [matchB] at h
    split at h
    · simp at h
    split at h
    · have hraw : (rawOf q.1 l).length ≤ l.length := by
        unfold rawOf; split
        · exact Nat.le_refl _
        · exact (ahead_le 47 l).1
      have hleft : (leftOf q.1 l).length ≤ l.length := by
        unfold leftOf; split
        · exact Nat.le_refl _
        · exact (ahead_le 47 l).2
      refine match_small K r _ _ _ fs (by omega) (fun p hp => ?_) h
      split at hp
      · exact ha p hp
      · rcases List.mem_append.1 hp with hp | hp
        · exact ha p hp
        · simp only [List.mem_singleton] at hp
          subst hp
          have := unT_le (rawOf q.1 l)
          simp only; omega
    · simp at h
theorem find_small (K : Nat) (m l : List UInt8) (hl : l.length ≤ K) : ∀ (es : List Ent) (k : Nat), ∀ p ∈ (findG m l es k).2.1, p.2.size ≤ K
  | [], _ => by simp [findG]
  | e :: r, k => by
    rw [findG]
    split
    · split
      · rename_i fs hfs
        exact match_small K _ _ _ _ fs (by simp; omega) (by simp) hfs
      · exact find_small K m l hl r (k + 1)
    · exact find_small K m l hl r (k + 1)
theorem dsp_small (K : Nat) (m t : List UInt8) (es : List Ent) (ht : t.length ≤ K) : ∀ p ∈ (dspG m t es).ps, p.2.size ≤ K := by
  have hh := (ahead_le 63 t).1
  have hz : ∀ p ∈ (leadG m (Pm.ahead 63 t) es).2.1, p.2.size ≤ K := by
    unfold leadG
    split
    · exact find_small K _ _ (by omega) _ _
    · exact find_small K _ _ (by omega) _ _
  unfold dspG
  split
  · simp
  split
  · exact hz
  split
  · simp
  · split <;> simp
end Go.Proofs.YtpilfanbfpbldaaGreatDoor

/- The rest of the wares, from within. -/
namespace Go.Proofs.YtpilfanbfpbldaaGreatDoor
open Go.RowKit

set_option maxRecDepth 100000 in
set_option maxHeartbeats 8000000 in
theorem inside_one (r : Rn) (g1 g2 g o : Nat) (G : Option An) (w : World) (R : RnB g1 r w) (hs : w.cell? ⟨g2, 0, none⟩ = some (.slice (some ⟨g, o, none⟩) 1 1)) (HIN : ∀ W, Below w.heap.size w W → Calls Tryz.prog 97 #[.agg r.vals, .slice (some ⟨g, o, none⟩) 0 0] W (ThPost G W)) :
    Calls Tryz.prog 136 #[.pointer (some ⟨g1, 0, none⟩), .pointer (some ⟨g2, 0, none⟩)] w (ThPost G w) := by
  have hA := (Below.refl w.heap.size w).alloc (Nat.le_refl _) (.cells #[.int .i64 0, .slice none 0 0, .string ⟨#[]⟩, .bool false] 89)
  have A1 : AnB w.heap.size 0 (.slice none 0 0) ⟨#[]⟩ false (w.alloc (.cells #[.int .i64 0, .slice none 0 0, .string ⟨#[]⟩, .bool false] 89)) := heap_alloc_new w _
  have R1 := R.below hA
  have s1 := cell_later hA hs
  have HI := hid HIN
  obtain ⟨r0, r1, r2, r3, r4, r5, r6, r7, r8⟩ := R1.cells
  have lr := R1.lt
  have lr0 := R.lt
  have ls := block_lt_of_cell s1
  have ls0 := block_lt_of_cell hs
  clear HIN R1 R hs
  obtain ⟨qm, qt, qb, fs, fa, fc, ps, pa, pc, ⟨hk', hst, ht, hn'⟩⟩ := r
  simp only [Rn.vals] at *
  go_enter Tryz.func136, Tryz.ntmps136
  go_upto_region 1 with fail
  generalize w.alloc (.cells #[.int .i64 0, .slice none 0 0, .string ⟨#[]⟩, .bool false] 89) = w1 at *
  have la := A1.lt
  have HI1 := hid (fun W (hW : Below w1.heap.size w1 W) => HI.out W (bel_of hA hW))
  have HA1 := hid A1
  have hb1 := Below.refl w1.heap.size w1
  clear HI
  cases G with
  | none =>
    go_region_dies
    all_goals go_wp2_with (go_at_call 97; refine (HI1.out _ hb1.drew).mono ?_; rintro x wA ⟨rfl, hbA⟩; exact ⟨rfl, rfl, bel_of hA (bel_of hb1.drew hbA)⟩)
  | some a =>
    have nr : g1 ≠ w.heap.size := by omega
    have ns : g2 ≠ w.heap.size := by omega
    have HE := hid (fun (ax : Option Addr) (cx : Nat) (w3 : World) (o3 : w3.ownsRow w1.heap.size 134 2 (.slice ax a.fs.length cx) a.fs.length (prCells a.fs)) (hb3 : Below w1.heap.size w1 w3) => (And.intro (owns_setA (st := a.st) (vv := .slice ax a.fs.length cx) (b := a.b) (cl := false) (owns_base o3 hA.size) (fun e => by have := own_ge o3 _ e; omega)) (below_setA (st := a.st) (vv := .slice ax a.fs.length cx) (b := a.b) (cl := false) (bel_of hA hb3) (Nat.le_refl w.heap.size)) : (setA w.heap.size a.st (.slice ax a.fs.length cx) a.b false w3).ownsRow w.heap.size 134 2 (.slice ax a.fs.length cx) a.fs.length (prCells a.fs) ∧ Below w.heap.size w (setA w.heap.size a.st (.slice ax a.fs.length cx) a.b false w3)))
    have HKP : Hid (∀ (w3 w4 : World), (∃ vv, w4 = setA w.heap.size a.st vv a.b false w3) → Below w1.heap.size w1 w3 → w4.cell? ⟨g2, 0, none⟩ = some (.slice (some ⟨g, o, none⟩) 1 1) ∧ w4.cell? ⟨g1, 0, none⟩ = some (.string qm) ∧ w4.cell? ⟨g1, 1, none⟩ = some (.string qt) ∧ w4.cell? ⟨g1, 2, none⟩ = some (.slice fa fs.length fc) ∧ w4.cell? ⟨g1, 3, none⟩ = some (.string qb) ∧ w4.cell? ⟨g1, 4, none⟩ = some (.slice pa ps.length pc) ∧ w4.cell? ⟨g1, 5, none⟩ = some (.int .i64 hk') ∧ w4.cell? ⟨g1, 6, none⟩ = some (.int .i64 hst) ∧ w4.cell? ⟨g1, 7, none⟩ = some (.string ht) ∧ w4.cell? ⟨g1, 8, none⟩ = some (.string hn')) := by
      rintro w3 w4 ⟨vv, rfl⟩ hb
      exact ⟨(cell_setA ns).trans (cell_later hb s1), (cell_setA nr).trans (cell_later hb r0), (cell_setA nr).trans (cell_later hb r1), (cell_setA nr).trans (cell_later hb r2), (cell_setA nr).trans (cell_later hb r3), (cell_setA nr).trans (cell_later hb r4), (cell_setA nr).trans (cell_later hb r5), (cell_setA nr).trans (cell_later hb r6), (cell_setA nr).trans (cell_later hb r7), (cell_setA nr).trans (cell_later hb r8)⟩
    go_region_held3 (fun W => W.cell? ⟨g2, 0, none⟩ = some (.slice (some ⟨g, o, none⟩) 1 1) ∧ W.cell? ⟨g1, 0, none⟩ = some (.string qm) ∧ W.cell? ⟨g1, 1, none⟩ = some (.string qt) ∧ W.cell? ⟨g1, 2, none⟩ = some (.slice fa fs.length fc) ∧ W.cell? ⟨g1, 3, none⟩ = some (.string qb) ∧ W.cell? ⟨g1, 4, none⟩ = some (.slice pa ps.length pc) ∧ W.cell? ⟨g1, 5, none⟩ = some (.int .i64 hk') ∧ W.cell? ⟨g1, 6, none⟩ = some (.int .i64 hst) ∧ W.cell? ⟨g1, 7, none⟩ = some (.string ht) ∧ W.cell? ⟨g1, 8, none⟩ = some (.string hn')) (first | go_keep | exact HKEEP.out)
      (first | (go_at_call 97; refine (HI1.out _ hb1.drew).mono ?_; rintro x w3 ⟨⟨vv, rfl, ow⟩, hb3⟩; obtain ⟨ax, cx, rfl⟩ := sl_of ow; have hbD := bel_of hb1.drew hb3; have o3 := owns_base ow hb1.drew.size; have A3 := HA1.out.below hbD; obtain ⟨c0, c1, c2, c3⟩ := A3.cells; have f0 := A3.free 0; have f1 := A3.free 1; have f2 := A3.free 2; have f3 := A3.free 3; have l3 := A3.lt; obtain ⟨d0, d1, d2, d3⟩ := (A3.set a.st (.slice ax a.fs.length cx) a.b false).cells; have HF := hid (HE.out ax cx w3 o3 hbD); have z0 := cell_later hbD r0; have z1 := cell_later hbD r1; have z2 := cell_later hbD r2; have z3 := cell_later hbD r3; have z4 := cell_later hbD r4; have z5 := cell_later hbD r5; have z6 := cell_later hbD r6; have z7 := cell_later hbD r7; have z8 := cell_later hbD r8; have zs := cell_later hbD s1; have HKEEP := hid (HKP.out w3 (setA w.heap.size a.st (.slice ax a.fs.length cx) a.b false w3) ⟨_, rfl⟩ hbD); unfold setA at d0 d1 d2 d3 HKEEP; clear ow o3))
    all_goals clear HI1 HE HKP A1
    all_goals go_wp2_with fail
    all_goals
      refine bodyPost_ret (v := .agg #[.int .i64 a.st, .slice ax a.fs.length cx, .string a.b, .bool false]) (by simp [results, Tryz.results136, go_sem, d0, d1, d2, d3]) rfl ?_
      exact ⟨⟨_, rfl, HF.out.1⟩, HF.out.2⟩
set_option maxRecDepth 100000 in
set_option maxHeartbeats 8000000 in
theorem inside_more (r : Rn) (g1 g2 g o n c : Nat) (G : Option An) (w : World) (R : RnB g1 r w) (hs : w.cell? ⟨g2, 0, none⟩ = some (.slice (some ⟨g, o, none⟩) (n + 1) c)) (hc : n + 1 ≤ c) (hn : n ≤ 1000000) (hc1 : ¬ c = 1) (HIN : ∀ W, Below w.heap.size w W → Calls Tryz.prog 97 #[.agg r.vals, .slice (some ⟨g, o + 4, none⟩) n (c - 1)] W (ThPost G W)) :
    Calls Tryz.prog 136 #[.pointer (some ⟨g1, 0, none⟩), .pointer (some ⟨g2, 0, none⟩)] w (ThPost G w) := by
  have hA := (Below.refl w.heap.size w).alloc (Nat.le_refl _) (.cells #[.int .i64 0, .slice none 0 0, .string ⟨#[]⟩, .bool false] 89)
  have A1 : AnB w.heap.size 0 (.slice none 0 0) ⟨#[]⟩ false (w.alloc (.cells #[.int .i64 0, .slice none 0 0, .string ⟨#[]⟩, .bool false] 89)) := heap_alloc_new w _
  have R1 := R.below hA
  have s1 := cell_later hA hs
  have HI := hid HIN
  obtain ⟨r0, r1, r2, r3, r4, r5, r6, r7, r8⟩ := R1.cells
  have lr := R1.lt
  have lr0 := R.lt
  have ls := block_lt_of_cell s1
  have ls0 := block_lt_of_cell hs
  have k1 : (1 : Int) ≤ (n : Int) + 1 := by omega
  have k2 : (n : Int) + 1 ≤ (c : Int) := by omega
  clear HIN R1 R hs
  obtain ⟨qm, qt, qb, fs, fa, fc, ps, pa, pc, ⟨hk', hst, ht, hn'⟩⟩ := r
  simp only [Rn.vals] at *
  go_enter Tryz.func136, Tryz.ntmps136
  go_upto_region 1 with fail
  generalize w.alloc (.cells #[.int .i64 0, .slice none 0 0, .string ⟨#[]⟩, .bool false] 89) = w1 at *
  have la := A1.lt
  have HI1 := hid (fun W (hW : Below w1.heap.size w1 W) => HI.out W (bel_of hA hW))
  have HA1 := hid A1
  have hb1 := Below.refl w1.heap.size w1
  clear HI
  cases G with
  | none =>
    go_region_dies
    all_goals go_wp2_with (go_at_call 97; refine (HI1.out _ hb1.drew).mono ?_; rintro x wA ⟨rfl, hbA⟩; exact ⟨rfl, rfl, bel_of hA (bel_of hb1.drew hbA)⟩)
  | some a =>
    have nr : g1 ≠ w.heap.size := by omega
    have ns : g2 ≠ w.heap.size := by omega
    have HE := hid (fun (ax : Option Addr) (cx : Nat) (w3 : World) (o3 : w3.ownsRow w1.heap.size 134 2 (.slice ax a.fs.length cx) a.fs.length (prCells a.fs)) (hb3 : Below w1.heap.size w1 w3) => (And.intro (owns_setA (st := a.st) (vv := .slice ax a.fs.length cx) (b := a.b) (cl := false) (owns_base o3 hA.size) (fun e => by have := own_ge o3 _ e; omega)) (below_setA (st := a.st) (vv := .slice ax a.fs.length cx) (b := a.b) (cl := false) (bel_of hA hb3) (Nat.le_refl w.heap.size)) : (setA w.heap.size a.st (.slice ax a.fs.length cx) a.b false w3).ownsRow w.heap.size 134 2 (.slice ax a.fs.length cx) a.fs.length (prCells a.fs) ∧ Below w.heap.size w (setA w.heap.size a.st (.slice ax a.fs.length cx) a.b false w3)))
    have HKP : Hid (∀ (w3 w4 : World), (∃ vv, w4 = setA w.heap.size a.st vv a.b false w3) → Below w1.heap.size w1 w3 → w4.cell? ⟨g2, 0, none⟩ = some (.slice (some ⟨g, o, none⟩) (n + 1) c) ∧ w4.cell? ⟨g1, 0, none⟩ = some (.string qm) ∧ w4.cell? ⟨g1, 1, none⟩ = some (.string qt) ∧ w4.cell? ⟨g1, 2, none⟩ = some (.slice fa fs.length fc) ∧ w4.cell? ⟨g1, 3, none⟩ = some (.string qb) ∧ w4.cell? ⟨g1, 4, none⟩ = some (.slice pa ps.length pc) ∧ w4.cell? ⟨g1, 5, none⟩ = some (.int .i64 hk') ∧ w4.cell? ⟨g1, 6, none⟩ = some (.int .i64 hst) ∧ w4.cell? ⟨g1, 7, none⟩ = some (.string ht) ∧ w4.cell? ⟨g1, 8, none⟩ = some (.string hn')) := by
      rintro w3 w4 ⟨vv, rfl⟩ hb
      exact ⟨(cell_setA ns).trans (cell_later hb s1), (cell_setA nr).trans (cell_later hb r0), (cell_setA nr).trans (cell_later hb r1), (cell_setA nr).trans (cell_later hb r2), (cell_setA nr).trans (cell_later hb r3), (cell_setA nr).trans (cell_later hb r4), (cell_setA nr).trans (cell_later hb r5), (cell_setA nr).trans (cell_later hb r6), (cell_setA nr).trans (cell_later hb r7), (cell_setA nr).trans (cell_later hb r8)⟩
    go_region_held3 (fun W => W.cell? ⟨g2, 0, none⟩ = some (.slice (some ⟨g, o, none⟩) (n + 1) c) ∧ W.cell? ⟨g1, 0, none⟩ = some (.string qm) ∧ W.cell? ⟨g1, 1, none⟩ = some (.string qt) ∧ W.cell? ⟨g1, 2, none⟩ = some (.slice fa fs.length fc) ∧ W.cell? ⟨g1, 3, none⟩ = some (.string qb) ∧ W.cell? ⟨g1, 4, none⟩ = some (.slice pa ps.length pc) ∧ W.cell? ⟨g1, 5, none⟩ = some (.int .i64 hk') ∧ W.cell? ⟨g1, 6, none⟩ = some (.int .i64 hst) ∧ W.cell? ⟨g1, 7, none⟩ = some (.string ht) ∧ W.cell? ⟨g1, 8, none⟩ = some (.string hn')) (first | go_keep | exact HKEEP.out)
      (first | (go_at_call 97; refine (HI1.out _ hb1.drew).mono ?_; rintro x w3 ⟨⟨vv, rfl, ow⟩, hb3⟩; obtain ⟨ax, cx, rfl⟩ := sl_of ow; have hbD := bel_of hb1.drew hb3; have o3 := owns_base ow hb1.drew.size; have A3 := HA1.out.below hbD; obtain ⟨c0, c1, c2, c3⟩ := A3.cells; have f0 := A3.free 0; have f1 := A3.free 1; have f2 := A3.free 2; have f3 := A3.free 3; have l3 := A3.lt; obtain ⟨d0, d1, d2, d3⟩ := (A3.set a.st (.slice ax a.fs.length cx) a.b false).cells; have HF := hid (HE.out ax cx w3 o3 hbD); have z0 := cell_later hbD r0; have z1 := cell_later hbD r1; have z2 := cell_later hbD r2; have z3 := cell_later hbD r3; have z4 := cell_later hbD r4; have z5 := cell_later hbD r5; have z6 := cell_later hbD r6; have z7 := cell_later hbD r7; have z8 := cell_later hbD r8; have zs := cell_later hbD s1; have HKEEP := hid (HKP.out w3 (setA w.heap.size a.st (.slice ax a.fs.length cx) a.b false w3) ⟨_, rfl⟩ hbD); unfold setA at d0 d1 d2 d3 HKEEP; clear ow o3))
    all_goals clear HI1 HE HKP A1
    all_goals go_wp2_with fail
    all_goals
      refine bodyPost_ret (v := .agg #[.int .i64 a.st, .slice ax a.fs.length cx, .string a.b, .bool false]) (by simp [results, Tryz.results136, go_sem, d0, d1, d2, d3]) rfl ?_
      exact ⟨⟨_, rfl, HF.out.1⟩, HF.out.2⟩
theorem inside_any (r : Rn) (g1 g2 g o n c : Nat) (G : Option An) (w : World) (R : RnB g1 r w) (hs : w.cell? ⟨g2, 0, none⟩ = some (.slice (some ⟨g, o, none⟩) (n + 1) c)) (hc : n + 1 ≤ c) (hn : n ≤ 1000000) (HIN : ∀ W, Below w.heap.size w W → Calls Tryz.prog 97 #[.agg r.vals, .slice (if c = 1 then some ⟨g, o, none⟩ else some ⟨g, o + 4, none⟩) n (c - 1)] W (ThPost G W)) :
    Calls Tryz.prog 136 #[.pointer (some ⟨g1, 0, none⟩), .pointer (some ⟨g2, 0, none⟩)] w (ThPost G w) := by
  by_cases hc1 : c = 1
  · subst hc1
    obtain rfl : n = 0 := by omega
    exact inside_one r g1 g2 g o G w R hs HIN
  · refine inside_more r g1 g2 g o n c G w R hs hc hn hc1 (fun W hW => ?_)
    have := HIN W hW
    rw [if_neg hc1] at this
    exact this
end Go.Proofs.YtpilfanbfpbldaaGreatDoor

/- Through all wares. -/
namespace Go.Proofs.YtpilfanbfpbldaaGreatDoor
open Go.RowKit

theorem through_mem (r : Rn) (v : Value) (w : World) : Below w.heap.size w (((w.alloc (.cells r.vals 188)).alloc (.cells #[v] 30)).alloc (.cells #[.int .i64 0, .slice none 0 0, .string ⟨#[]⟩, .bool false] 89)) ∧ RnB w.heap.size r (((w.alloc (.cells r.vals 188)).alloc (.cells #[v] 30)).alloc (.cells #[.int .i64 0, .slice none 0 0, .string ⟨#[]⟩, .bool false] 89)) ∧ (((w.alloc (.cells r.vals 188)).alloc (.cells #[v] 30)).alloc (.cells #[.int .i64 0, .slice none 0 0, .string ⟨#[]⟩, .bool false] 89)).cell? ⟨w.heap.size + 1, 0, none⟩ = some v ∧ AnB (w.heap.size + 1 + 1) 0 (.slice none 0 0) ⟨#[]⟩ false (((w.alloc (.cells r.vals 188)).alloc (.cells #[v] 30)).alloc (.cells #[.int .i64 0, .slice none 0 0, .string ⟨#[]⟩, .bool false] 89)) := by
  have hA1 := (Below.refl w.heap.size w).alloc (Nat.le_refl _) (.cells r.vals 188)
  have hA2 := hA1.alloc hA1.size (.cells #[v] 30)
  have hA := hA2.alloc hA2.size (.cells #[.int .i64 0, .slice none 0 0, .string ⟨#[]⟩, .bool false] 89)
  have z1 : (w.alloc (.cells r.vals 188)).heap.size = w.heap.size + 1 := by simp
  have z2 : ((w.alloc (.cells r.vals 188)).alloc (.cells #[v] 30)).heap.size = w.heap.size + 1 + 1 := by simp
  have b1 : Below (w.alloc (.cells r.vals 188)).heap.size (w.alloc (.cells r.vals 188)) ((w.alloc (.cells r.vals 188)).alloc (.cells #[v] 30)) := (Below.refl _ _).alloc (Nat.le_refl _) _
  have b2 : Below ((w.alloc (.cells r.vals 188)).alloc (.cells #[v] 30)).heap.size ((w.alloc (.cells r.vals 188)).alloc (.cells #[v] 30)) (((w.alloc (.cells r.vals 188)).alloc (.cells #[v] 30)).alloc (.cells #[.int .i64 0, .slice none 0 0, .string ⟨#[]⟩, .bool false] 89)) := (Below.refl _ _).alloc (Nat.le_refl _) _
  have R0 : RnB w.heap.size r (w.alloc (.cells r.vals 188)) := heap_alloc_new w _
  have X0 : ((w.alloc (.cells r.vals 188)).alloc (.cells #[v] 30)).cell? ⟨w.heap.size + 1, 0, none⟩ = some v := by
    have h := heap_alloc_new (w.alloc (.cells r.vals 188)) (.cells #[v] 30)
    rw [z1] at h; rw [Lib.cell_of_heap h]; rfl
  have A0 : AnB (w.heap.size + 1 + 1) 0 (.slice none 0 0) ⟨#[]⟩ false (((w.alloc (.cells r.vals 188)).alloc (.cells #[v] 30)).alloc (.cells #[.int .i64 0, .slice none 0 0, .string ⟨#[]⟩, .bool false] 89)) := by
    have h := heap_alloc_new ((w.alloc (.cells r.vals 188)).alloc (.cells #[v] 30)) (.cells #[.int .i64 0, .slice none 0 0, .string ⟨#[]⟩, .bool false] 89)
    rw [z2] at h; exact h
  exact ⟨hA, (R0.below b1).below b2, cell_later b2 X0, A0⟩
set_option maxRecDepth 100000 in
set_option maxHeartbeats 8000000 in
theorem through_nil (r : Rn) (a : Option Addr) (c : Nat) (w : World) (hr : RnAt r w) :
    Calls Tryz.prog 97 #[.agg r.vals, .slice a 0 c] w (ThPost (handG r.h r.qb r.ps) w) := by
  obtain ⟨hA, R1, s1, A1⟩ := through_mem r (.slice a 0 c) w
  have HH := hid (fun W (hW : Below w.heap.size w W) => handle_any r W (hr.below hW))
  generalize handG r.h r.qb r.ps = G at *
  obtain ⟨r0, r1, r2, r3, r4, r5, r6, r7, r8⟩ := R1.cells
  have lr := R1.lt
  clear hr R1
  obtain ⟨qm, qt, qb, fs, fa, fc, ps, pa, pc, ⟨hk', hst, ht, hn⟩⟩ := r
  simp only [Rn.vals] at *
  go_enter Tryz.func97, Tryz.ntmps97
  go_upto_region 2 with fail
  generalize ((w.alloc (.cells #[.string qm, .string qt, .slice fa fs.length fc, .string qb, .slice pa ps.length pc, .int .i64 hk', .int .i64 hst, .string ht, .string hn] 188)).alloc (.cells #[.slice a 0 c] 30)).alloc (.cells #[.int .i64 0, .slice none 0 0, .string ⟨#[]⟩, .bool false] 89) = w1 at *
  have HEND := hid (HH.out w1 hA)
  have la := A1.lt
  clear HH
  go_wp2_with fail
  refine HEND.out.mono ?_
  cases G with
  | none =>
    rintro x w2 ⟨rfl, hb2⟩
    exact ⟨rfl, rfl, bel_of hA hb2⟩
  | some a =>
    rintro x w2 ⟨⟨vv, rfl, ow⟩, hb2⟩
    have A2 := A1.below hb2
    have hB2 := bel_of hA hb2
    have hno : vv.ownBlock ≠ some (w.heap.size + 1 + 1) := fun e => by have := own_ge ow _ e; omega
    have HO := hid (owns_base ow hA.size)
    obtain ⟨ax, cx, rfl⟩ := sl_of ow
    obtain ⟨c0, c1, c2, c3⟩ := A2.cells
    have f0 := A2.free 0
    have f1 := A2.free 1
    have f2 := A2.free 2
    have f3 := A2.free 3
    have l2 := A2.lt
    obtain ⟨d0, d1, d2, d3⟩ := (A2.set a.st (.slice ax a.fs.length cx) a.b false).cells
    have HF : Hid ((setA (w.heap.size + 1 + 1) a.st (.slice ax a.fs.length cx) a.b false w2).ownsRow w.heap.size 134 2 (.slice ax a.fs.length cx) a.fs.length (prCells a.fs) ∧ Below w.heap.size w (setA (w.heap.size + 1 + 1) a.st (.slice ax a.fs.length cx) a.b false w2)) := ⟨owns_setA HO.out hno, below_setA hB2 (by omega)⟩
    unfold setA at d0 d1 d2 d3
    clear ow HO A1
    go_wp2_with fail
    refine bodyPost_ret (v := .agg #[.int .i64 a.st, .slice ax a.fs.length cx, .string a.b, .bool false]) (by simp [results, Tryz.results97, go_sem, d0, d1, d2, d3]) rfl ?_
    exact ⟨⟨_, rfl, HF.out.1⟩, HF.out.2⟩
end Go.Proofs.YtpilfanbfpbldaaGreatDoor
