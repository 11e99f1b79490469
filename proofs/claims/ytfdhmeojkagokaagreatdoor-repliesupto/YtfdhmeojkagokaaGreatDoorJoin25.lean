/- Texts that follow one another, joined. -/
import Derived.Test.YtfdhmeojkagokaaGreatDoorJoin22
import Derived.Test.YtfdhmeojkagokaaGreatDoorJoin18
import Derived.Test.YtfdhmeojkagokaaGreatDoorJoin24
import Derived.Deep.Cut
/- A ware that guards. -/
namespace Go.Proofs.YtfdhmeojkagokaaGreatDoor
open Go.RowKit

set_option maxRecDepth 100000 in
set_option maxHeartbeats 8000000 in
theorem around_guard (r : Rn) (x : Wr) (p1 p2 : Addr) (G : Option An) (w : World) (hk : x.k = 1) (hr : RnAt r w) (HIN : ∀ W, Below w.heap.size w W → Calls Tryz.prog 111 #[.pointer (some p1), .pointer (some p2)] W (ThPost G W)) :
    Calls Tryz.prog 110 #[.agg r.vals, .agg #[.int .i64 x.k, .string x.n, .string x.v, .int .i64 x.lim], .func (.func 111) #[] #[.pointer (some p1), .pointer (some p2)]] w (ThPost (if x.v.data.toList ∈ (valsOf r.fs x.n.data.toList).map (fun b => b.data.toList) then G else some ⟨403, [], ⟨#[]⟩⟩) w) := by
  obtain ⟨hA, R1, X1, A1⟩ := around_mem r x w
  have HI := hid HIN
  have hvl : (valsOf r.fs x.n.data.toList).length ≤ 1000000 := Nat.le_trans (valsOf_le _ _) hr.nf
  have HV := hid (fun W (hW : Below w.heap.size w W) => values_any r.fs r.fa r.fc x.n W (hr.f.below hW) hr.nf hr.zf)
  generalize hGG : (if x.v.data.toList ∈ (valsOf r.fs x.n.data.toList).map (fun b => b.data.toList) then G else some ⟨403, [], ⟨#[]⟩⟩) = GG at *
  obtain ⟨r0, r1, r2, r3, r4, r5, r6, r7, r8⟩ := R1.cells
  obtain ⟨x0, x1, x2, x3⟩ := X1.cells
  have lr := R1.lt
  have lx := X1.lt
  clear HIN R1 X1 hr
  obtain ⟨qm, qt, qb, fs, fa, fc, ps, pa, pc, ⟨hk', hst, ht, hn⟩⟩ := r
  obtain ⟨xk, xn, xv, xl⟩ := x
  simp only [Rn.vals] at *
  subst hk
  go_enter Tryz.func110, Tryz.ntmps110
  go_upto_region 1 with fail
  generalize ((w.alloc (.cells #[.string qm, .string qt, .slice fa fs.length fc, .string qb, .slice pa ps.length pc, .int .i64 hk', .int .i64 hst, .string ht, .string hn] 124)).alloc (.cells #[.int .i64 1, .string xn, .string xv, .int .i64 xl] 84)).alloc (.cells #[.int .i64 0, .slice none 0 0, .string ⟨#[]⟩, .bool false] 44) = w1 at *
  have la := A1.lt
  have HV1 := hid (fun W (hW : Below w1.heap.size w1 W) => HV.out W (bel_of hA hW))
  have HI1 := hid (fun W (hW : Below w1.heap.size w1 W) => HI.out W (bel_of hA hW))
  have HA1 := hid A1
  have hb1 := Below.refl w1.heap.size w1
  generalize hVS : valsOf fs xn.data.toList = vals at *
  clear HI HV r0 r1 r3 r4 r5 r6 r7 r8 hVS A1
  go_upto_region 5 with fail
  by_cases hm : xv.data.toList ∈ vals.map (fun b => b.data.toList)
  · rw [if_pos hm] at hGG
    subst hGG
    have HC := hid (fun (l : Option Addr) (c : Nat) (W : World) (h : StAt vals l W) => contains_st vals l c xv W h hvl)
    rw [decide_eq_true hm] at HC
    clear hm
    go_region_held3 (fun W => W.cell? ⟨w.heap.size, 2, none⟩ = some (.slice fa fs.length fc) ∧ W.cell? ⟨w.heap.size + 1, 1, none⟩ = some (.string xn) ∧ W.cell? ⟨w.heap.size + 1, 2, none⟩ = some (.string xv)) (go_keep)
      (first
        | (go_at_call 70; refine (HV1.out _ hb1.drew).mono ?_; rintro x wB ⟨⟨va, vc, rfl, ov⟩, hbB⟩; have e1 := cell_later hbB x1; have e2 := cell_later hbB x2; have e3 := cell_later hbB r2; have HB := hid (bel_of hb1.drew hbB); have HQ := hid (HC.out va vc wB ov); clear ov)
        | (go_at_call 104; refine HQ.out.mono ?_; rintro x w3 ⟨rfl, rfl⟩))
    have HEND := hid (HI1.out _ HB.out)
    have A1 := HA1.out.below HB.out
    have hAB := bel_of hA HB.out
    have lw := HB.out.size
    clear HI1 HV1 HC HQ HA1
    go_wp2_with fail
    refine HEND.out.mono ?_
    cases G with
    | none =>
      rintro x w2 ⟨rfl, hb2⟩
      exact ⟨rfl, rfl, bel_of hAB hb2⟩
    | some a =>
      rintro x w2 ⟨⟨vv, rfl, ow⟩, hb2⟩
      have A2 := A1.below hb2
      have hB2 := bel_of hAB hb2
      have hno : vv.ownBlock ≠ some (w.heap.size + 1 + 1) := fun e => by have := own_ge ow _ e; omega
      have HO := hid (owns_base ow hAB.size)
      obtain ⟨ax, cx, rfl⟩ := sl_of ow
      obtain ⟨c0, c1, c2, c3⟩ := A2.cells
      have f0 := A2.free 0
      have f1 := A2.free 1
      have f2 := A2.free 2
      have f3 := A2.free 3
      have l2 := A2.lt
      obtain ⟨d0, d1, d2, d3⟩ := (A2.set a.st (.slice ax a.fs.length cx) a.b false).cells
      have HF : Hid ((setA (w.heap.size + 1 + 1) a.st (.slice ax a.fs.length cx) a.b false w2).ownsRow w.heap.size 70 2 (.slice ax a.fs.length cx) a.fs.length (prCells a.fs) ∧ Below w.heap.size w (setA (w.heap.size + 1 + 1) a.st (.slice ax a.fs.length cx) a.b false w2)) := ⟨owns_setA HO.out hno, below_setA hB2 (by omega)⟩
      unfold setA at d0 d1 d2 d3
      clear ow HO A1
      go_wp2_with fail
      refine bodyPost_ret (v := .agg #[.int .i64 a.st, .slice ax a.fs.length cx, .string a.b, .bool false]) (by simp [results, Tryz.results110, go_sem, d0, d1, d2, d3]) rfl ?_
      exact ⟨⟨_, rfl, HF.out.1⟩, HF.out.2⟩
  · rw [if_neg hm] at hGG
    subst hGG
    have HC := hid (fun (l : Option Addr) (c : Nat) (W : World) (h : StAt vals l W) => contains_st vals l c xv W h hvl)
    rw [decide_eq_false hm] at HC
    clear hm
    go_region_held3 (fun W => W.cell? ⟨w.heap.size, 2, none⟩ = some (.slice fa fs.length fc) ∧ W.cell? ⟨w.heap.size + 1, 1, none⟩ = some (.string xn) ∧ W.cell? ⟨w.heap.size + 1, 2, none⟩ = some (.string xv)) (go_keep)
      (first
        | (go_at_call 70; refine (HV1.out _ hb1.drew).mono ?_; rintro x wB ⟨⟨va, vc, rfl, ov⟩, hbB⟩; have e1 := cell_later hbB x1; have e2 := cell_later hbB x2; have e3 := cell_later hbB r2; have HB := hid (bel_of hb1.drew hbB); have HQ := hid (HC.out va vc wB ov); clear ov)
        | (go_at_call 104; refine HQ.out.mono ?_; rintro x w3 ⟨rfl, rfl⟩))
    have A1 := HA1.out.below HB.out
    have hAB := bel_of hA HB.out
    obtain ⟨c0, c1, c2, c3⟩ := A1.cells
    have f0 := A1.free 0
    have f1 := A1.free 1
    have f2 := A1.free 2
    have f3 := A1.free 3
    have l2 := A1.lt
    obtain ⟨d0, d1, d2, d3⟩ := (A1.set 403 (.slice none 0 0) ⟨#[]⟩ false).cells
    unfold setA at d0 d1 d2 d3
    clear HI1 HV1 HC HQ HA1
    go_wp2_with fail
    refine bodyPost_ret (v := .agg #[.int .i64 403, .slice none 0 0, .string ⟨#[]⟩, .bool false]) (by simp [results, Tryz.results110, go_sem, d0, d1, d2, d3]) rfl ?_
    exact ⟨⟨_, rfl, World.ownsRow_nil _ _ _ _⟩, below_setA hAB (by omega)⟩
end Go.Proofs.YtfdhmeojkagokaaGreatDoor

/- Through the wares. -/
namespace Go.Proofs.YtfdhmeojkagokaaGreatDoor
open Go.RowKit

theorem around_any (r : Rn) (x : Wr) (p1 p2 : Addr) (G : Option An) (w : World) (hr : RnAt r w) (hGl : ∀ a, G = some a → a.fs.length ≤ 50000000) (HIN : ∀ W, Below w.heap.size w W → Calls Tryz.prog 111 #[.pointer (some p1), .pointer (some p2)] W (ThPost G W)) :
    Calls Tryz.prog 110 #[.agg r.vals, .agg #[.int .i64 x.k, .string x.n, .string x.v, .int .i64 x.lim], .func (.func 111) #[] #[.pointer (some p1), .pointer (some p2)]] w (ThPost (wareG x r.fs r.qb G) w) := by
  by_cases k0 : x.k = 0
  · have e : wareG x r.fs r.qb G = G.map fun a => ⟨a.st, a.fs ++ [(x.n, x.v)], a.b⟩ := by unfold wareG; rw [if_pos k0]
    rw [e]; exact around_add r x p1 p2 G w k0 hGl HIN
  by_cases k1 : x.k = 1
  · have e : wareG x r.fs r.qb G = if x.v.data.toList ∈ (valsOf r.fs x.n.data.toList).map (fun b => b.data.toList) then G else some ⟨403, [], ⟨#[]⟩⟩ := by unfold wareG; rw [if_neg k0, if_pos k1]
    rw [e]; exact around_guard r x p1 p2 G w k1 hr HIN
  by_cases k2 : x.k = 2
  · exact around_plain r x p1 p2 G w (.inl k2) HIN
  by_cases k3 : x.k = 3
  · exact around_plain r x p1 p2 G w (.inr (.inl k3)) HIN
  by_cases k4 : x.k = 4
  · have e : wareG x r.fs r.qb G = G.map fun a => ⟨a.st, a.fs ++ (valsOf r.fs x.n.data.toList).map (fun v => (x.n, v)), a.b⟩ := by unfold wareG; rw [if_neg k0, if_neg k1, if_neg k2, if_neg k3, if_pos k4]
    rw [e]; exact around_copy r x p1 p2 G w k4 hr hGl HIN
  exact around_plain r x p1 p2 G w (.inr (.inr ⟨k0, k1, k2, k3, k4⟩)) HIN
theorem handG_le {h : Hn} {qb : ByteArray} {ps : List Prm} {a : An} (e : handG h qb ps = some a) : a.fs.length ≤ 1 := by
  unfold handG at e
  split at e
  · cases e; simp
  split at e
  · cases e; simp
  split at e
  · cases e; simp
  split at e
  · cases e; simp
  · cases e
theorem wareG_le {x : Wr} {qf : List Prm} {qb : ByteArray} {G : Option An} {N : Nat} (h : ∀ a, G = some a → a.fs.length ≤ N) {a : An} (e : wareG x qf qb G = some a) : a.fs.length ≤ N + (qf.length + 1) := by
  unfold wareG at e
  split at e
  · obtain ⟨b, hb, rfl⟩ := Option.map_eq_some_iff.1 e
    have := h b hb
    simp; omega
  split at e
  · split at e
    · have := h a e; omega
    · cases e; simp
  split at e
  · split at e
    · cases e; simp
    · have := h a e; omega
  split at e
  · cases G with
    | none => cases e; simp
    | some b => have := h a e; omega
  split at e
  · obtain ⟨b, hb, rfl⟩ := Option.map_eq_some_iff.1 e
    have := h b hb
    have := valsOf_le qf x.n.data.toList
    simp; omega
  · have := h a e; omega
theorem thrG_le (qf : List Prm) (qb : ByteArray) (h : Hn) (ps : List Prm) : ∀ (ws : List Wr) (a : An), thrG qf qb h ps ws = some a → a.fs.length ≤ 1 + ws.length * (qf.length + 1)
  | [], a, e => by have := handG_le e; simp; omega
  | x :: r, a, e => by
    have := wareG_le (thrG_le qf qb h ps r) e
    rw [List.length_cons, Nat.add_mul]; omega
end Go.Proofs.YtfdhmeojkagokaaGreatDoor

/- How great an answer can be. -/
namespace Go.Proofs.YtfdhmeojkagokaaGreatDoor
open Go.RowKit

def SmA (K : Nat) (a : An) : Prop := a.b.size ≤ K ∧ ∀ p ∈ a.fs, p.1.size ≤ K ∧ p.2.size ≤ K
theorem st_small {K : Nat} (n : List UInt8) : ∀ ps : List Prm, (∀ p ∈ ps, p.2.size ≤ K) → (stG n ps).size ≤ K
  | [], _ => Nat.zero_le K
  | p :: r, h => by
    rw [stG]
    split
    · exact h p (by simp)
    · exact st_small n r (fun q hq => h q (by simp [hq]))
theorem hand_small {K : Nat} {h : Hn} {qb : ByteArray} {ps : List Prm} {a : An} (ht : h.t.size ≤ K) (hq : qb.size ≤ K) (hp : ∀ p ∈ ps, p.2.size ≤ K) (e : handG h qb ps = some a) : SmA K a := by
  have hs := st_small h.n.data.toList ps hp
  unfold handG at e
  split at e
  · cases e; exact ⟨ht, by simp⟩
  split at e
  · cases e; exact ⟨hq, by simp⟩
  split at e
  · cases e; exact ⟨hs, by simp⟩
  split at e
  · cases e
    refine ⟨Nat.zero_le _, fun p hp => ?_⟩
    simp only [List.mem_singleton] at hp
    subst hp
    exact ⟨ht, hs⟩
  · cases e
theorem none_small (K : Nat) (st : Int) : SmA K ⟨st, [], ⟨#[]⟩⟩ := ⟨Nat.zero_le _, by simp⟩
theorem vals_in {qf : List Prm} {n : List UInt8} {v : ByteArray} (h : v ∈ valsOf qf n) : ∃ p ∈ qf, p.2 = v := by
  unfold valsOf at h
  obtain ⟨p, hp, rfl⟩ := List.mem_map.1 h
  exact ⟨p, (List.mem_filter.1 hp).1, rfl⟩
theorem ware_small {K : Nat} {x : Wr} {qf : List Prm} {qb : ByteArray} {G : Option An} (h5 : 5 ≤ K) (hx : x.n.size ≤ K ∧ x.v.size ≤ K) (hf : ∀ p ∈ qf, p.2.size ≤ K) (h : ∀ a, G = some a → SmA K a) {a : An} (e : wareG x qf qb G = some a) : SmA K a := by
  unfold wareG at e
  split at e
  · obtain ⟨b, hb, rfl⟩ := Option.map_eq_some_iff.1 e
    refine ⟨(h b hb).1, fun p hp => ?_⟩
    rcases List.mem_append.1 hp with hp | hp
    · exact (h b hb).2 p hp
    · simp only [List.mem_singleton] at hp; subst hp; exact hx
  split at e
  · split at e
    · exact h a e
    · cases e; exact none_small K _
  split at e
  · split at e
    · cases e; exact none_small K _
    · exact h a e
  split at e
  · cases G with
    | none => cases e; exact ⟨h5, by simp⟩
    | some b => exact h a e
  split at e
  · obtain ⟨b, hb, rfl⟩ := Option.map_eq_some_iff.1 e
    refine ⟨(h b hb).1, fun p hp => ?_⟩
    rcases List.mem_append.1 hp with hp | hp
    · exact (h b hb).2 p hp
    · obtain ⟨v, hv, rfl⟩ := List.mem_map.1 hp
      obtain ⟨q, hq, rfl⟩ := vals_in hv
      exact ⟨hx.1, hf q hq⟩
  · exact h a e
theorem thr_small {K : Nat} {qf : List Prm} {qb : ByteArray} {h : Hn} {ps : List Prm} (h5 : 5 ≤ K) (hf : ∀ p ∈ qf, p.2.size ≤ K) (ht : h.t.size ≤ K) (hq : qb.size ≤ K) (hp : ∀ p ∈ ps, p.2.size ≤ K) : ∀ (ws : List Wr) (a : An), (∀ x ∈ ws, x.n.size ≤ K ∧ x.v.size ≤ K) → thrG qf qb h ps ws = some a → SmA K a
  | [], a, _, e => hand_small ht hq hp e
  | x :: r, a, hw, e => ware_small h5 (hw x (by simp)) hf (fun b hb => thr_small h5 hf ht hq hp r b (fun y hy => hw y (by simp [hy])) hb) e
theorem unesc_le : ∀ (n : Nat) (l o : List UInt8), l.length ≤ n → Pm.unesc l = some o → o.length ≤ l.length
  | 0, l, o, hl, h => by
    have : l = [] := List.eq_nil_of_length_eq_zero (by omega)
    subst this
    simp [Pm.unesc] at h; simp [← h]
  | n + 1, [], o, _, h => by simp [Pm.unesc] at h; simp [← h]
  | n + 1, c :: r, o, hl, h => by
    by_cases hc : c = 37
    · subst hc
      match r, hl, h with
      | [], _, h => rw [Pm.unesc_short [] (by simp)] at h; simp at h
      | [a], _, h => rw [Pm.unesc_short [a] (by simp)] at h; simp at h
      | a :: b :: r, hl, h =>
        rw [Pm.unesc, if_pos rfl] at h
        split at h
        · obtain ⟨y, hy, rfl⟩ := Option.map_eq_some_iff.1 h
          have := unesc_le n r y (by simp at hl; omega) hy
          simp; omega
        · simp at h
    · rw [Pm.unesc_plain c r hc] at h
      obtain ⟨y, hy, rfl⟩ := Option.map_eq_some_iff.1 h
      have := unesc_le n r y (by simp at hl; omega) hy
      simp; omega
theorem unT_le (l : List UInt8) : (Pm.unT l).size ≤ l.length := by
  unfold Pm.unT
  cases h : Pm.unesc l with
  | none => exact Nat.zero_le _
  | some o =>
    have := unesc_le l.length l o (Nat.le_refl _) h
    show o.toArray.size ≤ l.length
    simpa using this
theorem match_small (K : Nat) : ∀ (ps : List (Int × ByteArray)) (l : List UInt8) (mr : Bool) (acc fs : List Prm), l.length ≤ K → (∀ p ∈ acc, p.2.size ≤ K) → matchB ps l mr acc = some fs → ∀ p ∈ fs, p.2.size ≤ K
  | [], l, mr, acc, fs, _, ha, h => by
    rw [matchB] at h
    split at h
    · simp at h
    · cases h; exact ha
  | q :: r, l, mr, acc, fs, hl, ha, h => by
    rw [matchB] at h
    split at h
    · simp at h
    split at h
    · have hraw : (rawOf q.1 l).length ≤ l.length := by
        unfold rawOf; split
        · exact Nat.le_refl _
        · exact (ahead_le 47 l).1
      have hleft : (leftOf q.1 l).length ≤ l.length := by
        unfold leftOf; split
        · exact Nat.le_refl _
        · exact (ahead_le 47 l).2
      refine match_small K r _ _ _ fs (by omega) (fun p hp => ?_) h
      split at hp
      · exact ha p hp
      · rcases List.mem_append.1 hp with hp | hp
        · exact ha p hp
        · simp only [List.mem_singleton] at hp
          subst hp
          have := unT_le (rawOf q.1 l)
          simp only; omega
    · simp at h
theorem find_small (K : Nat) (m l : List UInt8) (hl : l.length ≤ K) : ∀ (es : List Ent) (k : Nat), ∀ p ∈ (findG m l es k).2.1, p.2.size ≤ K
  | [], _ => by simp [findG]
  | e :: r, k => by
    rw [findG]
    split
    · split
      · rename_i fs hfs
        exact match_small K _ _ _ _ fs (by simp; omega) (by simp) hfs
      · exact find_small K m l hl r (k + 1)
    · exact find_small K m l hl r (k + 1)
theorem dsp_small (K : Nat) (m t : List UInt8) (es : List Ent) (ht : t.length ≤ K) : ∀ p ∈ (dspG m t es).ps, p.2.size ≤ K := by
  have hh := (ahead_le 63 t).1
  have hz : ∀ p ∈ (leadG m (Pm.ahead 63 t) es).2.1, p.2.size ≤ K := by
    unfold leadG
    split
    · exact find_small K _ _ (by omega) _ _
    · exact find_small K _ _ (by omega) _ _
  unfold dspG
  split
  · simp
  split
  · exact hz
  split
  · simp
  · split <;> simp
theorem aro_le (qf : List Prm) (G : Option An) (N : Nat) (h : ∀ a, G = some a → a.fs.length ≤ N) : ∀ (ws : List Wr) (a : An), aroG qf G ws = some a → a.fs.length ≤ N + ws.length * (qf.length + 1)
  | [], a, e => by have := h a e; simpa using this
  | x :: r, a, e => by
    have ih := aro_le qf G N h r
    rw [aroG] at e
    rw [List.length_cons, Nat.add_mul]
    generalize aroG qf G r = H at *
    have hv := valsOf_le qf x.n.data.toList
    unfold stepG at e
    split at e
    · obtain ⟨b, hb, rfl⟩ := Option.map_eq_some_iff.1 e
      have := ih b hb
      simp; omega
    split at e
    · cases H with
      | none => cases e; simp
      | some b => have := ih a e; omega
    split at e
    · obtain ⟨b, hb, rfl⟩ := Option.map_eq_some_iff.1 e
      have := ih b hb
      simp; omega
    · have := ih a e; omega
end Go.Proofs.YtfdhmeojkagokaaGreatDoor

/- What comes of a request that leads to a route, by the reference. -/
namespace Go.Proofs.YtfdhmeojkagokaaGreatDoor
open Go.RowKit

structure RoI (w : World) (c q f : Array Value) (ga : Nat) (st : Int) (vv : Value) (b : ByteArray) (wr : World) : Prop where
  c : Bl w.heap.size c 27 wr
  q : Bl (w.heap.size + 1) q 30 wr
  f : Bl (w.heap.size + 1 + 1) f 63 wr
  r : AnB (w.heap.size + 1 + 1 + 1) 0 (.slice none 0 0) ⟨#[]⟩ false wr
  a : AnB ga st vv b false wr
  g : w.heap.size + 1 + 1 + 1 < ga
  bl : Below w.heap.size w wr
theorem RoI.below {w : World} {c q f : Array Value} {ga : Nat} {st : Int} {vv : Value} {b : ByteArray} {wr w' : World} (h : RoI w c q f ga st vv b wr) (hb : Below wr.heap.size wr w') : RoI w c q f ga st vv b w' :=
  ⟨h.c.below hb, h.q.below hb, h.f.below hb, h.r.below hb, h.a.below hb, h.g, bel_of h.bl hb⟩
theorem RoI.keep {w : World} {c q f : Array Value} {ga : Nat} {st : Int} {vv : Value} {b : ByteArray} {wr w' : World} (h : RoI w c q f ga st vv b wr) (hk : ∀ g, g ≤ ga → w'.heap[g]? = wr.heap[g]?) (hb : Below w.heap.size w w') : RoI w c q f ga st vv b w' := by
  have hg := h.g
  exact ⟨h.c.keep (hk _ (by omega)), h.q.keep (hk _ (by omega)), h.f.keep (hk _ (by omega)), h.r.bl.keep (hk _ (by omega)), h.a.bl.keep (hk _ (Nat.le_refl _)), h.g, hb⟩
theorem RoI.set {w : World} {c q f : Array Value} {ga : Nat} {st : Int} {vv : Value} {b : ByteArray} {wr : World} (h : RoI w c q f ga st vv b wr) (st' : Int) (vv' : Value) (b' : ByteArray) : RoI w c q f ga st' vv' b' (setA ga st' vv' b' false wr) := by
  have hg := h.g
  exact ⟨h.c.otherA (by omega) _ _ _ _, h.q.otherA (by omega) _ _ _ _, h.f.otherA (by omega) _ _ _ _, h.r.bl.otherA (by omega) _ _ _ _, h.a.set _ _ _ _, h.g, below_setA h.bl (by omega)⟩
theorem roI_new (c q f : Array Value) (w : World) : Below w.heap.size w ((((w.alloc (.cells c 27)).alloc (.cells q 30)).alloc (.cells f 63)).alloc (.cells #[.int .i64 0, .slice none 0 0, .string ⟨#[]⟩, .bool false] 44)) ∧ Bl w.heap.size c 27 ((((w.alloc (.cells c 27)).alloc (.cells q 30)).alloc (.cells f 63)).alloc (.cells #[.int .i64 0, .slice none 0 0, .string ⟨#[]⟩, .bool false] 44)) ∧ Bl (w.heap.size + 1) q 30 ((((w.alloc (.cells c 27)).alloc (.cells q 30)).alloc (.cells f 63)).alloc (.cells #[.int .i64 0, .slice none 0 0, .string ⟨#[]⟩, .bool false] 44)) ∧ Bl (w.heap.size + 1 + 1) f 63 ((((w.alloc (.cells c 27)).alloc (.cells q 30)).alloc (.cells f 63)).alloc (.cells #[.int .i64 0, .slice none 0 0, .string ⟨#[]⟩, .bool false] 44)) ∧ AnB (w.heap.size + 1 + 1 + 1) 0 (.slice none 0 0) ⟨#[]⟩ false ((((w.alloc (.cells c 27)).alloc (.cells q 30)).alloc (.cells f 63)).alloc (.cells #[.int .i64 0, .slice none 0 0, .string ⟨#[]⟩, .bool false] 44)) := by
  have h1 := (Below.refl w.heap.size w).alloc (Nat.le_refl _) (.cells c 27)
  have b1 := Bl.new w c 27
  have z1 : (w.alloc (.cells c 27)).heap.size = w.heap.size + 1 := by simp
  generalize w.alloc (.cells c 27) = W1 at *
  have h2 := h1.alloc h1.size (.cells q 30)
  have b2 := Bl.new W1 q 30
  have k1 := b1.alloc (.cells q 30)
  have z2 : (W1.alloc (.cells q 30)).heap.size = w.heap.size + 1 + 1 := by simp [z1]
  rw [z1] at b2
  generalize W1.alloc (.cells q 30) = W2 at *
  have h3 := h2.alloc h2.size (.cells f 63)
  have b3 := Bl.new W2 f 63
  have m1 := k1.alloc (.cells f 63)
  have m2 := b2.alloc (.cells f 63)
  have z3 : (W2.alloc (.cells f 63)).heap.size = w.heap.size + 1 + 1 + 1 := by simp [z2]
  rw [z2] at b3
  generalize W2.alloc (.cells f 63) = W3 at *
  have b4 := Bl.new W3 #[.int .i64 0, .slice none 0 0, .string ⟨#[]⟩, .bool false] 44
  rw [z3] at b4
  exact ⟨h3.alloc h3.size _, m1.alloc _, m2.alloc _, b3.alloc _, b4⟩
def RoG (w : World) (c q f : Array Value) (ga : Nat) (G : Option An) (ok : Value) (wr : World) : Prop :=
  match G with
  | none => ok = .bool false ∧ RoI w c q f ga 0 (.slice none 0 0) ⟨#[]⟩ wr
  | some a => ok = .bool true ∧ ∃ vv, RoI w c q f ga a.st vv a.b wr ∧ wr.ownsRow w.heap.size 70 2 vv a.fs.length (prCells a.fs) ∧ ∀ g, vv.ownBlock = some g → ga < g
def RuG (w : World) (c q f : Array Value) (ga : Nat) (G : Option An) (up : Value) (wr : World) : Prop :=
  match G with
  | none => up = .bool true ∧ RoI w c q f ga 0 (.slice none 0 0) ⟨#[]⟩ wr
  | some a => up = .bool false ∧ ∃ vv, RoI w c q f ga a.st vv a.b wr ∧ wr.ownsRow w.heap.size 70 2 vv a.fs.length (prCells a.fs) ∧ ∀ g, g ≤ ga → vv.ownBlock ≠ some g
theorem mu_take {α : Type} {sz : Nat} {f : α → List Value} {l : List α} {a : Option Addr} {w : World} (h : MuAt sz f l a w) (n : Nat) : MuAt sz f (l.take n) a w := fun i hi => by
  have hi2 : i < l.length := by rw [List.length_take] at hi; omega
  obtain ⟨g, o, h1, h2, h3⟩ := h i hi2
  exact ⟨g, o, h1, h2, fun j v hv => h3 j v (by simpa using hv)⟩
end Go.Proofs.YtfdhmeojkagokaaGreatDoor
