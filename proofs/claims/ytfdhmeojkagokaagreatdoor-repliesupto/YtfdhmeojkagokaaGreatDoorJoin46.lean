/- Texts that follow one another, joined. -/
import Derived.Test.YtfdhmeojkagokaaGreatDoorJoin45
import Derived.Test.YtfdhmeojkagokaaGreatDoorJoin39
import Derived.Test.YtfdhmeojkagokaaGreatDoorJoin42
/- looks: all lists that the book holds read as they were written; nothing old in memory turns. -/
namespace Go.Proofs.YtfdhmeojkagokaaGreatDoor
open Go.RowKit

theorem owns_at1 {w : World} {B : Nat} {e : TypeId} {v : Value} {n : Nat} {xs : List Value} (h : w.ownsRow B e 1 v n xs) : ∃ a c, v = .slice a n c ∧ ∀ i (_ : i < n) (hx : i < xs.length), ∃ g, a = some ⟨g, 0, none⟩ ∧ g < w.heap.size ∧ w.cell? ⟨g, i, none⟩ = some xs[i] := by
  obtain ⟨h1, h2⟩ := h
  rcases h2 with ⟨rfl, rfl⟩ | ⟨g, cap, cur, rfl, _, hg, _, _, _, hc⟩
  · exact ⟨none, 0, rfl, fun i hi => absurd hi (by omega)⟩
  · refine ⟨some ⟨g, 0, none⟩, cap, rfl, fun i hi hx => ⟨g, rfl, heap_lt hg, ?_⟩⟩
    rw [Lib.cell_of_heap hg]
    have h3 : (cur.toList.take (n * 1))[i]? = some xs[i] := by rw [hc, List.getElem?_eq_getElem hx]
    rw [List.getElem?_take] at h3
    split at h3
    · simpa using h3
    · cases h3

set_option maxRecDepth 100000 in
set_option maxHeartbeats 2000000 in
theorem lookFields_any (bk B : Nat) (vs : List Value) (V : Value) (w : World) (hbk : BkAt bk B vs V w) (hvs : vs.length ≤ 12) (hg : ∀ i (h : i < vs.length), Good bk V i vs[i] w) :
    Calls Tryz.prog 18 #[.pointer (some ⟨bk, 0, none⟩)] w fun r w' => r = .returned (.bool true) ∧ Below w.heap.size w w' := by
  obtain ⟨Va, Vc, rfl, hcell⟩ := owns_at1 hbk.own
  have HC := hid hcell
  have HG := hid hg
  have HB : Hid (w.cell? ⟨bk, 3, none⟩ = some (.slice Va vs.length Vc)) := by show w.cell? ⟨bk, 3, none⟩ = some (.slice Va vs.length Vc); rw [Lib.cell_of_heap hbk.blk]; rfl
  have lk := heap_lt hbk.blk
  clear hbk hg hcell
  go_enter Tryz.func18, Tryz.ntmps18
  go_wp2_with fail
  go_loopw [3, 4, 5] (fun i _ _ wr => ∃ q : Nat, q ≤ vs.length ∧ i = .int .i64 q ∧ Below w.heap.size w wr) (fun i _ _ _ => vs.length - (intOf i).toNat)
  case atStart => exact ⟨0, Nat.zero_le _, rfl, Below.refl _ _⟩
  case round =>
    obtain ⟨q, hq, rfl, hbw⟩ := hrel
    have b3 := cell_later hbw HB.out
    by_cases hlt : q < vs.length
    · go_wp2_with fail
      rw [show ((q : Int) / 4 * 4) = ((q / 4 * 4 : Nat) : Int) from by omega]
      refine (markField_any (q / 4 * 4) (by omega) _).mono ?_
      rintro e w1 ⟨rfl, hb1⟩
      have hB1 := bel_of hbw hb1
      have hA2 := (Below.refl w1.heap.size w1).alloc (Nat.le_refl _) (.cells #[.string (markB (q / 4 * 4)), .string ⟨#[46]⟩] 70)
      have hB2 := bel_of hB1 hA2
      have hm2 : (w1.alloc (.cells #[.string (markB (q / 4 * 4)), .string ⟨#[46]⟩] 70)).heap[w1.heap.size]? = some (.cells #[.string (markB (q / 4 * 4)), .string ⟨#[46]⟩] 70 (0, 0)) := heap_alloc_new w1 _
      clear b3 hbw hb1 hB1 hA2
      go_wp2_with fail
      generalize w1.alloc (.cells #[.string (markB (q / 4 * 4)), .string ⟨#[46]⟩] 70) = w2 at *
      generalize w1.heap.size = mb at *
      obtain ⟨la, n, lc, hv, hn, hmk, _⟩ := HG.out q hlt
      obtain ⟨gV, rfl, hgV, hvc⟩ := HC.out q hlt hlt
      rw [hv] at hvc
      have HMK := hid hmk
      clear hmk
      go_loopw [5] (fun j wr2 => ∃ p : Nat, p ≤ n ∧ j = .int .i64 p ∧ Below w2.heap.size w2 wr2) (fun j _ => n - (intOf j).toNat)
      case atStart => exact ⟨0, Nat.zero_le _, rfl, Below.refl _ _⟩
      case round =>
        obtain ⟨p, hp, rfl, hbp⟩ := hrel
        have hB3 := bel_of hB2 hbp
        have b3 := cell_later hB3 HB.out
        have v3 := cell_later hB3 hvc
        have m0 := cell_later hbp (a := ⟨mb, 0, none⟩) (v := .string (markB (q / 4 * 4))) (by rw [Lib.cell_of_heap hm2]; rfl)
        have m1 := cell_later hbp (a := ⟨mb, 1, none⟩) (v := .string ⟨#[46]⟩) (by rw [Lib.cell_of_heap hm2]; rfl)
        by_cases hlp : p < n
        · obtain ⟨gl, rfl, hgl, hc1, hc2⟩ := (HMK.out.below hB3) p (by simpa using hlp)
          simp only [List.getElem_replicate, mkF] at hc1 hc2
          go_wp2_with fail
          go_quiet (fail)
          go_wp2
          exact ⟨⟨p + 1, by omega, by go_num, below_drewN hbp _⟩, by simp [intOf]; omega⟩
        · go_wp2
          exact ⟨⟨q + 1, by omega, by go_num, hB3⟩, by simp [intOf]; omega⟩
    · go_wp2
      go_ret
      exact ⟨rfl, hbw⟩
end Go.Proofs.YtfdhmeojkagokaaGreatDoor

/- looks of a book that holds fields alone; Frame at any limits, the program's and the reference's; frames. -/
namespace Go.Proofs.YtfdhmeojkagokaaGreatDoor
open Go.RowKit

set_option maxHeartbeats 1000000 in
theorem lookInts_none (bk : Nat) (w : World) (h : w.cell? ⟨bk, 0, none⟩ = some (.slice none 0 0)) :
    Calls Tryz.prog 15 #[.pointer (some ⟨bk, 0, none⟩)] w fun r w' => r = .returned (.bool true) ∧ w' = w := by
  go_enter Tryz.func15, Tryz.ntmps15
  go_wp2_with fail
  go_loop [3, 4, 5] (fun i _ _ => i = .int .i64 0) (fun _ _ _ => 0)
  case atStart => rfl
  case round =>
    obtain rfl := hrel
    go_wp2
    go_ret
    exact ⟨rfl, rfl⟩

set_option maxHeartbeats 1000000 in
theorem lookTexts_none (bk : Nat) (w : World) (h : w.cell? ⟨bk, 1, none⟩ = some (.slice none 0 0)) :
    Calls Tryz.prog 16 #[.pointer (some ⟨bk, 0, none⟩)] w fun r w' => r = .returned (.bool true) ∧ w' = w := by
  go_enter Tryz.func16, Tryz.ntmps16
  go_wp2_with fail
  go_loop [3, 4, 5] (fun i _ _ => i = .int .i64 0) (fun _ _ _ => 0)
  case atStart => rfl
  case round =>
    obtain rfl := hrel
    go_wp2
    go_ret
    exact ⟨rfl, rfl⟩

set_option maxHeartbeats 1000000 in
theorem lookParams_none (bk : Nat) (w : World) (h : w.cell? ⟨bk, 2, none⟩ = some (.slice none 0 0)) :
    Calls Tryz.prog 17 #[.pointer (some ⟨bk, 0, none⟩)] w fun r w' => r = .returned (.bool true) ∧ w' = w := by
  go_enter Tryz.func17, Tryz.ntmps17
  go_wp2_with fail
  go_loop [3, 4, 5] (fun i _ _ => i = .int .i64 0) (fun _ _ _ => 0)
  case atStart => rfl
  case round =>
    obtain rfl := hrel
    go_wp2
    go_ret
    exact ⟨rfl, rfl⟩

set_option maxHeartbeats 1000000 in
theorem looks_any (bk B : Nat) (vs : List Value) (V : Value) (w : World) (hbk : BkAt bk B vs V w) (hvs : vs.length ≤ 12) (hg : ∀ i (h : i < vs.length), Good bk V i vs[i] w) :
    Calls Tryz.prog 5 #[.pointer (some ⟨bk, 0, none⟩)] w fun r w' => r = .returned (.bool true) ∧ Below w.heap.size w w' := by
  have c0 : w.cell? ⟨bk, 0, none⟩ = some (.slice none 0 0) := by rw [Lib.cell_of_heap hbk.blk]; rfl
  have c1 : w.cell? ⟨bk, 1, none⟩ = some (.slice none 0 0) := by rw [Lib.cell_of_heap hbk.blk]; rfl
  have c2 : w.cell? ⟨bk, 2, none⟩ = some (.slice none 0 0) := by rw [Lib.cell_of_heap hbk.blk]; rfl
  have H1 := hid (lookInts_none bk w c0)
  have H2 := hid (lookTexts_none bk w c1)
  have H3 := hid (lookParams_none bk w c2)
  have H4 := hid (lookFields_any bk B vs V w hbk hvs hg)
  clear c0 c1 c2 hbk hg
  go_enter Tryz.func5, Tryz.ntmps5
  go_wp2_with fail
  refine H1.out.mono ?_
  rintro e w1 ⟨rfl, hw1⟩
  subst hw1
  go_wp2_with fail
  refine H2.out.mono ?_
  rintro e w2 ⟨rfl, hw2⟩
  subst hw2
  go_wp2_with fail
  refine H3.out.mono ?_
  rintro e w3 ⟨rfl, hw3⟩
  subst hw3
  go_wp2_with fail
  refine H4.out.mono ?_
  rintro e w4 ⟨rfl, hb4⟩
  clear H1 H2 H3 H4
  go_wp2
  go_ret
  exact ⟨rfl, hb4⟩

/- what Frame answers, at any limits -/
end Go.Proofs.YtfdhmeojkagokaaGreatDoor

/- frames: what the program's Frame tells is what the reference's tells, and the list that came out is the caller's. -/
namespace Go.Proofs.YtfdhmeojkagokaaGreatDoor
open Go.RowKit

def RqG (g : Nat) (FR : FrameR) (v : Value) (w : World) : Prop := w.heap[g]? = some (.cells #[.string ⟨FR.2.1.toArray⟩, .string ⟨FR.2.2.1.toArray⟩, v, .string ⟨FR.2.2.2.2.1.toArray⟩] 30 (0, 0))
theorem RqG.cells {g : Nat} {FR : FrameR} {v : Value} {w : World} (h : RqG g FR v w) :
    w.cell? ⟨g, 0, none⟩ = some (.string ⟨FR.2.1.toArray⟩) ∧ w.cell? ⟨g, 1, none⟩ = some (.string ⟨FR.2.2.1.toArray⟩) ∧ w.cell? ⟨g, 2, none⟩ = some v ∧ w.cell? ⟨g, 3, none⟩ = some (.string ⟨FR.2.2.2.2.1.toArray⟩) := by
  refine ⟨?_, ?_, ?_, ?_⟩ <;> (rw [Lib.cell_of_heap h]; rfl)
theorem RqG.below {g : Nat} {FR : FrameR} {v : Value} {w w' : World} (h : RqG g FR v w) (hb : Below w.heap.size w w') : RqG g FR v w' := by
  have := hb.block g (heap_lt h); unfold RqG at *; rw [this]; exact h
theorem BkAt.below {bk B : Nat} {vs : List Value} {V : Value} {w w' : World} (h : BkAt bk B vs V w) (hb : Below w.heap.size w w') : BkAt bk B vs V w' :=
  { blk := by rw [hb.block bk (heap_lt h.blk)]; exact h.blk, own := owns_below h.own hb, lt := h.lt }

end Go.Proofs.YtfdhmeojkagokaaGreatDoor

/- The statement's own replies: Reply, again in a book. -/
namespace Go.Proofs.YtfdhmeojkagokaaGreatDoor
open Go.RowKit

theorem rep_big {R : DsR} {rs : List Rt} {ws : List Wr} {fs : List Prm} {qb : ByteArray} (hwl : R.e = 0 → ws.length ≤ 6) (hfl : fs.length ≤ 1000000) : (repD R rs ws fs qb).fs.length ≤ 60000000 ∧ ((repD R rs ws fs qb).fs.length = 0 ∨ (repD R rs ws fs qb).e = 0) := by
  unfold repD
  by_cases he : R.e = 0
  · rw [if_pos he]
    refine ⟨?_, .inr ?_⟩
    · cases hG : toG R rs ws fs qb with
      | none => simp [finG]
      | some a =>
        have hl : a.fs.length ≤ 50000000 := by
          unfold toG at hG
          split at hG
          · have h2 := thrG_le fs qb _ _ ws a hG
            have : ws.length * (fs.length + 1) ≤ 6 * (fs.length + 1) := Nat.mul_le_mul_right _ (hwl he)
            omega
          · cases hG
            unfold restG
            split
            · simp
            · split <;> simp
        cases h : a.fs.any (fun p => endG p.2)
        · rw [any_no h a rfl]; simp only; omega
        · rw [any_end h a rfl]; simp
    · cases toG R rs ws fs qb with
      | none => rfl
      | some a =>
        cases h : a.fs.any (fun p => endG p.2)
        · rw [any_no h a rfl]
        · rw [any_end h a rfl]
  · rw [if_neg he]; exact ⟨by simp, .inl rfl⟩
structure RqM (m t : ByteArray) (fs : List Prm) (b : ByteArray) (a : Option Addr) (c : Nat) (w : World) : Prop where
  f : FoAt fs a w
  z : a = none → fs = [] ∧ c = 0
  n : fs.length ≤ 1000000
  z1 : ∀ i (h : i < fs.length), fs[i].1.size ≤ maxLen
  z2 : ∀ p ∈ fs, p.2.size ≤ 2000000
  m : m.size ≤ maxLen
  t : t.size ≤ 2000000
  b : b.size ≤ 2000000
theorem RqM.below {m t : ByteArray} {fs : List Prm} {b : ByteArray} {a : Option Addr} {c : Nat} {w w' : World} (h : RqM m t fs b a c w) (hb : Below w.heap.size w w') : RqM m t fs b a c w' := ⟨h.f.below hb, h.z, h.n, h.z1, h.z2, h.m, h.t, h.b⟩
theorem two_mem (c0 q0 : Array Value) (w : World) : Below w.heap.size w ((w.alloc (.cells c0 27)).alloc (.cells q0 30)) ∧ Bl w.heap.size c0 27 ((w.alloc (.cells c0 27)).alloc (.cells q0 30)) ∧ Bl (w.heap.size + 1) q0 30 ((w.alloc (.cells c0 27)).alloc (.cells q0 30)) := by
  have h1 := (Below.refl w.heap.size w).alloc (Nat.le_refl _) (.cells c0 27)
  have b1 := Bl.new w c0 27
  have z1 : (w.alloc (.cells c0 27)).heap.size = w.heap.size + 1 := by simp
  have b2 := Bl.new (w.alloc (.cells c0 27)) q0 30
  rw [z1] at b2
  exact ⟨h1.alloc h1.size _, b1.alloc _, b2⟩
set_option maxRecDepth 100000 in
set_option maxHeartbeats 4000000 in
theorem replies_any (bk B N0 : Nat) (vs : List Value) (V : Value) (hd bd : Int) (rs : List Rt) (ws : List Wr) (ar : Option Addr) (cr : Nat) (aw : Option Addr) (cw : Nat) (qm qt qb : ByteArray) (fs : List Prm) (fa : Option Addr) (fc : Nat) (mx : Int) (w0 w : World) (hbk : BkAt bk B vs V w) (hvs : vs.length ≤ 8) (h4 : vs.length % 4 = 0) (hg : ∀ i (h : i < vs.length), Good bk V i vs[i] w)
    (hB : Below N0 w0 w) (n0 : N0 ≤ w.heap.size) (n1 : N0 ≤ bk) (n2 : N0 ≤ B) (n4 : B ≤ w.heap.size) (hC : CfG rs ws ar cr aw cw w) (hcw : ws.length ≤ cw) (hro : ∀ r ∈ rs, RtSm r) (hwo : ∀ x ∈ ws, x.n.size ≤ 1048576 ∧ x.v.size ≤ 1048576) (hq : RqM qm qt fs qb fa fc w) (hm : w.cell? ⟨0, 0, none⟩ = some (.int .i64 mx)) :
    Calls Tryz.prog 4 #[.pointer (some ⟨bk, 0, none⟩), .agg #[.int .i64 hd, .int .i64 bd, .slice ar rs.length cr, .slice aw ws.length cw], .agg #[.string qm, .string qt, .slice fa fs.length fc, .string qb]] w fun r w' => r = .returned (.bool true) ∧
      ∃ vs' V', vs'.length = vs.length + 4 ∧ BkAt bk B vs' V' w' ∧ (∀ i (h : i < vs'.length), Good bk V' i vs'[i] w') ∧ Below N0 w0 w' := by
  have hlk := heap_lt hbk.blk
  obtain ⟨hA, C1, Q1⟩ := two_mem #[.int .i64 hd, .int .i64 bd, .slice ar rs.length cr, .slice aw ws.length cw] #[.string qm, .string qt, .slice fa fs.length fc, .string qb] w
  have HLN := hid (fun W (hW : Below w.heap.size w W) => lent_any hd bd rs ws ar cr aw cw W (hC.below hW))
  have HLQ := hid (fun W (hW : Below w.heap.size w W) => lentRequest2 qm qt fs fa fc qb W (hq.f.below hW) hq.z (by have := hq.n; omega))
  have HPD := hid (fun W (a1 a2 a5 : Option Addr) (c1 c2 c5 : Nat) (hW : Below w.heap.size w W) (h1 : MuAt 6 Rt.cells rs a1 W) (h2 : MuAt 4 Wr.cells ws a2 W) (h5 : FlAt fs a5 W) => pReply_any hd bd rs ws a1 c1 a2 c2 qm qt qb fs a5 c5 mx W h1 h2 (cell_later hW hm) hro hwo h5 hq.n hq.z1 hq.z2 hq.m hq.t hq.b)
  have HRD := hid (fun W (hW : Below w.heap.size w W) => rReply_any hd bd rs ws ar cr aw cw qm qt qb fs fa fc W (hC.r.below hW) (hC.w.below hW) hcw hro hwo (hq.f.below hW) hq.n hq.z1 hq.z2 hq.m hq.t hq.b)
  have HC := hid hC
  have HQ := hid hq
  have hfn := hq.n
  obtain ⟨fl1, fl2⟩ := rep_big (R := pdG hd bd rs ws qm.data.toList qt.data.toList) (rs := rs) (ws := ws) (fs := fs) (qb := qb) (fun h => by
    by_cases hc : (cfgE hd bd rs ws).2 = 0
    · exact (cfg_ok hc).2.1
    · unfold pdG at h; rw [if_neg hc] at h; exact absurd h hc) hq.n
  generalize repD (pdG hd bd rs ws qm.data.toList qt.data.toList) rs ws fs qb = R at *
  have HBK := hid (And.intro hbk hg)
  have HFL := hid fl2
  clear hC hro hwo hm hbk hg hq fl2
  go_enter Tryz.func4, Tryz.ntmps4
  go_wp2_with fail
  generalize (w.alloc (.cells #[.int .i64 hd, .int .i64 bd, .slice ar rs.length cr, .slice aw ws.length cw] 27)).alloc (.cells #[.string qm, .string qt, .slice fa fs.length fc, .string qb] 30) = w1 at *
  refine (HLN.out _ hA).mono ?_
  rintro x w2 ⟨a1, c1, a2, c2, rfl, L2, hb2⟩
  have l1c := C1.lt
  have l1q := Q1.lt
  have b23 := (Below.refl w2.heap.size w2).alloc (Nat.le_refl _) (.cells #[.int .i64 hd, .int .i64 bd, .slice a1 rs.length c1, .slice a2 ws.length c2] 27)
  have D3 := Bl.new w2 #[.int .i64 hd, .int .i64 bd, .slice a1 rs.length c1, .slice a2 ws.length c2] 27
  have L3 := L2.below b23
  have b13 := bel_of hb2 b23
  have C3 := C1.below b13
  have Q3 := Q1.below b13
  have N12 : Hid ((∀ g, a1 = some ⟨g, 0, none⟩ → w1.heap.size ≤ g ∧ g < w2.heap.size) ∧ (∀ g, a2 = some ⟨g, 0, none⟩ → w1.heap.size ≤ g ∧ g < w2.heap.size)) := ⟨fun g e => L2.r.lt g e, fun g e => L2.w.lt g e⟩
  have q0 : World.cell? _ ⟨w.heap.size + 1, 0, none⟩ = some (.string qm) := (Q3.cell 0).trans rfl
  have q1 : World.cell? _ ⟨w.heap.size + 1, 1, none⟩ = some (.string qt) := (Q3.cell 1).trans rfl
  have q2 : World.cell? _ ⟨w.heap.size + 1, 2, none⟩ = some (.slice fa fs.length fc) := (Q3.cell 2).trans rfl
  have q3 : World.cell? _ ⟨w.heap.size + 1, 3, none⟩ = some (.string qb) := (Q3.cell 3).trans rfl
  have l3q := Q3.lt
  have HL3 := hid L3
  have s12 := hb2.size
  clear HLN L2 L3 C1 Q1 hb2
  go_wp2_with fail
  have l23 : w2.heap.size < (w2.alloc (.cells #[.int .i64 hd, .int .i64 bd, .slice a1 rs.length c1, .slice a2 ws.length c2] 27)).heap.size := by simp
  generalize w2.alloc (.cells #[.int .i64 hd, .int .i64 bd, .slice a1 rs.length c1, .slice a2 ws.length c2] 27) = w3 at *
  have hB3 := bel_of hA b13
  refine (HLQ.out w3 hB3).mono ?_
  rintro x w4 ⟨a5, c5, rfl, F4, hb4⟩
  have b45 := (Below.refl w4.heap.size w4).alloc (Nat.le_refl _) (.cells #[.string qm, .string qt, .slice a5 fs.length c5, .string qb] 30)
  have E5 := Bl.new w4 #[.string qm, .string qt, .slice a5 fs.length c5, .string qb] 30
  have b35 := bel_of hb4 b45
  have C5 := C3.below b35
  have Q5 := Q3.below b35
  have D5 := D3.below b35
  have N5 : Hid (∀ g, a5 = some ⟨g, 0, none⟩ → w3.heap.size ≤ g ∧ g < w4.heap.size) := fun g e => F4.lt g e
  have HF5 := hid (F4.below b45)
  have HL5 := hid (HL3.out.below b35)
  have s34 := hb4.size
  have d0 : World.cell? _ ⟨w2.heap.size, 0, none⟩ = some (.int .i64 hd) := (D5.cell 0).trans rfl
  have d1 : World.cell? _ ⟨w2.heap.size, 1, none⟩ = some (.int .i64 bd) := (D5.cell 1).trans rfl
  have d2 : World.cell? _ ⟨w2.heap.size, 2, none⟩ = some (.slice a1 rs.length c1) := (D5.cell 2).trans rfl
  have d3 : World.cell? _ ⟨w2.heap.size, 3, none⟩ = some (.slice a2 ws.length c2) := (D5.cell 3).trans rfl
  have e0 : World.cell? _ ⟨w4.heap.size, 0, none⟩ = some (.string qm) := (E5.cell 0).trans rfl
  have e1 : World.cell? _ ⟨w4.heap.size, 1, none⟩ = some (.string qt) := (E5.cell 1).trans rfl
  have e2 : World.cell? _ ⟨w4.heap.size, 2, none⟩ = some (.slice a5 fs.length c5) := (E5.cell 2).trans rfl
  have e3 : World.cell? _ ⟨w4.heap.size, 3, none⟩ = some (.string qb) := (E5.cell 3).trans rfl
  have l5d := D5.lt
  have l5e := E5.lt
  have hB5 := bel_of hB3 b35
  have HP5 := hid (HPD.out _ a1 a2 a5 c1 c2 c5 hB5 HL5.out.r.mu HL5.out.w.mu HF5.out.fl)
  clear HLQ HL3 F4 C3 Q3 D3 hb4 b45 HPD q0 q1 q2 q3
  go_wp2_with fail
  generalize w4.alloc (.cells #[.string qm, .string qt, .slice a5 fs.length c5, .string qb] 30) = w5 at *
  refine HP5.out.mono ?_
  rintro x w6 ⟨⟨v6, rfl, ow6⟩, hb6⟩
  obtain ⟨a6, c6, rfl⟩ := sl_of ow6
  have b67 := (Below.refl w6.heap.size w6).alloc (Nat.le_refl _) (.cells #[.int .i64 R.st, .slice a6 R.fs.length c6, .string R.b, .bool R.cl] 44)
  have X7 : AnB w6.heap.size R.st (.slice a6 R.fs.length c6) R.b R.cl (w6.alloc (.cells #[.int .i64 R.st, .slice a6 R.fs.length c6, .string R.b, .bool R.cl] 44)) := heap_alloc_new w6 _
  have b57 := bel_of hb6 b67
  have C7 := C5.below b57
  have Q7 := Q5.below b57
  have D7 := D5.below b57
  have E7 := E5.below b57
  have HF7 := hid (HF5.out.below b57)
  have HL7 := hid (HL5.out.below b57)
  have HO7 := hid (owns_below ow6 b67)
  have s56 := hb6.size
  have hB7 := bel_of hB5 b57
  have HR7 := hid (HRD.out _ hB7)
  have x0 : World.cell? _ ⟨w.heap.size, 0, none⟩ = some (.int .i64 hd) := (C7.cell 0).trans rfl
  have x1 : World.cell? _ ⟨w.heap.size, 1, none⟩ = some (.int .i64 bd) := (C7.cell 1).trans rfl
  have x2 : World.cell? _ ⟨w.heap.size, 2, none⟩ = some (.slice ar rs.length cr) := (C7.cell 2).trans rfl
  have x3 : World.cell? _ ⟨w.heap.size, 3, none⟩ = some (.slice aw ws.length cw) := (C7.cell 3).trans rfl
  have q0 : World.cell? _ ⟨w.heap.size + 1, 0, none⟩ = some (.string qm) := (Q7.cell 0).trans rfl
  have q1 : World.cell? _ ⟨w.heap.size + 1, 1, none⟩ = some (.string qt) := (Q7.cell 1).trans rfl
  have q2 : World.cell? _ ⟨w.heap.size + 1, 2, none⟩ = some (.slice fa fs.length fc) := (Q7.cell 2).trans rfl
  have q3 : World.cell? _ ⟨w.heap.size + 1, 3, none⟩ = some (.string qb) := (Q7.cell 3).trans rfl
  have l7c := C7.lt
  have l7q := Q7.lt
  have l7x := X7.lt
  clear HP5 HRD ow6 C5 Q5 D5 E5 HF5 HL5 hb6 b67 d0 d1 d2 d3 e0 e1 e2 e3
  go_wp2_with fail
  generalize w6.alloc (.cells #[.int .i64 R.st, .slice a6 R.fs.length c6, .string R.b, .bool R.cl] 44) = w7 at *
  refine HR7.out.mono ?_
  rintro x w8 ⟨⟨v8, rfl, ow8⟩, hb8⟩
  obtain ⟨a8, c8, rfl⟩ := sl_of ow8
  have b89 := (Below.refl w8.heap.size w8).alloc (Nat.le_refl _) (.cells #[.int .i64 R.st, .slice a8 R.fs.length c8, .string R.b, .bool R.cl] 44)
  have Y9 : AnB w8.heap.size R.st (.slice a8 R.fs.length c8) R.b R.cl (w8.alloc (.cells #[.int .i64 R.st, .slice a8 R.fs.length c8, .string R.b, .bool R.cl] 44)) := heap_alloc_new w8 _
  have b79 := bel_of hb8 b89
  have C9 := C7.below b79
  have Q9 := Q7.below b79
  have D9 := D7.below b79
  have E9 := E7.below b79
  have X9 := X7.below b79
  have HF9 := hid (HF7.out.below b79)
  have HL9 := hid (HL7.out.below b79)
  have HO9 := hid (And.intro (owns_below HO7.out b79) (owns_below ow8 b89))
  have s78 := hb8.size
  have b19 := bel_of (bel_of (bel_of b13 b35) b57) b79
  have HWH := hid (whole_any hd bd hd bd rs ws ar cr aw cw a1 a2 c1 c2 w1 _ (HC.out.below hA) b19 HL9.out)
  have d0 : World.cell? _ ⟨w2.heap.size, 0, none⟩ = some (.int .i64 hd) := (D9.cell 0).trans rfl
  have d1 : World.cell? _ ⟨w2.heap.size, 1, none⟩ = some (.int .i64 bd) := (D9.cell 1).trans rfl
  have d2 : World.cell? _ ⟨w2.heap.size, 2, none⟩ = some (.slice a1 rs.length c1) := (D9.cell 2).trans rfl
  have d3 : World.cell? _ ⟨w2.heap.size, 3, none⟩ = some (.slice a2 ws.length c2) := (D9.cell 3).trans rfl
  have y0 : World.cell? _ ⟨w.heap.size, 0, none⟩ = some (.int .i64 hd) := (C9.cell 0).trans rfl
  have y1 : World.cell? _ ⟨w.heap.size, 1, none⟩ = some (.int .i64 bd) := (C9.cell 1).trans rfl
  have y2 : World.cell? _ ⟨w.heap.size, 2, none⟩ = some (.slice ar rs.length cr) := (C9.cell 2).trans rfl
  have y3 : World.cell? _ ⟨w.heap.size, 3, none⟩ = some (.slice aw ws.length cw) := (C9.cell 3).trans rfl
  have l9c := C9.lt
  have l9d := D9.lt
  have H9 := hid (And.intro Q9 (And.intro E9 (And.intro X9 Y9)))
  clear HR7 ow8 C7 Q7 D7 E7 X7 HF7 HL7 HO7 hb8 b89 x0 x1 x2 x3 q0 q1 q2 q3 C9 Q9 D9 E9 X9 Y9
  go_wp2_with fail
  generalize w8.alloc (.cells #[.int .i64 R.st, .slice a8 R.fs.length c8, .string R.b, .bool R.cl] 44) = w9 at *
  refine HWH.out.mono ?_
  rintro x w10 ⟨rfl, hb10, hk10⟩
  obtain ⟨Q9, E9, X9, Y9⟩ := H9.out
  have l9e := E9.lt
  have l9x := X9.lt
  have l9y := Y9.lt
  have l9q := Q9.lt
  have kk : ∀ b, b < w1.heap.size ∨ w2.heap.size ≤ b → b < w9.heap.size → w10.heap[b]? = w9.heap[b]? := fun b h1 h2 => hk10.2 b h2 (fun e => by have := N12.out.1 b e; omega) (fun e => by have := N12.out.2 b e; omega)
  have z910 : w9.heap.size ≤ w10.heap.size := hk10.1
  have Q10 := Q9.keep (kk _ (.inl l1q) l9q)
  have E10 := E9.keep (kk _ (.inr (by omega)) l9e)
  have X10 := X9.keep (kk _ (.inr (by omega)) l9x)
  have Y10 := Y9.keep (kk _ (.inr (by omega)) l9y)
  have F10 := HF9.out.keep z910 (fun g e h1 h2 => kk g (.inr (by omega)) h2)
  have ox10 := keepB HO9.out.1 (fun r hr => kk r (.inr (by have := own_ge HO9.out.1 r hr; omega)) ((owns_blk HO9.out.1 r hr).2))
  have oy10 := keepB HO9.out.2 (fun r hr => kk r (.inr (by have := own_ge HO9.out.2 r hr; omega)) ((owns_blk HO9.out.2 r hr).2))
  have HWF := hid (wholeF2 fs fa a5 fc c5 w1 w10 (HQ.out.f.below hA) HQ.out.z (by omega) hb10 (F10.base (by omega)))
  have e2 : w10.cell? ⟨w4.heap.size, 2, none⟩ = some (.slice a5 fs.length c5) := (E10.cell 2).trans rfl
  have q2 : w10.cell? ⟨w.heap.size + 1, 2, none⟩ = some (.slice fa fs.length fc) := (Q10.cell 2).trans rfl
  have l10e := E10.lt
  have l10q := Q10.lt
  have H10 := hid (And.intro X10 (And.intro Y10 (And.intro ox10 oy10)))
  clear HWH H9 Q9 E9 X9 Y9 Q10 E10 X10 Y10 F10 HF9 HO9 HL9 ox10 oy10 kk hk10 d0 d1 d2 d3 y0 y1 y2 y3
  go_wp2_with fail
  refine HWF.out.mono ?_
  rintro x w11 ⟨rfl, hb11, hk11⟩
  obtain ⟨X10, Y10, ox10, oy10⟩ := H10.out
  have l10x := X10.lt
  have l10y := Y10.lt
  have kk : ∀ b, w4.heap.size ≤ b → b < w10.heap.size → w11.heap[b]? = w10.heap[b]? := fun b h1 h2 => hk11.2 b h2 (fun e => by have := N5.out b e; omega)
  have X11 := X10.keep (kk _ (by omega) l10x)
  have Y11 := Y10.keep (kk _ (by omega) l10y)
  have ox11 := keepB ox10 (fun r hr => kk r (by have := own_ge ox10 r hr; omega) ((owns_blk ox10 r hr).2))
  have oy11 := keepB oy10 (fun r hr => kk r (by have := own_ge oy10 r hr; omega) ((owns_blk oy10 r hr).2))
  have hB11 := bel_of hA hb11
  obtain ⟨p0, p1, p2, p3⟩ := X11.cells
  obtain ⟨r0, r1, r2, r3⟩ := Y11.cells
  have lp := X11.lt
  have lr := Y11.lt
  have HSF := hid (sameFields_any R.fs a6 a8 c6 c8 w11 (fl_own ox11) (fl_own oy11) (by omega))
  have H11 := hid (And.intro X11 (And.intro Y11 ox11))
  clear HWF H10 X10 Y10 ox10 oy10 X11 Y11 ox11 oy11 kk hk11 e2 q2
  go_wp2_with fail
  refine HSF.out.mono ?_
  rintro x w12 ⟨rfl, hb12⟩
  have hB12 := bel_of hB11 hb12
  have X12 := H11.out.1.below hb12
  have Y12 := H11.out.2.1.below hb12
  have o12 := owns_base (owns_below H11.out.2.2 hb12) (show w.heap.size ≤ w5.heap.size from hB5.size)
  obtain ⟨p0, p1, p2, p3⟩ := X12.cells
  obtain ⟨r0, r1, r2, r3⟩ := Y12.cells
  have lp12 := X12.lt
  have lr12 := Y12.lt
  have hbk12 := HBK.out.1.below hB12
  have hg12 : ∀ i (h : i < vs.length), Good bk V i vs[i] w12 ∧ ∀ r, (vs[i]).ownBlock = some r → r < w.heap.size := fun i h => ⟨good_below (HBK.out.2 i h) hB12, fun r hr => by
    obtain ⟨a, n, cap, e1, e2, e3, e4⟩ := HBK.out.2 i h
    exact (e4 r hr).1⟩
  have HK := hid (keepFields_any bk B w.heap.size N0 vs V (.slice a6 R.fs.length c6) R.fs.length _ w0 w12 hbk12 hvs o12 fl1 hlk (fun r hr => (owns_blk HBK.out.1.own r hr).2) hg12 h4 (hB.trans (hB12.mono n0)) n1 n2 n0 (Nat.le_trans n4 hB12.size) hB12.size)
  have hfn2 := HFL.out
  clear HSF H11 hbk12 hg12 o12 HBK X12 Y12 HFL hB11 hb12 HC HQ N12 N5
  by_cases hz : R.fs.length = 0
  · have HK1 := HK.out
    generalize R.fs = gs at *
    rw [hz] at HK1
    have HK2 := hid HK1
    clear HK1 hfn2
    simp only [hz] at *
    go_wp2_with (go_at_call 13; refine (pnum_any _ _).mono ?_; rintro e w13 ⟨rfl, rfl⟩)
    refine HK2.out.mono ?_
    rintro e w14 ⟨rfl, vs', V', j1, j2, j3, j4⟩
    have J := hid (And.intro j2 (And.intro j3 j4))
    clear j2 j3 j4 HK HK2
    go_wp2
    go_ret
    exact ⟨rfl, vs', V', j1, J.out.1, J.out.2.1, J.out.2.2⟩
  · have he : R.e = 0 := hfn2.resolve_left hz
    have he2 : (R.e == 0) = true := by rw [he]; rfl
    generalize R.fs = gs at *
    have hz2 : ((gs.length : Int) == 0) = false := by rw [beq_eq_false_iff_ne]; omega
    clear hfn2
    go_wp2_with (go_at_call 13; refine (pnum_any _ _).mono ?_; rintro e w13 ⟨rfl, rfl⟩)
    refine HK.out.mono ?_
    rintro e w14 ⟨rfl, vs', V', j1, j2, j3, j4⟩
    have J := hid (And.intro j2 (And.intro j3 j4))
    clear j2 j3 j4 HK
    go_wp2
    go_ret
    exact ⟨rfl, vs', V', j1, J.out.1, J.out.2.1, J.out.2.2⟩
end Go.Proofs.YtfdhmeojkagokaaGreatDoor
