/- Texts that follow one another, joined. -/
import Derived.Test.YtfdhmeojkagokaaGreatDoorJoin38
import Derived.Test.YtfdhmeojkagokaaGreatDoorJoin28
import Derived.Test.YtfdhmeojkagokaaGreatDoorJoin37
import Derived.Test.YtfdhmeojkagokaaGreatDoorJoin20
/- The statement's own checks. -/
namespace Go.Proofs.YtfdhmeojkagokaaGreatDoor
open Go.RowKit

theorem findG_len (K : Nat) (m l : List UInt8) : ∀ (es : List Ent) (k : Nat), (∀ e ∈ es, e.ps.length ≤ K) → (findG m l es k).2.1.length ≤ K
  | [], _, _ => by simp [findG]
  | e :: r, k, h => by
    have ih := findG_len K m l r (k + 1) (fun x hx => h x (by simp [hx]))
    rw [findG]
    split
    · split
      · rename_i fs hfs
        have h1 := matchB_len _ _ _ _ _ hfs
        have h2 := h e (by simp)
        simp at h1 ⊢; omega
      · exact ih
    · exact ih
theorem pat_len (r : Rt) : (rtBare r).ps.length ≤ 64 := by
  unfold rtBare
  cases hp : patternOf r.p.data.toList with
  | none => simp
  | some p =>
    obtain ⟨h1, -, -, h4⟩ := pat_good hp
    have h5 := (pcs_le _ r.p.data.toList (Nat.le_refl _)).1
    simp only [Option.getD_some]
    rw [h1, List.length_map]; omega
theorem pd_len (hd bd : Int) (rs : List Rt) (ws : List Wr) (m t : List UInt8) : (pdG hd bd rs ws m t).ps.length ≤ 1000 ∧ ((pdG hd bd rs ws m t).e ≠ 0 → (pdG hd bd rs ws m t).ps = []) := by
  have hz : ∀ l, (leadG m l (rs.map rtBare)).2.1.length ≤ 64 := fun l => by
    have hh : ∀ e ∈ rs.map rtBare, e.ps.length ≤ 64 := fun e he => by
      obtain ⟨r, _, rfl⟩ := List.mem_map.1 he
      exact pat_len r
    unfold leadG
    split
    · exact findG_len 64 _ _ _ _ hh
    · exact findG_len 64 _ _ _ _ hh
  unfold pdG
  split
  · unfold dspG
    split
    · simp
    · split
      · have := hz (Pm.ahead 63 t)
        exact ⟨by simp only; omega, fun h => absurd rfl h⟩
      · split
        · simp
        · split <;> simp
  · simp
end Go.Proofs.YtfdhmeojkagokaaGreatDoor

/- The program's Reply, of any configuration and request. -/
namespace Go.Proofs.YtfdhmeojkagokaaGreatDoor
open Go.RowKit

theorem rep_mem (c0 q0 : Array Value) (w : World) :
    Below w.heap.size w (((w.alloc (.cells c0 27)).alloc (.cells q0 30)).alloc (.cells #[.int .i64 0, .slice none 0 0, .string ⟨#[]⟩, .bool false] 44)) ∧ (((w.alloc (.cells c0 27)).alloc (.cells q0 30)).alloc (.cells #[.int .i64 0, .slice none 0 0, .string ⟨#[]⟩, .bool false] 44)).heap[w.heap.size]? = some (.cells c0 27 (0, 0)) ∧ (((w.alloc (.cells c0 27)).alloc (.cells q0 30)).alloc (.cells #[.int .i64 0, .slice none 0 0, .string ⟨#[]⟩, .bool false] 44)).heap[w.heap.size + 1]? = some (.cells q0 30 (0, 0)) ∧ AnB (w.heap.size + 1 + 1) 0 (.slice none 0 0) ⟨#[]⟩ false (((w.alloc (.cells c0 27)).alloc (.cells q0 30)).alloc (.cells #[.int .i64 0, .slice none 0 0, .string ⟨#[]⟩, .bool false] 44)) := by
  have h1 := (Below.refl w.heap.size w).alloc (Nat.le_refl _) (.cells c0 27)
  have b1 := heap_alloc_new w (.cells c0 27)
  have z1 : (w.alloc (.cells c0 27)).heap.size = w.heap.size + 1 := by simp
  generalize w.alloc (.cells c0 27) = W1 at *
  have h2 := h1.alloc h1.size (.cells q0 30)
  have b2 := heap_alloc_new W1 (.cells q0 30)
  have k2 := (Below.refl W1.heap.size W1).alloc (Nat.le_refl _) (.cells q0 30)
  have z2 : (W1.alloc (.cells q0 30)).heap.size = w.heap.size + 1 + 1 := by simp [z1]
  have b1' := (k2.block w.heap.size (by omega)).trans b1
  rw [z1] at b2
  generalize W1.alloc (.cells q0 30) = W2 at *
  have b3 := heap_alloc_new W2 (.cells #[.int .i64 0, .slice none 0 0, .string ⟨#[]⟩, .bool false] 44)
  have k3 := (Below.refl W2.heap.size W2).alloc (Nat.le_refl _) (.cells #[.int .i64 0, .slice none 0 0, .string ⟨#[]⟩, .bool false] 44)
  rw [z2] at b3
  exact ⟨h2.alloc h2.size _, (k3.block w.heap.size (by omega)).trans b1', (k3.block (w.heap.size + 1) (by omega)).trans b2, b3⟩
theorem siteReply_any (gs : Nat) (hd bd : Int) (rs : List Rt) (ws : List Wr) (es : List Ent) (v vh vw : Value) (qm qt qb : ByteArray) (fs : List Prm) (fa : Option Addr) (fc : Nat) (w : World) (S : StI gs gs es (rs.map Rt.h) ws v vh vw w) (hes : es.map Ent.bare = rs.map rtBare) (hE : (cfgE hd bd rs ws).2 = 0)
    (hro : ∀ r ∈ rs, RtSm r) (hwo : ∀ x ∈ ws, x.n.size ≤ 1048576 ∧ x.v.size ≤ 1048576) (hf : FlAt fs fa w) (hl : fs.length ≤ 1000000) (hz1 : ∀ i (h : i < fs.length), fs[i].1.size ≤ maxLen) (hz2 : ∀ p ∈ fs, p.2.size ≤ 2000000) (hms : qm.size ≤ maxLen) (hts : qt.size ≤ 2000000) (hqb : qb.size ≤ 2000000) :
    Calls Tryz.prog 23 #[.pointer (some ⟨gs, 0, none⟩), .agg #[.string qm, .string qt, .slice fa fs.length fc, .string qb]] w (RyPost (repD (pdG hd bd rs ws qm.data.toList qt.data.toList) rs ws fs qb) w) := by
  have hpd : pdG hd bd rs ws qm.data.toList qt.data.toList = dspG qm.data.toList qt.data.toList es := by
    unfold pdG; rw [if_pos hE, ← hes, dspG_bare]
  obtain ⟨c1, c2, c3, c4⟩ := cfg_ok hE
  have hjn := site_join (Pm.ahead 63 qt.data.toList) S hes c3
  have hlen := (pd_len hd bd rs ws qm.data.toList qt.data.toList).1
  have hok := pd_ok hd bd rs ws qm.data.toList qt.data.toList
  have hqtl : qt.data.toList.length = qt.size := by simp
  have hps := dsp_small 4000000 qm.data.toList qt.data.toList es (by omega)
  have hdl := dsp_len qm.data.toList qt.data.toList es
  rw [hpd] at hlen hok ⊢
  unfold repD
  refine siteReply_of gs qm qt qb fa fs.length fc (dspG qm.data.toList qt.data.toList es) (toG (dspG qm.data.toList qt.data.toList es) rs ws fs qb) (askG fs) w ?_ ?_ ?_ ?_ ?_
  · intro a ha
    have := to_small (K := 4000000) (by omega) (fun p hp => by have := hz2 p hp; omega) (by omega) hps (fun x hx => by have := hwo x hx; omega) (fun r hr => by have := (hro r hr).t; omega) (by omega) (by omega) c2 hl ha
    refine ⟨this.2, by have := this.1.1; omega, fun i hi => ?_⟩
    have h2 := this.1.2 _ (List.getElem_mem hi)
    exact ⟨by omega, by omega⟩
  · intro W hW
    exact dispatch_any gs gs es v qm qt W (S.below hW).tb hms (by omega) (by omega)
  · intro W pa pc ua ul hW hua hul ho he
    exact answer_site gs es rs ws v vh vw qm qt qb fs fa fc _ W (S.below hW) pa pc ua ul hua hul (fl_own ho) (hok he) (by omega) (hf.below hW) hl hz1 c2
  · intro n x W hx
    exact ends_any n x W hx
  · intro W hW
    refine asks_any qm qt qb fs fa fc W (hf.below hW) hl hz1 (fun x hx => ?_)
    obtain ⟨p, hp, rfl⟩ := vals_in hx
    have := hz2 p hp
    unfold maxLen; omega
set_option maxRecDepth 100000 in
set_option maxHeartbeats 2000000 in
theorem pReply_any (hd bd : Int) (rs : List Rt) (ws : List Wr) (ar : Option Addr) (cr : Nat) (aw : Option Addr) (cw : Nat) (qm qt qb : ByteArray) (fs : List Prm) (fa : Option Addr) (fc : Nat) (mx : Int) (w : World) (hR : MuAt 6 Rt.cells rs ar w) (hW : MuAt 4 Wr.cells ws aw w) (hm : w.cell? ⟨0, 0, none⟩ = some (.int .i64 mx))
    (hro : ∀ r ∈ rs, RtSm r) (hwo : ∀ x ∈ ws, x.n.size ≤ 1048576 ∧ x.v.size ≤ 1048576) (hf : FlAt fs fa w) (hl : fs.length ≤ 1000000) (hz1 : ∀ i (h : i < fs.length), fs[i].1.size ≤ maxLen) (hz2 : ∀ p ∈ fs, p.2.size ≤ 2000000) (hms : qm.size ≤ maxLen) (hts : qt.size ≤ 2000000) (hqb : qb.size ≤ 2000000) :
    Calls Tryz.prog 8 #[.agg #[.int .i64 hd, .int .i64 bd, .slice ar rs.length cr, .slice aw ws.length cw], .agg #[.string qm, .string qt, .slice fa fs.length fc, .string qb]] w (RyPost (repD (pdG hd bd rs ws qm.data.toList qt.data.toList) rs ws fs qb) w) := by
  have HN := hid (fun W (hb : Below w.heap.size w W) => new_any hd bd rs ws ar cr aw cw mx W (hR.below hb) (hW.below hb) (fun r hr => (hro r hr).ok) (fun x hx => by have := hwo x hx; omega) (cell_later hb hm))
  have HSR := hid (fun gs es v vh vw W (hb : Below w.heap.size w W) S hes hE => siteReply_any gs hd bd rs ws es v vh vw qm qt qb fs fa fc W S hes hE hro hwo (hf.below hb) hl hz1 hz2 hms hts hqb)
  obtain ⟨hA, B0, B1, A0⟩ := rep_mem #[.int .i64 hd, .int .i64 bd, .slice ar rs.length cr, .slice aw ws.length cw] #[.string qm, .string qt, .slice fa fs.length fc, .string qb] w
  have hE : ∀ E, cfgE hd bd rs ws = E → E.2 ≠ 0 → repD (pdG hd bd rs ws qm.data.toList qt.data.toList) rs ws fs qb = ⟨0, [], ⟨#[]⟩, false, E.2⟩ := fun E h h0 => by
    subst h; unfold pdG repD; rw [if_neg h0]; exact if_neg h0
  have HE := hid (hE _ rfl)
  generalize repD (pdG hd bd rs ws qm.data.toList qt.data.toList) rs ws fs qb = RES at *
  generalize cfgE hd bd rs ws = E at *
  clear hR hW hro hwo hm hE hf hz1 hz2
  go_enter Tryz.func8, Tryz.ntmps8
  go_wp2_with fail
  generalize ((w.alloc (.cells #[.int .i64 hd, .int .i64 bd, .slice ar rs.length cr, .slice aw ws.length cw] 27)).alloc (.cells #[.string qm, .string qt, .slice fa fs.length fc, .string qb] 30)).alloc (.cells #[.int .i64 0, .slice none 0 0, .string ⟨#[]⟩, .bool false] 44) = w1 at *
  refine (HN.out _ hA).mono ?_
  rintro x w2 ⟨k1, k2, hb2⟩
  have hB2 := bel_of hA hb2
  have A2 := A0.below hb2
  have l1 := A0.lt
  have B2 : w2.heap[w.heap.size + 1]? = some (.cells #[.string qm, .string qt, .slice fa fs.length fc, .string qb] 30 (0, 0)) := by rw [hb2.block _ (by omega)]; exact B1
  by_cases q : E.2 = 0
  · obtain ⟨gs, es, v, vh, vw, rfl, hgs, hes, S⟩ := k2 q
    have HRR := hid (HSR.out gs es v vh vw w2 hB2 S hes q)
    have q0 : w2.cell? ⟨w.heap.size + 1, 0, none⟩ = some (.string qm) := by rw [Lib.cell_of_heap B2]; rfl
    have q1 : w2.cell? ⟨w.heap.size + 1, 1, none⟩ = some (.string qt) := by rw [Lib.cell_of_heap B2]; rfl
    have q2 : w2.cell? ⟨w.heap.size + 1, 2, none⟩ = some (.slice fa fs.length fc) := by rw [Lib.cell_of_heap B2]; rfl
    have q3 : w2.cell? ⟨w.heap.size + 1, 3, none⟩ = some (.string qb) := by rw [Lib.cell_of_heap B2]; rfl
    have lq := block_lt_of_cell q0
    have HA2 := hid A2
    clear k1 k2 HSR S hes A0 A2 B0 B1 B2 HN HE
    go_wp2_with fail
    refine HRR.out.mono ?_
    rintro x w3 ⟨⟨vv, rfl, ow⟩, hb3⟩
    have hB3 := bel_of hB2 hb3
    have A3 := HA2.out.below hb3
    have l2 := HA2.out.lt
    have hno : vv.ownBlock ≠ some (w.heap.size + 1 + 1) := fun e => by have := own_ge ow _ e; omega
    obtain ⟨ax, cx, rfl⟩ := sl_of ow
    have HO := hid (owns_setA (g := w.heap.size + 1 + 1) (st := RES.st) (vv := .slice ax RES.fs.length cx) (b := RES.b) (cl := RES.cl) (owns_base ow hB2.size) hno)
    have HB := hid (below_setA (g := w.heap.size + 1 + 1) (st := RES.st) (vv := .slice ax RES.fs.length cx) (b := RES.b) (cl := RES.cl) hB3 (by omega))
    obtain ⟨c0, c1, c2, c3⟩ := A3.cells
    have f0 := A3.free 0
    have f1 := A3.free 1
    have f2 := A3.free 2
    have f3 := A3.free 3
    have la := A3.lt
    obtain ⟨d0, d1, d2, d3⟩ := (A3.set RES.st (.slice ax RES.fs.length cx) RES.b RES.cl).cells
    unfold setA at d0 d1 d2 d3 HO HB
    clear ow HRR HA2 A3
    go_wp2_with fail
    refine bodyPost_ret (v := .tuple #[.agg #[.int .i64 RES.st, .slice ax RES.fs.length cx, .string RES.b, .bool RES.cl], .int .i64 RES.e]) (by simp [results, Tryz.results8, go_sem, d0, d1, d2, d3]) rfl ?_
    exact ⟨⟨_, rfl, HO.out⟩, HB.out⟩
  · obtain rfl := k1 q
    have hR := HE.out q
    subst hR
    obtain ⟨c0, c1, c2, c3⟩ := A2.cells
    have f0 := A2.free 0
    have f1 := A2.free 1
    have f2 := A2.free 2
    have f3 := A2.free 3
    have la := A2.lt
    obtain ⟨d0, d1, d2, d3⟩ := (A2.set 0 (.slice none 0 0) ⟨#[]⟩ false).cells
    have HB := hid (below_setA (g := w.heap.size + 1 + 1) (st := 0) (vv := .slice none 0 0) (b := ⟨#[]⟩) (cl := false) hB2 (by omega))
    unfold setA at d0 d1 d2 d3 HB
    clear k1 k2 HE HN HSR A0 A2 B0 B1 B2
    obtain ⟨en, ee⟩ := E
    simp only at q ⊢
    have hq : (ee != 0) = true := by simpa using q
    go_wp2_with fail
    refine bodyPost_ret (v := .tuple #[.agg #[.int .i64 0, .slice none 0 0, .string ⟨#[]⟩, .bool false], .int .i64 ee]) (by simp [results, Tryz.results8, go_sem, d0, d1, d2, d3]) rfl ?_
    exact ⟨⟨_, rfl, World.ownsRow_nil _ _ _ _⟩, HB.out⟩
end Go.Proofs.YtfdhmeojkagokaaGreatDoor

/- The reference's Reply, of any configuration and request. -/
namespace Go.Proofs.YtfdhmeojkagokaaGreatDoor
open Go.RowKit

set_option maxRecDepth 100000 in
set_option maxHeartbeats 2000000 in
theorem rReply_any (hd bd : Int) (rs : List Rt) (ws : List Wr) (ar : Option Addr) (cr : Nat) (aw : Option Addr) (cw : Nat) (qm qt qb : ByteArray) (fs : List Prm) (fa : Option Addr) (fc : Nat) (w : World) (hR : MuAt 6 Rt.cells rs ar w) (hW : MuAt 4 Wr.cells ws aw w) (hcw : ws.length ≤ cw)
    (hro : ∀ r ∈ rs, RtSm r) (hwo : ∀ x ∈ ws, x.n.size ≤ 1048576 ∧ x.v.size ≤ 1048576) (hf : FoAt fs fa w) (hl : fs.length ≤ 1000000) (hz1 : ∀ i (h : i < fs.length), fs[i].1.size ≤ maxLen) (hz2 : ∀ p ∈ fs, p.2.size ≤ 2000000) (hms : qm.size ≤ maxLen) (hts : qt.size ≤ 2000000) (hqb : qb.size ≤ 2000000) :
    Calls Tryz.prog 9 #[.agg #[.int .i64 hd, .int .i64 bd, .slice ar rs.length cr, .slice aw ws.length cw], .agg #[.string qm, .string qt, .slice fa fs.length fc, .string qb]] w (RyPost (repD (pdG hd bd rs ws qm.data.toList qt.data.toList) rs ws fs qb) w) := by
  have hok := pd_ok hd bd rs ws qm.data.toList qt.data.toList
  have hlen := (pd_len hd bd rs ws qm.data.toList qt.data.toList).1
  have hqtl : qt.data.toList.length = qt.size := by simp
  have hps : ∀ p ∈ (pdG hd bd rs ws qm.data.toList qt.data.toList).ps, p.2.size ≤ 4000000 := by
    unfold pdG
    split
    · exact dsp_small 4000000 _ _ _ (by omega)
    · simp
  have hwl : (pdG hd bd rs ws qm.data.toList qt.data.toList).e = 0 → ws.length ≤ 6 := fun h => by
    by_cases hc : (cfgE hd bd rs ws).2 = 0
    · exact (cfg_ok hc).2.1
    · unfold pdG at h; rw [if_neg hc] at h; exact absurd h hc
  have HDS := hid (fun W (hb : Below w.heap.size w W) => rDispatch_any hd bd rs ws ar cr aw cw qm qt W (hR.below hb) (hW.below hb) hro hwo hms (by omega))
  obtain ⟨hA, B0, B1, A0⟩ := rep_mem #[.int .i64 hd, .int .i64 bd, .slice ar rs.length cr, .slice aw ws.length cw] #[.string qm, .string qt, .slice fa fs.length fc, .string qb] w
  generalize pdG hd bd rs ws qm.data.toList qt.data.toList = R at *
  have HRP := hid (fun (he : R.e = 0) W pa pc ua ul (hb : Below w.heap.size w W) hua hul (hp : FlAt R.ps pa W) => rreplied_any hd bd rs ws ar cr aw cw qm qt qb fs fa fc R pa pc ua ul W hua hul (hok he) (hR.below hb) (hW.below hb) (hwl he) hcw (hf.below hb) hl hz1 hz2 hwo hp (by omega) (fun a ha => thr_small (K := 4000000) (by omega) (fun p hp => by have := hz2 p hp; omega) (by
      unfold hdOf
      cases h : rs[R.ro]? with
      | none => exact Nat.zero_le _
      | some r => have := (hro r (List.mem_of_getElem? h)).t; simp only; omega) (by omega) hps ws a (fun x hx => by have := hwo x hx; omega) ha))
  have hE1 : R.e = 0 → repD R rs ws fs qb = finG (askG fs) (toG R rs ws fs qb) := fun h => if_pos h
  have hE2 : R.e ≠ 0 → repD R rs ws fs qb = ⟨0, [], ⟨#[]⟩, false, R.e⟩ := fun h => if_neg h
  have hFE : ∀ sh G, (finG sh G).e = 0 := fun sh G => by
    unfold finG
    split
    · rfl
    · split <;> rfl
  have hFE2 := hFE (askG fs) (toG R rs ws fs qb)
  have HE1 := hid hE1
  have HE2 := hid hE2
  generalize repD R rs ws fs qb = RES at *
  generalize finG (askG fs) (toG R rs ws fs qb) = FIN at *
  clear hR hW hro hwo hf hz1 hz2 hE1 hE2 hFE hok hps hwl
  go_enter Tryz.func9, Tryz.ntmps9
  go_upto_region 1 with fail
  generalize ((w.alloc (.cells #[.int .i64 hd, .int .i64 bd, .slice ar rs.length cr, .slice aw ws.length cw] 27)).alloc (.cells #[.string qm, .string qt, .slice fa fs.length fc, .string qb] 30)).alloc (.cells #[.int .i64 0, .slice none 0 0, .string ⟨#[]⟩, .bool false] 44) = w1 at *
  have B0' : Bl w.heap.size #[.int .i64 hd, .int .i64 bd, .slice ar rs.length cr, .slice aw ws.length cw] 27 w1 := B0
  have B1' : Bl (w.heap.size + 1) #[.string qm, .string qt, .slice fa fs.length fc, .string qb] 30 w1 := B1
  have c0 : w1.cell? ⟨w.heap.size, 0, none⟩ = some (.int .i64 hd) := (B0'.cell 0).trans rfl
  have c1 : w1.cell? ⟨w.heap.size, 1, none⟩ = some (.int .i64 bd) := (B0'.cell 1).trans rfl
  have c2 : w1.cell? ⟨w.heap.size, 2, none⟩ = some (.slice ar rs.length cr) := (B0'.cell 2).trans rfl
  have c3 : w1.cell? ⟨w.heap.size, 3, none⟩ = some (.slice aw ws.length cw) := (B0'.cell 3).trans rfl
  have q0 : w1.cell? ⟨w.heap.size + 1, 0, none⟩ = some (.string qm) := (B1'.cell 0).trans rfl
  have q1 : w1.cell? ⟨w.heap.size + 1, 1, none⟩ = some (.string qt) := (B1'.cell 1).trans rfl
  have lc := B0'.lt
  have lq := B1'.lt
  have la := A0.lt
  clear B0 B1
  go_wp2_with fail
  refine (HDS.out _ hA).mono ?_
  rintro x w2 ⟨⟨vv, ua, ul, rfl, hua, hul, ow⟩, hb2⟩
  have hB2 := bel_of hA hb2
  obtain ⟨pa, pc, rfl⟩ := sl_of ow
  have C2 := B0'.below hb2
  have Q2 := B1'.below hb2
  have A2 := A0.below hb2
  have b3 := (Below.refl w2.heap.size w2).alloc (Nat.le_refl _) (.cells #[.int .i64 R.st, .int .i64 R.ro, .slice pa R.ps.length pc, .string ua, .string ul] 63)
  have F3 : Bl w2.heap.size #[.int .i64 R.st, .int .i64 R.ro, .slice pa R.ps.length pc, .string ua, .string ul] 63 (w2.alloc (.cells #[.int .i64 R.st, .int .i64 R.ro, .slice pa R.ps.length pc, .string ua, .string ul] 63)) := Bl.new w2 _ _
  have C3 := C2.below b3
  have Q3 := Q2.below b3
  have A3 := A2.below b3
  have hB3 := bel_of hB2 b3
  have HPS := hid (fl_own (owns_below ow b3))
  clear HDS B0' B1' A0 C2 Q2 A2 b3 ow c0 c1 c2 c3 q0 q1
  go_upto_region 2 with fail
  generalize w2.alloc (.cells #[.int .i64 R.st, .int .i64 R.ro, .slice pa R.ps.length pc, .string ua, .string ul] 63) = w3 at *
  obtain ⟨y0, y1, y2, y3⟩ := A3.cells
  have f0 := A3.free 0
  have f1 := A3.free 1
  have f2 := A3.free 2
  have f3 := A3.free 3
  have la3 := A3.lt
  by_cases q : R.e = 0
  · have hq : (R.e != 0) = false := by rw [q]; rfl
    have hr := HE1.out q
    subst hr
    have HR3 := hid (HRP.out q w3 pa pc ua ul hB3 hua hul HPS.out)
    have c0 : w3.cell? ⟨w.heap.size, 0, none⟩ = some (.int .i64 hd) := (C3.cell 0).trans rfl
    have c1 : w3.cell? ⟨w.heap.size, 1, none⟩ = some (.int .i64 bd) := (C3.cell 1).trans rfl
    have c2 : w3.cell? ⟨w.heap.size, 2, none⟩ = some (.slice ar rs.length cr) := (C3.cell 2).trans rfl
    have c3 : w3.cell? ⟨w.heap.size, 3, none⟩ = some (.slice aw ws.length cw) := (C3.cell 3).trans rfl
    have q0 : w3.cell? ⟨w.heap.size + 1, 0, none⟩ = some (.string qm) := (Q3.cell 0).trans rfl
    have q1 : w3.cell? ⟨w.heap.size + 1, 1, none⟩ = some (.string qt) := (Q3.cell 1).trans rfl
    have q2 : w3.cell? ⟨w.heap.size + 1, 2, none⟩ = some (.slice fa fs.length fc) := (Q3.cell 2).trans rfl
    have q3 : w3.cell? ⟨w.heap.size + 1, 3, none⟩ = some (.string qb) := (Q3.cell 3).trans rfl
    have g0 : w3.cell? ⟨w2.heap.size, 0, none⟩ = some (.int .i64 R.st) := (F3.cell 0).trans rfl
    have g1 : w3.cell? ⟨w2.heap.size, 1, none⟩ = some (.int .i64 R.ro) := (F3.cell 1).trans rfl
    have g2 : w3.cell? ⟨w2.heap.size, 2, none⟩ = some (.slice pa R.ps.length pc) := (F3.cell 2).trans rfl
    have g3 : w3.cell? ⟨w2.heap.size, 3, none⟩ = some (.string ua) := (F3.cell 3).trans rfl
    have g4 : w3.cell? ⟨w2.heap.size, 4, none⟩ = some (.string ul) := (F3.cell 4).trans rfl
    have lc3 := C3.lt
    have lq3 := Q3.lt
    have lf3 := F3.lt
    have HA3 := hid A3
    clear HE1 HE2 HRP HPS C3 Q3 F3 A3
    go_wp2_with fail
    refine HR3.out.mono ?_
    rintro x w4 ⟨⟨vv, rfl, ow⟩, hb4⟩
    have hB4 := bel_of hB3 hb4
    have A4 := HA3.out.below hb4
    obtain ⟨ax, cx, rfl⟩ := sl_of ow
    have b5 := (Below.refl w4.heap.size w4).alloc (Nat.le_refl _) (.cells #[.int .i64 RES.st, .slice ax RES.fs.length cx, .string RES.b, .bool RES.cl] 44)
    have N5 : AnB w4.heap.size RES.st (.slice ax RES.fs.length cx) RES.b RES.cl (w4.alloc (.cells #[.int .i64 RES.st, .slice ax RES.fs.length cx, .string RES.b, .bool RES.cl] 44)) := heap_alloc_new w4 _
    have A5 := A4.below b5
    have hB5 := bel_of hB4 b5
    have hno : (Value.slice ax RES.fs.length cx).ownBlock ≠ some (w.heap.size + 1 + 1) := fun e => by have := own_ge ow _ e; omega
    have HO := hid (owns_setA (g := w.heap.size + 1 + 1) (st := RES.st) (vv := .slice ax RES.fs.length cx) (b := RES.b) (cl := RES.cl) (owns_below (owns_base ow hB3.size) b5) hno)
    have HB := hid (below_setA (g := w.heap.size + 1 + 1) (st := RES.st) (vv := .slice ax RES.fs.length cx) (b := RES.b) (cl := RES.cl) hB5 (by omega))
    clear HR3 HA3 A4 b5 ow c0 c1 c2 c3 q0 q1 q2 q3 g0 g1 g2 g3 g4 y0 y1 y2 y3 f0 f1 f2 f3
    go_upto_region 5 with fail
    generalize w4.alloc (.cells #[.int .i64 RES.st, .slice ax RES.fs.length cx, .string RES.b, .bool RES.cl] 44) = w5 at *
    obtain ⟨z0, z1, z2, z3⟩ := N5.cells
    obtain ⟨y0, y1, y2, y3⟩ := A5.cells
    have f0 := A5.free 0
    have f1 := A5.free 1
    have f2 := A5.free 2
    have f3 := A5.free 3
    have la5 := A5.lt
    have ln5 := N5.lt
    obtain ⟨d0, d1, d2, d3⟩ := (A5.set RES.st (.slice ax RES.fs.length cx) RES.b RES.cl).cells
    unfold setA at d0 d1 d2 d3 HB HO
    clear A5 N5
    go_wp2_with fail
    refine bodyPost_ret (v := .tuple #[.agg #[.int .i64 RES.st, .slice ax RES.fs.length cx, .string RES.b, .bool RES.cl], .int .i64 0]) (by simp [results, Tryz.results9, go_sem, d0, d1, d2, d3]) rfl ?_
    exact ⟨⟨_, by rw [hFE2], HO.out⟩, HB.out⟩
  · have hq : (R.e != 0) = true := by simpa using q
    have hr := HE2.out q
    subst hr
    obtain ⟨d0, d1, d2, d3⟩ := (A3.set 0 (.slice none 0 0) ⟨#[]⟩ false).cells
    have HB := hid (below_setA (g := w.heap.size + 1 + 1) (st := 0) (vv := .slice none 0 0) (b := ⟨#[]⟩) (cl := false) hB3 (by omega))
    unfold setA at d0 d1 d2 d3 HB
    clear HE1 HE2 HRP HPS C3 Q3 F3 A3
    go_wp2_with fail
    refine bodyPost_ret (v := .tuple #[.agg #[.int .i64 0, .slice none 0 0, .string ⟨#[]⟩, .bool false], .int .i64 R.e]) (by simp [results, Tryz.results9, go_sem, d0, d1, d2, d3]) rfl ?_
    exact ⟨⟨_, rfl, World.ownsRow_nil _ _ _ _⟩, HB.out⟩
end Go.Proofs.YtfdhmeojkagokaaGreatDoor

/- Plain mathematics: chunks that are told from the last one back. -/
namespace Go.Proofs.YtfdhmeojkagokaaGreatDoor

def Back (l : List Int) (body : List UInt8) (j : Nat) (e : Int) (tail : List UInt8) : Prop :=
  (∀ s ∈ l.drop j, 1 ≤ s) ∧ e = (body.length : Int) - (l.drop j).sum ∧ 0 ≤ e ∧ tail = chL (l.drop j) (body.drop e.toNat)
theorem Back.start (l : List Int) (body : List UInt8) : Back l body l.length body.length endC := by
  refine ⟨?_, ?_, by omega, ?_⟩
  · rw [List.drop_length]; intro s hs; cases hs
  · rw [List.drop_length]; simp
  · rw [List.drop_length]; rfl
theorem drop_at_int (l : List Int) (j : Nat) (h : j < l.length) : l.drop j = l[j] :: l.drop (j + 1) := List.drop_eq_getElem_cons h
theorem Back.bad {l : List Int} {body : List UInt8} {j : Nat} {e : Int} {tail : List UInt8} (h : Back l body (j + 1) e tail) (hj : j < l.length) (hs : l[j] < 1 ∨ e < l[j]) : sizesOk l body.length = false := by
  obtain ⟨h1, h2, h3, _⟩ := h
  cases hk : sizesOk l body.length
  · rfl
  · obtain ⟨k1, k2⟩ := (sizesOk_iff l body.length (by omega)).mp hk
    have hm := k1 l[j] (List.getElem_mem hj)
    have hsum : l.sum = (l.take j).sum + (l[j] + (l.drop (j + 1)).sum) := by
      rw [← List.sum_cons, ← drop_at_int l j hj, ← List.sum_append, List.take_append_drop]
    have hp := sum_pos (l.take j) (fun x hx => k1 x (List.mem_of_mem_take hx))
    omega
theorem Back.next {l : List Int} {body : List UInt8} {j : Nat} {e : Int} {tail : List UInt8} (h : Back l body (j + 1) e tail) (hj : j < l.length) (h0 : ¬ l[j] < 1) (h4 : ¬ e < l[j]) :
    Back l body j (e - l[j]) (numT 16 l[j] ++ [13, 10] ++ (body.drop (e - l[j]).toNat).take l[j].toNat ++ [13, 10] ++ tail) := by
  obtain ⟨h1, h2, h3, h5⟩ := h
  refine ⟨?_, ?_, by omega, ?_⟩
  · rw [drop_at_int l j hj]; intro s hs
    rcases List.mem_cons.mp hs with rfl | hs
    · omega
    · exact h1 s hs
  · rw [drop_at_int l j hj, List.sum_cons]; omega
  · rw [drop_at_int l j hj, chL, h5, List.drop_drop]
    rw [show (e - l[j]).toNat + l[j].toNat = e.toNat from by omega]
theorem Back.done {l : List Int} {body : List UInt8} {e : Int} {tail : List UInt8} (h : Back l body 0 e tail) : (e = 0 → sizesOk l body.length = true ∧ tail = chL l body) ∧ (e ≠ 0 → sizesOk l body.length = false) := by
  obtain ⟨h1, h2, h3, h5⟩ := h
  rw [List.drop_zero] at h1 h2 h5
  constructor
  · intro he
    refine ⟨(sizesOk_iff l body.length (by omega)).mpr ⟨h1, by omega⟩, ?_⟩
    rw [h5, he]; rfl
  · intro he
    cases hk : sizesOk l body.length
    · rfl
    · obtain ⟨_, k2⟩ := (sizesOk_iff l body.length (by omega)).mp hk
      omega
end Go.Proofs.YtfdhmeojkagokaaGreatDoor
