/- Texts that follow one another, joined. -/
import Derived.Test.YtpfendckgeoonaaGreatDoorJoin39
/- The statement's own 'refused'. -/
namespace Go.Proofs.YtpfendckgeoonaaGreatDoor
open Go.RowKit

theorem cell_setF {g b j : Nat} {st ro : Int} {vv : Value} {al lo : ByteArray} {w : World} (h : b ≠ g) : (setF g st ro vv al lo w).cell? ⟨b, j, none⟩ = w.cell? ⟨b, j, none⟩ := by
  unfold setF
  have hx : ∀ (k : Nat) (x : Value) (W : World), (W.setCell ⟨g, k, none⟩ x).cell? ⟨b, j, none⟩ = W.cell? ⟨b, j, none⟩ := fun k x W => by
    rw [World.cell?_setCell_other _ _ _ _ (fun e => by simp only [Addr.mk.injEq] at e; first | exact h e.1 | exact h e.1.symm)]
  rw [hx, hx, hx, hx, hx]
set_option maxRecDepth 100000 in
set_option maxHeartbeats 2000000 in
theorem refused_walk (hd bd : Int) (rs : List Rt) (ws : List Wr) (ar : Option Addr) (cr : Nat) (aw : Option Addr) (cw : Nat) (st ro : Int) (fv : Value) (ua ul : ByteArray) (vl : Value) (L : List (List UInt8)) (B : Nat) (t : ByteArray) (mx : Int) (w : World)
    (hR : MuAt 6 Rt.cells rs ar w) (hW : MuAt 4 Wr.cells ws aw w) (hro : ∀ r ∈ rs, RtOk r) (hwo : ∀ x ∈ ws, x.n.size ≤ 281474976710656 ∧ x.v.size ≤ 281474976710656) (hm : w.cell? ⟨0, 0, none⟩ = some (.int .i64 mx)) (hts : t.size ≤ 140737488350000)
    (ho : w.ownsRow B 9 1 vl L.length (encs L)) (hl : L.length ≤ 100) (hz : ∀ x ∈ L, x.length ≤ 1000) (hdp : ∀ x ∈ L, (pdG hd bd rs ws x t.data.toList).st = 200 ∧ (pdG hd bd rs ws x t.data.toList).e = 0) (hua : ua.data.toList = alwRun L [] false false) (hne : L ≠ []) :
    Calls Tryz.prog 14 #[.agg #[.int .i64 hd, .int .i64 bd, .slice ar rs.length cr, .slice aw ws.length cw], .agg #[.int .i64 st, .int .i64 ro, fv, .string ua, .string ul], vl, .string t] w fun x w' => x = .returned (.bool true) ∧ Below w.heap.size w w' := by
  have hxz : ∀ (x : List UInt8), x.length ≤ 1000 → (⟨x.toArray⟩ : ByteArray).size ≤ maxLen := fun x hx => by
    have e : (⟨x.toArray⟩ : ByteArray).size = x.length := by simp [ByteArray.size]
    rw [e]; unfold maxLen; omega
  have HPD := hid (fun (x : List UInt8) W (hb : Below w.heap.size w W) (hx : x.length ≤ 1000) => pDispatch_any hd bd rs ws ar cr aw cw ⟨x.toArray⟩ t mx W (hR.below hb) (hW.below hb) hro hwo (cell_later hb hm) (hxz x hx) hts)
  clear hxz
  have HDP := hid hdp
  obtain ⟨a, c, rfl⟩ := sl_of ho
  have HO := hid ho
  have hA1 := (Below.refl w.heap.size w).alloc (Nat.le_refl _) (.cells #[.int .i64 hd, .int .i64 bd, .slice ar rs.length cr, .slice aw ws.length cw] 27)
  have hA := hA1.alloc hA1.size (.cells #[.int .i64 st, .int .i64 ro, fv, .string ua, .string ul] 34)
  have z1 : (w.alloc (.cells #[.int .i64 hd, .int .i64 bd, .slice ar rs.length cr, .slice aw ws.length cw] 27)).heap.size = w.heap.size + 1 := by simp
  have g0 : CfB w.heap.size hd bd (.slice ar rs.length cr) (.slice aw ws.length cw) (w.alloc (.cells #[.int .i64 hd, .int .i64 bd, .slice ar rs.length cr, .slice aw ws.length cw] 27)) := heap_alloc_new w _
  have g1 := g0.below ((Below.refl _ _).alloc (Nat.le_refl _) (.cells #[.int .i64 st, .int .i64 ro, fv, .string ua, .string ul] 34))
  have h0 : FnB (w.heap.size + 1) st ro fv ua ul ((w.alloc (.cells #[.int .i64 hd, .int .i64 bd, .slice ar rs.length cr, .slice aw ws.length cw] 27)).alloc (.cells #[.int .i64 st, .int .i64 ro, fv, .string ua, .string ul] 34)) := by
    rw [← z1]; exact heap_alloc_new _ _
  have HAL := hid (fun W (hb : Below w.heap.size w W) => allowed_walk (.slice a L.length c) L B W (owns_below ho hb) hl hz)
  have hpos : (0 : Int) < (L.length : Int) := by
    have := List.length_pos_iff.2 hne; omega
  clear hR hW hro hwo hm ho hA1 g0 z1 hdp hne
  go_enter Tryz.func14, Tryz.ntmps14
  go_wp2_with fail
  generalize (w.alloc (.cells #[.int .i64 hd, .int .i64 bd, .slice ar rs.length cr, .slice aw ws.length cw] 27)).alloc (.cells #[.int .i64 st, .int .i64 ro, fv, .string ua, .string ul] 34) = w1 at *
  refine (HAL.out _ hA).mono ?_
  rintro x w2 ⟨⟨o, rfl, hoo⟩, hb2⟩
  have hB2 := bel_of hA hb2
  have I2 : CfB w.heap.size hd bd (.slice ar rs.length cr) (.slice aw ws.length cw) w2 ∧ FnB (w.heap.size + 1) st ro fv ua ul w2 := ⟨g1.below hb2, h0.below hb2⟩
  have HI2 := hid I2
  have hoe : o = ua := by
    have : o.data.toList = ua.data.toList := by rw [hoo, hua]
    cases o; cases ua
    simp only at this
    rw [Array.toList_inj.1 this]
  subst hoe
  clear HAL hua g1 h0 I2 hoo
  go_wp2_with fail
  go_loopw [10] (fun i wr => ∃ k : Nat, k ≤ L.length ∧ i = .int .i64 k ∧ Hid (CfB w.heap.size hd bd (.slice ar rs.length cr) (.slice aw ws.length cw) wr ∧ FnB (w.heap.size + 1) st ro fv o ul wr) ∧ Below w.heap.size w wr) (fun i _ => L.length - (intOf i).toNat)
  case atStart => exact ⟨0, Nat.zero_le _, rfl, HI2, hB2⟩
  case round =>
    obtain ⟨k, hk, rfl, HI, hbw⟩ := hrel
    obtain ⟨hc, hf⟩ := HI.out
    by_cases hlt : k < L.length
    · rcases own_strs (owns_below HO.out hbw) with ⟨-, hl0⟩ | ⟨g, cap, hv, hg, hcp, hce⟩
      · rw [hl0] at hlt; simp at hlt
      · have hck := hce k hlt
        have hzk := hz _ (List.getElem_mem hlt)
        have hdk := HDP.out _ (List.getElem_mem hlt)
        generalize L[k] = x at *
        have HP := hid (fun W (hb : Below wr.heap.size wr W) => HPD.out x W (bel_of hbw hb) hzk)
        generalize pdG hd bd rs ws x t.data.toList = R at *
        obtain ⟨Rs, Rr, Rp, Ra, Rl, Re⟩ := R
        obtain ⟨rfl, rfl⟩ : Rs = 200 ∧ Re = 0 := hdk
        obtain ⟨c0, c1, c2, c3⟩ := hc.cells
        have l0 := hc.lt
        have l1 := hf.lt
        have HCF := hid (And.intro hc hf)
        cases hv
        clear hce HPD HDP HI hc hf
        have ne1 : w.heap.size ≠ wr.heap.size := Nat.ne_of_lt l0
        have ne2 : g ≠ wr.heap.size := Nat.ne_of_lt hg
        go_upto_region 5 with fail
        go_region_held3 (fun W => W.cell? ⟨w.heap.size, 0, none⟩ = some (.int .i64 hd) ∧ W.cell? ⟨w.heap.size, 1, none⟩ = some (.int .i64 bd) ∧ W.cell? ⟨w.heap.size, 2, none⟩ = some (.slice ar rs.length cr) ∧ W.cell? ⟨w.heap.size, 3, none⟩ = some (.slice aw ws.length cw) ∧ W.cell? ⟨g, k, none⟩ = some (.string ⟨x.toArray⟩)) (first | go_keep | exact ⟨(cell_setF ne1).trans r0, (cell_setF ne1).trans r1, (cell_setF ne1).trans r2, (cell_setF ne1).trans r3, (cell_setF ne2).trans r4⟩)
          (first
            | (go_at_call 7; refine (HP.out _ (Below.refl wr.heap.size wr).drew).mono ?_; rintro x w3 ⟨⟨vv, ub, um, rfl, -, -, ow⟩, hb3⟩; have hbd := bel_of (Below.refl wr.heap.size wr).drew hb3; obtain ⟨ax, cx, rfl⟩ := sl_of ow; have r0 := cell_later hbd c0; have r1 := cell_later hbd c1; have r2 := cell_later hbd c2; have r3 := cell_later hbd c3; have r4 := cell_later hbd hck; have m0 := block_lt_of_cell r0; have m4 := block_lt_of_cell r4; have K : Below wr.heap.size wr (w3.alloc (.cells #[.int .i64 200, .int .i64 Rr, .slice ax Rp.length cx, .string ub, .string um] 34)) := hbd.alloc hbd.size _; have HKK := hid K; clear ow hb3 K)
            | (go_at_call 7; refine (HP.out _ ((Below.refl wr.heap.size wr).alloc (Nat.le_refl _) _).drew).mono ?_; rintro x w3 ⟨⟨vv, ub, um, rfl, -, -, ow⟩, hb3⟩; have hbd := bel_of ((Below.refl wr.heap.size wr).alloc (Nat.le_refl _) _).drew hb3; have z0 : FnB wr.heap.size 0 0 (.slice none 0 0) ⟨#[]⟩ ⟨#[]⟩ w3 := FnB.below (w := (wr.alloc (.cells #[.int .i64 0, .int .i64 0, .slice none 0 0, .string ⟨#[]⟩, .string ⟨#[]⟩] 34)).drew) (heap_alloc_new wr _) hb3; obtain ⟨p0, p1, p2, p3, p4⟩ := z0.cells; have f0 := z0.free 0; have f1 := z0.free 1; have f2 := z0.free 2; have f3 := z0.free 3; have f4 := z0.free 4; have lz := z0.lt; obtain ⟨ax, cx, rfl⟩ := sl_of ow; have r0 := cell_later hbd c0; have r1 := cell_later hbd c1; have r2 := cell_later hbd c2; have r3 := cell_later hbd c3; have r4 := cell_later hbd hck; have m0 := block_lt_of_cell r0; have m4 := block_lt_of_cell r4; obtain ⟨o0, -, -, -, -⟩ := (z0.set 200 Rr (.slice ax Rp.length cx) ub um).cells; have K : Below wr.heap.size wr (setF wr.heap.size 200 Rr (.slice ax Rp.length cx) ub um w3) := below_setF hbd (Nat.le_refl _); unfold setF at o0 K; have HKK := hid K; clear ow hb3 K))
        all_goals go_wp2_with fail
        all_goals
          refine ⟨⟨k + 1, by omega, by go_num, ?_, ?_⟩, by simp [intOf]; omega⟩
          · exact ⟨HCF.out.1.below HKK.out, HCF.out.2.below HKK.out⟩
          · exact bel_of hbw HKK.out
    · have hne : ¬ (k : Int) < (L.length : Int) := by omega
      obtain ⟨-, -, -, d3, -⟩ := hf.cells
      have l1 := hf.lt
      clear HI hc hf HPD HDP
      go_wp2_with fail
      go_ret
      exact ⟨rfl, hbw⟩
end Go.Proofs.YtpfendckgeoonaaGreatDoor

/- The law Routed: whatever the configuration, the method and the target, it returns true. -/
namespace Go.Proofs.YtpfendckgeoonaaGreatDoor
open Go.RowKit

set_option maxRecDepth 100000 in
set_option maxHeartbeats 8000000 in
theorem routed_law (hd bd : Int) (rs : List Rt) (ws : List Wr) (ar : Option Addr) (cr : Nat) (aw : Option Addr) (cw : Nat) (m t : ByteArray) (mx : Int) (w : World) (hR : MuAt 6 Rt.cells rs ar w) (hW : MuAt 4 Wr.cells ws aw w) (hro : ∀ r ∈ rs, RtOk r) (hwo : ∀ x ∈ ws, x.n.size ≤ 281474976710656 ∧ x.v.size ≤ 281474976710656) (hm : w.cell? ⟨0, 0, none⟩ = some (.int .i64 mx)) (hms : m.size ≤ maxLen) (hts : t.size ≤ 1000000000000) :
    Calls Tryz.prog 3 #[.agg #[.int .i64 hd, .int .i64 bd, .slice ar rs.length cr, .slice aw ws.length cw], .string m, .string t] w fun x w' => x = .returned (.bool true) ∧ Below w.heap.size w w' := by
  have htl : t.data.toList.length = t.size := by simp
  have hal : (Pm.ahead 63 t.data.toList).length ≤ t.size := by rw [← htl]; exact (List.takeWhile_prefix _).length_le
  have hbl : (Pm.behind 63 t.data.toList).length ≤ t.size := by rw [← htl]; exact (List.dropWhile_suffix _).length_le
  have HLE := hid (fun W (hb : Below w.heap.size w W) => leads_any mx W (cell_later hb hm))
  have HRG := hid (fun W (hb : Below w.heap.size w W) (hl : w.heap.size < W.heap.size) => right_any hd bd rs ws ar cr aw cw mx w W hb hl hR hW hro hwo hm)
  have hA := (Below.refl w.heap.size w).alloc (Nat.le_refl _) (.cells #[.int .i64 hd, .int .i64 bd, .slice ar rs.length cr, .slice aw ws.length cw] 27)
  have g0 : CfB w.heap.size hd bd (.slice ar rs.length cr) (.slice aw ws.length cw) (w.alloc (.cells #[.int .i64 hd, .int .i64 bd, .slice ar rs.length cr, .slice aw ws.length cw] 27)) := heap_alloc_new w _
  have HM := hid hm
  have HPI := hid (fun W => pathIn_any t W (by unfold maxLen; omega))
  clear hR hW hro hwo hm
  go_enter Tryz.func3, Tryz.ntmps3
  go_wp2_with fail
  generalize w.alloc (.cells #[.int .i64 hd, .int .i64 bd, .slice ar rs.length cr, .slice aw ws.length cw] 27) = w1 at *
  refine (HLE.out _ hA).mono ?_
  rintro x w2 ⟨rfl, hb2⟩
  have hB2 := bel_of hA hb2
  have g2 := g0.below hb2
  obtain ⟨c0, c1, c2, c3⟩ := g2.cells
  have l2 := g2.lt
  clear g0 hA hb2 HLE
  go_wp2_with fail
  refine (HRG.out _ hB2 l2).mono ?_
  rintro x w3 ⟨⟨hd', bd', rs', ws', ar', cr', aw', cw', rfl, hR, hW, hro, hwo, hE, hn1, hn2⟩, hb3⟩
  have hB3 := bel_of hB2 hb3
  have g3 := g2.below hb3
  have f0 := g3.free 0
  have f1 := g3.free 1
  have f2 := g3.free 2
  have f3 := g3.free 3
  have l3 := g3.lt
  clear c0 c1 c2 c3
  obtain ⟨c0, c1, c2, c3⟩ := g3.cells
  have K : CfB w.heap.size hd' bd' (.slice ar' rs'.length cr') (.slice aw' ws'.length cw') (setC w.heap.size hd' bd' (.slice ar' rs'.length cr') (.slice aw' ws'.length cw') w3) ∧ Below w.heap.size w (setC w.heap.size hd' bd' (.slice ar' rs'.length cr') (.slice aw' ws'.length cw') w3) ∧ MuAt 6 Rt.cells rs' ar' (setC w.heap.size hd' bd' (.slice ar' rs'.length cr') (.slice aw' ws'.length cw') w3) ∧ MuAt 4 Wr.cells ws' aw' (setC w.heap.size hd' bd' (.slice ar' rs'.length cr') (.slice aw' ws'.length cw') w3) :=
    ⟨g3.set _ _ _ _, below_setC hB3 (Nat.le_refl _), hR.setC2 hn1, hW.setC2 hn2⟩
  obtain ⟨d0, d1, d2, d3⟩ := K.1.cells
  unfold setC at d0 d1 d2 d3 K
  have HK := hid K
  clear K hR hW hn1 hn2 g2 g3 hb3 hB3 HRG l2 hB2
  go_wp2_with fail
  generalize (((w3.setCell ⟨w.heap.size, 0, none⟩ (.int .i64 hd')).setCell ⟨w.heap.size, 1, none⟩ (.int .i64 bd')).setCell ⟨w.heap.size, 2, none⟩ (.slice ar' rs'.length cr')).setCell ⟨w.heap.size, 3, none⟩ (.slice aw' ws'.length cw') = w4 at *
  clear c0 c1 c2 c3
  obtain ⟨K1, K2, K3, K4⟩ := HK.out
  obtain ⟨n1, n2, n3, n4⟩ := cfg_ok hE
  refine (laid_any hd' bd' rs' ar' cr' aw' ws'.length cw' mx w4 n1 K3 (cell_later K2 HM.out) n3).mono ?_
  rintro x w5 ⟨⟨gt, es, v, rfl, hes, hT⟩, hb5⟩
  have g5 := K1.below hb5
  have hB5 := bel_of K2 hb5
  have HCF : Hid (MuAt 6 Rt.cells rs' ar' w5 ∧ MuAt 4 Wr.cells ws' aw' w5) := ⟨K3.below hb5, K4.below hb5⟩
  obtain ⟨e0, e1, e2, e3⟩ := g5.cells
  have l5 := g5.lt
  have hpd : ∀ (x o : List UInt8), pdG hd' bd' rs' ws' x o = dspG x o es := fun x o => by unfold pdG; rw [if_pos hE, ← hes, dspG_bare]
  have HPD := hid (fun (o : ByteArray) W (hb : Below w5.heap.size w5 W) (ho : o.size ≤ 140737488350000) => by have := pDispatch_any hd' bd' rs' ws' ar' cr' aw' cw' m o mx W (HCF.out.1.below hb) (HCF.out.2.below hb) hro hwo (cell_later (bel_of hB5 hb) HM.out) hms ho; rw [hpd] at this; exact this)
  have HPD5 := hid (HPD.out t w5 (Below.refl _ _) (by omega))
  have HRF := hid (fun (st ro : Int) (fv : Value) (ua ul : ByteArray) (vl : Value) (B : Nat) W (hb : Below w5.heap.size w5 W) (ho : W.ownsRow B 9 1 vl (methS (Pm.ahead 63 t.data.toList) es).length (encs (methS (Pm.ahead 63 t.data.toList) es))) h1 h2 h3 h4 h5 => refused_walk hd' bd' rs' ws' ar' cr' aw' cw' st ro fv ua ul vl _ B t mx W (HCF.out.1.below hb) (HCF.out.2.below hb) hro hwo (cell_later (bel_of hB5 hb) HM.out) (by omega) ho h1 h2 h3 h4 h5)
  have HT := hid hT
  have HFW := hT.few
  have HRO := hid (fun (o : ByteArray) (L : List UInt8) (ho : o.data.toList = L) W (hb : Below w5.heap.size w5 W) (hs : L.length ≤ 140737488355328) => route_as gt gt es v m o L ho W (hT.below hb) hs)
  have HE := hid (And.intro hes n3)
  have HRTO := hid hro
  have HPD9 := hid hpd
  clear K1 K2 K3 K4 HK hT hE hes hro hwo n1 n2 n3 n4 d0 d1 d2 d3 f0 f1 f2 f3 l3 hb5 hpd
  by_cases hbad : Pm.isMethod m.data.toList = false ∨ Pm.isTarget t.data.toList = false
  · have hR0 : dspG m.data.toList t.data.toList es = ⟨0, 0, [], [], [], 3⟩ := if_pos hbad
    rw [hR0] at HPD5
    clear HRF HPD HRO HT hbad
    go_wp2_with fail
    refine HPD5.out.mono ?_
    rintro x w6 ⟨⟨vv, ua, ul, rfl, -, -, ow⟩, hb6⟩
    have hB6 := bel_of hB5 hb6
    obtain ⟨ax, cx, rfl⟩ := sl_of ow
    have hA7 := hB6.alloc hB6.size (.cells #[.int .i64 0, .int .i64 0, .slice ax ([] : List Prm).length cx, .string ua, .string ul] 34)
    clear HPD5 ow
    go_wp2_with fail
    go_ret
    exact ⟨rfl, hA7⟩
  · have h1 : Pm.isMethod m.data.toList = true := by cases q : Pm.isMethod m.data.toList; exact absurd (.inl q) hbad; rfl
    have h2 : Pm.isTarget t.data.toList = true := by cases q : Pm.isTarget t.data.toList; exact absurd (.inr q) hbad; rfl
    have hp := target_path h2
    have hrest := fun hl => dsp_rest HE.out.1 HE.out.2 h1 h2 hl
    have hmt := fun x (hx : x ∈ methS (Pm.ahead 63 t.data.toList) es) => meth_led HE.out.1 HE.out.2 h2 hx
    have hmz := fun x (hx : x ∈ methS (Pm.ahead 63 t.data.toList) es) => (by
      obtain ⟨e, he1, he2, -⟩ := methS_mem hx
      have := meth_small (es_meth HE.out.1 HE.out.2 he1)
      have hel : e.m.data.toList.length = e.m.size := by simp
      rw [← he2]; omega : x.length ≤ 1000)
    have hmf := methS_few (Pm.ahead 63 t.data.toList) es
    have hdsp := fun (hl : (leadG m.data.toList (Pm.ahead 63 t.data.toList) es).2.2 = 0) => (by
      unfold dspG
      rw [if_neg hbad, if_pos hl] : dspG m.data.toList t.data.toList es = ⟨200, (leadG m.data.toList (Pm.ahead 63 t.data.toList) es).1, (leadG m.data.toList (Pm.ahead 63 t.data.toList) es).2.1, [], [], 0⟩)
    have HHP := hid hp
    have hHB := beq_head m
    have hGB := beq_get m
    generalize hPA : Pm.ahead 63 t.data.toList = PA at *
    clear hbad h1 h2
    by_cases q1 : (leadG m.data.toList PA es).2.2 = 0
    · obtain ⟨j, hj, hj1, hj2⟩ := leadG_hit q1
      obtain ⟨hjr, hms2⟩ := match_same HE.out.1 HE.out.2 hj hp hj2
      have hpl : (leadG m.data.toList PA es).2.1.length ≤ 1000000 := by
        have := matchB_len2 _ _ _ _ _ hj2
        have := HT.out.szs j hj
        simp at *; omega
      rw [hdsp q1] at HPD5
      have hrou := rou_yes hp q1
      have HRO2 := hid (fun (o : ByteArray) (ho : o.data.toList = PA) W (hb : Below w5.heap.size w5 W) => by have := HRO.out o PA ho W hb (by omega); rw [hrou] at this; exact this)
      have hrp := HRTO.out rs'[j] (List.getElem_mem hjr)
      have HMA := hid (fun (o : ByteArray) (ho : o.data.toList = PA) W (hb : Below w5.heap.size w5 W) => by have := match_as rs'[j].p o PA ho mx W (by have := hrp.p; omega) (by omega) (cell_later (bel_of hB5 hb) HM.out); rw [hms2] at this; exact this)
      obtain ⟨gr, orr, har, hgr, -, pp, -⟩ := rt_cells HCF.out.1 hjr
      generalize leadG m.data.toList PA es = LG at *
      obtain ⟨ln, lp, le⟩ := LG
      simp only at hj1 hj2 hpl q1 HPD5 HRO2 HMA
      subst hj1
      generalize rs'[ln].p = pat at *
      clear HRF HPD HRO HT hrest hmt hmz hmf hdsp hrou hj2 hms2 hrp HHP hp HPD9 HRTO HE
      subst har
      go_wp2_with fail
      refine HPD5.out.mono ?_
      rintro x w6 ⟨⟨vv, ua, ul, rfl, -, -, ow⟩, hb6⟩
      have hB6 := bel_of hB5 hb6
      obtain ⟨ax, cx, rfl, pax⟩ := pr_of_owns ow
      have K7 : FnB w6.heap.size 200 ln (.slice ax lp.length cx) ua ul (w6.alloc (.cells #[.int .i64 200, .int .i64 ln, .slice ax lp.length cx, .string ua, .string ul] 34)) ∧ Below w6.heap.size w6 (w6.alloc (.cells #[.int .i64 200, .int .i64 ln, .slice ax lp.length cx, .string ua, .string ul] 34)) :=
        ⟨heap_alloc_new _ _, (Below.refl _ _).alloc (Nat.le_refl _) _⟩
      have HK7 := hid K7
      have HPX := hid pax
      clear HPD5 ow K7 pax
      go_wp2_with fail
      generalize w6.alloc (.cells #[.int .i64 200, .int .i64 ln, .slice ax lp.length cx, .string ua, .string ul] 34) = w7 at *
      obtain ⟨F7, hb7⟩ := HK7.out
      refine (HPI.out _).mono ?_
      rintro x w8 ⟨⟨o, rfl, ho⟩, hb8⟩
      have hb58 := bel_of (bel_of hb6 hb7) hb8
      go_wp2_with fail
      refine (HRO2.out o ho _ hb58).mono ?_
      rintro x w9 ⟨⟨vl, rfl, owl⟩, hb9⟩
      obtain ⟨al, cal, rfl, pal⟩ := pr_of_owns owl
      have hb59 := bel_of hb58 hb9
      have F9 := (F7.below hb8).below hb9
      obtain ⟨q0, q1', q2, q3, q4⟩ := F9.cells
      have l9 := F9.lt
      have C9 := g5.below hb59
      obtain ⟨y0, y1, y2, y3⟩ := C9.cells
      have ly := C9.lt
      have pp9 := cell_later hb59 pp
      have hg9 : gr < w9.heap.size := Nat.lt_of_lt_of_le hgr hb59.size
      have r1 : (0 : Int) ≤ (ln : Int) := by omega
      have r2 : ¬ (ln : Int) < 0 := by omega
      have r3 : ¬ (rs'.length : Int) ≤ (ln : Int) := by omega
      have r4 : ((ln : Int) != (ln : Int)) = false := by simp
      have HP9 := hid pal
      clear owl pal HRO2 HK7 C9
      go_wp2_with fail
      refine (HMA.out o ho _ hb59).mono ?_
      rintro x w10 ⟨⟨vm, rfl, owm⟩, hb10⟩
      obtain ⟨am, cam, rfl, pam⟩ := pr_of_owns owm
      have F10 := F9.below hb10
      obtain ⟨q0, q1', q2, q3, q4⟩ := F10.cells
      have l10 := F10.lt
      have px10 := (((HPX.out.below hb7).below hb8).below hb9).below hb10
      have HS1 := hid (sameParams_walk lp al ax cal cx w10 (HP9.out.below hb10) px10 hpl)
      have HPM := hid (And.intro pam px10)
      clear owm pam px10 HMA F9 HP9 pp9 HPX
      go_wp2_with fail
      refine HS1.out.mono ?_
      rintro x w11 ⟨rfl, hb11⟩
      have F11 := F10.below hb11
      obtain ⟨q0, q1', q2, q3, q4⟩ := F11.cells
      have l11 := F11.lt
      have HS2 := hid (sameParams_walk lp am ax cam cx w11 (HPM.out.1.below hb11) (HPM.out.2.below hb11) hpl)
      clear F10 HS1 HPM
      go_wp2_with fail
      refine HS2.out.mono ?_
      rintro x w12 ⟨rfl, hb12⟩
      have hBf := bel_of hB5 (bel_of (bel_of (bel_of hb59 hb10) hb11) hb12)
      go_wp2_with fail
      go_ret
      exact ⟨rfl, hBf⟩
    · have hrou := rou_no (m := m.data.toList) (l := PA) (es := es) q1
      have HRO2 := hid (fun (o : ByteArray) (ho : o.data.toList = PA) W (hb : Below w5.heap.size w5 W) => by have := HRO.out o PA ho W hb (by omega); rw [hrou] at this; exact this)
      have HMT := hid (fun (o : ByteArray) (ho : o.data.toList = PA) W (hb : Below w5.heap.size w5 W) => methods_as gt gt es v o PA ho W (HT.out.below hb) HHP.out (by omega))
      have HBS := hid (fun (o : ByteArray) (ho : o.data.toList = PA) W => beside_as o PA ho W (by omega))
      have HRO3 := hid (fun (o : ByteArray) (ho : o.data.toList = besG PA) W (hb : Below w5.heap.size w5 W) => HRO.out o (besG PA) ho W hb (by have := bes_len PA; omega))
      obtain ⟨st, al, lo, hds, s200, hcase⟩ := hrest q1
      rw [hds] at HPD5
      have HCS := hid hcase
      have HPD2 := hid (fun (o : ByteArray) (L : List UInt8) (ho : o.data.toList = L) W (hb : Below w5.heap.size w5 W) (hs : o.size ≤ 140737488350000) => by have := HPD.out o W hb hs; rw [ho] at this; exact this)
      generalize rouG m.data.toList (besG PA) es = KG at *
      generalize methS PA es = MS at *
      clear HRO HPD HT hrou hcase hds q1 hrest HHP hp HRTO HE
      go_wp2_with fail
      refine HPD5.out.mono ?_
      rintro x w6 ⟨⟨vv, ua, ul, rfl, hua, hul, ow⟩, hb6⟩
      have hB6 := bel_of hB5 hb6
      obtain ⟨ax, cx, rfl⟩ := sl_of ow
      have K7 : FnB w6.heap.size st 0 (.slice ax ([] : List Prm).length cx) ua ul (w6.alloc (.cells #[.int .i64 st, .int .i64 0, .slice ax ([] : List Prm).length cx, .string ua, .string ul] 34)) ∧ Below w6.heap.size w6 (w6.alloc (.cells #[.int .i64 st, .int .i64 0, .slice ax ([] : List Prm).length cx, .string ua, .string ul] 34)) :=
        ⟨heap_alloc_new _ _, (Below.refl _ _).alloc (Nat.le_refl _) _⟩
      simp only [List.length_nil] at K7 ⊢
      have HK7 := hid K7
      clear HPD5 ow K7
      go_wp2_with fail
      generalize w6.alloc (.cells #[.int .i64 st, .int .i64 0, .slice ax 0 cx, .string ua, .string ul] 34) = w7 at *
      obtain ⟨F7, hb7⟩ := HK7.out
      refine (HPI.out _).mono ?_
      rintro x w8 ⟨⟨o, rfl, ho⟩, hb8⟩
      have hb58 := bel_of (bel_of hb6 hb7) hb8
      have F8 := F7.below hb8
      obtain ⟨q0, q1, q2, q3, q4⟩ := F8.cells
      have l8 := F8.lt
      clear HK7 F7
      go_wp2_with fail
      refine (HRO2.out o ho _ hb58).mono ?_
      rintro x w9 ⟨⟨vl, rfl, -⟩, hb9⟩
      have hb59 := bel_of hb58 hb9
      have F9 := F8.below hb9
      obtain ⟨q0, q1, q2, q3, q4⟩ := F9.cells
      have l9 := F9.lt
      clear F8 HRO2
      go_wp2_with fail
      refine (HMT.out o ho _ hb59).mono ?_
      rintro x w10 ⟨⟨vo, rfl, owo⟩, hb10⟩
      have hb510 := bel_of hb59 hb10
      have F10 := F9.below hb10
      have HOW := hid owo
      obtain ⟨ao, co, rfl⟩ := sl_of owo
      clear F9 HMT owo
      go_wp2_with fail
      refine (HBS.out o ho _).mono ?_
      rintro x w11 ⟨⟨b, rfl, hb⟩, hb11⟩
      have hb511 := bel_of hb510 hb11
      have F11 := F10.below hb11
      clear F10 HBS
      go_wp2_with fail
      refine (HRO3.out b hb _ hb511).mono ?_
      rintro x w12 ⟨⟨vk, rfl, -⟩, hb12⟩
      have hb512 := bel_of hb511 hb12
      have F12 := F11.below hb12
      obtain ⟨q0, q1, q2, q3, q4⟩ := F12.cells
      have l12 := F12.lt
      have C12 := g5.below hb512
      obtain ⟨y0, y1, y2, y3⟩ := C12.cells
      have ly := C12.lt
      have ow12 := owns_below (owns_below HOW.out hb11) hb12
      have hBf := bel_of hB5 hb512
      clear HRO3 F11 HOW C12
      rcases HCS.out with ⟨k1, k2, k3, ro2, ps2, al2, lo2, k4⟩ | ⟨k1, k2, k3, k4⟩ | ⟨k1, k2, k3⟩
      · have hulz : ul.data.toList.length = ul.size := by simp
        rw [hul] at hulz
        have HPL := hid (HPD2.out ul lo hul w12 hb512 (by omega))
        rw [k4] at HPL
        clear HPD2 HRF ow12 HCS
        have hst : (st = 301 ∧ (m.toList == [71, 69, 84]) = true) ∨ (st = 301 ∧ (m.toList == [71, 69, 84]) = false ∧ (m.toList == [72, 69, 65, 68]) = true) ∨ (st = 308 ∧ (m.toList == [71, 69, 84]) = false ∧ (m.toList == [72, 69, 65, 68]) = false) := by
          rcases mov_plain m.data.toList with ⟨e1, e2 | e2⟩ | ⟨e1, e2⟩
          · exact .inl ⟨by rw [k2, e1], by rw [hGB, decide_eq_true e2]⟩
          · exact .inr (.inl ⟨by rw [k2, e1], by rw [hGB, decide_eq_false (by rw [e2]; decide)], by rw [hHB, decide_eq_true e2]⟩)
          · exact .inr (.inr ⟨by rw [k2, e1], by rw [hGB, decide_eq_false (fun h => e2 (.inl h))], by rw [hHB, decide_eq_false (fun h => e2 (.inr h))]⟩)
        clear hGB hHB k2
        rcases hst with ⟨rfl, hGB⟩ | ⟨rfl, hGB, hHB⟩ | ⟨rfl, hGB, hHB⟩
        all_goals
          go_wp2_with fail
          refine HPL.out.mono ?_
          rintro x w13 ⟨⟨v2, u1, u2, rfl, -, -, ow2⟩, hb13⟩
          obtain ⟨a2, c2, rfl⟩ := sl_of ow2
          have F13 := F12.below hb13
          have hB13 := bel_of hBf hb13
          have hA14 := hB13.alloc hB13.size (.cells #[.int .i64 200, .int .i64 ro2, .slice a2 ps2.length c2, .string u1, .string u2] 34)
          have hb14 := (Below.refl w13.heap.size w13).alloc (Nat.le_refl _) (.cells #[.int .i64 200, .int .i64 ro2, .slice a2 ps2.length c2, .string u1, .string u2] 34)
          obtain ⟨n0, n1, n2, n3, n4⟩ := (F13.below hb14).cells
          have ln := F13.lt
          clear ow2 HPL F13 F12 hb14
          go_wp2_with fail
          go_ret
          exact ⟨rfl, hA14⟩
      · subst k2
        have HRR := hid (HRF.out 405 0 (.slice ax 0 cx) ua ul (.slice ao MS.length co) _ w12 hb512 ow12 (by omega) hmz (fun x hx => by rw [HPD9.out]; exact hmt x hx) (by rw [hua, k4]) k3)
        have k5 : ¬ 0 ≤ KG.1 := by omega
        clear HPD2 HRF ow12 HCS hmz hmt
        go_wp2_with fail
        refine HRR.out.mono ?_
        rintro x w13 ⟨rfl, hb13⟩
        have hBz := bel_of hBf hb13
        go_wp2_with fail
        go_ret
        exact ⟨rfl, hBz⟩
      · subst k2
        subst k3
        have k5 : ¬ 0 ≤ KG.1 := by omega
        clear HPD2 HRF ow12 HCS hmz hmt
        simp only [List.length_nil] at *
        go_wp2_with fail
        go_ret
        exact ⟨rfl, hBf⟩
end Go.Proofs.YtpfendckgeoonaaGreatDoor
