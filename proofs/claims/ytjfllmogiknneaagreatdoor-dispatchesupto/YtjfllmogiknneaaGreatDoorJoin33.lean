/- Texts that follow one another, joined. -/
import Derived.Test.YtjfllmogiknneaaGreatDoorJoin32
import Derived.Deep.RegionHeld3
import Derived.Laws.IdiomCopy
import Derived.Lib.SlBuf
import Derived.OwnWalk
import Derived.Laws.Cover3
/- The walk of the reference's Tabled. -/
namespace Go.Proofs.YtjfllmogiknneaaGreatDoor
open Go.RowKit

theorem rLimited2 (hd bd : Int) (w : World) :
    Calls Tryz.prog 41 #[.agg #[.int .i64 hd, .int .i64 bd]] w fun e w' => e = .returned (.bool (decide (32 ≤ hd ∧ hd ≤ 500 ∧ 0 ≤ bd ∧ bd ≤ 200))) ∧ Below w.heap.size w w' := by
  go_enter Tryz.func41, Tryz.ntmps41
  go_wp2
  all_goals
    go_ret
    refine ⟨?_, (Below.refl _ _).alloc (Nat.le_refl _) _⟩
    try congr 2
    try simp
    try simp [*]
    try (intros; omega)

theorem TaI.next {gt : Nat} {rs : List Rt} {k : Nat} {w1 wr W w' : World} {v' : Value} (h : k < rs.length) (hI : TaI gt rs k w1 wr) (hW : Below wr.heap.size wr W) (hb : Below gt W w') (hT : TrAt gt gt ((rs.take k).map rtP ++ [(rs[k].m, rs[k].p)]) v' w') (hok : (adE rs[k].m.data.toList rs[k].p.data.toList (((rs.take k).map rtP).map refB)).2 = 0) : TaI gt rs (k + 1) w1 w' := by
  obtain ⟨-, p, h2, h3, h4⟩ := ad_ok hok
  obtain ⟨i1, i2, i3, i4, i5⟩ := hI
  have e : (rs.take (k + 1)).map rtP = (rs.take k).map rtP ++ [(rs[k].m, rs[k].p)] := by
    rw [List.take_succ_eq_append_getElem h, List.map_append]; rfl
  refine ⟨⟨v', by rw [e]; exact hT⟩, by rw [e]; exact i2.snoc h2 h3, fun x hx => ?_, (i4.trans (hW.mono (by omega))).trans hb, hT.lt⟩
  rw [e, List.mem_append] at hx
  rcases hx with hx | hx
  · exact i3 x hx
  · have : x = (rs[k].m, rs[k].p) := by simpa using hx
    rw [this]; exact meth_small h4
set_option maxRecDepth 100000 in
set_option maxHeartbeats 4000000 in
theorem rTabled_any (hd bd : Int) (rs : List Rt) (ws : List Wr) (ar : Option Addr) (cr : Nat) (aw : Option Addr) (cw : Nat) (w : World) (hR : MuAt 6 Rt.cells rs ar w) (hW : MuAt 4 Wr.cells ws aw w) (hro : ∀ r ∈ rs, RtSm r) (hwo : ∀ x ∈ ws, x.n.size ≤ 1048576 ∧ x.v.size ≤ 1048576) :
    Calls Tryz.prog 23 #[.agg #[.int .i64 hd, .int .i64 bd, .slice ar rs.length cr, .slice aw ws.length cw]] w (TaPost rs (cfgE hd bd rs ws) w) := by
  have HNT := hid (fun W => rNewTable_any W)
  have HLM := hid (fun W => rLimited2 hd bd W)
  have hA := (Below.refl w.heap.size w).alloc (Nat.le_refl _) (.cells #[.int .i64 hd, .int .i64 bd, .slice ar rs.length cr, .slice aw ws.length cw] 27)
  have hg : (w.alloc (.cells #[.int .i64 hd, .int .i64 bd, .slice ar rs.length cr, .slice aw ws.length cw] 27)).heap[w.heap.size]? = some _ := heap_alloc_new w _
  have hE : cfgE hd bd rs ws = if decide (32 ≤ hd ∧ hd ≤ 500 ∧ 0 ≤ bd ∧ bd ≤ 200) = false then (0, 1) else if 24 < rs.length ∨ 6 < ws.length then (0, 10) else if (rtsE rs [] 0).2 = 0 then wrsE ws 0 else rtsE rs [] 0 := rfl
  generalize cfgE hd bd rs ws = E at *
  generalize hLB : decide (32 ≤ hd ∧ hd ≤ 500 ∧ 0 ≤ bd ∧ bd ≤ 200) = LB at *
  have HE := hid hE
  have HRw := hid hR
  have HWw := hid hW
  have HRO := hid hro
  have HWO := hid hwo
  clear hR hW hE hro hwo hLB
  go_enter Tryz.func23, Tryz.ntmps23
  go_wp2_with fail
  generalize w.alloc (.cells #[.int .i64 hd, .int .i64 bd, .slice ar rs.length cr, .slice aw ws.length cw] 27) = w1 at *
  refine (HNT.out _).mono ?_
  rintro x w2 ⟨rfl, hT0, hb2, hz2⟩
  have c0 : w1.cell? ⟨w.heap.size, 0, none⟩ = some (.int .i64 hd) := by rw [Lib.cell_of_heap hg]; rfl
  have c1 : w1.cell? ⟨w.heap.size, 1, none⟩ = some (.int .i64 bd) := by rw [Lib.cell_of_heap hg]; rfl
  have c2 : w1.cell? ⟨w.heap.size, 2, none⟩ = some (.slice ar rs.length cr) := by rw [Lib.cell_of_heap hg]; rfl
  have c3 : w1.cell? ⟨w.heap.size, 3, none⟩ = some (.slice aw ws.length cw) := by rw [Lib.cell_of_heap hg]; rfl
  have l1 := block_lt_of_cell c0
  have hB2 := bel_of hA hb2
  have k0 := cell_later hb2 c0
  have k1 := cell_later hb2 c1
  have l2 := block_lt_of_cell k0
  have HT0 := hid hT0
  clear hT0 HNT hg
  go_wp2_with fail
  refine (HLM.out _).mono ?_
  rintro x w3 ⟨rfl, hb3⟩
  have hb13 := bel_of hb2 hb3
  have hB3 := bel_of hB2 hb3
  have k2 := cell_later hb13 c2
  have k3 := cell_later hb13 c3
  have l3 := block_lt_of_cell k2
  clear HLM k0 k1
  cases LB
  · have hE := HE.out
    rw [if_pos rfl] at hE
    subst hE
    clear HE
    go_wp2_with fail
    refine bodyPost_ret (v := .tuple #[.pointer (some ⟨w1.heap.size, 0, none⟩), .int .i64 0, .int .i64 1]) (by simp [results, Tryz.results23, go_sem]) rfl ?_
    exact ⟨_, rfl, hB3, fun h => absurd h (by simp)⟩
  · have hE := HE.out
    rw [if_neg (by simp)] at hE
    by_cases hf : 24 < rs.length ∨ 6 < ws.length
    · rw [if_pos hf] at hE
      subst hE
      clear HE
      by_cases f1 : 24 < rs.length
      · have f2 : (24 : Int) < (rs.length : Int) := by omega
        go_wp2_with fail
        refine bodyPost_ret (v := .tuple #[.pointer (some ⟨w1.heap.size, 0, none⟩), .int .i64 0, .int .i64 10]) (by simp [results, Tryz.results23, go_sem]) rfl ?_
        exact ⟨_, rfl, hB3, fun h => absurd h (by simp)⟩
      · have f2 : ¬ (24 : Int) < (rs.length : Int) := by omega
        have f3 : (6 : Int) < (ws.length : Int) := by omega
        go_wp2_with fail
        refine bodyPost_ret (v := .tuple #[.pointer (some ⟨w1.heap.size, 0, none⟩), .int .i64 0, .int .i64 10]) (by simp [results, Tryz.results23, go_sem]) rfl ?_
        exact ⟨_, rfl, hB3, fun h => absurd h (by simp)⟩
    · rw [if_neg hf] at hE
      have f2 : ¬ (24 : Int) < (rs.length : Int) := by omega
      have f3 : ¬ (6 : Int) < (ws.length : Int) := by omega
      have HE1 := hid hE
      have I0 : Hid (TaI w1.heap.size rs 0 w1 w3) := ⟨⟨_, HT0.out.below hb3⟩, fun i j hi => absurd hi (by simp), fun e he => absurd he (by simp), hb13, Nat.lt_of_lt_of_le HT0.out.lt hb3.size⟩
      generalize hRR : rtsE rs [] 0 = RR at *
      have HRR : Hid (rtsE (rs.drop 0) ((rs.take 0).map rtBare) 0 = RR) := hRR
      clear HE hE hRR HT0
      go_wp2_with fail
      clear k2 k3
      go_loopw [7] (fun i wr => ∃ k : Nat, k ≤ rs.length ∧ i = .int .i64 k ∧ Hid (TaI w1.heap.size rs k w1 wr) ∧ Hid (rtsE (rs.drop k) ((rs.take k).map rtBare) k = RR)) (fun i _ => rs.length - (intOf i).toNat)
      case atStart => exact ⟨0, Nat.zero_le _, rfl, I0, HRR⟩
      case round =>
        obtain ⟨k, hk, rfl, HI, HK⟩ := hrel
        obtain ⟨⟨v, T⟩, hsp, hsz, hbw, lgs⟩ := HI.out
        have hbW : Below w.heap.size w wr := hA.trans (hbw.mono (Nat.le_of_lt l1))
        have c2r : wr.cell? ⟨w.heap.size, 2, none⟩ = some (.slice ar rs.length cr) := by rw [World.cell?_of_block (hbw.block w.heap.size l1)]; exact c2
        have c3r : wr.cell? ⟨w.heap.size, 3, none⟩ = some (.slice aw ws.length cw) := by rw [World.cell?_of_block (hbw.block w.heap.size l1)]; exact c3
        have lr : w.heap.size < wr.heap.size := Nat.lt_trans l1 lgs
        by_cases hlt : k < rs.length
        · obtain ⟨g, o, rfl, hg0, p0, p1, p2, p3, p4, p5⟩ := rt_cells HRw.out hlt
          have q0 := cell_later hbW p0
          have q1 := cell_later hbW p1
          have hg : g < wr.heap.size := Nat.lt_trans hg0 lr
          have hrs := HRO.out _ (List.getElem_mem hlt)
          have hm1 := hrs.m
          have hm2 := hrs.p
          have hm3 := hrs.t
          have hrts := rts_at rs k hlt _ rfl
          have hre := refB_rtP (rs.take k)
          have HAD := hid (fun W (hW : Below wr.heap.size wr W) => rAdd_any w1.heap.size w1.heap.size ((rs.take k).map rtP) v rs[k].m rs[k].p W (T.below hW) (by unfold maxLen; omega) (by omega) (Nat.le_refl _) (Nat.le_trans (Nat.le_of_lt lgs) hW.size))
          have HNX := hid (fun W w' v' (hW : Below wr.heap.size wr W) (hb : Below w1.heap.size W w') (hT : TrAt w1.heap.size w1.heap.size ((rs.take k).map rtP ++ [(rs[k].m, rs[k].p)]) v' w') (hok : (adE rs[k].m.data.toList rs[k].p.data.toList (((rs.take k).map rtP).map refB)).2 = 0) => TaI.next hlt HI.out hW hb hT hok)
          have HERR := hid (fun (h : (adE rs[k].m.data.toList rs[k].p.data.toList (((rs.take k).map rtP).map refB)).2 ≠ 0) => ad_err (es := ((rs.take k).map rtP).map refB) (r := rs[k]'hlt) h)
          have HOK := hid (fun (h : (adE rs[k].m.data.toList rs[k].p.data.toList (((rs.take k).map rtP).map refB)).2 = 0) => (ad_ok (es := ((rs.take k).map rtP).map refB) (r := rs[k]'hlt) h).1)
          rw [HK.out, ← hre] at hrts
          have HRT := hid hrts
          unfold RaPost at HAD
          generalize adE rs[k].m.data.toList rs[k].p.data.toList (((rs.take k).map rtP).map refB) = AE at *
          generalize rtE (((rs.take k).map rtP).map refB) rs[k] = RE at *
          have HHN := hid (fun W => rhandles_any rs[k].h.k rs[k].h.st rs[k].h.t rs[k].h.n W (by unfold maxLen; omega))
          generalize hndB rs[k].h.k rs[k].h.st rs[k].h.t.data.toList = HB at *
          generalize rs[k] = r at *
          obtain ⟨rm, rp, ⟨rk, rst, rt, rn⟩⟩ := r
          simp only at *
          have P2 := hid (And.intro p2 (And.intro p3 (And.intro p4 p5)))
          have P0 := hid p0
          have P1 := hid p1
          clear T HI HK hrts hre p0 p1 p2 p3 p4 p5 hsp hsz hm1 hm2 hm3 hrs HRR
          go_upto_region 10 with fail
          go_region_held3 (fun W => W.cell? ⟨w.heap.size, 2, none⟩ = some (.slice (some ⟨g, o, none⟩) rs.length cr) ∧ W.cell? ⟨g, o + k * 6, none⟩ = some (.string rm) ∧ W.cell? ⟨g, o + k * 6 + 1, none⟩ = some (.string rp)) (go_keep)
            (first | (go_at_call 42; refine (HAD.out _ (Below.refl wr.heap.size wr).drew).mono ?_; rintro x w4 ⟨rfl, hbl, had1, had2⟩; have hb4 : Below w1.heap.size w1 w4 := (hbw.trans ((Below.refl wr.heap.size wr).drew.mono (Nat.le_of_lt lgs))).trans hbl; have hB4 := hA.trans (hb4.mono (Nat.le_of_lt l1)); have r0 := cell_later hB4 P0.out; have r1 := cell_later hB4 P1.out; have r2 : w4.cell? ⟨w.heap.size, 2, none⟩ = some (.slice (some ⟨g, o, none⟩) rs.length cr) := (World.cell?_of_block (hb4.block w.heap.size l1)).trans c2; have HX := hid (And.intro hbl had2); have lg4 : g < w4.heap.size := block_lt_of_cell r0; have lw4 := block_lt_of_cell r2; clear had1 had2 hbl))
          all_goals
            by_cases q : AE.2 = 0
            · have hq : (AE.2 != 0) = false := by rw [q]; rfl
              obtain ⟨v', T4⟩ := HX.out.2 q
              have HN4 := hid (HNX.out _ _ v' (Below.refl wr.heap.size wr).drew HX.out.1 T4 q)
              have hre2 := HOK.out q
              have s2 := cell_later hB4 P2.out.1
              have s3 := cell_later hB4 P2.out.2.1
              have s4 := cell_later hB4 P2.out.2.2.1
              have s5 := cell_later hB4 P2.out.2.2.2
              have HH := hid (HHN.out w4)
              clear HAD HNX HERR HOK HHN T4 HX
              go_wp2_with fail
              refine HH.out.mono ?_
              rintro x w5 ⟨rfl, hb5⟩
              have hb15 : Below w1.heap.size w1 w5 := hb4.trans (hb5.mono (Nat.le_of_lt HN4.out.2.2.2.2))
              have hB5 := bel_of hB4 hb5
              cases HB
              · rw [if_pos rfl] at hre2
                have hrt := HRT.out
                rw [hre2, if_neg (by decide)] at hrt
                have hE := HE1.out
                rw [hrt, if_neg (by simp)] at hE
                have HEE := hid hE
                clear HH hrt hE hre2 HRT
                go_wp2_with fail
                refine bodyPost_ret (v := .tuple #[.pointer (some ⟨w1.heap.size, 0, none⟩), .int .i64 k, .int .i64 12]) (by simp [results, Tryz.results23, go_sem]) rfl ?_
                rw [HEE.out]
                exact ⟨_, rfl, hB5, fun h => absurd h (by simp)⟩
              · rw [if_neg (by simp)] at hre2
                have hrt := HRT.out
                rw [hre2, if_pos rfl] at hrt
                have HRT2 := hid hrt.symm
                have HN5 : Hid (TaI w1.heap.size rs (k + 1) w1 w5) := ⟨⟨_, (HN4.out.1.choose_spec).below hb5⟩, HN4.out.2.1, HN4.out.2.2.1, hb15, Nat.lt_of_lt_of_le HN4.out.2.2.2.2 hb5.size⟩
                clear HH hrt hre2 HRT HN4
                go_wp2_with fail
                exact ⟨⟨k + 1, by omega, by go_num, HN5, HRT2⟩, by simp [intOf]; omega⟩
            · have hq : (AE.2 != 0) = true := by simpa using q
              have hrt := HRT.out
              rw [HERR.out q, if_neg q] at hrt
              have hE := HE1.out
              rw [hrt, if_neg q] at hE
              have HEE := hid hE
              clear HAD HNX HERR HOK HHN HX HRT hrt hE
              go_wp2_with fail
              refine bodyPost_ret (v := .tuple #[.pointer (some ⟨w1.heap.size, 0, none⟩), .int .i64 k, .int .i64 AE.2]) (by simp [results, Tryz.results23, go_sem]) rfl ?_
              rw [HEE.out]
              exact ⟨_, rfl, hB4, fun h => absurd h q⟩
        · have hne : ¬ (k : Int) < (rs.length : Int) := by omega
          have hkk : rs.take k = rs := List.take_of_length_le (by omega)
          have hr0 := HK.out
          rw [List.drop_eq_nil_of_le (by omega), rtsE] at hr0
          have hE := HE1.out
          rw [← hr0, if_pos rfl] at hE
          have HEE : Hid (E = wrsE (ws.drop 0) 0) := hE
          rw [hkk] at hsp hsz T
          have HFIN := hid (fun W (hW : Below wr.heap.size wr W) => (⟨_, _, refB_rtP rs, T.below hW, hsp, hsz⟩ : ∃ es v, es.map refB = rs.map rtBare ∧ TrAt w1.heap.size w1.heap.size es v W ∧ Sp es ∧ ∀ e ∈ es, e.1.size ≤ 1000))
          clear HI HK T hsp hsz hr0 hE HE1 HRR
          go_wp2_with fail
          go_loopw [11] (fun i ws' => ∃ j : Nat, j ≤ ws.length ∧ i = .int .i64 j ∧ Hid (E = wrsE (ws.drop j) j) ∧ Below wr.heap.size wr ws') (fun i _ => ws.length - (intOf i).toNat)
          case atStart => exact ⟨0, Nat.zero_le _, rfl, HEE, Below.refl _ _⟩
          case round =>
            rename_i wj _
            obtain ⟨j, hj, rfl, HJ, hbj⟩ := hrel
            have hBj := bel_of hbW hbj
            have c3j := cell_later hbj c3r
            have lj := block_lt_of_cell c3j
            by_cases hltw : j < ws.length
            · obtain ⟨gw, ow, rfl, hgw, p0, p1, p2, p3⟩ := wr_cells HWw.out hltw
              have q0 := cell_later hBj p0
              have q1 := cell_later hBj p1
              have q2 := cell_later hBj p2
              have q3 := cell_later hBj p3
              have hgj := block_lt_of_cell q0
              have hwz := (HWO.out _ (List.getElem_mem hltw)).1
              have HWA := hid (fun W => rwares_any ws[j].k ws[j].lim ws[j].n ws[j].v W (by unfold maxLen; omega))
              have hws := HJ.out
              rw [← List.getElem_cons_drop hltw, wrsE] at hws
              have HWS := hid hws
              generalize wareB ws[j].k ws[j].n.data.toList ws[j].v.data.toList ws[j].lim = WB at *
              generalize ws[j] = x at *
              obtain ⟨xk, xn, xv, xl⟩ := x
              simp only at *
              clear HJ hws p0 p1 p2 p3
              go_wp2_with fail
              refine (HWA.out _).mono ?_
              rintro x w6 ⟨rfl, hb6⟩
              have hb6r := bel_of hbj hb6
              have hB6 := bel_of hBj hb6
              clear HWA
              cases WB
              · have hws := HWS.out
                rw [if_neg (by simp)] at hws
                have HWS2 := hid hws
                clear HWS hws
                go_wp2_with fail
                refine bodyPost_ret (v := .tuple #[.pointer (some ⟨w1.heap.size, 0, none⟩), .int .i64 j, .int .i64 13]) (by simp [results, Tryz.results23, go_sem]) rfl ?_
                rw [HWS2.out]
                exact ⟨_, rfl, hB6, fun h => absurd h (by simp)⟩
              · have hws := HWS.out
                rw [if_pos rfl] at hws
                have HWS2 := hid hws
                clear HWS hws
                go_wp2_with fail
                exact ⟨⟨j + 1, by omega, by go_num, HWS2, hb6r⟩, by simp [intOf]; omega⟩
            · have hne : ¬ (j : Int) < (ws.length : Int) := by omega
              have hws := HJ.out
              rw [List.drop_eq_nil_of_le (by omega), wrsE] at hws
              have HWS2 := hid hws
              have HF := hid (HFIN.out _ hbj)
              clear HJ hws HFIN
              go_wp2_with fail
              refine bodyPost_ret (v := .tuple #[.pointer (some ⟨w1.heap.size, 0, none⟩), .int .i64 0, .int .i64 0]) (by simp [results, Tryz.results23, go_sem]) rfl ?_
              rw [HWS2.out]
              exact ⟨_, rfl, hBj, fun _ => HF.out⟩
end Go.Proofs.YtjfllmogiknneaaGreatDoor

/- The reference's Check and Dispatch, of any configuration. -/
namespace Go.Proofs.YtjfllmogiknneaaGreatDoor
open Go.RowKit

set_option maxRecDepth 100000 in
set_option maxHeartbeats 1000000 in
theorem rCheck_any (hd bd : Int) (rs : List Rt) (ws : List Wr) (ar : Option Addr) (cr : Nat) (aw : Option Addr) (cw : Nat) (w : World) (hR : MuAt 6 Rt.cells rs ar w) (hW : MuAt 4 Wr.cells ws aw w) (hro : ∀ r ∈ rs, RtSm r) (hwo : ∀ x ∈ ws, x.n.size ≤ 1048576 ∧ x.v.size ≤ 1048576) :
    Calls Tryz.prog 9 #[.agg #[.int .i64 hd, .int .i64 bd, .slice ar rs.length cr, .slice aw ws.length cw]] w fun x w' => x = .returned (.tuple #[.int .i64 (cfgE hd bd rs ws).1, .int .i64 (cfgE hd bd rs ws).2]) ∧ Below w.heap.size w w' := by
  have HTA := hid (fun W (hb : Below w.heap.size w W) => rTabled_any hd bd rs ws ar cr aw cw W (hR.below hb) (hW.below hb) hro hwo)
  generalize cfgE hd bd rs ws = E at *
  have hA := (Below.refl w.heap.size w).alloc (Nat.le_refl _) (.cells #[.int .i64 hd, .int .i64 bd, .slice ar rs.length cr, .slice aw ws.length cw] 27)
  clear hR hW hro hwo
  go_enter Tryz.func9, Tryz.ntmps9
  go_wp2_with fail
  refine (HTA.out _ hA).mono ?_
  rintro x w2 ⟨gt, rfl, hb2, -⟩
  have hB2 := bel_of hA hb2
  go_wp2_with fail
  refine bodyPost_ret (v := .tuple #[.int .i64 E.1, .int .i64 E.2]) (by simp [results, Tryz.results9, go_sem]) rfl ?_
  exact ⟨rfl, hB2⟩
theorem dsp_zero {m t : List UInt8} {es : List Ent} (h1 : Pm.isMethod m = true) (h2 : Pm.isTarget t = true) : (dspG m t es).e = 0 := by
  unfold dspG
  rw [if_neg (by rw [h1, h2]; simp)]
  split
  · rfl
  · split
    · rfl
    · split <;> rfl
set_option maxRecDepth 100000 in
set_option maxHeartbeats 2000000 in
theorem rDispatch_any (hd bd : Int) (rs : List Rt) (ws : List Wr) (ar : Option Addr) (cr : Nat) (aw : Option Addr) (cw : Nat) (m t : ByteArray) (w : World) (hR : MuAt 6 Rt.cells rs ar w) (hW : MuAt 4 Wr.cells ws aw w) (hro : ∀ r ∈ rs, RtSm r) (hwo : ∀ x ∈ ws, x.n.size ≤ 1048576 ∧ x.v.size ≤ 1048576) (hms : m.size ≤ maxLen) (hts : t.size ≤ 1000000000000) :
    Calls Tryz.prog 13 #[.agg #[.int .i64 hd, .int .i64 bd, .slice ar rs.length cr, .slice aw ws.length cw], .string m, .string t] w (DpPost (pdG hd bd rs ws m.data.toList t.data.toList) w) := by
  have HTA := hid (fun W (hb : Below w.heap.size w W) => rTabled_any hd bd rs ws ar cr aw cw W (hR.below hb) (hW.below hb) hro hwo)
  have HIM := hid (fun W => rIsMethod_any m W hms)
  have HIT := hid (fun W => rIsTarget_any t W (by unfold maxLen; omega))
  have hA1 := (Below.refl w.heap.size w).alloc (Nat.le_refl _) (.cells #[.int .i64 hd, .int .i64 bd, .slice ar rs.length cr, .slice aw ws.length cw] 27)
  have hA := hA1.alloc hA1.size (.cells #[.int .i64 0, .int .i64 0, .slice none 0 0, .string ⟨#[]⟩, .string ⟨#[]⟩] 49)
  have z1 : (w.alloc (.cells #[.int .i64 hd, .int .i64 bd, .slice ar rs.length cr, .slice aw ws.length cw] 27)).heap.size = w.heap.size + 1 := by simp
  have h0 : FnB (w.heap.size + 1) 0 0 (.slice none 0 0) ⟨#[]⟩ ⟨#[]⟩ ((w.alloc (.cells #[.int .i64 hd, .int .i64 bd, .slice ar rs.length cr, .slice aw ws.length cw] 27)).alloc (.cells #[.int .i64 0, .int .i64 0, .slice none 0 0, .string ⟨#[]⟩, .string ⟨#[]⟩] 49)) := by
    rw [← z1]; exact heap_alloc_new _ _
  have hE : ∀ E, cfgE hd bd rs ws = E → pdG hd bd rs ws m.data.toList t.data.toList = if E.2 = 0 then dspG m.data.toList t.data.toList (rs.map rtBare) else ⟨0, 0, [], [], [], E.2⟩ := fun E h => by subst h; rfl
  have HP := hid (hE _ rfl)
  generalize cfgE hd bd rs ws = E at *
  generalize pdG hd bd rs ws m.data.toList t.data.toList = R at *
  clear hR hW hro hwo hE hA1
  go_enter Tryz.func13, Tryz.ntmps13
  go_wp2_with fail
  generalize (w.alloc (.cells #[.int .i64 hd, .int .i64 bd, .slice ar rs.length cr, .slice aw ws.length cw] 27)).alloc (.cells #[.int .i64 0, .int .i64 0, .slice none 0 0, .string ⟨#[]⟩, .string ⟨#[]⟩] 49) = w1 at *
  clear z1
  refine (HTA.out _ hA).mono ?_
  rintro x w2 ⟨gt, rfl, hb2, htab⟩
  have hB2 := bel_of hA hb2
  have F2 := h0.below hb2
  have HTB := hid htab
  clear HTA h0 htab
  by_cases q : E.2 = 0
  · have hq : (E.2 != 0) = false := by rw [q]; rfl
    obtain ⟨es, v, he, T, hsp, hsz⟩ := HTB.out q
    have hR := HP.out
    rw [if_pos q, ← he] at hR
    have HRR := hid hR
    have HDI := hid (fun W (hW : Below w2.heap.size w2 W) h1 h2 => rdispatched_any gt gt es v m t W (T.below hW) hsp hsz h1 h2 hts)
    clear HP HTB T hsp hsz he hR
    go_wp2_with fail
    refine (HIM.out _).mono ?_
    rintro x w3 ⟨rfl, hw3⟩
    have hw4 := hw3.symm
    subst hw4
    clear hw3
    go_wp2_with fail
    refine (HIT.out _).mono ?_
    rintro x w4 ⟨rfl, hb4⟩
    have hB4 := bel_of hB2 hb4
    have F4 := F2.below hb4
    have hbx := hb4
    clear HIM HIT
    by_cases hbad : Pm.isMethod m.data.toList = false ∨ Pm.isTarget t.data.toList = false
    · have hR0 : dspG m.data.toList t.data.toList (es.map refB) = ⟨0, 0, [], [], [], 3⟩ := if_pos hbad
      have hR := HRR.out
      rw [hR0] at hR
      have HR3 := hid hR
      obtain ⟨c0, c1, c2, c3, c4⟩ := F4.cells
      have f0 := F4.free 0
      have f1 := F4.free 1
      have f2 := F4.free 2
      have f3 := F4.free 3
      have f4 := F4.free 4
      have l0 := F4.lt
      obtain ⟨d0, d1, d2, d3, d4⟩ := (F4.set 0 0 (.slice none 0 0) ⟨#[]⟩ ⟨#[]⟩).cells
      unfold setF at d0 d1 d2 d3 d4
      clear HRR hR hR0 HDI
      generalize Pm.isMethod m.data.toList = b1 at *
      generalize Pm.isTarget t.data.toList = b2 at *
      have hcs : b1 = false ∨ (b1 = true ∧ b2 = false) := by cases b1 <;> cases b2 <;> simp_all
      clear hbad
      rcases hcs with rfl | ⟨rfl, rfl⟩
      all_goals
        go_wp2_with fail
        refine bodyPost_ret (v := .tuple #[.agg #[.int .i64 0, .int .i64 0, (.slice none 0 0), .string ⟨#[]⟩, .string ⟨#[]⟩], .int .i64 3]) (by simp [results, Tryz.results13, go_sem, d0, d1, d2, d3, d4]) rfl ?_
        rw [HR3.out]
        exact ⟨⟨_, _, _, rfl, rfl, rfl, World.ownsRow_nil _ _ _ _⟩, below_setF hB4 (Nat.le_succ _)⟩
    · have h1 : Pm.isMethod m.data.toList = true := by cases q : Pm.isMethod m.data.toList; exact absurd (.inl q) hbad; rfl
      have h2 : Pm.isTarget t.data.toList = true := by cases q : Pm.isTarget t.data.toList; exact absurd (.inr q) hbad; rfl
      have HD2 := hid (HDI.out w4 hbx h1 h2)
      have hez := dsp_zero (es := es.map refB) h1 h2
      rw [← HRR.out] at HD2 hez
      have HZ := hid hez
      rw [h1, h2]
      clear HRR HDI hbad h1 h2 hez
      go_wp2_with fail
      refine HD2.out.mono ?_
      rintro x w5 ⟨⟨vv, ua, ul, rfl, hua, hul, ow⟩, hb5⟩
      have hB5 := bel_of hB4 hb5
      have F5 := F4.below hb5
      have l4 := F4.lt
      have hb6 := (Below.refl w5.heap.size w5).alloc (Nat.le_refl _) (.cells #[.int .i64 R.st, .int .i64 R.ro, vv, .string ua, .string ul] 49)
      have hno : vv.ownBlock ≠ some (w.heap.size + 1) := fun e => by have := own_ge ow _ e; omega
      have HO := hid (owns_below (owns_base ow (show w.heap.size ≤ w4.heap.size from hB4.size)) hb6)
      obtain ⟨ax, cx, rfl⟩ := sl_of ow
      have hB6 := bel_of hB5 hb6
      have F6 := F5.below hb6
      obtain ⟨c0, c1, c2, c3, c4⟩ := F6.cells
      have f0 := F6.free 0
      have f1 := F6.free 1
      have f2 := F6.free 2
      have f3 := F6.free 3
      have f4 := F6.free 4
      have l0 := F6.lt
      obtain ⟨d0, d1, d2, d3, d4⟩ := (F6.set R.st R.ro (.slice ax R.ps.length cx) ua ul).cells
      unfold setF at d0 d1 d2 d3 d4
      have HUA := hid (And.intro hua hul)
      clear ow HD2 F5 F2 F4 hua hul
      go_wp2_with fail
      refine bodyPost_ret (v := .tuple #[.agg #[.int .i64 R.st, .int .i64 R.ro, .slice ax R.ps.length cx, .string ua, .string ul], .int .i64 0]) (by simp [results, Tryz.results13, go_sem, d0, d1, d2, d3, d4]) rfl ?_
      exact ⟨⟨_, _, _, by rw [HZ.out], HUA.out.1, HUA.out.2, owns_setF HO.out hno⟩, below_setF hB6 (Nat.le_succ _)⟩
  · have hR := HP.out
    rw [if_neg q] at hR
    subst hR
    obtain ⟨c0, c1, c2, c3, c4⟩ := F2.cells
    have f0 := F2.free 0
    have f1 := F2.free 1
    have f2 := F2.free 2
    have f3 := F2.free 3
    have f4 := F2.free 4
    have l0 := F2.lt
    obtain ⟨d0, d1, d2, d3, d4⟩ := (F2.set 0 0 (.slice none 0 0) ⟨#[]⟩ ⟨#[]⟩).cells
    unfold setF at d0 d1 d2 d3 d4
    have hq : (E.2 != 0) = true := by simpa using q
    clear HP HTB HIM HIT
    go_wp2_with fail
    refine bodyPost_ret (v := .tuple #[.agg #[.int .i64 0, .int .i64 0, .slice none 0 0, .string ⟨#[]⟩, .string ⟨#[]⟩], .int .i64 E.2]) (by simp [results, Tryz.results13, go_sem, d0, d1, d2, d3, d4]) rfl ?_
    exact ⟨⟨_, _, _, rfl, rfl, rfl, World.ownsRow_nil _ _ _ _⟩, below_setF hB2 (Nat.le_succ _)⟩
end Go.Proofs.YtjfllmogiknneaaGreatDoor

/- Lists of many-celled elements that are lent: blocks of the caller's own, their cells from the block's head on. -/
namespace Go.Proofs.YtjfllmogiknneaaGreatDoor
open Go.RowKit

/- a block's first m cells are there and may be written -/
def OwnM (g m : Nat) (w : World) : Prop := ∀ j, j < m → (w.cell? ⟨g, j, none⟩).isSome = true ∧ w.frozen? ⟨g, j, none⟩ = false
theorem OwnM.below {g m : Nat} {w w' : World} {B : Nat} (h : OwnM g m w) (hb : Below B w w') (hg : g < B) : OwnM g m w' := fun j hj => by
  obtain ⟨h1, h2⟩ := h j hj
  exact ⟨by rw [hb.cell hg]; exact h1, by rw [hb.frozen hg]; exact h2⟩
theorem OwnM.cell {g m : Nat} {w : World} (h : OwnM g m w) (j : Nat) (hj : j < m) : ∃ v, w.cell? ⟨g, j, none⟩ = some v := Option.isSome_iff_exists.mp (h j hj).1
theorem OwnM.sets {g m o : Nat} {w : World} (h : OwnM g m w) (cs : List Value) (hl : o + cs.length ≤ m) : OwnM g m (w.setCells g o cs) := fun j hj => by
  refine ⟨?_, by rw [World.frozen?_setCells]; exact (h j hj).2⟩
  by_cases hk : o ≤ j ∧ j < o + cs.length
  · have := World.cell?_setCells_in g cs o w (fun i hi => (h (o + i) (by omega)).1) (j - o) (by omega)
    rw [show o + (j - o) = j from by omega] at this
    rw [this]; rfl
  · rw [World.cell?_setCells_out g cs o w ⟨g, j, none⟩ (fun _ _ => by show j < o ∨ o + cs.length ≤ j; omega)]; exact (h j hj).1
theorem flatm_get {α : Type} {sz : Nat} {f : α → List Value} (hf : ∀ x, (f x).length = sz) : ∀ (l : List α) (i : Nat) (h : i < l.length) (j : Nat) (v : Value), (f l[i])[j]? = some v → (l.flatMap f)[i * sz + j]? = some v
  | [], i, h, _, _, _ => absurd h (by simp)
  | x :: r, 0, _, j, v, hv => by
    rw [List.flatMap_cons]
    simp only [Nat.zero_mul, Nat.zero_add]
    simp only [List.getElem_cons_zero] at hv
    obtain ⟨hj, rfl⟩ := List.getElem?_eq_some_iff.1 hv
    rw [List.getElem?_append_left hj]; exact hv
  | x :: r, i + 1, h, j, v, hv => by
    have ih := flatm_get hf r i (by simpa using h) j v (by simpa using hv)
    rw [List.flatMap_cons, List.getElem?_append_right (by rw [hf x, Nat.succ_mul]; omega), hf x]
    rw [show (i + 1) * sz + j - sz = i * sz + j by rw [Nat.succ_mul]; omega]
    exact ih
theorem flatm_len {α : Type} {sz : Nat} {f : α → List Value} (hf : ∀ x, (f x).length = sz) (l : List α) : (l.flatMap f).length = l.length * sz := by
  induction l with
  | nil => simp
  | cons a r ih => rw [List.flatMap_cons, List.length_append, ih, hf a, List.length_cons, Nat.succ_mul]; omega
theorem mu_src {α : Type} {sz : Nat} {f : α → List Value} (hz : 0 < sz) (hf : ∀ x, (f x).length = sz) {l : List α} {ad : Addr} {w : World} (h : MuAt sz f l (some ad) w) : ∀ j v, (l.flatMap f)[j]? = some v → w.cell? (ad.add j) = some v := fun j v hj => by
  have hl : j < (l.flatMap f).length := (List.getElem?_eq_some_iff.1 hj).1
  rw [flatm_len hf] at hl
  have hi : j / sz < l.length := (Nat.div_lt_iff_lt_mul hz).2 hl
  have hr : j % sz < sz := Nat.mod_lt _ hz
  have hd : j / sz * sz + j % sz = j := by rw [Nat.mul_comm]; exact Nat.div_add_mod j sz
  obtain ⟨g, o, e, _, hc⟩ := h (j / sz) hi
  obtain rfl : ad = ⟨g, o, none⟩ := by simpa using e
  have hv : (f l[j / sz])[j % sz]? = some ((f l[j / sz])[j % sz]'(by rw [hf]; exact hr)) := List.getElem?_eq_getElem _
  have h1 := flatm_get hf l (j / sz) hi (j % sz) _ hv
  rw [hd, hj] at h1
  have h2 := hc (j % sz) _ hv
  rw [Addr.add_lit, show o + j = o + j / sz * sz + j % sz from by omega, h2, h1]
/- a list that was lent: its cells from the block's head on -/
def LvM {α : Type} (sz : Nat) (f : α → List Value) (L : List α) (g : Nat) (w : World) : Prop :=
  ∀ i (h : i < L.length) j v, (f L[i])[j]? = some v → w.cell? ⟨g, i * sz + j, none⟩ = some v
theorem LvM.below {α : Type} {sz : Nat} {f : α → List Value} {L : List α} {g : Nat} {w w' : World} {B : Nat} (h : LvM sz f L g w) (hb : Below B w w') (hg : g < B) : LvM sz f L g w' := fun i hi j v hv => by
  rw [hb.cell hg]; exact h i hi j v hv
theorem LvM.mu {α : Type} {sz : Nat} {f : α → List Value} {l L : List α} {g : Nat} {w : World} (h : LvM sz f (l ++ L) g w) (hg : g < w.heap.size) : MuAt sz f l (some ⟨g, 0, none⟩) w := fun i hi => by
  refine ⟨g, 0, rfl, hg, fun j v hv => ?_⟩
  rw [Nat.zero_add]
  exact h i (by rw [List.length_append]; omega) j v (by rw [List.getElem_append_left hi]; exact hv)
theorem own_copied {α : Type} {sz : Nat} {f : α → List Value} (hf : ∀ x, (f x).length = sz) {g m : Nat} {w : World} (h : OwnM g m w) (l : List α) (hl : l.length * sz ≤ m) : OwnM g m (w.setCells g 0 (l.flatMap f)) ∧ LvM sz f l g (w.setCells g 0 (l.flatMap f)) := by
  have hlen := flatm_len hf l
  refine ⟨h.sets _ (by omega), fun i hi j v hv => ?_⟩
  have h1 := flatm_get hf l i hi j v hv
  obtain ⟨hj, rfl⟩ := List.getElem?_eq_some_iff.1 h1
  have := World.cell?_setCells_in g (l.flatMap f) 0 w (fun i hi => by rw [Nat.zero_add]; exact (h i (by omega)).1) _ hj
  rw [Nat.zero_add] at this
  exact this
theorem LvM.snoc {α : Type} {sz : Nat} {f : α → List Value} (hf : ∀ x, (f x).length = sz) {L : List α} {g m : Nat} {w : World} (h : LvM sz f L g w) (ho : OwnM g m w) (x : α) (hm : L.length * sz + sz ≤ m) :
    LvM sz f (L ++ [x]) g (w.setCells g (L.length * sz) (f x)) := fun i hi j v hv => by
  rw [List.length_append, List.length_singleton] at hi
  by_cases hk : i < L.length
  · rw [List.getElem_append_left hk] at hv
    have hj : j < sz := by have := (List.getElem?_eq_some_iff.1 hv).1; rw [hf] at this; exact this
    have hle : i * sz + sz ≤ L.length * sz := by
      have : (i + 1) * sz ≤ L.length * sz := Nat.mul_le_mul_right _ hk
      rw [Nat.succ_mul] at this; exact this
    rw [World.cell?_setCells_out g (f x) _ w _ (fun _ _ => by left; show i * sz + j < L.length * sz; omega)]
    exact h i hk j v hv
  · obtain rfl : i = L.length := by omega
    rw [List.getElem_append_right (Nat.le_refl _)] at hv
    simp only [Nat.sub_self, List.getElem_cons_zero] at hv
    obtain ⟨hj, rfl⟩ := List.getElem?_eq_some_iff.1 hv
    exact World.cell?_setCells_in g (f x) (L.length * sz) w (fun i hi => (ho _ (by rw [hf] at hi; omega)).1) j hj
/- .. from an element on -/
def LfM {α : Type} (sz : Nat) (f : α → List Value) (L : List α) (k g : Nat) (w : World) : Prop :=
  ∀ i (h : i < L.length) j v, k ≤ i → (f L[i])[j]? = some v → w.cell? ⟨g, i * sz + j, none⟩ = some v
theorem LfM.below {α : Type} {sz : Nat} {f : α → List Value} {L : List α} {k g : Nat} {w w' : World} {B : Nat} (h : LfM sz f L k g w) (hb : Below B w w') (hg : g < B) : LfM sz f L k g w' := fun i hi j v hk hv => by
  rw [hb.cell hg]; exact h i hi j v hk hv
theorem LfM.next {α : Type} {sz : Nat} {f : α → List Value} {L : List α} {k g : Nat} {w : World} (h : LfM sz f L k g w) (cs : List Value) (hc : cs.length = sz) : LfM sz f L (k + 1) g (w.setCells g (k * sz) cs) := fun i hi j v hk hv => by
  have hle : k * sz + sz ≤ i * sz := by
    have : (k + 1) * sz ≤ i * sz := Nat.mul_le_mul_right _ hk
    rw [Nat.succ_mul] at this; exact this
  rw [World.cell?_setCells_out g cs _ w _ (fun _ _ => by right; show k * sz + cs.length ≤ i * sz + j; omega)]
  exact h i hi j v (by omega) hv
theorem owns_ownM {w : World} {B : Nat} {e : TypeId} {sz g n : Nat} {xs : List Value} (h : w.ownsRow B e sz (.slice (some ⟨g, 0, none⟩) n n) n xs) : OwnM g (n * sz) w ∧ g < w.heap.size := by
  rcases h.2 with ⟨h2, _⟩ | ⟨g', cap, cur, hv, hB, hg, hc, hm, hsz, ht⟩
  · cases h2
  · simp only [Value.slice.injEq, Option.some.injEq, Addr.mk.injEq, and_true, true_and] at hv
    obtain ⟨rfl, rfl⟩ := hv
    refine ⟨fun j hj => ⟨?_, Lib.frozen_of_heap hg j⟩, ?_⟩
    · rw [Lib.cell_of_heap hg]; simp; omega
    · rcases Nat.lt_or_ge g w.heap.size with h' | h'
      · exact h'
      · simp [Array.getElem?_eq_none h'] at hg
theorem below_sets {B g o : Nat} {w w' : World} (h : Below B w w') (hg : B ≤ g) (cs : List Value) : Below B w (w'.setCells g o cs) := Lib.below_setCells g hg cs o h
section
variable {P : Program}
theorem run_copy_wide (w : World) (dT sT ty elem : TypeId) (sz b o dLen dCap : Nat) (a : Addr) (sLen sCap : Nat) (cs : List Value)
    (hu : P.underlying dT = some (.slice elem)) (hs : (P.info? elem).map (·.size) = some sz) (hn : cs.length = Nat.min sLen dLen * sz)
    (hsrc : ∀ j v, cs[j]? = some v → w.cell? (a.add j) = some v) (hc : ∀ j, j < cs.length → (w.cell? ⟨b, o + j, none⟩).isSome = true) (hf : ∀ j, j < cs.length → w.frozen? ⟨b, o + j, none⟩ = false) (h1 : ∀ v ∈ cs, v.oneCell' = true) :
    (Builtin.copy_ #[dT, sT] ty #[.slice (some ⟨b, o, none⟩) dLen dCap, .slice (some a) sLen sCap]).run P w = .ok (goInt (Nat.min sLen dLen)) (w.setCells b o cs) := by
  have hl := run_loadCells_list (P := P) w a cs hsrc
  have hst := run_storeCells_cells (P := P) b o cs 0 w (by simpa using hc) (by simpa using hf) h1
  cases hq : P.info? elem with
  | none => simp [hq] at hs
  | some i =>
    have hi : i.size = sz := by simpa [hq] using hs
    simp [Builtin.copy_, run_underlying hu, Builtin.lenOf, Builtin.firstCells, sizeOf, typeInfo, hq, hi, ← hn, hl, hst]
theorem run_eql_nil (w : World) (t e : TypeId) (a : Option Addr) (l c : Nat) (h : P.underlying t = some (.slice e)) : (binOp .eql t (.slice a l c) (.slice none 0 0)).run P w = .ok (.bool a.isNone) w := by
  simp only [binOp]
  simp [run_equal_slice_nil w t e a l c h]
end
theorem rt_one (rs : List Rt) : ∀ u ∈ rs.flatMap Rt.cells, u.oneCell' = true := fun u hu => by
  obtain ⟨r, _, hr⟩ := List.mem_flatMap.mp hu
  simp [Rt.cells] at hr
  rcases hr with rfl | rfl | rfl | rfl | rfl | rfl <;> rfl
theorem wr_one (ws : List Wr) : ∀ u ∈ ws.flatMap Wr.cells, u.oneCell' = true := fun u hu => by
  obtain ⟨r, _, hr⟩ := List.mem_flatMap.mp hu
  simp [Wr.cells] at hr
  rcases hr with rfl | rfl | rfl | rfl <;> rfl
/- the marks -/
def mkR (n : Nat) : Rt := ⟨⟨#[71, 69, 84]⟩, ⟨#[47, 42, (48 + n).toUInt8]⟩, ⟨n, 200 + n, Bp.markB n, ⟨#[]⟩⟩⟩
def mkW (n : Nat) : Wr := ⟨n, ⟨#[88]⟩, Bp.markB n, 0⟩
end Go.Proofs.YtjfllmogiknneaaGreatDoor
