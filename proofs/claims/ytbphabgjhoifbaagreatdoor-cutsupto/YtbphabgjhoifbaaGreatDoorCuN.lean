/- Cuts: whatever pieces the bytes come in, what goes out is what Frame, Reply and Render tell of all of them. -/
import Derived.Test.YtbphabgjhoifbaaGreatDoorJoin35
namespace Go.Proofs.YtbphabgjhoifbaaGreatDoor
open Go.RowKit

set_option maxRecDepth 100000 in
set_option maxHeartbeats 20000000 in
theorem cuts_law (C : Cf) (ar : Option Addr) (cr : Nat) (aw : Option Addr) (cw : Nat) (l : List UInt8) (zs ts : List Int) (za ta : Option Addr) (zc tc : Nat) (mx : Int) (w : World) (h : CfAt C ar aw w) (hz : ScAt zs za w) (hts : ScAt ts ta w) (hzb : ∀ i (h : i < zs.length), -9223372036854775808 ≤ zs[i] ∧ zs[i] ≤ 9223372036854775807) (htb : ∀ i (h : i < ts.length), -9223372036854775808 ≤ ts[i] ∧ ts[i] ≤ 9223372036854775807) (hl : l.length ≤ 1048576) (hzl : zs.length ≤ 1048576) (hm : w.cell? ⟨1, 0, none⟩ = some (.int .i64 mx)) (ht : TabW w) :
    Calls Tryz.prog 3 #[.agg (cfV C ar cr aw cw), .string ⟨l.toArray⟩, .slice za zs.length zc, .slice ta ts.length tc] w fun x w' => x = .returned (.bool true) ∧ Below w.heap.size w w' := by
  have hA := (Below.refl w.heap.size w).alloc (Nat.le_refl _) (.cells (cfV C ar cr aw cw) 27)
  have B0 := heap_alloc_new w (.cells (cfV C ar cr aw cw) 27)
  have lB0 : w.heap.size < (w.alloc (.cells (cfV C ar cr aw cw) 27)).heap.size := by simp
  have HG := hid (greets_any mx _ (cell_later hA hm) (Lib.tabBelow_of_tabIs (ht _ hA)))
  have HH := hid h
  have HZ := hid hz
  have HTS := hid hts
  have HZB := hid hzb
  have HTB := hid htb
  have HT := hid ht
  clear h hz hts hzb htb ht
  go_enter Tryz.func3, Tryz.ntmps3
  go_wp2_with fail
  refine HG.out.mono ?_
  rintro x w1 ⟨rfl, hb1⟩
  have hB1 := bel_of hA hb1
  have b1 : w1.heap[w.heap.size]? = some (.cells (cfV C ar cr aw cw) 27 (0, 0)) := by rw [hb1.block _ lB0]; exact B0
  clear hA B0 lB0 HG hb1
  have l1 := heap_lt b1
  have c0 := (Lib.cell_of_heap b1 (j := 0)).trans (show _ = some (Value.int .i64 C.hd) from rfl)
  have c1 := (Lib.cell_of_heap b1 (j := 1)).trans (show _ = some (Value.int .i64 C.bd) from rfl)
  have c2 := (Lib.cell_of_heap b1 (j := 2)).trans (show _ = some (Value.slice ar C.rs.length cr) from rfl)
  have c3 := (Lib.cell_of_heap b1 (j := 3)).trans (show _ = some (Value.slice aw C.ws.length cw) from rfl)
  have HR := hid (right_C C ar cr aw cw mx w1 (HH.out.below hB1) (cell_later hB1 hm))
  go_wp2_with fail
  refine HR.out.mono ?_
  rintro x w2 ⟨⟨C', ar', cr', aw', cw', rfl, hcf, hE⟩, hb2⟩
  have b2 : w2.heap[w.heap.size]? = some (.cells (cfV C ar cr aw cw) 27 (0, 0)) := by rw [hb2.block _ l1]; exact b1
  have l2 := heap_lt b2
  have z0 := Lib.frozen_of_heap b2 0
  have z1 := Lib.frozen_of_heap b2 1
  have z2 := Lib.frozen_of_heap b2 2
  have z3 := Lib.frozen_of_heap b2 3
  have hK := an_kx w.heap.size w2 (.int .i64 C'.hd) (.int .i64 C'.bd) (.slice ar' C'.rs.length cr') (.slice aw' C'.ws.length cw')
  have b3 := heap_set (heap_set (heap_set (heap_set b2 0 (.int .i64 C'.hd)) 1 (.int .i64 C'.bd)) 2 (.slice ar' C'.rs.length cr')) 3 (.slice aw' C'.ws.length cw')
  have hcf3 := hcf.kx b2 hK
  have hB3 := (bel_of hB1 hb2).trans (hK.below (B := w.heap.size) (fun b hb => by simp at hb; omega) (Nat.le_of_lt l2))
  have d0 := cell_later hb2 c0
  have d1 := cell_later hb2 c1
  have d2 := cell_later hb2 c2
  have d3 := cell_later hb2 c3
  clear c0 c1 c2 c3 HR hcf b1 b2 hB1 hb2 hK
  go_upto_region 5 with fail
  generalize hw3 : (((w2.setCell ⟨w.heap.size, 0, none⟩ (.int .i64 C'.hd)).setCell ⟨w.heap.size, 1, none⟩ (.int .i64 C'.bd)).setCell ⟨w.heap.size, 2, none⟩ (.slice ar' C'.rs.length cr')).setCell ⟨w.heap.size, 3, none⟩ (.slice aw' C'.ws.length cw') = w3 at *
  have k0 := (Lib.cell_of_heap b3 (j := 0)).trans (show _ = some (Value.int .i64 C'.hd) from rfl)
  have k1 := (Lib.cell_of_heap b3 (j := 1)).trans (show _ = some (Value.int .i64 C'.bd) from rfl)
  have k2 := (Lib.cell_of_heap b3 (j := 2)).trans (show _ = some (Value.slice ar' C'.rs.length cr') from rfl)
  have k3 := (Lib.cell_of_heap b3 (j := 3)).trans (show _ = some (Value.slice aw' C'.ws.length cw') from rfl)
  have l3 := heap_lt b3
  have ok' : CfOk C' := ⟨hE, hcf3.rs, hcf3.ws⟩
  have HS := hid (spoken_any C' ok' ar' cr' aw' cw' mx l w3 hcf3 (cell_later hB3 hm) (Lib.tabBelow_of_tabIs (HT.out _ hB3)) (by omega))
  have HCF := hid hcf3
  have HB3 := hid hB3
  clear d0 d1 d2 d3 z0 z1 z2 z3 hw3 b3 hcf3 hB3
  generalize hspk : spk C' (l.length + 1) l [] [] = K at *
  go_wp2_with fail
  refine HS.out.mono ?_
  rintro x w4 ⟨⟨vm, rfl, hown⟩, hb4⟩
  obtain ⟨va, vc, rfl⟩ := sl_of hown
  have hA5 := hb4.alloc hb4.size (.cells (spA K.out (.slice va K.ms.length vc) K.rf) 33)
  have b5 := heap_alloc_new w4 (.cells (spA K.out (.slice va K.ms.length vc) K.rf) 33)
  have hB5 := bel_of HB3.out hA5
  have m0 := cell_later hA5 k0
  have m1 := cell_later hA5 k1
  have m2 := cell_later hA5 k2
  have m3 := cell_later hA5 k3
  have l5 : w.heap.size < (w4.alloc (.cells (spA K.out (.slice va K.ms.length vc) K.rf) 33)).heap.size := Nat.lt_of_lt_of_le l3 hA5.size
  have HO := hid (opened_any C' ar' cr' aw' cw' mx _ (HCF.out.below hA5).R (HCF.out.below hA5).W (HCF.out.below hA5).rs (HCF.out.below hA5).ws (cell_later hB5 hm) (Lib.tabBelow_of_tabIs (HT.out _ hB5)) hE)
  have HB5 := hid hB5
  clear k0 k1 k2 k3 HS hown hb4 hA5 hB5
  go_upto_region 6 with fail
  generalize w4.alloc (.cells (spA K.out (.slice va K.ms.length vc) K.rf) 33) = w5 at *
  generalize w4.heap.size = sb at *
  go_wp2_with fail
  refine HO.out.mono ?_
  rintro x w6 ⟨pc, c, V, es, v, vh, vw, rfl, hpa, ok, I6, J6, hbV, hge, n1, n2, n3⟩
  have lsb := heap_lt b5
  have bV : V.w1.heap[sb]? = some (.cells (spA K.out (.slice va K.ms.length vc) K.rf) 33 (0, 0)) := by rw [hbV.block _ lsb]; exact b5
  have lsV : sb < V.w1.heap.size := Nat.lt_of_lt_of_le lsb hbV.size
  have hBV := bel_of HB5.out hbV
  have G0 := gn_start hE hpa I6 J6 n1 n2 n3
  have HGV := hid (given_any ok (zeroH C') pc c l zs ts za ta zc tc _ _ w6 G0 (HZ.out.below hBV) (HTS.out.below hBV) HZB.out HTB.out hl hzl)
  have HOK := hid ok
  have HBV := hid hBV
  clear HO G0 ok m0 m1 m2 m3 hpa I6 J6 hbV b5 lsb HB3 HB5 hBV HZ HTS HZB HTB HCF
  go_wp2_with fail
  refine HGV.out.mono ?_
  rintro x w7 ⟨T, S, vo, rfl, G⟩
  obtain ⟨s1, s2⟩ := spk_one G.one
  rw [hspk] at s1 s2
  have hsz := gn_T HOK.out G (by omega)
  have HE := hid (ln_end G.ln (asOne_none G.one))
  have HR := hid (fun w8 (L : LnI V pc c vo [] S.out S.rq true w8) => ln_rest L)
  clear G HGV
  go_wp2_with fail
  refine HE.out.mono ?_
  rintro x w8 ⟨rfl, L8⟩
  have HL8 := hid L8
  clear L8 HE
  have hx3 : ¬ (9223372036854775807 < T.length + S.out.length) := by omega
  have hxa : (ByteArray.mk T.toArray) ++ (ByteArray.mk S.out.toArray) = ⟨(T ++ S.out).toArray⟩ := ba_app T ⟨S.out.toArray⟩
  go_wp2_with fail
  all_goals
    refine (HR.out _ HL8.out).mono ?_
    rintro x w9 ⟨rfl, L9⟩
    have HST := hid (ln_stat L9)
    have HL9 := hid L9
    clear L9 HR HL8
    go_wp2_with fail
    refine HST.out.mono ?_
    rintro x w10 ⟨rfl, hb10⟩
    have L10 := HL9.out.below hb10
    have hA11 := (Below.refl w10.heap.size w10).alloc (Nat.le_refl _) (.cells (stA S.rq 0 0 true) 44)
    have L11 := L10.below hA11
    have b11 := heap_alloc_new w10 (.cells (stA S.rq 0 0 true) 44)
    have bs : (w10.alloc (.cells (stA S.rq 0 0 true) 44)).heap[sb]? = some (.cells (spA K.out (.slice va K.ms.length vc) K.rf) 33 (0, 0)) := by rw [L11.bel.block _ lsV]; exact bV
    have hB11 := bel_of HBV.out L11.bel
    have HB11 := hid hB11
    clear L10 L11 hA11 HST HL9 hb10 hB11
    go_upto_region 15 with fail
    generalize w10.alloc (.cells (stA S.rq 0 0 true) 44) = w11 at *
    generalize w10.heap.size = tb at *
    have t0 := (Lib.cell_of_heap b11 (j := 0)).trans (show _ = some (Value.int .i64 S.rq) from rfl)
    have t1 := (Lib.cell_of_heap b11 (j := 1)).trans (show _ = some (Value.int .i64 0) from rfl)
    have t2 := (Lib.cell_of_heap b11 (j := 2)).trans (show _ = some (Value.int .i64 0) from rfl)
    have t3 := (Lib.cell_of_heap b11 (j := 3)).trans (show _ = some (Value.bool true) from rfl)
    have u0 := (Lib.cell_of_heap bs (j := 0)).trans (show _ = some (Value.string ⟨K.out.toArray⟩) from rfl)
    have u1 := (Lib.cell_of_heap bs (j := 1)).trans (show _ = some (Value.slice va K.ms.length vc) from rfl)
    have l11 := heap_lt b11
    have l12 := heap_lt bs
    rw [s1] at u0
    rw [s2] at u1
    clear b11 bs bV
    go_wp2_with fail
    go_ret
    exact ⟨ret_bool (by simp), HB11.out⟩
end Go.Proofs.YtbphabgjhoifbaaGreatDoor
