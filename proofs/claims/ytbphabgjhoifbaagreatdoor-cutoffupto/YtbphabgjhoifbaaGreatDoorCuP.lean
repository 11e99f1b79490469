/- Cutoff: where nothing more can go out, what has gone out is a beginning of what would have. -/
import Derived.Test.YtbphabgjhoifbaaGreatDoorJoin35
namespace Go.Proofs.YtbphabgjhoifbaaGreatDoor
open Go.RowKit

theorem ln_fail2 {V : Sv} {pc c : Nat} {vo : Value} {held out : List UInt8} {rq : Nat} {cl : Bool} {w : World} (I : LnI V pc c vo held out rq cl w) :
    Calls Tryz.prog 16 #[.pointer (some ⟨pc, 0, none⟩)] w fun x w' => x = .returned (.tuple #[]) ∧ LnI V pc c (.slice none 0 0) [] [] rq true w' ∧ Kx [c] w w' :=
  pFail_of pc c _ w I.pa ((fail_any V c vo ⟨held.toArray⟩ out rq cl w I.cn).mono (by rintro x w' ⟨rfl, J, k⟩; exact ⟨rfl, I.kx J k, k⟩))
theorem ln_take2 {V : Sv} {pc c : Nat} {vo : Value} {held : List UInt8} {rq : Nat} {cl : Bool} {w : World} (I : LnI V pc c vo held [] rq cl w) (k : Nat) :
    Calls Tryz.prog 17 #[.pointer (some ⟨pc, 0, none⟩), .int .i64 k] w fun x w' => x = .returned (.tuple #[.string ⟨#[]⟩, .int .i64 0]) ∧ ∃ vo2, LnI V pc c vo2 held [] rq cl w' ∧ Kx [c] w w' := by
  have h := take_any V c vo ⟨held.toArray⟩ [] rq cl (k : Int) w I.cn (by omega)
  unfold TkPost at h
  rw [Int.toNat_natCast, List.take_nil, List.drop_nil] at h
  refine pTake_of pc c (k : Int) ⟨([] : List UInt8).toArray⟩ _ w I.pa (h.mono ?_)
  rintro x w' ⟨rfl, vo2, J, kk, -, -⟩
  exact ⟨rfl, vo2, I.kx J kk, kk⟩
theorem ln_endshut {V : Sv} {pc c : Nat} {vo : Value} {held out : List UInt8} {rq : Nat} {w : World} (I : LnI V pc c vo held out rq true w) :
    Calls Tryz.prog 11 #[.pointer (some ⟨pc, 0, none⟩)] w fun x w' => x = .returned (.int .i64 14) ∧ w' = w :=
  pEnd_of pc c 14 _ w I.pa ((end_shut V c vo ⟨held.toArray⟩ out rq w I.cn).mono (by rintro x w' ⟨rfl, rfl⟩; exact ⟨rfl, rfl⟩))
set_option maxRecDepth 100000 in
set_option maxHeartbeats 20000000 in
theorem cutoff_law (C : Cf) (ar : Option Addr) (cr : Nat) (aw : Option Addr) (cw : Nat) (l r : List UInt8) (zs ts : List Int) (za ta : Option Addr) (zc tc : Nat) (mx : Int) (w : World) (h : CfAt C ar aw w) (hz : ScAt zs za w) (hts : ScAt ts ta w) (hzb : ∀ i (h : i < zs.length), -9223372036854775808 ≤ zs[i] ∧ zs[i] ≤ 9223372036854775807) (htb : ∀ i (h : i < ts.length), -9223372036854775808 ≤ ts[i] ∧ ts[i] ≤ 9223372036854775807) (hl : l.length ≤ 1048576) (hlr : l.length + r.length ≤ 1048576) (hzl : zs.length ≤ 1048576) (hm : w.cell? ⟨1, 0, none⟩ = some (.int .i64 mx)) (ht : TabW w) :
    Calls Tryz.prog 5 #[.agg (cfV C ar cr aw cw), .string ⟨l.toArray⟩, .slice za zs.length zc, .slice ta ts.length tc, .string ⟨r.toArray⟩] w fun x w' => x = .returned (.bool true) ∧ Below w.heap.size w w' := by
  have hA := (Below.refl w.heap.size w).alloc (Nat.le_refl _) (.cells (cfV C ar cr aw cw) 27)
  have B0 := heap_alloc_new w (.cells (cfV C ar cr aw cw) 27)
  have lB0 : w.heap.size < (w.alloc (.cells (cfV C ar cr aw cw) 27)).heap.size := by simp
  have HG := hid (greets_any mx _ (cell_later hA hm) (Lib.tabBelow_of_tabIs (ht _ hA)))
  have HH := hid h
  have HZ := hid hz
  have HTS := hid hts
  have HZB := hid hzb
  have HTB := hid htb
  have HT := hid ht
  clear h hz hts hzb htb ht
  go_enter Tryz.func5, Tryz.ntmps5
  go_wp2_with fail
  refine HG.out.mono ?_
  rintro x w1 ⟨rfl, hb1⟩
  have hB1 := bel_of hA hb1
  have b1 : w1.heap[w.heap.size]? = some (.cells (cfV C ar cr aw cw) 27 (0, 0)) := by rw [hb1.block _ lB0]; exact B0
  clear hA B0 lB0 HG hb1
  have l1 := heap_lt b1
  have c0 := (Lib.cell_of_heap b1 (j := 0)).trans (show _ = some (Value.int .i64 C.hd) from rfl)
  have c1 := (Lib.cell_of_heap b1 (j := 1)).trans (show _ = some (Value.int .i64 C.bd) from rfl)
  have c2 := (Lib.cell_of_heap b1 (j := 2)).trans (show _ = some (Value.slice ar C.rs.length cr) from rfl)
  have c3 := (Lib.cell_of_heap b1 (j := 3)).trans (show _ = some (Value.slice aw C.ws.length cw) from rfl)
  have HR := hid (right_C C ar cr aw cw mx w1 (HH.out.below hB1) (cell_later hB1 hm))
  go_wp2_with fail
  refine HR.out.mono ?_
  rintro x w2 ⟨⟨C', ar', cr', aw', cw', rfl, hcf, hE⟩, hb2⟩
  have b2 : w2.heap[w.heap.size]? = some (.cells (cfV C ar cr aw cw) 27 (0, 0)) := by rw [hb2.block _ l1]; exact b1
  have l2 := heap_lt b2
  have z0 := Lib.frozen_of_heap b2 0
  have z1 := Lib.frozen_of_heap b2 1
  have z2 := Lib.frozen_of_heap b2 2
  have z3 := Lib.frozen_of_heap b2 3
  have hK := an_kx w.heap.size w2 (.int .i64 C'.hd) (.int .i64 C'.bd) (.slice ar' C'.rs.length cr') (.slice aw' C'.ws.length cw')
  have b3 := heap_set (heap_set (heap_set (heap_set b2 0 (.int .i64 C'.hd)) 1 (.int .i64 C'.bd)) 2 (.slice ar' C'.rs.length cr')) 3 (.slice aw' C'.ws.length cw')
  have hcf3 := hcf.kx b2 hK
  have hB3 := (bel_of hB1 hb2).trans (hK.below (B := w.heap.size) (fun b hb => by simp at hb; omega) (Nat.le_of_lt l2))
  have d0 := cell_later hb2 c0
  have d1 := cell_later hb2 c1
  have d2 := cell_later hb2 c2
  have d3 := cell_later hb2 c3
  clear c0 c1 c2 c3 HR hcf b1 b2 hB1 hb2 hK
  go_upto_region 5 with fail
  generalize hw3 : (((w2.setCell ⟨w.heap.size, 0, none⟩ (.int .i64 C'.hd)).setCell ⟨w.heap.size, 1, none⟩ (.int .i64 C'.bd)).setCell ⟨w.heap.size, 2, none⟩ (.slice ar' C'.rs.length cr')).setCell ⟨w.heap.size, 3, none⟩ (.slice aw' C'.ws.length cw') = w3 at *
  have k0 := (Lib.cell_of_heap b3 (j := 0)).trans (show _ = some (Value.int .i64 C'.hd) from rfl)
  have k1 := (Lib.cell_of_heap b3 (j := 1)).trans (show _ = some (Value.int .i64 C'.bd) from rfl)
  have k2 := (Lib.cell_of_heap b3 (j := 2)).trans (show _ = some (Value.slice ar' C'.rs.length cr') from rfl)
  have k3 := (Lib.cell_of_heap b3 (j := 3)).trans (show _ = some (Value.slice aw' C'.ws.length cw') from rfl)
  have l3 := heap_lt b3
  have ok' : CfOk C' := ⟨hE, hcf3.rs, hcf3.ws⟩
  have HS := hid (spoken_any C' ok' ar' cr' aw' cw' mx (l ++ r) w3 hcf3 (cell_later hB3 hm) (Lib.tabBelow_of_tabIs (HT.out _ hB3)) (by rw [List.length_append]; omega))
  have hlx : ¬ (9223372036854775807 < l.length + r.length) := by omega
  have hla : (ByteArray.mk l.toArray) ++ (ByteArray.mk r.toArray) = ⟨(l ++ r).toArray⟩ := ba_app l ⟨r.toArray⟩
  have HCF := hid hcf3
  have HB3 := hid hB3
  clear d0 d1 d2 d3 z0 z1 z2 z3 hw3 b3 hcf3 hB3
  generalize hspk : spk C' ((l ++ r).length + 1) (l ++ r) [] [] = K at *
  go_wp2_with fail
  refine HS.out.mono ?_
  rintro x w4 ⟨⟨vm, rfl, hown⟩, hb4⟩
  obtain ⟨va, vc, rfl⟩ := sl_of hown
  have hA5 := hb4.alloc hb4.size (.cells (spA K.out (.slice va K.ms.length vc) K.rf) 33)
  have b5 := heap_alloc_new w4 (.cells (spA K.out (.slice va K.ms.length vc) K.rf) 33)
  have hB5 := bel_of HB3.out hA5
  have m0 := cell_later hA5 k0
  have m1 := cell_later hA5 k1
  have m2 := cell_later hA5 k2
  have m3 := cell_later hA5 k3
  have l5 : w.heap.size < (w4.alloc (.cells (spA K.out (.slice va K.ms.length vc) K.rf) 33)).heap.size := Nat.lt_of_lt_of_le l3 hA5.size
  have HO := hid (opened_any C' ar' cr' aw' cw' mx _ (HCF.out.below hA5).R (HCF.out.below hA5).W (HCF.out.below hA5).rs (HCF.out.below hA5).ws (cell_later hB5 hm) (Lib.tabBelow_of_tabIs (HT.out _ hB5)) hE)
  have HB5 := hid hB5
  clear k0 k1 k2 k3 HS hown hb4 hA5 hB5
  go_upto_region 6 with fail
  generalize w4.alloc (.cells (spA K.out (.slice va K.ms.length vc) K.rf) 33) = w5 at *
  generalize w4.heap.size = sb at *
  go_wp2_with fail
  refine HO.out.mono ?_
  rintro x w6 ⟨pc, c, V, es, v, vh, vw, rfl, hpa, ok, I6, J6, hbV, hge, n1, n2, n3⟩
  have lsb := heap_lt b5
  have bV : V.w1.heap[sb]? = some (.cells (spA K.out (.slice va K.ms.length vc) K.rf) 33 (0, 0)) := by rw [hbV.block _ lsb]; exact b5
  have lsV : sb < V.w1.heap.size := Nat.lt_of_lt_of_le lsb hbV.size
  have hBV := bel_of HB5.out hbV
  have G0 := gn_start hE hpa I6 J6 n1 n2 n3
  have HGV := hid (given_any ok (zeroH C') pc c l zs ts za ta zc tc _ _ w6 G0 (HZ.out.below hBV) (HTS.out.below hBV) HZB.out HTB.out hl hzl)
  have HOK := hid ok
  have HBV := hid hBV
  clear HO G0 ok m0 m1 m2 m3 hpa I6 J6 hbV b5 lsb HB3 HB5 hBV HZ HTS HZB HTB HCF
  go_wp2_with fail
  refine HGV.out.mono ?_
  rintro x w7 ⟨T, S, vo, rfl, G⟩
  have hpre : T <+: K.out := by
    have h1 := asOne_pre G.one r
    have h2 := (spk_give C' ((l ++ r).length + 1) (l ++ r) [] [] (zeroH C')).1
    rw [hspk] at h2
    rw [h2]
    exact h1
  obtain ⟨U, hU⟩ := hpre
  have LG := G.ln
  have HST := hid (ln_stat LG)
  have HLG := hid LG
  clear G HGV LG hspk hlx hla
  go_wp2_with fail
  refine HST.out.mono ?_
  rintro x w8 ⟨rfl, hb8⟩
  have L8 := HLG.out.below hb8
  have hA9 := (Below.refl w8.heap.size w8).alloc (Nat.le_refl _) (.cells (stA S.rq S.held.length S.out.length S.cl) 44)
  have L9 := L8.below hA9
  have b9 := heap_alloc_new w8 (.cells (stA S.rq S.held.length S.out.length S.cl) 44)
  have hwc : w8.heap.size ≠ c := by have := L8.cn.lt; omega
  have HF := hid (ln_fail2 L9)
  clear HST HLG hb8 L8 hA9 L9
  go_upto_region 13 with fail
  generalize w8.alloc (.cells (stA S.rq S.held.length S.out.length S.cl) 44) = w9 at *
  generalize w8.heap.size = wb at *
  go_wp2_with fail
  refine HF.out.mono ?_
  rintro x w10 ⟨rfl, L10, k10⟩
  have b10 := k10.heap b9 (by rw [List.mem_singleton]; exact hwc)
  have HSH := hid (ln_shut L10 ⟨r.toArray⟩)
  have HTK := hid (ln_take2 L10 1000000)
  clear HF L10 k10 b9
  go_wp2_with (go_at_call 14; refine HSH.out.mono ?_; rintro x w' ⟨rfl, hw'⟩; have hw2 := hw'.symm; subst hw2)
  refine HTK.out.mono ?_
  rintro x w11 ⟨rfl, vo2, L11, k11⟩
  have b11 := k11.heap b10 (by rw [List.mem_singleton]; exact hwc)
  have HST := hid (ln_stat L11)
  have HL11 := hid L11
  clear HSH HTK L11 k11 b10
  go_wp2_with fail
  refine HST.out.mono ?_
  rintro x w12 ⟨rfl, hb12⟩
  have L12 := HL11.out.below hb12
  have hA13 := (Below.refl w12.heap.size w12).alloc (Nat.le_refl _) (.cells (stA S.rq 0 0 true) 44)
  have L13 := L12.below hA13
  have b13 := heap_alloc_new w12 (.cells (stA S.rq 0 0 true) 44)
  have bw : (w12.alloc (.cells (stA S.rq 0 0 true) 44)).heap[wb]? = some (.cells (stA S.rq S.held.length S.out.length S.cl) 44 (0, 0)) := by rw [(bel_of hb12 hA13).block _ (heap_lt b11)]; exact b11
  have bs : (w12.alloc (.cells (stA S.rq 0 0 true) 44)).heap[sb]? = some (.cells (spA K.out (.slice va K.ms.length vc) K.rf) 33 (0, 0)) := by rw [L13.bel.block _ lsV]; exact bV
  have hB13 := bel_of HBV.out L13.bel
  have HEN := hid (ln_endshut L13)
  have HB13 := hid hB13
  clear L12 L13 hA13 HST HL11 hb12 hB13 b11
  go_upto_region 17 with fail
  generalize w12.alloc (.cells (stA S.rq 0 0 true) 44) = w13 at *
  generalize w12.heap.size = tb at *
  have t0 := (Lib.cell_of_heap b13 (j := 0)).trans (show _ = some (Value.int .i64 S.rq) from rfl)
  have t1 := (Lib.cell_of_heap b13 (j := 1)).trans (show _ = some (Value.int .i64 0) from rfl)
  have t2 := (Lib.cell_of_heap b13 (j := 2)).trans (show _ = some (Value.int .i64 0) from rfl)
  have t3 := (Lib.cell_of_heap b13 (j := 3)).trans (show _ = some (Value.bool true) from rfl)
  have q0 := (Lib.cell_of_heap bw (j := 0)).trans (show _ = some (Value.int .i64 S.rq) from rfl)
  have u0 := (Lib.cell_of_heap bs (j := 0)).trans (show _ = some (Value.string ⟨K.out.toArray⟩) from rfl)
  have l13 := heap_lt b13
  have l14 := heap_lt bs
  have l15 := heap_lt bw
  have hex := ba_take (T ++ U) T.length
  rw [List.take_left, hU] at hex
  have htu : T.length ≤ K.out.length := by rw [← hU, List.length_append]; exact Nat.le_add_right _ _
  clear hU
  clear b13 bs bV bw
  go_wp2_with (go_at_call 11; refine HEN.out.mono ?_; rintro x w' ⟨rfl, hw'⟩; have hw2 := hw'.symm; subst hw2)
  go_ret
  exact ⟨ret_bool (by simp), HB13.out⟩
end Go.Proofs.YtbphabgjhoifbaaGreatDoor
