/- Counted: what goes out, read by the lengths that it tells, is just so many answers. -/
import Derived.Test.YtbphabgjhoifbaaGreatDoorJoin35
import Derived.Test.YtbphabgjhoifbaaGreatDoorCnH
namespace Go.Proofs.YtbphabgjhoifbaaGreatDoor
open Go.RowKit

set_option maxRecDepth 100000 in
set_option maxHeartbeats 20000000 in
theorem counted_law (C : Cf) (ar : Option Addr) (cr : Nat) (aw : Option Addr) (cw : Nat) (l : List UInt8) (mx : Int) (w : World) (h : CfAt C ar aw w) (hl : l.length ≤ 1048576) (hm : w.cell? ⟨1, 0, none⟩ = some (.int .i64 mx)) (ht : TabW w) :
    Calls Tryz.prog 4 #[.agg (cfV C ar cr aw cw), .string ⟨l.toArray⟩] w fun x w' => x = .returned (.bool true) ∧ Below w.heap.size w w' := by
  have hA := (Below.refl w.heap.size w).alloc (Nat.le_refl _) (.cells (cfV C ar cr aw cw) 27)
  have B0 := heap_alloc_new w (.cells (cfV C ar cr aw cw) 27)
  have lB0 : w.heap.size < (w.alloc (.cells (cfV C ar cr aw cw) 27)).heap.size := by simp
  have HG := hid (greets_any mx _ (cell_later hA hm) (Lib.tabBelow_of_tabIs (ht _ hA)))
  have HH := hid h
  have HT := hid ht
  clear h ht
  go_enter Tryz.func4, Tryz.ntmps4
  go_wp2_with fail
  refine HG.out.mono ?_
  rintro x w1 ⟨rfl, hb1⟩
  have hB1 := bel_of hA hb1
  have b1 : w1.heap[w.heap.size]? = some (.cells (cfV C ar cr aw cw) 27 (0, 0)) := by rw [hb1.block _ lB0]; exact B0
  clear hA B0 lB0 HG hb1
  have l1 := heap_lt b1
  have c0 := (Lib.cell_of_heap b1 (j := 0)).trans (show _ = some (Value.int .i64 C.hd) from rfl)
  have c1 := (Lib.cell_of_heap b1 (j := 1)).trans (show _ = some (Value.int .i64 C.bd) from rfl)
  have c2 := (Lib.cell_of_heap b1 (j := 2)).trans (show _ = some (Value.slice ar C.rs.length cr) from rfl)
  have c3 := (Lib.cell_of_heap b1 (j := 3)).trans (show _ = some (Value.slice aw C.ws.length cw) from rfl)
  have HR := hid (right_C C ar cr aw cw mx w1 (HH.out.below hB1) (cell_later hB1 hm))
  go_wp2_with fail
  refine HR.out.mono ?_
  rintro x w2 ⟨⟨C', ar', cr', aw', cw', rfl, hcf, hE⟩, hb2⟩
  have b2 : w2.heap[w.heap.size]? = some (.cells (cfV C ar cr aw cw) 27 (0, 0)) := by rw [hb2.block _ l1]; exact b1
  have l2 := heap_lt b2
  have z0 := Lib.frozen_of_heap b2 0
  have z1 := Lib.frozen_of_heap b2 1
  have z2 := Lib.frozen_of_heap b2 2
  have z3 := Lib.frozen_of_heap b2 3
  have hK := an_kx w.heap.size w2 (.int .i64 C'.hd) (.int .i64 C'.bd) (.slice ar' C'.rs.length cr') (.slice aw' C'.ws.length cw')
  have b3 := heap_set (heap_set (heap_set (heap_set b2 0 (.int .i64 C'.hd)) 1 (.int .i64 C'.bd)) 2 (.slice ar' C'.rs.length cr')) 3 (.slice aw' C'.ws.length cw')
  have hcf3 := hcf.kx b2 hK
  have hB3 := (bel_of hB1 hb2).trans (hK.below (B := w.heap.size) (fun b hb => by simp at hb; omega) (Nat.le_of_lt l2))
  have d0 := cell_later hb2 c0
  have d1 := cell_later hb2 c1
  have d2 := cell_later hb2 c2
  have d3 := cell_later hb2 c3
  clear c0 c1 c2 c3 HR hcf b1 b2 hB1 hb2 hK
  go_upto_region 5 with fail
  generalize hw3 : (((w2.setCell ⟨w.heap.size, 0, none⟩ (.int .i64 C'.hd)).setCell ⟨w.heap.size, 1, none⟩ (.int .i64 C'.bd)).setCell ⟨w.heap.size, 2, none⟩ (.slice ar' C'.rs.length cr')).setCell ⟨w.heap.size, 3, none⟩ (.slice aw' C'.ws.length cw') = w3 at *
  have k0 := (Lib.cell_of_heap b3 (j := 0)).trans (show _ = some (Value.int .i64 C'.hd) from rfl)
  have k1 := (Lib.cell_of_heap b3 (j := 1)).trans (show _ = some (Value.int .i64 C'.bd) from rfl)
  have k2 := (Lib.cell_of_heap b3 (j := 2)).trans (show _ = some (Value.slice ar' C'.rs.length cr') from rfl)
  have k3 := (Lib.cell_of_heap b3 (j := 3)).trans (show _ = some (Value.slice aw' C'.ws.length cw') from rfl)
  have l3 := heap_lt b3
  have ok' : CfOk C' := ⟨hE, hcf3.rs, hcf3.ws⟩
  have HS := hid (spoken_any C' ok' ar' cr' aw' cw' mx l w3 hcf3 (cell_later hB3 hm) (Lib.tabBelow_of_tabIs (HT.out _ hB3)) (by omega))
  have HCF := hid hcf3
  have HB3 := hid hB3
  clear d0 d1 d2 d3 z0 z1 z2 z3 hw3 b3 hcf3 hB3
  generalize hspk : spk C' (l.length + 1) l [] [] = K at *
  go_wp2_with fail
  refine HS.out.mono ?_
  rintro x w4 ⟨⟨vm, rfl, hown⟩, hb4⟩
  obtain ⟨va, vc, rfl⟩ := sl_of hown
  have hA5 := hb4.alloc hb4.size (.cells (spA K.out (.slice va K.ms.length vc) K.rf) 33)
  have b5 := heap_alloc_new w4 (.cells (spA K.out (.slice va K.ms.length vc) K.rf) 33)
  have hB5 := bel_of HB3.out hA5
  have m0 := cell_later hA5 k0
  have m1 := cell_later hA5 k1
  have m2 := cell_later hA5 k2
  have m3 := cell_later hA5 k3
  have l5 : w.heap.size < (w4.alloc (.cells (spA K.out (.slice va K.ms.length vc) K.rf) 33)).heap.size := Nat.lt_of_lt_of_le l3 hA5.size
  have HO := hid (opened_any C' ar' cr' aw' cw' mx _ (HCF.out.below hA5).R (HCF.out.below hA5).W (HCF.out.below hA5).rs (HCF.out.below hA5).ws (cell_later hB5 hm) (Lib.tabBelow_of_tabIs (HT.out _ hB5)) hE)
  have HB5 := hid hB5
  have HOW : Hid (∀ i (hi : i < K.ms.length), ∃ g, va = some ⟨g, 0, none⟩ ∧ g < (w4.alloc (.cells (spA K.out (.slice va K.ms.length vc) K.rf) 33)).heap.size ∧ (w4.alloc (.cells (spA K.out (.slice va K.ms.length vc) K.rf) 33)).cell? ⟨g, i, none⟩ = some (.string K.ms[i])) := fun i hi => by
    obtain ⟨g, e1, e2, e3⟩ := ms_at hown i hi
    have hA45 := (Below.refl w4.heap.size w4).alloc (Nat.le_refl _) (.cells (spA K.out (.slice va K.ms.length vc) K.rf) 33)
    exact ⟨g, e1, Nat.lt_of_lt_of_le e2 hA45.size, cell_later hA45 e3⟩
  clear k0 k1 k2 k3 HS hown hb4 hA5 hB5
  go_upto_region 6 with fail
  generalize w4.alloc (.cells (spA K.out (.slice va K.ms.length vc) K.rf) 33) = w5 at *
  generalize w4.heap.size = sb at *
  go_wp2_with fail
  refine HO.out.mono ?_
  rintro x w6 ⟨pc, c, V, es, v, vh, vw, rfl, hpa, ok, I6, J6, hbV, hge, n1, n2, n3⟩
  have lsb := heap_lt b5
  have bV : V.w1.heap[sb]? = some (.cells (spA K.out (.slice va K.ms.length vc) K.rf) 33 (0, 0)) := by rw [hbV.block _ lsb]; exact b5
  have lsV : sb < V.w1.heap.size := Nat.lt_of_lt_of_le lsb hbV.size
  have hBV := bel_of HB5.out hbV
  have G0 := gn_start hE hpa I6 J6 n1 n2 n3
  have HGV := hid (gn_give ok G0 rfl l (by simp only [List.length_nil]; omega))
  have HOK := hid ok
  have HBV := hid hBV
  have HOV : Hid (∀ i (hi : i < K.ms.length), ∃ g, va = some ⟨g, 0, none⟩ ∧ V.w1.cell? ⟨g, i, none⟩ = some (.string K.ms[i])) := fun i hi => by
    obtain ⟨g, e1, e2, e3⟩ := HOW.out i hi
    exact ⟨g, e1, cell_later hbV e3⟩
  clear HO G0 ok m0 m1 m2 m3 hpa I6 J6 hbV b5 lsb HB3 HB5 hBV HCF
  go_wp2_with fail
  refine HGV.out.mono ?_
  rintro x w7 ⟨rfl, ⟨vo, G⟩, -⟩
  rw [List.nil_append] at G
  obtain ⟨s1, s2⟩ := spk_one G.one
  rw [hspk] at s1 s2
  have hsz := gn_T HOK.out G (by omega)
  have hrb := G.rb
  generalize giveS C' ⟨[], [], 0, false, zeroH C'⟩ l = S at *
  have HR := hid (ln_rest G.ln)
  clear G HGV
  go_wp2_with fail
  refine HR.out.mono ?_
  rintro x w8 ⟨rfl, L8⟩
  have bs : w8.heap[sb]? = some (.cells (spA K.out (.slice va K.ms.length vc) K.rf) 33 (0, 0)) := by rw [L8.bel.block _ lsV]; exact bV
  have u1 := (Lib.cell_of_heap bs (j := 1)).trans (show _ = some (Value.slice va K.ms.length vc) from rfl)
  have u2 := (Lib.cell_of_heap bs (j := 2)).trans (show _ = some (Value.bool K.rf) from rfl)
  have ls8 := heap_lt bs
  have HO8 : Hid (∀ i (hi : i < K.ms.length), ∃ g, va = some ⟨g, 0, none⟩ ∧ w8.cell? ⟨g, i, none⟩ = some (.string K.ms[i])) := fun i hi => by
    obtain ⟨g, e1, e3⟩ := HOV.out i hi
    exact ⟨g, e1, cell_later L8.bel e3⟩
  have HB8 := hid (bel_of HBV.out L8.bel)
  obtain ⟨X, a1, a2, a3⟩ := spk_ans C' (l.length + 1) l [] []
  rw [hspk] at a1 a2 a3
  have HAL := hid (ansL_ok ok' (l.length + 1) l (by omega))
  generalize ansL C' (l.length + 1) l = AL at *
  rw [List.nil_append] at a1 a2 s1
  have hms : K.ms.length = AL.length := by rw [a2, List.length_map]
  have hALz : AL.length ≤ 1048576 := by omega
  have HMS : Hid (∀ i (hi : i < AL.length), ∃ g, va = some ⟨g, 0, none⟩ ∧ w8.cell? ⟨g, i, none⟩ = some (.string ⟨AL[i].1.toArray⟩)) := fun i hi => by
    obtain ⟨g, e1, e2⟩ := HO8.out i (by omega)
    refine ⟨g, e1, ?_⟩
    rw [e2]
    simp [a2]
  rw [hms] at u1
  generalize K.rf = rf at *
  have hob : (ByteArray.mk S.out.toArray).data.toList = AL.flatMap anT ++ X := by rw [← a1, s1]
  have hos : (ByteArray.mk S.out.toArray).size = S.out.length := by show S.out.toArray.size = _; simp
  have hoz : (ByteArray.mk S.out.toArray).size = (AL.flatMap anT).length + X.length := by rw [hos, ← List.length_append, ← a1, s1]
  have hobz : (ByteArray.mk S.out.toArray).size ≤ 140737488355328 := by rw [hos]; omega
  have HOB := hid hob
  have HOZ := hid hoz
  have HA3 := hid a3
  have hoi : (S.out.length : Int) = ((AL.flatMap anT).length : Int) + X.length := by rw [hos] at hoz; omega
  have HOI := hid hoi
  clear hob hoz hoi hos a1 a2 a3 s1 s2 bs bV L8 HR HOV HO8 hms HOW hspk hrb
  generalize hobn : (ByteArray.mk S.out.toArray) = ob at *
  go_wp2_with fail
  go_loop [10, 11] (fun a i => ∃ k : Nat, k ≤ AL.length ∧ i = .int .i64 k ∧ a = .int .i64 (((AL.take k).flatMap anT).length : Nat)) (fun a i => AL.length - (intOf i).toNat)
  case atStart => exact ⟨0, Nat.zero_le _, rfl, by simp⟩
  case round =>
    obtain ⟨k, hk, rfl, rfl⟩ := hrel
    by_cases hlt : k < AL.length
    · obtain ⟨g, hva, hcell⟩ := HMS.out k hlt
      have lgw := block_lt_of_cell hcell
      have hak := HAL.out AL[k] (List.getElem_mem hlt)
      have hsp : ob.data.toList = (AL.take k).flatMap anT ++ (anT AL[k] ++ ((AL.drop (k + 1)).flatMap anT ++ X)) := by
        rw [HOB.out, flatM_take anT AL k hlt]; simp only [List.append_assoc]
      have HAN := hid (fun W => anEnd_any ob AL[k] ((AL.take k).flatMap anT) ((AL.drop (k + 1)).flatMap anT ++ X) W hak.1 hak.2 hsp hobz)
      have hnx := flatM_snoc anT AL k hlt
      generalize (ByteArray.mk AL[k].1.toArray) = mb at *
      generalize (anT AL[k]).length = n1 at *
      generalize ((AL.take k).flatMap anT).length = n0 at *
      have HNX := hid hnx
      have hn1 : ¬ ((n0 : Int) + n1 < 0) := by omega
      have hk2 : k ≤ 1048576 := by omega
      clear hnx hsp hak HA3
      subst hva
      go_wp2_with fail
      all_goals
        refine (HAN.out _).mono ?_
        rintro e w' ⟨rfl, rfl⟩
        go_wp2_with fail
        go_round
        case rel => exact ⟨k + 1, by omega, by go_num, by rw [HNX.out]; simp⟩
        case measure => simp [intOf]; omega
    · have hke : k = AL.length := by omega
      have hkk : (AL.take k).flatMap anT = AL.flatMap anT := by rw [hke, List.take_length]
      rw [hkk]
      have hlt' : ¬ (k : Int) < (AL.length : Int) := by omega
      have hoz := HOZ.out
      have hA3 := HA3.out
      cases rf with
      | false =>
        have hX : X = [] := by
          rcases hA3 with q | q
          · exact q.2
          · exact absurd q.1 (by decide)
        have hend : (((AL.flatMap anT).length : Int) == (ob.size : Int)) = true := by rw [beq_iff_eq, hoz, hX]; simp
        have HEND := hid hend
        clear hoz hA3 hX hkk hke hlt HA3 hend
        generalize (AL.flatMap anT).length = n0 at *
        go_wp2_with fail
        go_ret
        exact ⟨ret_bool HEND.out, HB8.out⟩
      | true =>
        have hX : ∃ e, X = anT ([], noR (refSt e)) := by
          rcases hA3 with q | q
          · exact absurd q.1 (by decide)
          · exact q.2
        obtain ⟨e, hX⟩ := hX
        have hsp : ob.data.toList = AL.flatMap anT ++ (anT ([], noR (refSt e)) ++ []) := by rw [HOB.out, hX, List.append_nil]
        have HAN : Hid (∀ W, Calls Tryz.prog 15 #[.string ob, .int .i64 (AL.flatMap anT).length, .string ⟨#[]⟩] W fun x w' => x = .returned (.int .i64 (((AL.flatMap anT).length + X.length : Nat) : Int)) ∧ w' = W) := fun W => by
          have := anEnd_any ob ([], noR (refSt e)) (AL.flatMap anT) [] W (no_k e) (by simp [noR]) hsp hobz
          rw [← hX] at this
          exact this
        have hend : (((AL.flatMap anT).length : Int) + X.length == (ob.size : Int)) = true := by rw [beq_iff_eq, hoz]; simp
        have HEND := hid hend
        clear hoz hA3 hX hkk hke hlt HA3 hend hsp
        generalize (AL.flatMap anT).length = n0 at *
        go_wp2_with fail
        refine (HAN.out _).mono ?_
        rintro x w' ⟨rfl, rfl⟩
        go_wp2_with fail
        go_ret
        exact ⟨ret_bool HEND.out, HB8.out⟩
end Go.Proofs.YtbphabgjhoifbaaGreatDoor
