/- Single answers true at every argument. -/
import Derived.Test.YthfpiahhbflfpaaDoorJoin42
import Derived.Deep.RegionHeld3
namespace Go.Proofs.YthfpiahhbflfpaaDoor
open Go.RowKit

theorem added_walk (B gt : Nat) (As : List Pat) (es : List Ent) (v vl : Value) (A : Pat) (mx : Int) (w : World) (hI : SgI B gt As es v vl w) (hA : Made A) (hG : 0 < B) (hB : B ≤ gt) (hBw : B ≤ w.heap.size) (hm : w.cell? ⟨0, 0, none⟩ = some (.int .i64 mx)) :
    Calls Tryd.prog 5 #[.pointer (some ⟨gt, 0, none⟩), vl, .string ⟨(flatP A).toArray⟩] w fun e w' => ∃ As' es' v' vl', e = .returned (.tuple #[vl', .bool true]) ∧ SgI B gt As' es' v' vl' w' ∧ Below B w w' := by
  by_cases h24 : 24 ≤ es.length
  · exact added_no B gt As es v vl A mx w hI hA hBw hm 0 10 (.inl ⟨h24, rfl, rfl⟩)
  · cases hh : hitA A As 0 with
    | some j => exact added_no B gt As es v vl A mx w hI hA hBw hm j 9 (.inr ⟨by omega, j, hh, rfl, rfl⟩)
    | none => exact added_yes B gt As es v vl A mx w hI hA hBw hm hG (by omega) hh hB
/- a list of lists of numbers that came in -/
def MtAt (zss : List (List Int)) (a : Option Addr) (w : World) : Prop :=
  ∀ i (h : i < zss.length), ∃ g o b c, a = some ⟨g, o, none⟩ ∧ g < w.heap.size ∧ w.cell? ⟨g, o + i, none⟩ = some (.slice b zss[i].length c) ∧ ZoAt zss[i] b w
theorem MtAt.below {zss : List (List Int)} {a : Option Addr} {w w' : World} (h : MtAt zss a w) (hb : Below w.heap.size w w') : MtAt zss a w' := fun i hi => by
  obtain ⟨g, o, b, c, h1, h2, h3, h4⟩ := h i hi
  exact ⟨g, o, b, c, h1, Nat.lt_of_lt_of_le h2 hb.size, cell_later hb h3, h4.below hb⟩
theorem own_found {As : List Pat} (hm : ∀ A ∈ As, Made A) (hs' : Sep As) (i : Nat) (hi : i < As.length) : ∃ fs, findA (shS As[i] As[i]) As 0 = (i, fs, 0) := by
  have hA := hm As[i] (List.getElem_mem hi)
  obtain ⟨p1, p2, _, _⟩ := shS_path hA hA
  have h1 : (hs As[i] (shS As[i] As[i])).isSome = true := by
    have h := sh_had hA.any hA.any hA.good2 hA.good2
    rw [ovl_self, Bool.and_self] at h
    unfold hs; rw [p2]; exact h
  obtain ⟨fs, hf⟩ := Option.isSome_iff_exists.1 h1
  refine ⟨fs, ?_⟩
  have h2 := (find_one As 0 i hi hf (fun j hj hne => by
    cases hx : hs As[j] (shS As[i] As[i]) with
    | none => rfl
    | some gs =>
      have := one_has (A := As[j]) (B := As[i]) p1 (by rw [hx]; rfl) h1
      rw [hs' j i hj hi hne] at this; cases this)).1
  rw [h2, Nat.zero_add]
set_option maxRecDepth 100000 in
set_option maxHeartbeats 4000000 in
theorem single_law (zss : List (List Int)) (a : Option Addr) (ca : Nat) (zs : List Int) (b : Option Addr) (cb : Nat) (mx : Int) (w : World) (hmt : MtAt zss a w) (hzo : ZoAt zs b w) (hl : zss.length ≤ 140737488355328) (hlz : zs.length ≤ maxLen) (hli : ∀ l ∈ zss, l.length ≤ maxLen ∧ Zbd l) (hzb : Zbd zs) (hm : w.cell? ⟨0, 0, none⟩ = some (.int .i64 mx)) :
    Calls Tryd.prog 3 #[.slice a zss.length ca, .slice b zs.length cb] w fun e w' => e = .returned (.bool true) ∧ Below w.heap.size w w' := by
  have hG : 0 < w.heap.size := block_lt_of_cell hm
  have HM := hid hmt
  have HZ := hid (fun W (hW : Below w.heap.size w W) => pathOf_walk zs b cb W (hzo.below hW) hlz hzb)
  have HLI := hid hli
  have HN := hid (newTable_any w)
  have HCE := hid (fun W (hW : Below w.heap.size w W) => cell_later hW hm)
  clear hmt hzo hli hzb hm hlz
  go_enter Tryd.func3, Tryd.ntmps3
  go_wp2_with fail
  refine HN.out.mono ?_
  rintro e w1 ⟨rfl, htb, hb1, hz1⟩
  have HI0 : Hid (SgI w.heap.size w.heap.size [] [] (.slice none 0 0) (.slice none 0 0) w1) := ⟨htb, World.ownsRow_nil _ _ _ _, rfl, fun A h => by (cases h), fun i j hi => absurd hi (by simp), (fun h => by cases h), (fun r h => by cases h), (fun r h => by cases h)⟩
  clear HN htb
  go_wp2_with fail
  go_loopw [6, 7, 8, 9, 10] (fun l i _ _ _ wr => ∃ (k : Nat) (As : List Pat) (es : List Ent) (v : Value), k ≤ max zss.length 1 ∧ i = .int .i64 k ∧ Hid (SgI w.heap.size w.heap.size As es v l wr) ∧ Below w.heap.size w wr) (fun _ i _ _ _ _ => max zss.length 1 - (intOf i).toNat)
  case atStart => exact ⟨0, [], [], .slice none 0 0, Nat.zero_le _, rfl, HI0, hb1⟩
  case round =>
    obtain ⟨k, As, es, v, hk, rfl, HI, hbw⟩ := hrel
    have hbz := hbw.size
    by_cases hlt : k < max zss.length 1
    · by_cases hk2 : k < zss.length
      · obtain ⟨g, o, bi, ci, rfl, hg, hc, hzi⟩ := (HM.out.below hbw) k hk2
        obtain ⟨q1, q2⟩ := HLI.out zss[k] (List.getElem_mem hk2)
        have HP := hid (patternOf_walk zss[k] bi ci wr hzi q1 q2)
        have hMd := patP_made zss[k]
        have HAD := hid (fun W (hW : SgI w.heap.size w.heap.size As es v u6 W) (hb : Below w.heap.size w W) => added_walk w.heap.size w.heap.size As es v u6 (patP zss[k]) mx W hW hMd hG (Nat.le_refl _) hb.size (HCE.out W hb))
        generalize zss[k] = zk at *
        clear hzi q2 hMd
        generalize (⟨(flatP (patP zk)).toArray⟩ : ByteArray) = SP at *
        go_wp2_with fail
        refine HP.out.mono ?_
        rintro e w2 ⟨rfl, hb2⟩
        have hB2 := bel_of hbw hb2
        have HAD2 := hid (HAD.out w2 (HI.out.below hb2) hB2)
        clear HP HAD
        go_wp2_with fail
        refine HAD2.out.mono ?_
        rintro e w3 ⟨As', es', v', vl', rfl, hS, hb3⟩
        have hB3 := hB2.trans hb3
        have HS := hid hS
        clear HAD2 hS hb3 HI
        go_wp2
        exact ⟨⟨k + 1, As', es', v', by omega, by go_num, HS, hB3⟩, by simp [intOf]; omega⟩
      · have hk1 : (k : Int) < 1 := by omega
        have hk2i : ¬ (k : Int) < (zss.length : Int) := by omega
        have hk3 : k + 1 ≤ max zss.length 1 := by omega
        have HP := hid (patternOf_walk [] none 0 wr (fun i hi => absurd hi (by simp)) (by unfold maxLen; simp) (fun i hi => absurd hi (by simp)))
        have hMd := patP_made []
        have HAD := hid (fun W (hW : SgI w.heap.size w.heap.size As es v u6 W) (hb : Below w.heap.size w W) => added_walk w.heap.size w.heap.size As es v u6 (patP []) mx W hW hMd hG (Nat.le_refl _) hb.size (HCE.out W hb))
        have HP' : Hid (Calls Tryd.prog 6 #[.slice none 0 0] wr fun e w' => e = .returned (.string ⟨(flatP (patP [])).toArray⟩) ∧ Below wr.heap.size wr w') := HP
        clear hMd HP
        generalize (⟨(flatP (patP [])).toArray⟩ : ByteArray) = SP at *
        go_wp2_with fail
        refine HP'.out.mono ?_
        rintro e w2 ⟨rfl, hb2⟩
        have hB2 := bel_of hbw hb2
        have HAD2 := hid (HAD.out w2 (HI.out.below hb2) hB2)
        clear HP' HAD
        go_wp2_with fail
        refine HAD2.out.mono ?_
        rintro e w3 ⟨As', es', v', vl', rfl, hS, hb3⟩
        have hB3 := hB2.trans hb3
        have HS := hid hS
        clear HAD2 hS hb3 HI
        clear hlt hk hk2
        go_wp2
        exact ⟨⟨k + 1, As', es', v', hk3, by go_num, HS, hB3⟩, by simp [intOf]; omega⟩
    · have hn1 : ¬ (k : Int) < (zss.length : Int) := by omega
      have hn2 : ¬ (k : Int) < 1 := by omega
      have HW := hid hbw
      have hI := HI.out
      have hfew := hI.few
      obtain ⟨al, cl, rfl, hst⟩ := StAt.of_owns hI.lr
      have hll : (bas (As.map flatP)).length = As.length := by rw [bas_len, List.length_map]
      rw [hll] at HI ⊢
      have HST := hid hst
      clear hst hI HM HLI HI0
      obtain ⟨wz, hwz⟩ : ∃ wz, wz = wr := ⟨_, rfl⟩
      subst hwz
      go_wp2_with fail
      go_loopw [11, 12, 13, 14, 15, 16] (fun i _ _ _ _ _ wq => ∃ q : Nat, q ≤ As.length ∧ i = .int .i64 q ∧ Below w.heap.size w wq ∧ Below wz.heap.size wz wq) (fun i _ _ _ _ _ _ => As.length - (intOf i).toNat)
      case atStart => exact ⟨0, Nat.zero_le _, rfl, HW.out, Below.refl _ _⟩
      case round =>
        obtain ⟨q, hq, rfl, hbq, hbq2⟩ := hrel
        by_cases hql : q < As.length
        · obtain ⟨g, rfl, hg, hc⟩ := (HST.out.below hbq2) q (by rw [hll]; exact hql)
          rw [las_get As q hql] at hc
          have hA := HI.out.mad As[q] (List.getElem_mem hql)
          obtain ⟨p1, _, p3, p4⟩ := shS_path hA hA
          obtain ⟨fs, hfd⟩ := own_found HI.out.mad HI.out.sep q hql
          have zA := hA.flatl
          have fA := hA.few
          have HSH : Hid (∀ W, Calls Tryd.prog 7 #[.string ⟨(flatP As[q]).toArray⟩, .string ⟨(flatP As[q]).toArray⟩] W fun e w' => e = .returned (.string ⟨(shS As[q] As[q]).toArray⟩) ∧ Below W.heap.size W w') := fun W => shared_walk As[q] As[q] W hA.any hA.any hA.cln hA.cln hA.len hA.len (by omega) (by omega) (by omega) (by omega)
          have HFI : Hid (∀ W, Below wz.heap.size wz W → Calls Tryd.prog 8 #[.pointer (some ⟨w.heap.size, 0, none⟩), .string ⟨#[71, 69, 84]⟩, .string ⟨(shS As[q] As[q]).toArray⟩] W fun r w' => (∃ vv, r = .returned (.tuple #[.int .i64 q, vv, .int .i64 0])) ∧ Below W.heap.size W w') := fun W hW => by
            have h := pFind_any w.heap.size w.heap.size es v getB ⟨(shS As[q] As[q]).toArray⟩ W (HI.out.tb.below hW) p1 (by rw [bsz]; omega) (by rw [bsz]; omega)
            rw [show (⟨(shS As[q] As[q]).toArray⟩ : ByteArray).data.toList = shS As[q] As[q] from rfl, findG_A _ p1 As es 0 HI.out.mad HI.out.eqs, hfd] at h
            exact h.mono fun e w' ⟨⟨vv, h1, _⟩, h2⟩ => ⟨⟨vv, h1⟩, h2⟩
          have HFS := hid (fun W (hW : Below wz.heap.size wz W) (hW2 : Below w.heap.size w W) => finds_walk w.heap.size w.heap.size As es v _ ⟨(shS As[q] As[q]).toArray⟩ mx W (HI.out.below hW) p1 (by rw [bsz]; omega) (by rw [bsz]; omega) (HCE.out W hW2))
          clear hfd p1 p3 p4 zA fA hA
          generalize (⟨(flatP As[q]).toArray⟩ : ByteArray) = SQ at *
          generalize (⟨(shS As[q] As[q]).toArray⟩ : ByteArray) = SO at *
          have HQ1 := hid hbq
          have HQ2 := hid hbq2
          clear hbq hbq2
          go_wp2_with fail
          go_region_held3 (fun W => W.cell? ⟨g, q, none⟩ = some (.string SQ)) (go_keep)
            (first
              | (go_at_call 7; refine (HSH.out _).mono ?_; rintro e w2 ⟨rfl, hb2⟩; have hc2 := cell_later hb2 (show (World.drew _).cell? ⟨g, q, none⟩ = some (.string SQ) from hc)))
          have hB2 := bel_of HQ1.out.drew hb2
          have hB2b := bel_of HQ2.out.drew hb2
          clear HSH hc hc2 hb2
          go_wp2_with fail
          refine (HFI.out _ hB2b).mono ?_
          rintro e w3 ⟨⟨vv, rfl⟩, hb3⟩
          have hB3 := bel_of hB2 hb3
          have hB3b := bel_of hB2b hb3
          clear HFI hb3
          go_wp2_with fail
          refine (HFS.out _ hB3b hB3).mono ?_
          rintro e w4 ⟨rfl, hb4⟩
          have hB4 := bel_of hB3 hb4
          have hB4b := bel_of hB3b hb4
          clear HFS hb4
          go_wp2
          exact ⟨⟨q + 1, by omega, by go_num, hB4, hB4b⟩, by simp [intOf]; omega⟩
        · have HP := hid (HZ.out _ hbq)
          have hpo := path_ok zs
          have hpz : (pathL zs).length ≤ 80 := by
            unfold pathL; split
            · simp
            · have := ptCs_size zs (min zs.length 10); omega
          have hp1 : 1 ≤ (pathL zs).length := by
            unfold pathL; split
            · simp
            · rename_i hne
              have hl0 : 0 < zs.length := List.length_pos_iff.mpr hne
              have := flat_ne (cs := ptCs zs (min zs.length 10)) (fun e => by have := congrArg List.length e; unfold ptCs at this; rw [List.length_map, List.length_range, List.length_nil] at this; omega)
              cases hf : flatP (ptCs zs (min zs.length 10)) with
              | nil => rw [hf] at this; cases this
              | cons => simp
          have HFS := hid (fun W (hW : Below wz.heap.size wz W) (hW2 : Below w.heap.size w W) => finds_walk w.heap.size w.heap.size As es v _ ⟨(pathL zs).toArray⟩ mx W (HI.out.below hW) hpo (by rw [bsz]; omega) (by rw [bsz]; omega) (HCE.out W hW2))
          clear HZ hpo hpz hp1
          generalize (⟨(pathL zs).toArray⟩ : ByteArray) = SO at *
          go_wp2_with fail
          refine HP.out.mono ?_
          rintro e w2 ⟨rfl, hb2⟩
          have hB2 := bel_of hbq hb2
          have hB2b := bel_of hbq2 hb2
          clear HP
          go_wp2_with fail
          refine (HFS.out _ hB2b hB2).mono ?_
          rintro e w3 ⟨rfl, hb3⟩
          have hB3 := bel_of hB2 hb3
          clear HFS
          go_wp2
          go_ret
          exact ⟨rfl, hB3⟩
end Go.Proofs.YthfpiahhbflfpaaDoor
