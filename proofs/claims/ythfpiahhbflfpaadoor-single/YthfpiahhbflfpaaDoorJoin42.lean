/- Texts that follow one another, joined. -/
import Derived.Test.YthfpiahhbflfpaaDoorJoin41
/- What Single holds between its calls, and the walk of finds. -/
namespace Go.Proofs.YthfpiahhbflfpaaDoor
open Go.RowKit

structure SgI (B gt : Nat) (As : List Pat) (es : List Ent) (v vl : Value) (W : World) : Prop where
  tb : TbAt gt 0 B es v W
  lr : W.ownsRow B 9 1 vl As.length ((bas (As.map flatP)).map Value.string)
  eqs : es.map keyE = As.map keyA
  mad : ∀ A ∈ As, Made A
  sep : Sep As
  ln1 : vl.ownBlock ≠ some gt
  ln2 : ∀ r, vl.ownBlock = some r → v.ownBlock ≠ some r
  ln3 : ∀ r, vl.ownBlock = some r → ∀ i (h : i < es.length), es[i].a ≠ some ⟨r, 0, none⟩
theorem SgI.below {B gt : Nat} {As : List Pat} {es : List Ent} {v vl : Value} {w w' : World} (h : SgI B gt As es v vl w) (hb : Below w.heap.size w w') : SgI B gt As es v vl w' :=
  ⟨h.tb.below hb, owns_below h.lr hb, h.eqs, h.mad, h.sep, h.ln1, h.ln2, h.ln3⟩
theorem SgI.len {B gt : Nat} {As : List Pat} {es : List Ent} {v vl : Value} {w : World} (h : SgI B gt As es v vl w) : es.length = As.length := by
  have := congrArg List.length h.eqs
  simpa using this
theorem SgI.few {B gt : Nat} {As : List Pat} {es : List Ent} {v vl : Value} {w : World} (h : SgI B gt As es v vl w) : As.length ≤ 24 := by rw [← h.len]; exact h.tb.few
theorem las_get (As : List Pat) (i : Nat) (h : i < As.length) : (bas (As.map flatP))[i]'(by rw [bas_len, List.length_map]; exact h) = ⟨(flatP As[i]).toArray⟩ := by simp [bas]
theorem hasL_len : ∀ (A cs : List (List UInt8)) (fs : List Prm), hasL A cs = some fs → fs.length ≤ A.length
  | [], [], fs, h => by simp only [hasL, Option.some.injEq] at h; subst h; simp
  | [], _ :: _, fs, h => by simp [hasL] at h
  | _ :: _, [], fs, h => by simp [hasL] at h
  | t :: r, x :: xs, fs, h => by
    rw [hasL] at h
    by_cases h2 : Pm.pieceK t = 2
    · rw [if_pos h2] at h
      simp only [Option.some.injEq] at h; subst h; simp
    · rw [if_neg h2] at h
      cases hm : hasL r xs with
      | none => rw [hm] at h; cases h
      | some more =>
        have ih := hasL_len r xs more hm
        rw [hm] at h
        simp only at h
        by_cases h0 : Pm.pieceK t = 0
        · rw [if_pos h0] at h
          split at h
          · simp only [Option.some.injEq] at h; subst h; simp; omega
          · cases h
        · rw [if_neg h0] at h
          split at h
          · cases h
          · simp only [Option.some.injEq] at h; subst h; simp; omega
theorem hs_len {A : Pat} (hA : Made A) {l : List UInt8} {fs : List Prm} (h : hs A l = some fs) : fs.length ≤ 8 := by
  have h1 := hasL_len A _ fs h
  have h2 := hA.few
  omega
theorem hsR_none {A : Pat} {l : List UInt8} (h : hs A l = none) : hsR A l = (11, []) := by unfold hsR; rw [h]
theorem hsR_some {A : Pat} {l : List UInt8} {fs : List Prm} (h : hs A l = some fs) : hsR A l = (0, fs) := by unfold hsR; rw [h]
set_option maxRecDepth 100000 in
set_option maxHeartbeats 4000000 in
theorem finds_walk (B gt : Nat) (As : List Pat) (es : List Ent) (v vl : Value) (s : ByteArray) (mx : Int) (w : World) (hI : SgI B gt As es v vl w) (hp : Pm.isPath s.data.toList = true) (h1s : 1 ≤ s.size) (hs' : s.size ≤ 100000) (hm : w.cell? ⟨0, 0, none⟩ = some (.int .i64 mx)) :
    Calls Tryd.prog 9 #[.pointer (some ⟨gt, 0, none⟩), vl, .string s] w fun e w' => e = .returned (.bool true) ∧ Below w.heap.size w w' := by
  have hfew := hI.few
  obtain ⟨al, cl, rfl, hst⟩ := StAt.of_owns hI.lr
  have hll : (bas (As.map flatP)).length = As.length := by rw [bas_len, List.length_map]
  rw [hll]
  have HST := hid hst
  have HF : Hid (∀ W, Below w.heap.size w W → Calls Tryd.prog 8 #[.pointer (some ⟨gt, 0, none⟩), .string ⟨#[71, 69, 84]⟩, .string s] W fun r w' => (∃ vv, r = .returned (.tuple #[.int .i64 (findA s.data.toList As 0).1, vv, .int .i64 (findA s.data.toList As 0).2.2]) ∧ w'.ownsRow W.heap.size 64 2 vv (findA s.data.toList As 0).2.1.length (prCells (findA s.data.toList As 0).2.1)) ∧ Below W.heap.size W w') := fun W hW => by
    have h := pFind_any gt B es v getB s W (hI.tb.below hW) hp h1s (by omega)
    rw [findG_A s.data.toList hp As es 0 hI.mad hI.eqs] at h
    exact h
  have hmg := methG_A s.data.toList hp As es hI.mad hI.eqs
  have HMT : Hid (((As.filter fun A => (hs A s.data.toList).isSome).map fun _ => getB).length ≤ 1 → ∀ W, Below w.heap.size w W → Calls Tryd.prog 20 #[.pointer (some ⟨gt, 0, none⟩), .string s] W fun r w' => (∃ vv, r = .returned vv ∧ w'.ownsRow W.heap.size 9 1 vv ((As.filter fun A => (hs A s.data.toList).isSome).map fun _ => getB).length (((As.filter fun A => (hs A s.data.toList).isSome).map fun _ => getB).map Value.string)) ∧ Below W.heap.size W w') := fun hone W hW => by
    have h := pMethods_any gt B es v s W (hI.tb.below hW) hp h1s (by omega) (by rw [hmg]; exact hone)
    rw [hmg] at h
    exact h
  have HMA : Hid (∀ i (h : i < As.length) W, Below w.heap.size w W → Calls Tryd.prog 21 #[.string ⟨(flatP As[i]).toArray⟩, .string s] W fun r w' => MsPost (hsR As[i] s.data.toList) W.heap.size r w' ∧ Below W.heap.size W w') := fun i h W hW => by
    have hz := (hI.mad As[i] (List.getElem_mem h)).flatl
    have hh := pMatch_any ⟨(flatP As[i]).toArray⟩ s mx W (by rw [bsz]; omega) (by omega) (cell_later hW hm)
    rw [show (⟨(flatP As[i]).toArray⟩ : ByteArray).data.toList = flatP As[i] from rfl, matchS_made (hI.mad As[i] (List.getElem_mem h)) hp] at hh
    exact hh
  have hone := one_or_none hp hI.sep
  have HMD := hid hI.mad
  clear hI hst hmg hm
  rcases hone with hnone | ⟨j, hj, fs, hjf, hoth⟩
  · obtain ⟨f1, f2⟩ := find_none As 0 hnone
    rw [f2] at HMT
    rw [f1] at HF
    have HM2 := hid (HMT.out (by simp))
    have HN := hid hnone
    clear hnone f1 f2 HMT
    go_enter Tryd.func9, Tryd.ntmps9
    go_wp2_with fail
    refine (HF.out _ (Below.refl _ _)).mono ?_
    rintro e w1 ⟨⟨vv, rfl, ow⟩, hb1⟩
    obtain ⟨a1, c1, rfl⟩ := own_slice ow
    clear ow HF
    go_wp2_with fail
    refine (HM2.out _ hb1).mono ?_
    rintro e w2 ⟨⟨v2, rfl, ow⟩, hb2⟩
    obtain ⟨a2, c2, rfl⟩ := own_slice ow
    have hB2 := bel_of hb1 hb2
    clear ow HM2 hb1 hb2
    go_wp2
    go_loopw [11, 12] (fun sn i wr => ∃ k : Nat, k ≤ As.length ∧ sn = .int .i64 (-1) ∧ i = .int .i64 k ∧ Below w.heap.size w wr) (fun _ i _ => As.length - (intOf i).toNat)
    case atStart => exact ⟨0, Nat.zero_le _, rfl, rfl, hB2⟩
    case round =>
      obtain ⟨k, hk, rfl, rfl, hbw⟩ := hrel
      by_cases hlt : k < As.length
      · obtain ⟨g, rfl, hg, hc⟩ := (HST.out.below hbw) k (by rw [hll]; exact hlt)
        rw [las_get As k hlt] at hc
        have HMk := hid (HMA.out k hlt)
        rw [hsR_none (HN.out k hlt)] at HMk
        generalize (⟨(flatP As[k]).toArray⟩ : ByteArray) = SK at *
        go_wp2_with fail
        refine (HMk.out _ hbw).mono ?_
        rintro e w3 ⟨⟨v3, rfl, ow⟩, hb3⟩
        have hB3 := bel_of hbw hb3
        clear ow HMk
        go_wp2
        exact ⟨⟨k + 1, by omega, rfl, by go_num, hB3⟩, by simp [intOf]; omega⟩
      · have BL := hid hbw
        go_wp2
        go_ret
        exact ⟨rfl, BL.out⟩
  · obtain ⟨f1, f2⟩ := find_one As 0 j hj hjf hoth
    rw [f2] at HMT
    rw [f1, Nat.zero_add] at HF
    have hfl := hs_len (HMD.out As[j] (List.getElem_mem hj)) hjf
    have HM2 := hid (HMT.out (by simp))
    have HN := hid hoth
    have HJ := hid hjf
    clear hoth hjf f1 f2 HMT
    go_enter Tryd.func9, Tryd.ntmps9
    go_wp2_with fail
    refine (HF.out _ (Below.refl _ _)).mono ?_
    rintro e w1 ⟨⟨vv, rfl, ow⟩, hb1⟩
    obtain ⟨a1, c1, rfl, pr1⟩ := pr_of_owns ow
    clear ow HF
    go_wp2_with fail
    refine (HM2.out _ hb1).mono ?_
    rintro e w2 ⟨⟨v2, rfl, ow⟩, hb2⟩
    obtain ⟨a2, c2, rfl, st2⟩ := StAt.of_owns ow
    have hB2 := bel_of hb1 hb2
    have PR := hid (pr1.below hb2)
    have S2 := hid st2
    clear ow HM2 hb1 hb2 pr1 st2
    go_wp2
    go_loopw [11, 12] (fun sn i wr => ∃ k : Nat, k ≤ As.length ∧ ((k ≤ j ∧ sn = .int .i64 (-1)) ∨ (j < k ∧ sn = .int .i64 j)) ∧ i = .int .i64 k ∧ Below w.heap.size w wr ∧ Below w2.heap.size w2 wr) (fun _ i _ => As.length - (intOf i).toNat)
    case atStart => exact ⟨0, Nat.zero_le _, .inl ⟨Nat.zero_le _, rfl⟩, rfl, hB2, Below.refl _ _⟩
    case round =>
      obtain ⟨k, hk, hsn, rfl, hbw, hbw2⟩ := hrel
      by_cases hlt : k < As.length
      · obtain ⟨g, rfl, hg, hc⟩ := (HST.out.below hbw) k (by rw [hll]; exact hlt)
        rw [las_get As k hlt] at hc
        have HMk := hid (HMA.out k hlt)
        by_cases hkj : k = j
        · subst hkj
          rw [hsR_some HJ.out] at HMk
          rcases hsn with ⟨_, rfl⟩ | ⟨h, _⟩
          · generalize (⟨(flatP As[k]).toArray⟩ : ByteArray) = SK at *
            go_wp2_with fail
            refine (HMk.out _ hbw).mono ?_
            rintro e w3 ⟨⟨v3, rfl, ow⟩, hb3⟩
            obtain ⟨a3, c3, rfl, pr3⟩ := pr_of_owns ow
            have hB3 := bel_of hbw hb3
            have hB3b := bel_of hbw2 hb3
            have HSP := hid (sameParams_walk fs a3 a1 c3 c1 w3 pr3 (PR.out.below hB3b) (by omega))
            clear ow HMk pr3
            simp only
            go_wp2_with fail
            refine HSP.out.mono ?_
            rintro e w4 ⟨rfl, hb4⟩
            have hB4 := bel_of hB3 hb4
            have hB4b := bel_of hB3b hb4
            clear HSP
            go_wp2
            exact ⟨⟨k + 1, by omega, .inr ⟨by omega, rfl⟩, by go_num, hB4, hB4b⟩, by simp [intOf]; omega⟩
          · omega
        · rw [hsR_none (HN.out k hlt hkj)] at HMk
          generalize (⟨(flatP As[k]).toArray⟩ : ByteArray) = SK at *
          rcases hsn with ⟨h, rfl⟩ | ⟨h, rfl⟩
          all_goals
            go_wp2_with fail
            refine (HMk.out _ hbw).mono ?_
            rintro e w3 ⟨⟨v3, rfl, ow⟩, hb3⟩
            have hB3 := bel_of hbw hb3
            have hB3b := bel_of hbw2 hb3
            clear ow HMk
            go_wp2
            first
              | exact ⟨⟨k + 1, by omega, .inl ⟨by omega, rfl⟩, by go_num, hB3, hB3b⟩, by simp [intOf]; omega⟩
              | exact ⟨⟨k + 1, by omega, .inr ⟨by omega, rfl⟩, by go_num, hB3, hB3b⟩, by simp [intOf]; omega⟩
      · rcases hsn with ⟨h, rfl⟩ | ⟨h, rfl⟩
        · omega
        · obtain ⟨g, rfl, hg, hc⟩ := (S2.out.below hbw2) 0 (by simp)
          have hc' : wr.cell? ⟨g, 0, none⟩ = some (.string ⟨#[71, 69, 84]⟩) := hc
          have BL := hid hbw
          clear hc hbw
          go_wp2
          go_ret
          exact ⟨rfl, BL.out⟩
end Go.Proofs.YthfpiahhbflfpaaDoor

/- The walk of porterkeep's added: what Single holds, it holds again. -/
namespace Go.Proofs.YthfpiahhbflfpaaDoor
open Go.RowKit

theorem TbAt.grown {gt o B : Nat} {es : List Ent} {v : Value} {w w' : World} {row : Option Nat} (h : TbAt gt o B es v w) (hg : w.grownBy w' row) (h1 : row ≠ some gt) (h2 : ∀ r, row = some r → v.ownBlock ≠ some r) (h3 : ∀ r, row = some r → ∀ i (hi : i < es.length), es[i].a ≠ some ⟨r, 0, none⟩) : TbAt gt o B es v w' := by
  refine ⟨cell_grown hg h.cel h1, ?_, ?_, fun i hi => ?_, h.far, fun i hi g hga => Nat.lt_of_lt_of_le (h.blk i hi g hga) hg.size, h.own, h.few, h.szs⟩
  · rw [World.frozen?_of_block (w := w) (hg.block gt h.lt (fun e => h1 e.symm))]; exact h.fre
  · have hr := h.row
    obtain ⟨q1, q2⟩ := hr
    refine ⟨q1, ?_⟩
    rcases q2 with q2 | ⟨r, cap, cur, hv, hB, hgr, q3⟩
    · exact .inl q2
    · refine .inr ⟨r, cap, cur, hv, hB, ?_, q3⟩
      have hlt : r < w.heap.size := (Array.getElem?_eq_some_iff.1 hgr).1
      rw [hg.block r hlt (fun e => h2 r e.symm (by rw [hv]; rfl))]; exact hgr
  · exact (h.pat i hi).keep hg.size (fun g hga j => World.cell?_of_block (hg.block g (h.blk i hi g hga) (fun e => h3 g e.symm i hi hga)))
theorem owns_kept {w w' : World} {B : Nat} {e : TypeId} {sz : Nat} {v : Value} {n : Nat} {xs : List Value} (h : w.ownsRow B e sz v n xs) (hk : ∀ r, v.ownBlock = some r → w'.heap[r]? = w.heap[r]?) : w'.ownsRow B e sz v n xs := by
  obtain ⟨q1, q2⟩ := h
  refine ⟨q1, ?_⟩
  rcases q2 with q2 | ⟨r, cap, cur, hv, hB, hgr, q3⟩
  · exact .inl q2
  · exact .inr ⟨r, cap, cur, hv, hB, by rw [hk r (by rw [hv]; rfl)]; exact hgr, q3⟩
theorem las_snoc (As : List Pat) (A : Pat) : (bas ((As ++ [A]).map flatP)).map Value.string = (bas (As.map flatP)).map Value.string ++ [.string ⟨(flatP A).toArray⟩] := by
  unfold bas; simp
theorem made_pc {A : Pat} (hA : Made A) : (A.map pcB).length ≤ 1000000 := by rw [List.length_map]; have := hA.few; omega
set_option maxRecDepth 100000 in
set_option maxHeartbeats 4000000 in
theorem added_no (B gt : Nat) (As : List Pat) (es : List Ent) (v vl : Value) (A : Pat) (mx : Int) (w : World) (hI : SgI B gt As es v vl w) (hA : Made A) (hBw : B ≤ w.heap.size) (hm : w.cell? ⟨0, 0, none⟩ = some (.int .i64 mx)) (nn ee : Int) (hres : (24 ≤ es.length ∧ nn = 0 ∧ ee = 10) ∨ (es.length < 24 ∧ ∃ j : Nat, hitA A As 0 = some j ∧ nn = j ∧ ee = 9)) :
    Calls Tryd.prog 5 #[.pointer (some ⟨gt, 0, none⟩), vl, .string ⟨(flatP A).toArray⟩] w fun e w' => ∃ As' es' v' vl', e = .returned (.tuple #[vl', .bool true]) ∧ SgI B gt As' es' v' vl' w' ∧ Below B w w' := by
  have hfew := hI.few
  have hlen := hI.len
  have hzA := hA.flatl
  obtain ⟨al, cl, rfl, hst⟩ := StAt.of_owns hI.lr
  have hll : (bas (As.map flatP)).length = As.length := by rw [bas_len, List.length_map]
  rw [hll] at hI ⊢
  have HBO : Hid (∀ i (h : i < As.length) W, W.cell? ⟨0, 0, none⟩ = some (.int .i64 mx) → Calls Tryd.prog 12 #[.string ⟨(flatP As[i]).toArray⟩, .string ⟨(flatP A).toArray⟩] W fun e w' => e = .returned (.bool true) ∧ Below W.heap.size W w') := fun i h W hW => both_walk As[i] A mx W (hI.mad As[i] (List.getElem_mem h)) hA hW
  have HOV : Hid (∀ i (h : i < As.length) W, W.cell? ⟨0, 0, none⟩ = some (.int .i64 mx) → Calls Tryd.prog 13 #[.string ⟨(flatP As[i]).toArray⟩, .string ⟨(flatP A).toArray⟩] W fun r w' => r = .returned (.tuple #[.bool (ovl (As[i].map pcB) (A.map pcB)), .int .i64 0]) ∧ Below W.heap.size W w') := fun i h W hW => by
    have hz := (hI.mad As[i] (List.getElem_mem h)).flatl
    have hh := pOverlap_any ⟨(flatP As[i]).toArray⟩ ⟨(flatP A).toArray⟩ mx W (by rw [bsz]; omega) (by rw [bsz]; omega) hW
    rw [show (⟨(flatP As[i]).toArray⟩ : ByteArray).data.toList = flatP As[i] from rfl, show (⟨(flatP A).toArray⟩ : ByteArray).data.toList = flatP A from rfl, overlap_made (hI.mad As[i] (List.getElem_mem h)) hA] at hh
    exact hh
  have HAD := hid (pAdd_no gt B es v getB ⟨(flatP A).toArray⟩ (A.map pcB) mx w hI.tb getB_ok (by decide) hA.good (by rw [bsz]; omega) hm nn ee (by rw [hitG_A A As es 0 hI.eqs]; exact hres))
  have HAD' : Hid (Calls Tryd.prog 11 #[.pointer (some ⟨gt, 0, none⟩), .string ⟨#[71, 69, 84]⟩, .string ⟨(flatP A).toArray⟩] w fun r w' => r = .returned (.tuple #[.int .i64 nn, .int .i64 ee]) ∧ Below w.heap.size w w') := HAD
  have HI := hid hI
  obtain ⟨T, hT0⟩ : ∃ T, tkF A As 0 (-1) = T := ⟨_, rfl⟩
  have HTK := hid hT0
  have HTH := hid (hT0.symm.trans (tkF_hit A As 0))
  clear hI HAD hT0
  go_enter Tryd.func5, Tryd.ntmps5
  go_wp2_with fail
  refine HAD'.out.mono ?_
  rintro e w1 ⟨rfl, hb1⟩
  have HST := hid (hst.below hb1)
  have hm1 := cell_later hb1 hm
  have HI1 := hid (HI.out.below hb1)
  have HB1 := hid (hb1.mono hBw)
  clear HAD' hst hm
  go_wp2
  go_loopw [10, 11] (fun tk i wr => ∃ (k : Nat) (t : Int), k ≤ As.length ∧ tk = .int .i64 t ∧ i = .int .i64 k ∧ -1 ≤ t ∧ t < 100 ∧ Hid (tkF A (As.drop k) k t = T) ∧ Below w1.heap.size w1 wr) (fun _ i _ => As.length - (intOf i).toNat)
  case atStart => exact ⟨0, -1, Nat.zero_le _, rfl, rfl, by omega, by omega, HTK, Below.refl _ _⟩
  case round =>
    obtain ⟨k, t, hk, rfl, rfl, ht1, ht2, HK, hbw⟩ := hrel
    by_cases hlt : k < As.length
    · obtain ⟨g, rfl, hg, hc⟩ := (HST.out.below hbw) k (by rw [hll]; exact hlt)
      rw [las_get As k hlt] at hc
      have HB1 := hid (HBO.out k hlt)
      have HO1 := hid (HOV.out k hlt)
      rw [← List.getElem_cons_drop hlt, tkF] at HK
      generalize (⟨(flatP As[k]).toArray⟩ : ByteArray) = SK at *
      generalize ovl (As[k].map pcB) (A.map pcB) = O at *
      have hmw := cell_later hbw hm1
      go_wp2_with fail
      refine (HB1.out _ hmw).mono ?_
      rintro e w3 ⟨rfl, hb3⟩
      have hB3 := bel_of hbw hb3
      have hc3 := cell_later hb3 hc
      have hg3 : g < w3.heap.size := Nat.lt_of_lt_of_le hg hb3.size
      have hmw3 := cell_later hb3 hmw
      clear HB1 hc hg
      go_wp2_with fail
      refine (HO1.out _ hmw3).mono ?_
      rintro e w4 ⟨rfl, hb4⟩
      have hB4 := bel_of hB3 hb4
      clear HO1 hb3 hb4
      by_cases ht0 : t < 0
      · cases O
        · rw [if_neg (by simp)] at HK
          go_wp2
          exact ⟨⟨k + 1, t, by omega, rfl, by go_num, ht1, ht2, HK, hB4⟩, by simp [intOf]; omega⟩
        · rw [if_pos ⟨rfl, ht0⟩] at HK
          go_wp2
          exact ⟨⟨k + 1, k, by omega, rfl, by go_num, by omega, by omega, HK, hB4⟩, by simp [intOf]; omega⟩
      · rw [if_neg (fun h => ht0 h.2)] at HK
        cases O
        all_goals
          go_wp2
          exact ⟨⟨k + 1, t, by omega, rfl, by go_num, ht1, ht2, HK, hB4⟩, by simp [intOf]; omega⟩
    · have hT : t = T := by
        have := HK.out
        rw [show k = As.length from by omega, List.drop_length, tkF] at this; exact this
      clear HK HBO HOV
      have HF : Hid (SgI B gt As es v (.slice al As.length cl) wr ∧ Below B w wr) := ⟨HI1.out.below hbw, HB1.out.trans (hbw.mono (Nat.le_trans hBw hb1.size))⟩
      subst hT
      rcases hres with ⟨h24, rfl, rfl⟩ | ⟨h24, j, hj, rfl, rfl⟩
      · have hge : (24 : Int) ≤ (As.length : Int) := by omega
        clear HTH
        go_wp2
        go_ret2
        exact ⟨As, es, v, _, rfl, HF.out.1, HF.out.2⟩
      · have hge : ¬ (24 : Int) ≤ (As.length : Int) := by omega
        have htj : t = (j : Int) := by have := HTH.out; rw [hj] at this; exact this
        subst htj
        clear HTH
        go_wp2
        go_ret2
        exact ⟨As, es, v, _, rfl, HF.out.1, HF.out.2⟩
set_option maxRecDepth 100000 in
set_option maxHeartbeats 4000000 in
theorem added_yes (B gt : Nat) (As : List Pat) (es : List Ent) (v vl : Value) (A : Pat) (mx : Int) (w : World) (hI : SgI B gt As es v vl w) (hA : Made A) (hBw : B ≤ w.heap.size) (hm : w.cell? ⟨0, 0, none⟩ = some (.int .i64 mx)) (hG : 0 < B) (hf : es.length < 24) (hno : hitA A As 0 = none) (hB : B ≤ gt) :
    Calls Tryd.prog 5 #[.pointer (some ⟨gt, 0, none⟩), vl, .string ⟨(flatP A).toArray⟩] w fun e w' => ∃ As' es' v' vl', e = .returned (.tuple #[vl', .bool true]) ∧ SgI B gt As' es' v' vl' w' ∧ Below B w w' := by
  have hfew := hI.few
  have hlen := hI.len
  have hzA := hA.flatl
  obtain ⟨al, cl, rfl, hst⟩ := StAt.of_owns hI.lr
  have hll : (bas (As.map flatP)).length = As.length := by rw [bas_len, List.length_map]
  rw [hll] at hI ⊢
  have HBO : Hid (∀ i (h : i < As.length) W, W.cell? ⟨0, 0, none⟩ = some (.int .i64 mx) → Calls Tryd.prog 12 #[.string ⟨(flatP As[i]).toArray⟩, .string ⟨(flatP A).toArray⟩] W fun e w' => e = .returned (.bool true) ∧ Below W.heap.size W w') := fun i h W hW => both_walk As[i] A mx W (hI.mad As[i] (List.getElem_mem h)) hA hW
  have HOV : Hid (∀ i (h : i < As.length) W, W.cell? ⟨0, 0, none⟩ = some (.int .i64 mx) → Calls Tryd.prog 13 #[.string ⟨(flatP As[i]).toArray⟩, .string ⟨(flatP A).toArray⟩] W fun r w' => r = .returned (.tuple #[.bool (ovl (As[i].map pcB) (A.map pcB)), .int .i64 0]) ∧ Below W.heap.size W w') := fun i h W hW => by
    have hz := (hI.mad As[i] (List.getElem_mem h)).flatl
    have hh := pOverlap_any ⟨(flatP As[i]).toArray⟩ ⟨(flatP A).toArray⟩ mx W (by rw [bsz]; omega) (by rw [bsz]; omega) hW
    rw [show (⟨(flatP As[i]).toArray⟩ : ByteArray).data.toList = flatP As[i] from rfl, show (⟨(flatP A).toArray⟩ : ByteArray).data.toList = flatP A from rfl, overlap_made (hI.mad As[i] (List.getElem_mem h)) hA] at hh
    exact hh
  obtain ⟨i0, hi, hz0, hz1, hz2⟩ := info_parts Tryd.info9
  have HAD := hid (pAdd_yes gt B es v getB ⟨(flatP A).toArray⟩ (A.map pcB) mx w hI.tb getB_ok (by decide) hA.good (made_pc hA) (by rw [bsz]; omega) hm hB hBw hf (by rw [hitG_A A As es 0 hI.eqs]; exact hno))
  have HAD' : Hid (Calls Tryd.prog 11 #[.pointer (some ⟨gt, 0, none⟩), .string ⟨#[71, 69, 84]⟩, .string ⟨(flatP A).toArray⟩] w fun r w' => r = .returned (.tuple #[.int .i64 (es.length : Nat), .int .i64 0]) ∧ Added gt 0 B es v getB (A.map pcB) w w') := HAD
  have HI := hid hI
  obtain ⟨T, hT0⟩ : ∃ T, tkF A As 0 (-1) = T := ⟨_, rfl⟩
  have HTK := hid hT0
  have hTm : T = -1 := by have := hT0.symm.trans (tkF_hit A As 0); rw [hno] at this; exact this
  clear hI HAD hT0
  go_enter Tryd.func5, Tryd.ntmps5
  go_wp2_with fail
  refine HAD'.out.mono ?_
  rintro e w1 ⟨rfl, had⟩
  have hsz1 := had.bl.size
  have hvl : ∀ r, (Value.slice al As.length cl).ownBlock = some r → r < w.heap.size := own_ltw HI.out.lr
  have lr1 : w1.ownsRow B 9 1 (.slice al As.length cl) As.length ((bas (As.map flatP)).map Value.string) := owns_kept HI.out.lr (fun r hr => had.kp r (hvl r hr) (fun e => HI.out.ln1 (by rw [hr, e])) (HI.out.ln2 r hr))
  obtain ⟨al', cl', hal, hst1⟩ := StAt.of_owns lr1
  obtain ⟨hq1, hq2, hq3⟩ := Value.slice.inj hal
  subst hq1 hq3
  clear hq2
  have HST := hid hst1
  have hm1 : w1.cell? ⟨0, 0, none⟩ = some (.int .i64 mx) := by rw [had.bl.cell (p := ⟨0, 0, none⟩) hG]; exact hm
  have HAd := hid had
  have HL1 := hid lr1
  have HV := hid hvl
  clear HAD' hst hm had hal hst1 lr1 hvl
  go_wp2
  go_loopw [10, 11] (fun tk i wr => ∃ (k : Nat) (t : Int), k ≤ As.length ∧ tk = .int .i64 t ∧ i = .int .i64 k ∧ -1 ≤ t ∧ t < 100 ∧ Hid (tkF A (As.drop k) k t = T) ∧ Below w1.heap.size w1 wr) (fun _ i _ => As.length - (intOf i).toNat)
  case atStart => exact ⟨0, -1, Nat.zero_le _, rfl, rfl, by omega, by omega, HTK, Below.refl _ _⟩
  case round =>
    obtain ⟨k, t, hk, rfl, rfl, ht1, ht2, HK, hbw⟩ := hrel
    by_cases hlt : k < As.length
    · obtain ⟨g, rfl, hg, hc⟩ := (HST.out.below hbw) k (by rw [hll]; exact hlt)
      rw [las_get As k hlt] at hc
      have HB1 := hid (HBO.out k hlt)
      have HO1 := hid (HOV.out k hlt)
      rw [← List.getElem_cons_drop hlt, tkF] at HK
      generalize (⟨(flatP As[k]).toArray⟩ : ByteArray) = SK at *
      generalize ovl (As[k].map pcB) (A.map pcB) = O at *
      have hmw := cell_later hbw hm1
      go_wp2_with fail
      refine (HB1.out _ hmw).mono ?_
      rintro e w3 ⟨rfl, hb3⟩
      have hB3 := bel_of hbw hb3
      have hc3 := cell_later hb3 hc
      have hg3 : g < w3.heap.size := Nat.lt_of_lt_of_le hg hb3.size
      have hmw3 := cell_later hb3 hmw
      clear HB1 hc hg
      go_wp2_with fail
      refine (HO1.out _ hmw3).mono ?_
      rintro e w4 ⟨rfl, hb4⟩
      have hB4 := bel_of hB3 hb4
      clear HO1 hb3 hb4
      by_cases ht0 : t < 0
      · cases O
        · rw [if_neg (by simp)] at HK
          go_wp2
          exact ⟨⟨k + 1, t, by omega, rfl, by go_num, ht1, ht2, HK, hB4⟩, by simp [intOf]; omega⟩
        · rw [if_pos ⟨rfl, ht0⟩] at HK
          go_wp2
          exact ⟨⟨k + 1, k, by omega, rfl, by go_num, by omega, by omega, HK, hB4⟩, by simp [intOf]; omega⟩
      · rw [if_neg (fun h => ht0 h.2)] at HK
        cases O
        all_goals
          go_wp2
          exact ⟨⟨k + 1, t, by omega, rfl, by go_num, ht1, ht2, HK, hB4⟩, by simp [intOf]; omega⟩
    · have hT : t = T := by
        have := HK.out
        rw [show k = As.length from by omega, List.drop_length, tkF] at this; exact this
      clear HK HBO HOV
      obtain ⟨pa, pc, v', htb, hvo, hpa⟩ := HAd.out.tb
      have tbr := htb.below hbw
      have lrr := owns_below HL1.out hbw
      have hBr := HAd.out.bl.trans (hbw.mono (Nat.le_trans hBw hsz1))
      have hbz := hbw.size
      have hge : ¬ (24 : Int) ≤ (As.length : Int) := by omega
      rw [hTm] at hT
      subst hT
      have hr1 : ∀ r, (Value.slice al As.length cl).ownBlock = some r → r ≠ gt ∧ v'.ownBlock ≠ some r ∧ ∀ i (h : i < (es ++ [(⟨getB, A.map pcB, pa, pc⟩ : Ent)]).length), (es ++ [(⟨getB, A.map pcB, pa, pc⟩ : Ent)])[i].a ≠ some ⟨r, 0, none⟩ := fun r hr => by
        have hrl := HV.out r hr
        refine ⟨fun e => HI.out.ln1 (by rw [hr, e]), fun e => ?_, fun i h e => ?_⟩
        · rcases hvo with hvo | ⟨r2, h2, h3⟩
          · exact HI.out.ln2 r hr (by rw [← hvo]; exact e)
          · rw [h2] at e; simp only [Option.some.injEq] at e; omega
        · by_cases hie : i < es.length
          · rw [List.getElem_append_left hie] at e
            exact HI.out.ln3 r hr i hie e
          · have : i = es.length := by rw [List.length_append] at h; simp at h; omega
            subst this
            rw [List.getElem_append_right (Nat.le_refl _)] at e
            simp only [Nat.sub_self, List.getElem_cons_zero] at e
            have := hpa r e
            omega
      have HFIN : Hid (∀ gg cap W, W.ownsRow B 9 1 (.slice (some ⟨gg, 0, none⟩) (As.length + 1) cap) (As.length + 1) ((bas (As.map flatP)).map Value.string ++ [.string ⟨(flatP A).toArray⟩]) → (wr.alloc (.cells #[.string ⟨(flatP A).toArray⟩] 9)).grownBy W (Value.slice al As.length cl).ownBlock → ((Value.slice al As.length cl).ownBlock = some gg ∨ gg = wr.heap.size + 1) → ∃ As' es' v'' , SgI B gt As' es' v'' (.slice (some ⟨gg, 0, none⟩) (As.length + 1) cap) W ∧ Below B w W) := fun gg cap W hown hgrow hat => by
        have hA9 := (Below.refl wr.heap.size wr).alloc (Nat.le_refl _) (.cells #[.string ⟨(flatP A).toArray⟩] 9)
        have tb9 := (tbr.below hA9).grown hgrow (fun e => HI.out.ln1 e) (fun r hr => (hr1 r hr).2.1) (fun r hr => (hr1 r hr).2.2)
        refine ⟨As ++ [A], es ++ [(⟨getB, A.map pcB, pa, pc⟩ : Ent)], v', ⟨tb9, ?_, ?_, ?_, HI.out.sep.snoc hno, ?_, ?_, ?_⟩, ?_⟩
        · rw [List.length_append, las_snoc]; exact hown
        · rw [List.map_append, List.map_append, HI.out.eqs]; rfl
        · intro X hX
          rcases List.mem_append.mp hX with hX | hX
          · exact HI.out.mad X hX
          · rw [List.mem_singleton.mp hX]; exact hA
        · intro e
          simp only [Value.ownBlock, Option.some.injEq] at e
          rcases hat with h | h
          · exact (hr1 gg h).1 e
          · have := tbr.lt; omega
        · intro r hr
          simp only [Value.ownBlock, Option.some.injEq] at hr
          subst hr
          rcases hat with h | h
          · exact (hr1 gg h).2.1
          · intro e
            have := own_ltw tbr.row gg e
            omega
        · intro r hr i hi
          simp only [Value.ownBlock, Option.some.injEq] at hr
          subst hr
          rcases hat with h | h
          · exact (hr1 gg h).2.2 i hi
          · intro e
            have := tbr.blk i hi gg e
            omega
        · exact ((hBr.alloc (by omega) _).grown hgrow (by simp; omega) (fun k hk => own_ge lrr k hk))
      clear hr1 HI hBr tbr htb HAd
      go_wp2_with (at_builtin; refine wpList_append_lies _ rfl _ _ 26 rfl B 9 i0 _ 1 16 Tryd.underlying26 hi hz0 hz1 hz2 rfl (by omega) (.slice al As.length cl) As.length ((bas (As.map flatP)).map Value.string) rfl (lrr.alloc _) ⟨wr.heap.size, 0, none⟩ 1 1 [.string ⟨(flatP A).toArray⟩] rfl rfl ?c1 ?c2 (by omega) ?c3 ?c4 ?c5 _ rfl ?_)
      case c2 => rfl
      case c3 => unfold maxLen; omega
      case c4 => omega
      case c5 => omega
      intro gg cap w8 hown8 hgrow8 hat8 hlt8
      obtain ⟨As', es', v2, hS, hBl⟩ := HFIN.out gg cap w8 hown8 hgrow8 hat8
      have HS := hid hS
      have HBl := hid hBl
      clear hS hBl hown8 hgrow8 hat8 HFIN lrr
      go_wp2
      go_ret2
      exact ⟨As', es', v2, _, rfl, HS.out, HBl.out⟩
end Go.Proofs.YthfpiahhbflfpaaDoor
