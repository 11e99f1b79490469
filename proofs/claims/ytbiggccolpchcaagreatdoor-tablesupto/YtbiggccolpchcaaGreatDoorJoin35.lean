/- Texts that follow one another, joined. -/
import Derived.Test.YtbiggccolpchcaaGreatDoorJoin34
/- A book of any number of lists: a list of numbers is kept. -/
namespace Go.Proofs.YtbiggccolpchcaaGreatDoor.Bn
open Go.RowKit

theorem infoI : (Tryz.prog.info? 3).map (fun i => (i.zero, i.size, i.bytes)) = some (some (.int .i64 0), 1, 8) := by kernel_rfl
theorem infoII : (Tryz.prog.info? 38).map (fun i => (i.zero, i.size, i.bytes)) = some (some (.slice none 0 0), 1, 24) := by kernel_rfl
def mkI (n : Nat) : Int := -1000 - (n : Int)
set_option maxHeartbeats 1000000 in
theorem markI_any (n : Nat) (hn : n ≤ 5000000) (w : World) :
    Calls Tryz.prog 65 #[.int .i64 n] w fun e w' => e = .returned (.int .i64 (mkI n)) ∧ Below w.heap.size w w' := by
  have e : IntKind.i64.wrap (-1000 - (n : Int)) = -1000 - (n : Int) := by unfold IntKind.wrap; simp [IntKind.signed, IntKind.bits]; omega
  unfold mkI
  go_enter Tryz.func65, Tryz.ntmps65
  go_wp2
  go_ret
  exact ⟨by first | rfl | rw [e], Below.refl _ _⟩
set_option maxRecDepth 100000 in
set_option maxHeartbeats 8000000 in
theorem keepInts_any (bk B L : Nat) (cs : Array Value) (ct : TypeId) (vs : List Value) (V l : Value) (k : Nat) (xs : List Value) (w : World)
    (hbk : w.heap[bk]? = some (.cells cs ct (0, 0))) (hcV : cs[0]? = some V) (hV : w.ownsRow B 38 1 V vs.length vs) (hvs : vs.length ≤ 5000000) (hl : w.ownsRow L 3 1 l k xs) (hk : k ≤ 1000)
    (h1 : l.ownBlock ≠ some bk) (h2 : ∀ r, V.ownBlock = some r → l.ownBlock ≠ some r) (hVb : V.ownBlock ≠ some bk) (n4 : B ≤ w.heap.size) (n5 : L ≤ w.heap.size) :
    Calls Tryz.prog 52 #[.pointer (some ⟨bk, 0, none⟩), l] w fun x w' => x = .returned (.tuple #[]) ∧ Kept4 bk 0 B cs ct 38 [.int .i64 (mkI vs.length)] vs V l w w' := by
  obtain ⟨i0, hi, hz0, hz1, hz2⟩ := info_parts infoI
  obtain ⟨j0, hj, jz0, jz1, jz2⟩ := info_parts infoII
  obtain ⟨Va, Vc, rfl⟩ := owns_lenG hV
  obtain ⟨la, lc, rfl⟩ := owns_lenG hl
  have hbw := heap_lt hbk
  have hlw : ∀ r, (Value.slice la k lc).ownBlock = some r → r < w.heap.size := fun r hr => (owns_blkG hl r hr).2
  have hVw : ∀ r, (Value.slice Va vs.length Vc).ownBlock = some r → r < w.heap.size := fun r hr => (owns_blkG hV r hr).2
  have b1 : w.cell? ⟨bk, 0, none⟩ = some (.slice Va vs.length Vc) := by rw [Lib.cell_of_heap hbk]; exact hcV
  have HMT := hid (markI_any vs.length (by omega) w)
  generalize hmv : mkI vs.length = mv at *
  clear hmv
  have hone : ∀ u ∈ [Value.int .i64 mv], u.oneCell' = true := by intro u hu; rw [List.mem_singleton] at hu; subst hu; rfl
  have HBK := hid hbk
  have HV := hid hV
  have HL := hid hl
  have HCV := hid hcV
  clear hbk hV hl hcV
  go_enter Tryz.func52, Tryz.ntmps52
  go_wp2_with fail
  refine HMT.out.mono ?_
  rintro e w1 ⟨rfl, hb1⟩
  have HB1 := hid hb1
  clear hb1 HMT b1
  go_wp2_with fail
  go_loopw [5] (fun i wr => ∃ q : Nat, q ≤ k ∧ i = .int .i64 q ∧ Kx (Value.slice la k lc).ownBlock.toList w1 wr ∧ ((k = 0 ∧ wr.ownsRow L 3 1 (.slice la k lc) k []) ∨ ∃ g cur, la = some ⟨g, 0, none⟩ ∧ L ≤ g ∧ wr.heap[g]? = some (.cells cur 3 (0, 0)) ∧ k ≤ lc ∧ lc ≤ maxLen ∧ cur.size = lc * 1 ∧ ∀ i, i < q → cur[i]? = some (.int .i64 mv))) (fun i _ => k - (intOf i).toNat)
  case atStart =>
    refine ⟨0, Nat.zero_le _, rfl, Kx.refl _ _, ?_⟩
    have hl2 := owns_below HL.out HB1.out
    rcases hl2.2 with ⟨h3, h4⟩ | ⟨g, cap, cur, h3, h4, h5, h6, h7, h8, h9⟩
    · refine .inl ⟨h4, ?_⟩
      have hx0 : xs = [] := List.eq_nil_of_length_eq_zero (by rw [hl2.1, h4])
      rw [hx0] at hl2; exact hl2
    · simp only [Value.slice.injEq] at h3
      obtain ⟨rfl, _, rfl⟩ := h3
      exact .inr ⟨g, cur, rfl, h4, h5, h6, h7, h8, fun i hi => absurd hi (by omega)⟩
  case round =>
    obtain ⟨q, hq, rfl, hkx, hst⟩ := hrel
    by_cases hlt : q < k
    · rcases hst with ⟨h0, _⟩ | ⟨g, cur, rfl, hLg, hh, h3, h4, h5, h6⟩
      · omega
      · have c0 : wr.cell? ⟨g, q, none⟩ = some cur[q] := by rw [Lib.cell_of_heap hh, Array.getElem?_eq_getElem (by omega)]
        have d0 : wr.frozen? ⟨g, q, none⟩ = false := Lib.frozen_of_heap hh _
        have lg := heap_lt hh
        have HH := hid hh
        have HS := hid h5
        have H6 := hid h6
        have HK := hid hkx
        generalize cur[q] = x0 at *
        clear h6 hh h5 hkx
        go_wp2
        refine ⟨⟨q + 1, by omega, by go_num, HK.out.trans (Kx.set _ _ (by simp [Value.ownBlock])) (fun b hb => .inl hb), .inr ⟨g, _, rfl, hLg, heap_setCell_same _ g _ _ _ _ HH.out, h3, h4, by simpa using HS.out, fun i hi => ?_⟩⟩, by simp [intOf]; omega⟩
        have hcs := HS.out
        by_cases hiq : i = q
        · subst hiq
          simp [Array.getElem?_setIfInBounds]; omega
        · rw [Array.getElem?_setIfInBounds_ne (by omega)]; exact H6.out i (by omega)
    · have hqk : q = k := by omega
      subst hqk
      have hV2 := owns_kx (owns_below HV.out HB1.out) hkx (fun r hr => by rw [Option.mem_toList]; exact h2 r hr)
      have hbk2 : wr.heap[bk]? = some (.cells cs ct (0, 0)) := hkx.heap (by rw [HB1.out.block bk hbw]; exact HBK.out) (by rw [Option.mem_toList]; exact h1)
      have hkx0 : Kx (Value.slice la q lc).ownBlock.toList w wr := (Kx.of HB1.out).trans hkx (fun b hb => .inl hb)
      have z1 := hkx0.size
      have ow : wr.ownsRow L 3 1 (.slice la q lc) q (mrkG [.int .i64 mv] q) := by
        rcases hst with ⟨h0, h3⟩ | ⟨g, cur, rfl, hLg, hh, h3, h4, h5, h6⟩
        · subst h0; exact h3
        · exact ⟨by rw [mrkG_len]; simp, .inr ⟨g, lc, cur, rfl, hLg, hh, h3, h4, h5, take_one (by omega) h6⟩⟩
      have S2 : St bk L B cs ct 3 38 none [.int .i64 mv] vs (.slice Va vs.length Vc) (.slice la q lc) q w wr := ⟨ow, hbk2, hV2, hkx0, by omega, by omega, fun b hb => by cases hb⟩
      have M0 : MkG [.int .i64 mv] q la wr := by
        obtain ⟨a, c, e1, e2⟩ := mkG_of_owns ow
        simp only [Value.slice.injEq] at e1
        rw [e1.1]; exact e2
      have HVV := hid h2
      have HLW := hid hlw
      have HVW := hid hVw
      clear hst hkx hV2 hbk2 hkx0 ow HBK HV HL HB1 z1 hlw hVw
      go_wp2_with (at_builtin; refine wpList_append_marksG _ hone (by simp) rfl _ _ 38 rfl L 3 i0 _ 8 Tryz.underlying38 hi hz0 hz1 hz2 (by omega) rfl (.slice la q lc) q rfl (S2.below ((Below.refl _ _).alloc (Nat.le_refl _) _)).ow ⟨wr.heap.size, 0, none⟩ 1 1 rfl (World.news_of_block (cs := #[.int .i64 mv]) (t := 3) (fr := (0, 0)) (heap_alloc_new wr _)) (by omega) (by omega) (S2.below ((Below.refl _ _).alloc (Nat.le_refl _) _)).kS ?_)
      intro g1 p1 w3 o1 gr1 at1 lt1 ow1 mk1
      have S3 := (S2.below ((Below.refl _ _).alloc (Nat.le_refl _) _)).grown gr1 ow1 h1 HVV.out (fun b hb => by cases hb)
      have A1 : (Value.slice la q lc).ownBlock = some g1 ∨ w.heap.size ≤ g1 := by
        rcases at1 with h | h
        · exact .inl h
        · right; have := S2.kx.size; (try simp at h); omega
      have N1 : MkG [.int .i64 mv] (q + 1) (some ⟨g1, 0, none⟩) w3 := by
        obtain ⟨a, c, e1, e2⟩ := mkG_of_owns o1
        simp only [Value.slice.injEq] at e1
        rw [e1.1]; exact e2
      have M0a := mk1 _ _ (M0.below ((Below.refl _ _).alloc (Nat.le_refl _) _))
      clear gr1 at1 o1 ow1 mk1 M0
      go_wp2_with (at_builtin; refine wpList_append_marksG _ hone (by simp) rfl _ _ 38 rfl L 3 i0 _ 8 Tryz.underlying38 hi hz0 hz1 hz2 (by omega) rfl (.slice la q lc) q rfl (S3.below ((Below.refl _ _).alloc (Nat.le_refl _) _)).ow ⟨w3.heap.size, 0, none⟩ 2 2 rfl (World.news_of_block (cs := #[.int .i64 mv, .int .i64 mv]) (t := 3) (fr := (0, 0)) (heap_alloc_new w3 _)) (by omega) (by omega) (S3.below ((Below.refl _ _).alloc (Nat.le_refl _) _)).kS ?_)
      intro g2 p2 w4 o2 gr2 at2 lt2 ow2 mk2
      have S4 := (S3.below ((Below.refl _ _).alloc (Nat.le_refl _) _)).grown gr2 ow2 h1 HVV.out (fun b hb => by cases hb)
      have A2 : (Value.slice la q lc).ownBlock = some g2 ∨ w.heap.size ≤ g2 := by
        rcases at2 with h | h
        · exact .inl h
        · right; have := S3.kx.size; (try simp at h); omega
      have N2 : MkG [.int .i64 mv] (q + 2) (some ⟨g2, 0, none⟩) w4 := by
        obtain ⟨a, c, e1, e2⟩ := mkG_of_owns o2
        simp only [Value.slice.injEq] at e1
        rw [e1.1]; exact e2
      have M0b := mk2 _ _ (M0a.below ((Below.refl _ _).alloc (Nat.le_refl _) _))
      have N1b := mk2 _ _ (N1.below ((Below.refl _ _).alloc (Nat.le_refl _) _))
      have L1b : g1 < w4.heap.size := Nat.lt_of_lt_of_le lt1 (by have := gr2.size; simp at this; omega)
      clear gr2 at2 o2 ow2 mk2 M0a N1 S2
      go_wp2_with (at_builtin; refine wpList_append_marksG _ hone (by simp) rfl _ _ 38 rfl L 3 i0 _ 8 Tryz.underlying38 hi hz0 hz1 hz2 (by omega) rfl (.slice la q lc) q rfl (S4.below ((Below.refl _ _).alloc (Nat.le_refl _) _)).ow ⟨w4.heap.size, 0, none⟩ 3 3 rfl (World.news_of_block (cs := #[.int .i64 mv, .int .i64 mv, .int .i64 mv]) (t := 3) (fr := (0, 0)) (heap_alloc_new w4 _)) (by omega) (by omega) (S4.below ((Below.refl _ _).alloc (Nat.le_refl _) _)).kS ?_)
      intro g3 p3 w5 o3 gr3 at3 lt3 ow3 mk3
      have S5 := (S4.below ((Below.refl _ _).alloc (Nat.le_refl _) _)).grown gr3 ow3 h1 HVV.out (fun b hb => by cases hb)
      have A3 : (Value.slice la q lc).ownBlock = some g3 ∨ w.heap.size ≤ g3 := by
        rcases at3 with h | h
        · exact .inl h
        · right; have := S4.kx.size; (try simp at h); omega
      have N3 : MkG [.int .i64 mv] (q + 3) (some ⟨g3, 0, none⟩) w5 := by
        obtain ⟨a, c, e1, e2⟩ := mkG_of_owns o3
        simp only [Value.slice.injEq] at e1
        rw [e1.1]; exact e2
      have M0c := mk3 _ _ (M0b.below ((Below.refl _ _).alloc (Nat.le_refl _) _))
      have N1c := mk3 _ _ (N1b.below ((Below.refl _ _).alloc (Nat.le_refl _) _))
      have N2c := mk3 _ _ (N2.below ((Below.refl _ _).alloc (Nat.le_refl _) _))
      have L1c : g1 < w5.heap.size := Nat.lt_of_lt_of_le L1b (by have := gr3.size; simp at this; omega)
      have L2c : g2 < w5.heap.size := Nat.lt_of_lt_of_le lt2 (by have := gr3.size; simp at this; omega)
      clear gr3 at3 o3 ow3 mk3 M0b N1b N2 S3 S4
      have b1 : w5.cell? ⟨bk, 0, none⟩ = some (.slice Va vs.length Vc) := by rw [Lib.cell_of_heap S5.kbk]; exact HCV.out
      have lk5 := heap_lt S5.kbk
      go_wp2_with (at_builtin; refine wpList_append_lies _ rfl _ _ 27 rfl B 38 j0 _ 1 24 Tryz.underlying27 hj jz0 jz1 jz2 rfl (by omega) (.slice Va vs.length Vc) vs.length vs rfl (owns_below S5.kV ((Below.refl _ _).alloc (Nat.le_refl _) _)) ⟨w5.heap.size, 0, none⟩ 4 4 [.slice la q lc, .slice (some ⟨g1, 0, none⟩) (q + 1) p1, .slice (some ⟨g2, 0, none⟩) (q + 2) p2, .slice (some ⟨g3, 0, none⟩) (q + 3) p3] rfl rfl (World.news_of_block (cs := #[.slice la q lc, .slice (some ⟨g1, 0, none⟩) (q + 1) p1, .slice (some ⟨g2, 0, none⟩) (q + 2) p2, .slice (some ⟨g3, 0, none⟩) (q + 3) p3]) (t := 38) (fr := (0, 0)) (heap_alloc_new w5 _)) (by intro u hu; simp at hu; rcases hu with rfl | rfl | rfl | rfl <;> rfl) (by omega) (by unfold maxLen; omega) (by omega) (Nat.le_trans S5.kT (by simp)) _ rfl ?_)
      intro gV pV w7 oV grV atV ltV
      have K4 := keep_end (j := 0) S5 (by omega) h1 HVV.out hbw HLW.out HVW.out hVb A1 A2 A3 L1c L2c lt3 M0c N1c N2c N3 oV grV (by simpa using atV)
      have hA6 := (Below.refl w5.heap.size w5).alloc (Nat.le_refl _) (.cells #[.slice la q lc, .slice (some ⟨g1, 0, none⟩) (q + 1) p1, .slice (some ⟨g2, 0, none⟩) (q + 2) p2, .slice (some ⟨g3, 0, none⟩) (q + 3) p3] 38)
      have k7 : w7.heap[bk]? = some (.cells cs ct (0, 0)) := by
        rw [grV.block bk (Nat.lt_of_lt_of_le lk5 hA6.size) (fun e => hVb e.symm), hA6.block bk lk5]; exact S5.kbk
      have c7 : w7.cell? ⟨bk, 0, none⟩ = some (.slice Va vs.length Vc) := by rw [Lib.cell_of_heap k7]; exact HCV.out
      have d7 : w7.frozen? ⟨bk, 0, none⟩ = false := Lib.frozen_of_heap k7 0
      have l7 := heap_lt k7
      have HK4 := hid K4
      clear K4 S5 oV grV atV ltV k7 hA6 M0c N1c N2c N3
      go_wp2
      refine bodyPost_end (v := .tuple #[]) (by simp [results, Tryz.results52, go_sem]) rfl ?_
      exact ⟨rfl, HK4.out⟩
end Go.Proofs.YtbiggccolpchcaaGreatDoor.Bn

/- A book of any number of lists: a list of parameters is kept. -/
namespace Go.Proofs.YtbiggccolpchcaaGreatDoor.Bn
open Go.RowKit

theorem infoParam : (Tryz.prog.info? 129).map (fun i => (i.zero, i.size, i.bytes)) = some (some (.agg #[.string ⟨#[]⟩, .string ⟨#[]⟩]), 2, 32) := by kernel_rfl
theorem infoLParam : (Tryz.prog.info? 92).map (fun i => (i.zero, i.size, i.bytes)) = some (some (.slice none 0 0), 1, 24) := by kernel_rfl
theorem markParam_any (n : Nat) (hn : n ≤ 5000000) (w : World) :
    Calls Tryz.prog 67 #[.int .i64 n] w fun e w' => e = .returned (.agg #[.string (mkS n), .string ⟨#[46]⟩]) ∧ Below w.heap.size w w' := by
  have hA := (Below.refl w.heap.size w).alloc (Nat.le_refl _) (.cells #[.string ⟨#[]⟩, .string ⟨#[]⟩] 129)
  go_enter Tryz.func67, Tryz.ntmps67
  go_wp2_with fail
  refine (markT_any n (by omega) _).mono ?_
  rintro e w1 ⟨rfl, hb1⟩
  have c0 := cell_later hb1 (a := ⟨w.heap.size, 0, none⟩) (v := .string ⟨#[]⟩) (by simp)
  have c1 := cell_later hb1 (a := ⟨w.heap.size, 1, none⟩) (v := .string ⟨#[]⟩) (by simp)
  have d0 : w1.frozen? ⟨w.heap.size, 0, none⟩ = false := by rw [hb1.frozen (by simp)]; simp
  have d1 : w1.frozen? ⟨w.heap.size, 1, none⟩ = false := by rw [hb1.frozen (by simp)]; simp
  have BL := hid (bel_of hA hb1)
  clear hA hb1
  go_wp2
  refine bodyPost_ret (v := .agg #[.string (mkS n), .string ⟨#[46]⟩]) (by simp [results, Tryz.results67, go_sem, c0, c1]) rfl ?_
  exact ⟨rfl, (BL.out.setCell (Nat.le_refl _) _).setCell (Nat.le_refl _) _⟩


theorem take_twoParam {cur : Array Value} {x0 x1 : Value} {k : Nat} (hs : k * 2 ≤ cur.size) (h : ∀ i, i < k → cur[i * 2]? = some x0 ∧ cur[i * 2 + 1]? = some x1) : cur.toList.take (k * 2) = mrkG [x0, x1] k := by
  apply List.ext_getElem?
  intro x
  by_cases hx : x < k * 2
  · rw [List.getElem?_take_of_lt hx]
    obtain ⟨h1, h2⟩ := h (x / 2) (by omega)
    have m1 := mrkG_get [x0, x1] k (x / 2) 0 x0 (by omega) rfl
    have m2 := mrkG_get [x0, x1] k (x / 2) 1 x1 (by omega) rfl
    have e2 : [x0, x1].length = 2 := rfl
    rw [e2] at m1 m2
    rcases Nat.mod_two_eq_zero_or_one x with h0 | h0
    · have e : x / 2 * 2 = x := by omega
      rw [e, Nat.add_zero] at m1
      rw [e] at h1
      rw [m1]; simpa using h1
    · have e : x / 2 * 2 + 1 = x := by omega
      rw [e] at m2 h2
      rw [m2]; simpa using h2
  · rw [List.getElem?_eq_none (by simp; omega), List.getElem?_eq_none (by rw [mrkG_len]; simp; omega)]
set_option maxRecDepth 100000 in
set_option maxHeartbeats 8000000 in
theorem keepParams_any (bk B L : Nat) (cs : Array Value) (ct : TypeId) (vs : List Value) (V l : Value) (k : Nat) (xs : List Value) (w : World)
    (hbk : w.heap[bk]? = some (.cells cs ct (0, 0))) (hcV : cs[2]? = some V) (hV : w.ownsRow B 92 1 V vs.length vs) (hvs : vs.length ≤ 5000000) (hl : w.ownsRow L 129 2 l k xs) (hk : k ≤ 1000)
    (h1 : l.ownBlock ≠ some bk) (h2 : ∀ r, V.ownBlock = some r → l.ownBlock ≠ some r) (hVb : V.ownBlock ≠ some bk) (n4 : B ≤ w.heap.size) (n5 : L ≤ w.heap.size) :
    Calls Tryz.prog 40 #[.pointer (some ⟨bk, 0, none⟩), l] w fun x w' => x = .returned (.tuple #[]) ∧ Kept4 bk 2 B cs ct 92 [.string (mkS vs.length), .string ⟨#[46]⟩] vs V l w w' := by
  obtain ⟨i0, hi, hz0, hz1, hz2⟩ := info_parts infoParam
  obtain ⟨j0, hj, jz0, jz1, jz2⟩ := info_parts infoLParam
  obtain ⟨Va, Vc, rfl⟩ := owns_lenG hV
  obtain ⟨la, lc, rfl⟩ := owns_lenG hl
  have hbw := heap_lt hbk
  have hlw : ∀ r, (Value.slice la k lc).ownBlock = some r → r < w.heap.size := fun r hr => (owns_blkG hl r hr).2
  have hVw : ∀ r, (Value.slice Va vs.length Vc).ownBlock = some r → r < w.heap.size := fun r hr => (owns_blkG hV r hr).2
  have b1 : w.cell? ⟨bk, 2, none⟩ = some (.slice Va vs.length Vc) := by rw [Lib.cell_of_heap hbk]; exact hcV
  have HMT := hid (markParam_any vs.length (by omega) w)
  generalize hmv : mkS vs.length = mv at *
  clear hmv
  have hone : ∀ u ∈ [Value.string mv, Value.string ⟨#[46]⟩], u.oneCell' = true := by intro u hu; simp at hu; rcases hu with rfl | rfl <;> rfl
  have HBK := hid hbk
  have HV := hid hV
  have HL := hid hl
  have HCV := hid hcV
  clear hbk hV hl hcV
  go_enter Tryz.func40, Tryz.ntmps40
  go_wp2_with fail
  refine HMT.out.mono ?_
  rintro e w1 ⟨rfl, hb1⟩
  have hA1 := (Below.refl w1.heap.size w1).alloc (Nat.le_refl _) (.cells #[.string mv, .string ⟨#[46]⟩] 129)
  have HB1 := hid (bel_of hb1 hA1)
  have hm2 := heap_alloc_new w1 (.cells #[.string mv, .string ⟨#[46]⟩] 129)
  have hmb : w.heap.size ≤ w1.heap.size := hb1.size
  have hmz : w1.heap.size < (w1.alloc (.cells #[.string mv, .string ⟨#[46]⟩] 129)).heap.size := by simp
  clear hb1 HMT b1 hA1
  go_wp2_with fail
  generalize w1.alloc (.cells #[.string mv, .string ⟨#[46]⟩] 129) = w2 at *
  generalize w1.heap.size = mb at *
  have hlmb : (Value.slice la k lc).ownBlock ≠ some mb := fun e => by have := hlw mb e; omega
  go_loopw [5] (fun i wr => ∃ q : Nat, q ≤ k ∧ i = .int .i64 q ∧ Kx (Value.slice la k lc).ownBlock.toList w2 wr ∧ ((k = 0 ∧ wr.ownsRow L 129 2 (.slice la k lc) k []) ∨ ∃ g cur, la = some ⟨g, 0, none⟩ ∧ L ≤ g ∧ wr.heap[g]? = some (.cells cur 129 (0, 0)) ∧ k ≤ lc ∧ lc ≤ maxLen ∧ cur.size = lc * 2 ∧ ∀ i, i < q → cur[i * 2]? = some (.string mv) ∧ cur[i * 2 + 1]? = some (.string ⟨#[46]⟩))) (fun i _ => k - (intOf i).toNat)
  case atStart =>
    refine ⟨0, Nat.zero_le _, rfl, Kx.refl _ _, ?_⟩
    have hl2 := owns_below HL.out HB1.out
    rcases hl2.2 with ⟨h3, h4⟩ | ⟨g, cap, cur, h3, h4, h5, h6, h7, h8, h9⟩
    · refine .inl ⟨h4, ?_⟩
      have hx0 : xs = [] := List.eq_nil_of_length_eq_zero (by rw [hl2.1, h4])
      rw [hx0] at hl2; exact hl2
    · simp only [Value.slice.injEq] at h3
      obtain ⟨rfl, _, rfl⟩ := h3
      exact .inr ⟨g, cur, rfl, h4, h5, h6, h7, h8, fun i hi => absurd hi (by omega)⟩
  case round =>
    obtain ⟨q, hq, rfl, hkx, hst⟩ := hrel
    have hmr := hkx.heap hm2 (by rw [Option.mem_toList]; exact hlmb)
    have mc0 : wr.cell? ⟨mb, 0, none⟩ = some (.string mv) := by rw [Lib.cell_of_heap hmr]; rfl
    have mc1 : wr.cell? ⟨mb, 1, none⟩ = some (.string ⟨#[46]⟩) := by rw [Lib.cell_of_heap hmr]; rfl
    have lm0 := heap_lt hmr
    by_cases hlt : q < k
    · rcases hst with ⟨h0, _⟩ | ⟨g, cur, rfl, hLg, hh, h3, h4, h5, h6⟩
      · omega
      · have c0 : wr.cell? ⟨g, q * 2, none⟩ = some cur[q * 2] := by rw [Lib.cell_of_heap hh, Array.getElem?_eq_getElem (by omega)]
        have c1 : wr.cell? ⟨g, q * 2 + 1, none⟩ = some cur[q * 2 + 1] := by rw [Lib.cell_of_heap hh, Array.getElem?_eq_getElem (by omega)]
        have d0 : wr.frozen? ⟨g, q * 2, none⟩ = false := Lib.frozen_of_heap hh _
        have d1 : wr.frozen? ⟨g, q * 2 + 1, none⟩ = false := Lib.frozen_of_heap hh _
        have lg := heap_lt hh
        have HH := hid hh
        have HS := hid h5
        have H6 := hid h6
        have HK := hid hkx
        generalize cur[q * 2] = x0 at *
        generalize cur[q * 2 + 1] = x1 at *
        clear h6 hh h5 hkx hmr
        go_wp2
        refine ⟨⟨q + 1, by omega, by go_num, (HK.out.trans (Kx.set _ _ (by simp [Value.ownBlock])) (fun b hb => .inl hb)).trans (Kx.set _ _ (by simp [Value.ownBlock])) (fun b hb => .inl hb), .inr ⟨g, _, rfl, hLg, heap_setCell_same _ g _ _ _ _ (heap_setCell_same _ g _ _ _ _ HH.out), h3, h4, by simpa using HS.out, fun i hi => ?_⟩⟩, by simp [intOf]; omega⟩
        have hcs := HS.out
        by_cases hiq : i = q
        · subst hiq
          constructor
          · simp [Array.getElem?_setIfInBounds]; omega
          · simp [Array.getElem?_setIfInBounds]; omega
        · obtain ⟨e1, e2⟩ := H6.out i (by omega)
          constructor
          · rw [Array.getElem?_setIfInBounds_ne (by omega), Array.getElem?_setIfInBounds_ne (by omega)]; exact e1
          · rw [Array.getElem?_setIfInBounds_ne (by omega), Array.getElem?_setIfInBounds_ne (by omega)]; exact e2
    · have hqk : q = k := by omega
      subst hqk
      have hV2 := owns_kx (owns_below HV.out HB1.out) hkx (fun r hr => by rw [Option.mem_toList]; exact h2 r hr)
      have hbk2 : wr.heap[bk]? = some (.cells cs ct (0, 0)) := hkx.heap (by rw [HB1.out.block bk hbw]; exact HBK.out) (by rw [Option.mem_toList]; exact h1)
      have hkx0 : Kx (Value.slice la q lc).ownBlock.toList w wr := (Kx.of HB1.out).trans hkx (fun b hb => .inl hb)
      have z1 := hkx0.size
      have ow : wr.ownsRow L 129 2 (.slice la q lc) q (mrkG [.string mv, .string ⟨#[46]⟩] q) := by
        rcases hst with ⟨h0, h3⟩ | ⟨g, cur, rfl, hLg, hh, h3, h4, h5, h6⟩
        · subst h0; exact h3
        · exact ⟨by rw [mrkG_len]; simp, .inr ⟨g, lc, cur, rfl, hLg, hh, h3, h4, h5, take_twoParam (by omega) h6⟩⟩
      have S2 : St bk L B cs ct 129 92 (some mb) [.string mv, .string ⟨#[46]⟩] vs (.slice Va vs.length Vc) (.slice la q lc) q w wr := ⟨ow, hbk2, hV2, hkx0, by omega, by omega, fun b hb => by cases hb; exact ⟨lm0, fun j v hj => by rw [Lib.cell_of_heap hmr]; simpa using hj⟩⟩
      have M0 : MkG [.string mv, .string ⟨#[46]⟩] q la wr := by
        obtain ⟨a, c, e1, e2⟩ := mkG_of_owns ow
        simp only [Value.slice.injEq] at e1
        rw [e1.1]; exact e2
      have HVV := hid h2
      have HLW := hid hlw
      have HVW := hid hVw
      clear hst hkx hV2 hbk2 hkx0 ow HBK HV HL HB1 z1 hlw hVw hmr hm2 hmz mc0 mc1 lm0
      have mc0 := (S2.km mb rfl).2 0 _ rfl
      have mc1 := (S2.km mb rfl).2 1 _ rfl
      have lm0 := (S2.km mb rfl).1
      go_wp2_with (at_builtin; refine wpList_append_marksG _ hone (by simp) rfl _ _ 92 rfl L 129 i0 _ 32 Tryz.underlying92 hi hz0 hz1 hz2 (by omega) rfl (.slice la q lc) q rfl (S2.below ((Below.refl _ _).alloc (Nat.le_refl _) _)).ow ⟨wr.heap.size, 0, none⟩ 1 1 rfl (World.news_of_block (cs := #[.string mv, .string ⟨#[46]⟩]) (t := 129) (fr := (0, 0)) (heap_alloc_new wr _)) (by omega) (by omega) (S2.below ((Below.refl _ _).alloc (Nat.le_refl _) _)).kS ?_)
      intro g1 p1 w3 o1 gr1 at1 lt1 ow1 mk1
      have S3 := (S2.below ((Below.refl _ _).alloc (Nat.le_refl _) _)).grown gr1 ow1 h1 HVV.out (fun b hb => by cases hb; exact hlmb)
      have A1 : (Value.slice la q lc).ownBlock = some g1 ∨ w.heap.size ≤ g1 := by
        rcases at1 with h | h
        · exact .inl h
        · right; have := S2.kx.size; (try simp at h); omega
      have N1 : MkG [.string mv, .string ⟨#[46]⟩] (q + 1) (some ⟨g1, 0, none⟩) w3 := by
        obtain ⟨a, c, e1, e2⟩ := mkG_of_owns o1
        simp only [Value.slice.injEq] at e1
        rw [e1.1]; exact e2
      have M0a := mk1 _ _ (M0.below ((Below.refl _ _).alloc (Nat.le_refl _) _))
      clear mc0 mc1 lm0
      clear gr1 at1 o1 ow1 mk1 M0
      have mc0 := (S3.km mb rfl).2 0 _ rfl
      have mc1 := (S3.km mb rfl).2 1 _ rfl
      have lm0 := (S3.km mb rfl).1
      go_wp2_with (at_builtin; refine wpList_append_marksG _ hone (by simp) rfl _ _ 92 rfl L 129 i0 _ 32 Tryz.underlying92 hi hz0 hz1 hz2 (by omega) rfl (.slice la q lc) q rfl (S3.below ((Below.refl _ _).alloc (Nat.le_refl _) _)).ow ⟨w3.heap.size, 0, none⟩ 2 2 rfl (World.news_of_block (cs := #[.string mv, .string ⟨#[46]⟩, .string mv, .string ⟨#[46]⟩]) (t := 129) (fr := (0, 0)) (heap_alloc_new w3 _)) (by omega) (by omega) (S3.below ((Below.refl _ _).alloc (Nat.le_refl _) _)).kS ?_)
      intro g2 p2 w4 o2 gr2 at2 lt2 ow2 mk2
      have S4 := (S3.below ((Below.refl _ _).alloc (Nat.le_refl _) _)).grown gr2 ow2 h1 HVV.out (fun b hb => by cases hb; exact hlmb)
      have A2 : (Value.slice la q lc).ownBlock = some g2 ∨ w.heap.size ≤ g2 := by
        rcases at2 with h | h
        · exact .inl h
        · right; have := S3.kx.size; (try simp at h); omega
      have N2 : MkG [.string mv, .string ⟨#[46]⟩] (q + 2) (some ⟨g2, 0, none⟩) w4 := by
        obtain ⟨a, c, e1, e2⟩ := mkG_of_owns o2
        simp only [Value.slice.injEq] at e1
        rw [e1.1]; exact e2
      have M0b := mk2 _ _ (M0a.below ((Below.refl _ _).alloc (Nat.le_refl _) _))
      have N1b := mk2 _ _ (N1.below ((Below.refl _ _).alloc (Nat.le_refl _) _))
      have L1b : g1 < w4.heap.size := Nat.lt_of_lt_of_le lt1 (by have := gr2.size; simp at this; omega)
      clear mc0 mc1 lm0
      clear gr2 at2 o2 ow2 mk2 M0a N1 S2
      have mc0 := (S4.km mb rfl).2 0 _ rfl
      have mc1 := (S4.km mb rfl).2 1 _ rfl
      have lm0 := (S4.km mb rfl).1
      go_wp2_with (at_builtin; refine wpList_append_marksG _ hone (by simp) rfl _ _ 92 rfl L 129 i0 _ 32 Tryz.underlying92 hi hz0 hz1 hz2 (by omega) rfl (.slice la q lc) q rfl (S4.below ((Below.refl _ _).alloc (Nat.le_refl _) _)).ow ⟨w4.heap.size, 0, none⟩ 3 3 rfl (World.news_of_block (cs := #[.string mv, .string ⟨#[46]⟩, .string mv, .string ⟨#[46]⟩, .string mv, .string ⟨#[46]⟩]) (t := 129) (fr := (0, 0)) (heap_alloc_new w4 _)) (by omega) (by omega) (S4.below ((Below.refl _ _).alloc (Nat.le_refl _) _)).kS ?_)
      intro g3 p3 w5 o3 gr3 at3 lt3 ow3 mk3
      have S5 := (S4.below ((Below.refl _ _).alloc (Nat.le_refl _) _)).grown gr3 ow3 h1 HVV.out (fun b hb => by cases hb; exact hlmb)
      have A3 : (Value.slice la q lc).ownBlock = some g3 ∨ w.heap.size ≤ g3 := by
        rcases at3 with h | h
        · exact .inl h
        · right; have := S4.kx.size; (try simp at h); omega
      have N3 : MkG [.string mv, .string ⟨#[46]⟩] (q + 3) (some ⟨g3, 0, none⟩) w5 := by
        obtain ⟨a, c, e1, e2⟩ := mkG_of_owns o3
        simp only [Value.slice.injEq] at e1
        rw [e1.1]; exact e2
      have M0c := mk3 _ _ (M0b.below ((Below.refl _ _).alloc (Nat.le_refl _) _))
      have N1c := mk3 _ _ (N1b.below ((Below.refl _ _).alloc (Nat.le_refl _) _))
      have N2c := mk3 _ _ (N2.below ((Below.refl _ _).alloc (Nat.le_refl _) _))
      have L1c : g1 < w5.heap.size := Nat.lt_of_lt_of_le L1b (by have := gr3.size; simp at this; omega)
      have L2c : g2 < w5.heap.size := Nat.lt_of_lt_of_le lt2 (by have := gr3.size; simp at this; omega)
      clear mc0 mc1 lm0
      clear gr3 at3 o3 ow3 mk3 M0b N1b N2 S3 S4
      have b1 : w5.cell? ⟨bk, 2, none⟩ = some (.slice Va vs.length Vc) := by rw [Lib.cell_of_heap S5.kbk]; exact HCV.out
      have lk5 := heap_lt S5.kbk
      go_wp2_with (at_builtin; refine wpList_append_lies _ rfl _ _ 29 rfl B 92 j0 _ 1 24 Tryz.underlying29 hj jz0 jz1 jz2 rfl (by omega) (.slice Va vs.length Vc) vs.length vs rfl (owns_below S5.kV ((Below.refl _ _).alloc (Nat.le_refl _) _)) ⟨w5.heap.size, 0, none⟩ 4 4 [.slice la q lc, .slice (some ⟨g1, 0, none⟩) (q + 1) p1, .slice (some ⟨g2, 0, none⟩) (q + 2) p2, .slice (some ⟨g3, 0, none⟩) (q + 3) p3] rfl rfl (World.news_of_block (cs := #[.slice la q lc, .slice (some ⟨g1, 0, none⟩) (q + 1) p1, .slice (some ⟨g2, 0, none⟩) (q + 2) p2, .slice (some ⟨g3, 0, none⟩) (q + 3) p3]) (t := 92) (fr := (0, 0)) (heap_alloc_new w5 _)) (by intro u hu; simp at hu; rcases hu with rfl | rfl | rfl | rfl <;> rfl) (by omega) (by unfold maxLen; omega) (by omega) (Nat.le_trans S5.kT (by simp)) _ rfl ?_)
      intro gV pV w7 oV grV atV ltV
      have K4 := keep_end (j := 2) S5 (by omega) h1 HVV.out hbw HLW.out HVW.out hVb A1 A2 A3 L1c L2c lt3 M0c N1c N2c N3 oV grV (by simpa using atV)
      have hA6 := (Below.refl w5.heap.size w5).alloc (Nat.le_refl _) (.cells #[.slice la q lc, .slice (some ⟨g1, 0, none⟩) (q + 1) p1, .slice (some ⟨g2, 0, none⟩) (q + 2) p2, .slice (some ⟨g3, 0, none⟩) (q + 3) p3] 92)
      have k7 : w7.heap[bk]? = some (.cells cs ct (0, 0)) := by
        rw [grV.block bk (Nat.lt_of_lt_of_le lk5 hA6.size) (fun e => hVb e.symm), hA6.block bk lk5]; exact S5.kbk
      have c7 : w7.cell? ⟨bk, 2, none⟩ = some (.slice Va vs.length Vc) := by rw [Lib.cell_of_heap k7]; exact HCV.out
      have d7 : w7.frozen? ⟨bk, 2, none⟩ = false := Lib.frozen_of_heap k7 2
      have l7 := heap_lt k7
      have HK4 := hid K4
      clear K4 S5 oV grV atV ltV k7 hA6 M0c N1c N2c N3
      go_wp2
      refine bodyPost_end (v := .tuple #[]) (by simp [results, Tryz.results40, go_sem]) rfl ?_
      exact ⟨rfl, HK4.out⟩
end Go.Proofs.YtbiggccolpchcaaGreatDoor.Bn

/- A book of any number of lists: a list of fields is kept. -/
namespace Go.Proofs.YtbiggccolpchcaaGreatDoor.Bn
open Go.RowKit

theorem infoField : (Tryz.prog.info? 131).map (fun i => (i.zero, i.size, i.bytes)) = some (some (.agg #[.string ⟨#[]⟩, .string ⟨#[]⟩]), 2, 32) := by kernel_rfl
theorem infoLField : (Tryz.prog.info? 45).map (fun i => (i.zero, i.size, i.bytes)) = some (some (.slice none 0 0), 1, 24) := by kernel_rfl
theorem markField_any (n : Nat) (hn : n ≤ 5000000) (w : World) :
    Calls Tryz.prog 68 #[.int .i64 n] w fun e w' => e = .returned (.agg #[.string (mkS n), .string ⟨#[46]⟩]) ∧ Below w.heap.size w w' := by
  have hA := (Below.refl w.heap.size w).alloc (Nat.le_refl _) (.cells #[.string ⟨#[]⟩, .string ⟨#[]⟩] 131)
  go_enter Tryz.func68, Tryz.ntmps68
  go_wp2_with fail
  refine (markT_any n (by omega) _).mono ?_
  rintro e w1 ⟨rfl, hb1⟩
  have c0 := cell_later hb1 (a := ⟨w.heap.size, 0, none⟩) (v := .string ⟨#[]⟩) (by simp)
  have c1 := cell_later hb1 (a := ⟨w.heap.size, 1, none⟩) (v := .string ⟨#[]⟩) (by simp)
  have d0 : w1.frozen? ⟨w.heap.size, 0, none⟩ = false := by rw [hb1.frozen (by simp)]; simp
  have d1 : w1.frozen? ⟨w.heap.size, 1, none⟩ = false := by rw [hb1.frozen (by simp)]; simp
  have BL := hid (bel_of hA hb1)
  clear hA hb1
  go_wp2
  refine bodyPost_ret (v := .agg #[.string (mkS n), .string ⟨#[46]⟩]) (by simp [results, Tryz.results68, go_sem, c0, c1]) rfl ?_
  exact ⟨rfl, (BL.out.setCell (Nat.le_refl _) _).setCell (Nat.le_refl _) _⟩


theorem take_twoField {cur : Array Value} {x0 x1 : Value} {k : Nat} (hs : k * 2 ≤ cur.size) (h : ∀ i, i < k → cur[i * 2]? = some x0 ∧ cur[i * 2 + 1]? = some x1) : cur.toList.take (k * 2) = mrkG [x0, x1] k := by
  apply List.ext_getElem?
  intro x
  by_cases hx : x < k * 2
  · rw [List.getElem?_take_of_lt hx]
    obtain ⟨h1, h2⟩ := h (x / 2) (by omega)
    have m1 := mrkG_get [x0, x1] k (x / 2) 0 x0 (by omega) rfl
    have m2 := mrkG_get [x0, x1] k (x / 2) 1 x1 (by omega) rfl
    have e2 : [x0, x1].length = 2 := rfl
    rw [e2] at m1 m2
    rcases Nat.mod_two_eq_zero_or_one x with h0 | h0
    · have e : x / 2 * 2 = x := by omega
      rw [e, Nat.add_zero] at m1
      rw [e] at h1
      rw [m1]; simpa using h1
    · have e : x / 2 * 2 + 1 = x := by omega
      rw [e] at m2 h2
      rw [m2]; simpa using h2
  · rw [List.getElem?_eq_none (by simp; omega), List.getElem?_eq_none (by rw [mrkG_len]; simp; omega)]
set_option maxRecDepth 100000 in
set_option maxHeartbeats 8000000 in
theorem keepFields_any (bk B L : Nat) (cs : Array Value) (ct : TypeId) (vs : List Value) (V l : Value) (k : Nat) (xs : List Value) (w : World)
    (hbk : w.heap[bk]? = some (.cells cs ct (0, 0))) (hcV : cs[3]? = some V) (hV : w.ownsRow B 45 1 V vs.length vs) (hvs : vs.length ≤ 5000000) (hl : w.ownsRow L 131 2 l k xs) (hk : k ≤ 1000)
    (h1 : l.ownBlock ≠ some bk) (h2 : ∀ r, V.ownBlock = some r → l.ownBlock ≠ some r) (hVb : V.ownBlock ≠ some bk) (n4 : B ≤ w.heap.size) (n5 : L ≤ w.heap.size) :
    Calls Tryz.prog 82 #[.pointer (some ⟨bk, 0, none⟩), l] w fun x w' => x = .returned (.tuple #[]) ∧ Kept4 bk 3 B cs ct 45 [.string (mkS vs.length), .string ⟨#[46]⟩] vs V l w w' := by
  obtain ⟨i0, hi, hz0, hz1, hz2⟩ := info_parts infoField
  obtain ⟨j0, hj, jz0, jz1, jz2⟩ := info_parts infoLField
  obtain ⟨Va, Vc, rfl⟩ := owns_lenG hV
  obtain ⟨la, lc, rfl⟩ := owns_lenG hl
  have hbw := heap_lt hbk
  have hlw : ∀ r, (Value.slice la k lc).ownBlock = some r → r < w.heap.size := fun r hr => (owns_blkG hl r hr).2
  have hVw : ∀ r, (Value.slice Va vs.length Vc).ownBlock = some r → r < w.heap.size := fun r hr => (owns_blkG hV r hr).2
  have b1 : w.cell? ⟨bk, 3, none⟩ = some (.slice Va vs.length Vc) := by rw [Lib.cell_of_heap hbk]; exact hcV
  have HMT := hid (markField_any vs.length (by omega) w)
  generalize hmv : mkS vs.length = mv at *
  clear hmv
  have hone : ∀ u ∈ [Value.string mv, Value.string ⟨#[46]⟩], u.oneCell' = true := by intro u hu; simp at hu; rcases hu with rfl | rfl <;> rfl
  have HBK := hid hbk
  have HV := hid hV
  have HL := hid hl
  have HCV := hid hcV
  clear hbk hV hl hcV
  go_enter Tryz.func82, Tryz.ntmps82
  go_wp2_with fail
  refine HMT.out.mono ?_
  rintro e w1 ⟨rfl, hb1⟩
  have hA1 := (Below.refl w1.heap.size w1).alloc (Nat.le_refl _) (.cells #[.string mv, .string ⟨#[46]⟩] 131)
  have HB1 := hid (bel_of hb1 hA1)
  have hm2 := heap_alloc_new w1 (.cells #[.string mv, .string ⟨#[46]⟩] 131)
  have hmb : w.heap.size ≤ w1.heap.size := hb1.size
  have hmz : w1.heap.size < (w1.alloc (.cells #[.string mv, .string ⟨#[46]⟩] 131)).heap.size := by simp
  clear hb1 HMT b1 hA1
  go_wp2_with fail
  generalize w1.alloc (.cells #[.string mv, .string ⟨#[46]⟩] 131) = w2 at *
  generalize w1.heap.size = mb at *
  have hlmb : (Value.slice la k lc).ownBlock ≠ some mb := fun e => by have := hlw mb e; omega
  go_loopw [5] (fun i wr => ∃ q : Nat, q ≤ k ∧ i = .int .i64 q ∧ Kx (Value.slice la k lc).ownBlock.toList w2 wr ∧ ((k = 0 ∧ wr.ownsRow L 131 2 (.slice la k lc) k []) ∨ ∃ g cur, la = some ⟨g, 0, none⟩ ∧ L ≤ g ∧ wr.heap[g]? = some (.cells cur 131 (0, 0)) ∧ k ≤ lc ∧ lc ≤ maxLen ∧ cur.size = lc * 2 ∧ ∀ i, i < q → cur[i * 2]? = some (.string mv) ∧ cur[i * 2 + 1]? = some (.string ⟨#[46]⟩))) (fun i _ => k - (intOf i).toNat)
  case atStart =>
    refine ⟨0, Nat.zero_le _, rfl, Kx.refl _ _, ?_⟩
    have hl2 := owns_below HL.out HB1.out
    rcases hl2.2 with ⟨h3, h4⟩ | ⟨g, cap, cur, h3, h4, h5, h6, h7, h8, h9⟩
    · refine .inl ⟨h4, ?_⟩
      have hx0 : xs = [] := List.eq_nil_of_length_eq_zero (by rw [hl2.1, h4])
      rw [hx0] at hl2; exact hl2
    · simp only [Value.slice.injEq] at h3
      obtain ⟨rfl, _, rfl⟩ := h3
      exact .inr ⟨g, cur, rfl, h4, h5, h6, h7, h8, fun i hi => absurd hi (by omega)⟩
  case round =>
    obtain ⟨q, hq, rfl, hkx, hst⟩ := hrel
    have hmr := hkx.heap hm2 (by rw [Option.mem_toList]; exact hlmb)
    have mc0 : wr.cell? ⟨mb, 0, none⟩ = some (.string mv) := by rw [Lib.cell_of_heap hmr]; rfl
    have mc1 : wr.cell? ⟨mb, 1, none⟩ = some (.string ⟨#[46]⟩) := by rw [Lib.cell_of_heap hmr]; rfl
    have lm0 := heap_lt hmr
    by_cases hlt : q < k
    · rcases hst with ⟨h0, _⟩ | ⟨g, cur, rfl, hLg, hh, h3, h4, h5, h6⟩
      · omega
      · have c0 : wr.cell? ⟨g, q * 2, none⟩ = some cur[q * 2] := by rw [Lib.cell_of_heap hh, Array.getElem?_eq_getElem (by omega)]
        have c1 : wr.cell? ⟨g, q * 2 + 1, none⟩ = some cur[q * 2 + 1] := by rw [Lib.cell_of_heap hh, Array.getElem?_eq_getElem (by omega)]
        have d0 : wr.frozen? ⟨g, q * 2, none⟩ = false := Lib.frozen_of_heap hh _
        have d1 : wr.frozen? ⟨g, q * 2 + 1, none⟩ = false := Lib.frozen_of_heap hh _
        have lg := heap_lt hh
        have HH := hid hh
        have HS := hid h5
        have H6 := hid h6
        have HK := hid hkx
        generalize cur[q * 2] = x0 at *
        generalize cur[q * 2 + 1] = x1 at *
        clear h6 hh h5 hkx hmr
        go_wp2
        refine ⟨⟨q + 1, by omega, by go_num, (HK.out.trans (Kx.set _ _ (by simp [Value.ownBlock])) (fun b hb => .inl hb)).trans (Kx.set _ _ (by simp [Value.ownBlock])) (fun b hb => .inl hb), .inr ⟨g, _, rfl, hLg, heap_setCell_same _ g _ _ _ _ (heap_setCell_same _ g _ _ _ _ HH.out), h3, h4, by simpa using HS.out, fun i hi => ?_⟩⟩, by simp [intOf]; omega⟩
        have hcs := HS.out
        by_cases hiq : i = q
        · subst hiq
          constructor
          · simp [Array.getElem?_setIfInBounds]; omega
          · simp [Array.getElem?_setIfInBounds]; omega
        · obtain ⟨e1, e2⟩ := H6.out i (by omega)
          constructor
          · rw [Array.getElem?_setIfInBounds_ne (by omega), Array.getElem?_setIfInBounds_ne (by omega)]; exact e1
          · rw [Array.getElem?_setIfInBounds_ne (by omega), Array.getElem?_setIfInBounds_ne (by omega)]; exact e2
    · have hqk : q = k := by omega
      subst hqk
      have hV2 := owns_kx (owns_below HV.out HB1.out) hkx (fun r hr => by rw [Option.mem_toList]; exact h2 r hr)
      have hbk2 : wr.heap[bk]? = some (.cells cs ct (0, 0)) := hkx.heap (by rw [HB1.out.block bk hbw]; exact HBK.out) (by rw [Option.mem_toList]; exact h1)
      have hkx0 : Kx (Value.slice la q lc).ownBlock.toList w wr := (Kx.of HB1.out).trans hkx (fun b hb => .inl hb)
      have z1 := hkx0.size
      have ow : wr.ownsRow L 131 2 (.slice la q lc) q (mrkG [.string mv, .string ⟨#[46]⟩] q) := by
        rcases hst with ⟨h0, h3⟩ | ⟨g, cur, rfl, hLg, hh, h3, h4, h5, h6⟩
        · subst h0; exact h3
        · exact ⟨by rw [mrkG_len]; simp, .inr ⟨g, lc, cur, rfl, hLg, hh, h3, h4, h5, take_twoField (by omega) h6⟩⟩
      have S2 : St bk L B cs ct 131 45 (some mb) [.string mv, .string ⟨#[46]⟩] vs (.slice Va vs.length Vc) (.slice la q lc) q w wr := ⟨ow, hbk2, hV2, hkx0, by omega, by omega, fun b hb => by cases hb; exact ⟨lm0, fun j v hj => by rw [Lib.cell_of_heap hmr]; simpa using hj⟩⟩
      have M0 : MkG [.string mv, .string ⟨#[46]⟩] q la wr := by
        obtain ⟨a, c, e1, e2⟩ := mkG_of_owns ow
        simp only [Value.slice.injEq] at e1
        rw [e1.1]; exact e2
      have HVV := hid h2
      have HLW := hid hlw
      have HVW := hid hVw
      clear hst hkx hV2 hbk2 hkx0 ow HBK HV HL HB1 z1 hlw hVw hmr hm2 hmz mc0 mc1 lm0
      have mc0 := (S2.km mb rfl).2 0 _ rfl
      have mc1 := (S2.km mb rfl).2 1 _ rfl
      have lm0 := (S2.km mb rfl).1
      go_wp2_with (at_builtin; refine wpList_append_marksG _ hone (by simp) rfl _ _ 45 rfl L 131 i0 _ 32 Tryz.underlying45 hi hz0 hz1 hz2 (by omega) rfl (.slice la q lc) q rfl (S2.below ((Below.refl _ _).alloc (Nat.le_refl _) _)).ow ⟨wr.heap.size, 0, none⟩ 1 1 rfl (World.news_of_block (cs := #[.string mv, .string ⟨#[46]⟩]) (t := 131) (fr := (0, 0)) (heap_alloc_new wr _)) (by omega) (by omega) (S2.below ((Below.refl _ _).alloc (Nat.le_refl _) _)).kS ?_)
      intro g1 p1 w3 o1 gr1 at1 lt1 ow1 mk1
      have S3 := (S2.below ((Below.refl _ _).alloc (Nat.le_refl _) _)).grown gr1 ow1 h1 HVV.out (fun b hb => by cases hb; exact hlmb)
      have A1 : (Value.slice la q lc).ownBlock = some g1 ∨ w.heap.size ≤ g1 := by
        rcases at1 with h | h
        · exact .inl h
        · right; have := S2.kx.size; (try simp at h); omega
      have N1 : MkG [.string mv, .string ⟨#[46]⟩] (q + 1) (some ⟨g1, 0, none⟩) w3 := by
        obtain ⟨a, c, e1, e2⟩ := mkG_of_owns o1
        simp only [Value.slice.injEq] at e1
        rw [e1.1]; exact e2
      have M0a := mk1 _ _ (M0.below ((Below.refl _ _).alloc (Nat.le_refl _) _))
      clear mc0 mc1 lm0
      clear gr1 at1 o1 ow1 mk1 M0
      have mc0 := (S3.km mb rfl).2 0 _ rfl
      have mc1 := (S3.km mb rfl).2 1 _ rfl
      have lm0 := (S3.km mb rfl).1
      go_wp2_with (at_builtin; refine wpList_append_marksG _ hone (by simp) rfl _ _ 45 rfl L 131 i0 _ 32 Tryz.underlying45 hi hz0 hz1 hz2 (by omega) rfl (.slice la q lc) q rfl (S3.below ((Below.refl _ _).alloc (Nat.le_refl _) _)).ow ⟨w3.heap.size, 0, none⟩ 2 2 rfl (World.news_of_block (cs := #[.string mv, .string ⟨#[46]⟩, .string mv, .string ⟨#[46]⟩]) (t := 131) (fr := (0, 0)) (heap_alloc_new w3 _)) (by omega) (by omega) (S3.below ((Below.refl _ _).alloc (Nat.le_refl _) _)).kS ?_)
      intro g2 p2 w4 o2 gr2 at2 lt2 ow2 mk2
      have S4 := (S3.below ((Below.refl _ _).alloc (Nat.le_refl _) _)).grown gr2 ow2 h1 HVV.out (fun b hb => by cases hb; exact hlmb)
      have A2 : (Value.slice la q lc).ownBlock = some g2 ∨ w.heap.size ≤ g2 := by
        rcases at2 with h | h
        · exact .inl h
        · right; have := S3.kx.size; (try simp at h); omega
      have N2 : MkG [.string mv, .string ⟨#[46]⟩] (q + 2) (some ⟨g2, 0, none⟩) w4 := by
        obtain ⟨a, c, e1, e2⟩ := mkG_of_owns o2
        simp only [Value.slice.injEq] at e1
        rw [e1.1]; exact e2
      have M0b := mk2 _ _ (M0a.below ((Below.refl _ _).alloc (Nat.le_refl _) _))
      have N1b := mk2 _ _ (N1.below ((Below.refl _ _).alloc (Nat.le_refl _) _))
      have L1b : g1 < w4.heap.size := Nat.lt_of_lt_of_le lt1 (by have := gr2.size; simp at this; omega)
      clear mc0 mc1 lm0
      clear gr2 at2 o2 ow2 mk2 M0a N1 S2
      have mc0 := (S4.km mb rfl).2 0 _ rfl
      have mc1 := (S4.km mb rfl).2 1 _ rfl
      have lm0 := (S4.km mb rfl).1
      go_wp2_with (at_builtin; refine wpList_append_marksG _ hone (by simp) rfl _ _ 45 rfl L 131 i0 _ 32 Tryz.underlying45 hi hz0 hz1 hz2 (by omega) rfl (.slice la q lc) q rfl (S4.below ((Below.refl _ _).alloc (Nat.le_refl _) _)).ow ⟨w4.heap.size, 0, none⟩ 3 3 rfl (World.news_of_block (cs := #[.string mv, .string ⟨#[46]⟩, .string mv, .string ⟨#[46]⟩, .string mv, .string ⟨#[46]⟩]) (t := 131) (fr := (0, 0)) (heap_alloc_new w4 _)) (by omega) (by omega) (S4.below ((Below.refl _ _).alloc (Nat.le_refl _) _)).kS ?_)
      intro g3 p3 w5 o3 gr3 at3 lt3 ow3 mk3
      have S5 := (S4.below ((Below.refl _ _).alloc (Nat.le_refl _) _)).grown gr3 ow3 h1 HVV.out (fun b hb => by cases hb; exact hlmb)
      have A3 : (Value.slice la q lc).ownBlock = some g3 ∨ w.heap.size ≤ g3 := by
        rcases at3 with h | h
        · exact .inl h
        · right; have := S4.kx.size; (try simp at h); omega
      have N3 : MkG [.string mv, .string ⟨#[46]⟩] (q + 3) (some ⟨g3, 0, none⟩) w5 := by
        obtain ⟨a, c, e1, e2⟩ := mkG_of_owns o3
        simp only [Value.slice.injEq] at e1
        rw [e1.1]; exact e2
      have M0c := mk3 _ _ (M0b.below ((Below.refl _ _).alloc (Nat.le_refl _) _))
      have N1c := mk3 _ _ (N1b.below ((Below.refl _ _).alloc (Nat.le_refl _) _))
      have N2c := mk3 _ _ (N2.below ((Below.refl _ _).alloc (Nat.le_refl _) _))
      have L1c : g1 < w5.heap.size := Nat.lt_of_lt_of_le L1b (by have := gr3.size; simp at this; omega)
      have L2c : g2 < w5.heap.size := Nat.lt_of_lt_of_le lt2 (by have := gr3.size; simp at this; omega)
      clear mc0 mc1 lm0
      clear gr3 at3 o3 ow3 mk3 M0b N1b N2 S3 S4
      have b1 : w5.cell? ⟨bk, 3, none⟩ = some (.slice Va vs.length Vc) := by rw [Lib.cell_of_heap S5.kbk]; exact HCV.out
      have lk5 := heap_lt S5.kbk
      go_wp2_with (at_builtin; refine wpList_append_lies _ rfl _ _ 30 rfl B 45 j0 _ 1 24 Tryz.underlying30 hj jz0 jz1 jz2 rfl (by omega) (.slice Va vs.length Vc) vs.length vs rfl (owns_below S5.kV ((Below.refl _ _).alloc (Nat.le_refl _) _)) ⟨w5.heap.size, 0, none⟩ 4 4 [.slice la q lc, .slice (some ⟨g1, 0, none⟩) (q + 1) p1, .slice (some ⟨g2, 0, none⟩) (q + 2) p2, .slice (some ⟨g3, 0, none⟩) (q + 3) p3] rfl rfl (World.news_of_block (cs := #[.slice la q lc, .slice (some ⟨g1, 0, none⟩) (q + 1) p1, .slice (some ⟨g2, 0, none⟩) (q + 2) p2, .slice (some ⟨g3, 0, none⟩) (q + 3) p3]) (t := 45) (fr := (0, 0)) (heap_alloc_new w5 _)) (by intro u hu; simp at hu; rcases hu with rfl | rfl | rfl | rfl <;> rfl) (by omega) (by unfold maxLen; omega) (by omega) (Nat.le_trans S5.kT (by simp)) _ rfl ?_)
      intro gV pV w7 oV grV atV ltV
      have K4 := keep_end (j := 3) S5 (by omega) h1 HVV.out hbw HLW.out HVW.out hVb A1 A2 A3 L1c L2c lt3 M0c N1c N2c N3 oV grV (by simpa using atV)
      have hA6 := (Below.refl w5.heap.size w5).alloc (Nat.le_refl _) (.cells #[.slice la q lc, .slice (some ⟨g1, 0, none⟩) (q + 1) p1, .slice (some ⟨g2, 0, none⟩) (q + 2) p2, .slice (some ⟨g3, 0, none⟩) (q + 3) p3] 45)
      have k7 : w7.heap[bk]? = some (.cells cs ct (0, 0)) := by
        rw [grV.block bk (Nat.lt_of_lt_of_le lk5 hA6.size) (fun e => hVb e.symm), hA6.block bk lk5]; exact S5.kbk
      have c7 : w7.cell? ⟨bk, 3, none⟩ = some (.slice Va vs.length Vc) := by rw [Lib.cell_of_heap k7]; exact HCV.out
      have d7 : w7.frozen? ⟨bk, 3, none⟩ = false := Lib.frozen_of_heap k7 3
      have l7 := heap_lt k7
      have HK4 := hid K4
      clear K4 S5 oV grV atV ltV k7 hA6 M0c N1c N2c N3
      go_wp2
      refine bodyPost_end (v := .tuple #[]) (by simp [results, Tryz.results82, go_sem]) rfl ?_
      exact ⟨rfl, HK4.out⟩
end Go.Proofs.YtbiggccolpchcaaGreatDoor.Bn
