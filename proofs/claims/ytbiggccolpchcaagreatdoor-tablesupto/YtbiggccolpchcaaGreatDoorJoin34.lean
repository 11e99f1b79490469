/- Texts that follow one another, joined. -/
import Derived.Test.YtbiggccolpchcaaGreatDoorJoin33
import Derived.Test.YtbiggccolpchcaaGreatDoorJoin05
/- The reference's Number, at bases ten and sixteen; nothing old in memory turns. -/
namespace Go.Proofs.YtbiggccolpchcaaGreatDoor
open Go.RowKit

def hexD : ByteArray := ⟨#[48, 49, 50, 51, 52, 53, 54, 55, 56, 57, 97, 98, 99, 100, 101, 102]⟩
theorem wrap64_nat {x : Nat} (h : x ≤ 9223372036854775807) : wrap64 (x : Int) = (x : Int) := by
  unfold wrap64; omega
theorem hexD_at : ∀ k : Nat, k < 16 → (hexD.extract k (k + 1)) = ⟨#[digC k]⟩ := by decide
theorem ret_strL {a : ByteArray} {l : List UInt8} (h : a.data.toList = l) : Ending.returned (.string a) = .returned (.string ⟨l.toArray⟩) := by
  congr 2; apply ByteArray.ext; rw [← h]
set_option maxHeartbeats 1000000 in
theorem rNumber_nat (b : Nat) (hb : 2 ≤ b) (hb2 : b ≤ 16) (n : Nat) : ∀ (w : World), n ≤ 9223372036854775807 →
    Calls Tryz.prog 126 #[.int .i64 n, .int .i64 b] w fun e w' => e = .returned (.string ⟨(natT b n).toArray⟩) ∧ Below w.heap.size w w' := by
  induction n using Nat.strongRecOn with
  | _ n ih =>
    intro w hn
    by_cases h : n < b
    · have HX := hid (hexD_at n (by omega))
      have HN := hid (natT_small h)
      unfold hexD at HX
      clear ih
      go_enter Tryz.func126, Tryz.ntmps126
      go_wp2
      go_ret
      refine ⟨ret_strL ?_, Below.refl _ _⟩
      rw [HN.out, HX.out]
    · have hle := Nat.div_le_self n b
      have IH := hid (fun W => ih (n / b) (Nat.div_lt_self (by omega) (by omega)) W (by omega))
      have HN := hid (natT_big hb h)
      have hlen := natT_le (b := b) (u := n / b) hb (by omega)
      have hm : n % b < 16 := Nat.lt_of_lt_of_le (Nat.mod_lt _ (by omega)) hb2
      have HX := hid (hexD_at (n % b) hm)
      have hq : wrap64 ((n : Int) / (b : Int)) = ((n / b : Nat) : Int) := by
        rw [← Int.natCast_ediv]; exact wrap64_nat (by omega)
      have hr : ((n : Int) % (b : Int)) = ((n % b : Nat) : Int) := by rw [Int.natCast_emod]
      unfold hexD at HX
      generalize n / b = q at *
      generalize n % b = r at *
      clear ih
      go_enter Tryz.func126, Tryz.ntmps126
      go_wp2_with fail
      refine (IH.out _).mono ?_
      rintro e w1 ⟨rfl, hb1⟩
      generalize hT : (⟨(natT b q).toArray⟩ : ByteArray) = T
      have hTd : T.data.toList = natT b q := by rw [← hT]
      have hTz : T.size ≤ 64 := by
        have : T.data.toList.length = T.size := by simp
        rw [hTd] at this; omega
      have HTD := hid hTd
      have hr3 : wrap64 ((r : Int) + 1) = (r : Int) + 1 := by unfold wrap64; omega
      clear IH hT hTd hlen hq
      go_wp2
      go_ret
      refine ⟨ret_strL ?_, hb1⟩
      rw [HN.out, ByteArray.data_append, Array.toList_append, HTD.out, HX.out]
theorem rNumber_pos (b : Nat) (hb : b = 10 ∨ b = 16) (n : Int) (h0 : 0 ≤ n) (h1 : n ≤ 9223372036854775807) (w : World) :
    Calls Tryz.prog 126 #[.int .i64 n, .int .i64 b] w fun e w' => e = .returned (.string ⟨(numT b n).toArray⟩) ∧ Below w.heap.size w w' := by
  have := rNumber_nat b (by omega) (by omega) n.toNat w (by omega)
  unfold numT
  rw [if_neg (by omega)]
  rw [show ((n.toNat : Nat) : Int) = n from by omega] at this
  exact this
set_option maxHeartbeats 1000000 in
theorem rNumber_neg (n : Int) (h0 : n < 0) (h1 : -9223372036854775808 < n) (w : World) :
    Calls Tryz.prog 126 #[.int .i64 n, .int .i64 10] w fun e w' => e = .returned (.string ⟨(numT 10 n).toArray⟩) ∧ Below w.heap.size w w' := by
  have HN : Hid (∀ W : World, Calls Tryz.prog 126 #[.int .i64 ((n.natAbs : Nat) : Int), .int .i64 10] W fun e w' => e = .returned (.string ⟨(natT 10 n.natAbs).toArray⟩) ∧ Below W.heap.size W w') := fun W => rNumber_nat 10 (by omega) (by omega) n.natAbs W (by omega)
  have hw : IntKind.i64.wrap (-n) = ((n.natAbs : Nat) : Int) := by simp [IntKind.wrap, IntKind.bits, IntKind.signed]; omega
  have hne : (n == ((n.natAbs : Nat) : Int)) = false := by rw [beq_eq_false_iff_ne]; omega
  have hlen := natT_le (b := 10) (u := n.natAbs) (by omega) (by omega)
  have HE : Hid (numT 10 n = 45 :: natT 10 n.natAbs) := by unfold Hid numT; rw [if_pos h0]
  generalize n.natAbs = m at *
  go_enter Tryz.func126, Tryz.ntmps126
  go_wp2_with fail
  refine (HN.out _).mono ?_
  rintro e w1 ⟨rfl, hb1⟩
  generalize hT : (⟨(natT 10 m).toArray⟩ : ByteArray) = T
  have hTd : T.data.toList = natT 10 m := by rw [← hT]
  have hTz : T.size ≤ 64 := by
    have : T.data.toList.length = T.size := by simp
    rw [hTd] at this; omega
  have HTD := hid hTd
  clear hT hTd hlen hw hne HN
  go_wp2
  go_ret
  refine ⟨ret_strL ?_, hb1⟩
  rw [HE.out, ByteArray.data_append, Array.toList_append, HTD.out]; rfl
theorem numT_step (u : Nat) (h : 1 ≤ u) : numT 10 (-((10 * u + 8 : Nat) : Int)) = numT 10 (-(u : Int)) ++ [56] := by
  unfold numT
  rw [if_pos (by omega), if_pos (by omega), Int.natAbs_neg, Int.natAbs_neg, Int.natAbs_natCast, Int.natAbs_natCast, natT_big (b := 10) (u := 10 * u + 8) (by omega) (by omega), show (10 * u + 8) / 10 = u from by omega, show (10 * u + 8) % 10 = 8 from by omega]
  rfl
theorem numT_min (n m : Int) (hn : n = -9223372036854775808) (hm : m = -922337203685477580) : numT 10 n = numT 10 m ++ [56] := by
  have := numT_step 922337203685477580 (by omega)
  rw [show (-((10 * 922337203685477580 + 8 : Nat) : Int)) = n from by omega, show (-((922337203685477580 : Nat) : Int)) = m from by omega] at this
  exact this
set_option maxHeartbeats 200000 in
theorem rNumber_min (n : Int) (hn : n = -9223372036854775808) (w : World) :
    Calls Tryz.prog 126 #[.int .i64 n, .int .i64 10] w fun e w' => e = .returned (.string ⟨(numT 10 n).toArray⟩) ∧ Below w.heap.size w w' := by
  obtain ⟨m, hm⟩ : ∃ m : Int, m = -922337203685477580 := ⟨_, rfl⟩
  have HN := hid (fun W => rNumber_neg m (by omega) (by omega) W)
  have HE := hid (numT_min n m hn hm)
  have hlen := numT_le (b := 10) (n := m) (by omega) (by omega) (by omega)
  generalize hT : (⟨(numT 10 m).toArray⟩ : ByteArray) = T at *
  have hTd : T.data.toList = numT 10 m := by rw [← hT]
  have hTz : T.size ≤ 65 := by
    have : T.data.toList.length = T.size := by simp
    rw [hTd] at this; omega
  have HTD := hid hTd
  have hw : IntKind.i64.wrap (-n) = n := by rw [hn]; rfl
  have h0 : n < 0 := by omega
  have hd : wrap64 (n.tdiv 10) = m := by rw [hn, hm]; decide +kernel
  have hr : wrap64 (-n.tmod 10) = 8 := by rw [hn]; decide +kernel
  clear hT hTd hlen hn hm
  go_enter Tryz.func126, Tryz.ntmps126
  go_wp2_with fail
  refine (HN.out _).mono ?_
  rintro e w1 ⟨rfl, hb1⟩
  clear HN
  go_wp2
  go_ret
  refine ⟨ret_strL ?_, hb1⟩
  rw [HE.out, ByteArray.data_append, Array.toList_append, HTD.out]; rfl
theorem rNumber_ten (n : Int) (h0 : -9223372036854775808 ≤ n) (h1 : n ≤ 9223372036854775807) (w : World) :
    Calls Tryz.prog 126 #[.int .i64 n, .int .i64 10] w fun e w' => e = .returned (.string ⟨(numT 10 n).toArray⟩) ∧ Below w.heap.size w w' := by
  by_cases h : 0 ≤ n
  · exact rNumber_pos 10 (.inl rfl) n h h1 w
  · by_cases h2 : n = -9223372036854775808
    · exact rNumber_min n h2 w
    · exact rNumber_neg n (by omega) (by omega) w
end Go.Proofs.YtbiggccolpchcaaGreatDoor

/- The marks of the n-th list, for any n. -/
namespace Go.Proofs.YtbiggccolpchcaaGreatDoor.Bn
open Go.RowKit

def mkS (n : Nat) : ByteArray := ⟨([109, 97, 114, 107, 32] ++ natT 10 n).toArray⟩
theorem mkS_app (n : Nat) : (⟨#[109, 97, 114, 107, 32]⟩ : ByteArray) ++ ⟨(natT 10 n).toArray⟩ = mkS n := by
  unfold mkS
  apply ByteArray.ext
  rw [ByteArray.data_append]
  simp
theorem retS {a b : ByteArray} (h : a = b) : Ending.returned (.string a) = .returned (.string b) := by rw [h]
set_option maxHeartbeats 1000000 in
theorem markT_any (n : Nat) (hn : n ≤ 9223372036854775807) (w : World) :
    Calls Tryz.prog 66 #[.int .i64 n] w fun e w' => e = .returned (.string (mkS n)) ∧ Below w.heap.size w w' := by
  have HN := hid (fun W => rNumber_nat 10 (by omega) (by omega) n W hn)
  have hl := natT_le (b := 10) (u := n) (by omega) (by omega)
  have hsz : (ByteArray.mk (natT 10 n).toArray).size = (natT 10 n).length := by show (natT 10 n).toArray.size = _; simp
  have hx : ¬ (9223372036854775807 < 5 + (natT 10 n).length) := by omega
  have HM := hid (mkS_app n)
  generalize (ByteArray.mk (natT 10 n).toArray) = nb at *
  have hx2 : ¬ (9223372036854775807 < 5 + nb.size) := by rw [hsz]; exact hx
  clear hsz hx hl hn
  go_enter Tryz.func66, Tryz.ntmps66
  go_wp2_with (go_at_call 126; refine (HN.out _).mono ?_; rintro e w1 ⟨rfl, hb1⟩)
  go_ret
  exact ⟨retS HM.out, hb1⟩
end Go.Proofs.YtbiggccolpchcaaGreatDoor.Bn

/- A book of any number of lists: a list of texts is kept. -/
namespace Go.Proofs.YtbiggccolpchcaaGreatDoor.Bn
open Go.RowKit

theorem infoT : (Tryz.prog.info? 9).map (fun i => (i.zero, i.size, i.bytes)) = some (some (.string ⟨#[]⟩), 1, 16) := by kernel_rfl
theorem infoTT : (Tryz.prog.info? 99).map (fun i => (i.zero, i.size, i.bytes)) = some (some (.slice none 0 0), 1, 24) := by kernel_rfl
theorem take_one {cur : Array Value} {mv : Value} {k : Nat} (hs : k ≤ cur.size) (h : ∀ i, i < k → cur[i]? = some mv) : cur.toList.take (k * 1) = mrkG [mv] k := by
  apply List.ext_getElem?
  intro x
  rw [Nat.mul_one]
  by_cases hx : x < k
  · rw [List.getElem?_take_of_lt hx]
    have h1 := h x hx
    have h2 := mrkG_get [mv] k x 0 mv hx rfl
    rw [show x * [mv].length + 0 = x by simp] at h2
    rw [h2]; simpa using h1
  · rw [List.getElem?_eq_none (by simp; omega), List.getElem?_eq_none (by rw [mrkG_len]; simp; omega)]
set_option maxRecDepth 100000 in
set_option maxHeartbeats 8000000 in
theorem keepTexts_any (bk B L : Nat) (cs : Array Value) (ct : TypeId) (vs : List Value) (V l : Value) (k : Nat) (xs : List Value) (w : World)
    (hbk : w.heap[bk]? = some (.cells cs ct (0, 0))) (hcV : cs[1]? = some V) (hV : w.ownsRow B 99 1 V vs.length vs) (hvs : vs.length ≤ 5000000) (hl : w.ownsRow L 9 1 l k xs) (hk : k ≤ 1000)
    (h1 : l.ownBlock ≠ some bk) (h2 : ∀ r, V.ownBlock = some r → l.ownBlock ≠ some r) (hVb : V.ownBlock ≠ some bk) (n4 : B ≤ w.heap.size) (n5 : L ≤ w.heap.size) :
    Calls Tryz.prog 44 #[.pointer (some ⟨bk, 0, none⟩), l] w fun x w' => x = .returned (.tuple #[]) ∧ Kept4 bk 1 B cs ct 99 [.string (mkS vs.length)] vs V l w w' := by
  obtain ⟨i0, hi, hz0, hz1, hz2⟩ := info_parts infoT
  obtain ⟨j0, hj, jz0, jz1, jz2⟩ := info_parts infoTT
  obtain ⟨Va, Vc, rfl⟩ := owns_lenG hV
  obtain ⟨la, lc, rfl⟩ := owns_lenG hl
  have hbw := heap_lt hbk
  have hlw : ∀ r, (Value.slice la k lc).ownBlock = some r → r < w.heap.size := fun r hr => (owns_blkG hl r hr).2
  have hVw : ∀ r, (Value.slice Va vs.length Vc).ownBlock = some r → r < w.heap.size := fun r hr => (owns_blkG hV r hr).2
  have b1 : w.cell? ⟨bk, 1, none⟩ = some (.slice Va vs.length Vc) := by rw [Lib.cell_of_heap hbk]; exact hcV
  have HMT := hid (markT_any vs.length (by omega) w)
  generalize hmv : mkS vs.length = mv at *
  clear hmv
  have hone : ∀ u ∈ [Value.string mv], u.oneCell' = true := by intro u hu; rw [List.mem_singleton] at hu; subst hu; rfl
  have HBK := hid hbk
  have HV := hid hV
  have HL := hid hl
  have HCV := hid hcV
  clear hbk hV hl hcV
  go_enter Tryz.func44, Tryz.ntmps44
  go_wp2_with fail
  refine HMT.out.mono ?_
  rintro e w1 ⟨rfl, hb1⟩
  have HB1 := hid hb1
  clear hb1 HMT b1
  go_wp2_with fail
  go_loopw [5] (fun i wr => ∃ q : Nat, q ≤ k ∧ i = .int .i64 q ∧ Kx (Value.slice la k lc).ownBlock.toList w1 wr ∧ ((k = 0 ∧ wr.ownsRow L 9 1 (.slice la k lc) k []) ∨ ∃ g cur, la = some ⟨g, 0, none⟩ ∧ L ≤ g ∧ wr.heap[g]? = some (.cells cur 9 (0, 0)) ∧ k ≤ lc ∧ lc ≤ maxLen ∧ cur.size = lc * 1 ∧ ∀ i, i < q → cur[i]? = some (.string mv))) (fun i _ => k - (intOf i).toNat)
  case atStart =>
    refine ⟨0, Nat.zero_le _, rfl, Kx.refl _ _, ?_⟩
    have hl2 := owns_below HL.out HB1.out
    rcases hl2.2 with ⟨h3, h4⟩ | ⟨g, cap, cur, h3, h4, h5, h6, h7, h8, h9⟩
    · refine .inl ⟨h4, ?_⟩
      have hx0 : xs = [] := List.eq_nil_of_length_eq_zero (by rw [hl2.1, h4])
      rw [hx0] at hl2; exact hl2
    · simp only [Value.slice.injEq] at h3
      obtain ⟨rfl, _, rfl⟩ := h3
      exact .inr ⟨g, cur, rfl, h4, h5, h6, h7, h8, fun i hi => absurd hi (by omega)⟩
  case round =>
    obtain ⟨q, hq, rfl, hkx, hst⟩ := hrel
    by_cases hlt : q < k
    · rcases hst with ⟨h0, _⟩ | ⟨g, cur, rfl, hLg, hh, h3, h4, h5, h6⟩
      · omega
      · have c0 : wr.cell? ⟨g, q, none⟩ = some cur[q] := by rw [Lib.cell_of_heap hh, Array.getElem?_eq_getElem (by omega)]
        have d0 : wr.frozen? ⟨g, q, none⟩ = false := Lib.frozen_of_heap hh _
        have lg := heap_lt hh
        have HH := hid hh
        have HS := hid h5
        have H6 := hid h6
        have HK := hid hkx
        generalize cur[q] = x0 at *
        clear h6 hh h5 hkx
        go_wp2
        refine ⟨⟨q + 1, by omega, by go_num, HK.out.trans (Kx.set _ _ (by simp [Value.ownBlock])) (fun b hb => .inl hb), .inr ⟨g, _, rfl, hLg, heap_setCell_same _ g _ _ _ _ HH.out, h3, h4, by simpa using HS.out, fun i hi => ?_⟩⟩, by simp [intOf]; omega⟩
        have hcs := HS.out
        by_cases hiq : i = q
        · subst hiq
          simp [Array.getElem?_setIfInBounds]; omega
        · rw [Array.getElem?_setIfInBounds_ne (by omega)]; exact H6.out i (by omega)
    · have hqk : q = k := by omega
      subst hqk
      have hV2 := owns_kx (owns_below HV.out HB1.out) hkx (fun r hr => by rw [Option.mem_toList]; exact h2 r hr)
      have hbk2 : wr.heap[bk]? = some (.cells cs ct (0, 0)) := hkx.heap (by rw [HB1.out.block bk hbw]; exact HBK.out) (by rw [Option.mem_toList]; exact h1)
      have hkx0 : Kx (Value.slice la q lc).ownBlock.toList w wr := (Kx.of HB1.out).trans hkx (fun b hb => .inl hb)
      have z1 := hkx0.size
      have ow : wr.ownsRow L 9 1 (.slice la q lc) q (mrkG [.string mv] q) := by
        rcases hst with ⟨h0, h3⟩ | ⟨g, cur, rfl, hLg, hh, h3, h4, h5, h6⟩
        · subst h0; exact h3
        · exact ⟨by rw [mrkG_len]; simp, .inr ⟨g, lc, cur, rfl, hLg, hh, h3, h4, h5, take_one (by omega) h6⟩⟩
      have S2 : St bk L B cs ct 9 99 none [.string mv] vs (.slice Va vs.length Vc) (.slice la q lc) q w wr := ⟨ow, hbk2, hV2, hkx0, by omega, by omega, fun b hb => by cases hb⟩
      have M0 : MkG [.string mv] q la wr := by
        obtain ⟨a, c, e1, e2⟩ := mkG_of_owns ow
        simp only [Value.slice.injEq] at e1
        rw [e1.1]; exact e2
      have HVV := hid h2
      have HLW := hid hlw
      have HVW := hid hVw
      clear hst hkx hV2 hbk2 hkx0 ow HBK HV HL HB1 z1 hlw hVw
      go_wp2_with (at_builtin; refine wpList_append_marksG _ hone (by simp) rfl _ _ 99 rfl L 9 i0 _ 16 Tryz.underlying99 hi hz0 hz1 hz2 (by omega) rfl (.slice la q lc) q rfl (S2.below ((Below.refl _ _).alloc (Nat.le_refl _) _)).ow ⟨wr.heap.size, 0, none⟩ 1 1 rfl (World.news_of_block (cs := #[.string mv]) (t := 9) (fr := (0, 0)) (heap_alloc_new wr _)) (by omega) (by omega) (S2.below ((Below.refl _ _).alloc (Nat.le_refl _) _)).kS ?_)
      intro g1 p1 w3 o1 gr1 at1 lt1 ow1 mk1
      have S3 := (S2.below ((Below.refl _ _).alloc (Nat.le_refl _) _)).grown gr1 ow1 h1 HVV.out (fun b hb => by cases hb)
      have A1 : (Value.slice la q lc).ownBlock = some g1 ∨ w.heap.size ≤ g1 := by
        rcases at1 with h | h
        · exact .inl h
        · right; have := S2.kx.size; (try simp at h); omega
      have N1 : MkG [.string mv] (q + 1) (some ⟨g1, 0, none⟩) w3 := by
        obtain ⟨a, c, e1, e2⟩ := mkG_of_owns o1
        simp only [Value.slice.injEq] at e1
        rw [e1.1]; exact e2
      have M0a := mk1 _ _ (M0.below ((Below.refl _ _).alloc (Nat.le_refl _) _))
      clear gr1 at1 o1 ow1 mk1 M0
      go_wp2_with (at_builtin; refine wpList_append_marksG _ hone (by simp) rfl _ _ 99 rfl L 9 i0 _ 16 Tryz.underlying99 hi hz0 hz1 hz2 (by omega) rfl (.slice la q lc) q rfl (S3.below ((Below.refl _ _).alloc (Nat.le_refl _) _)).ow ⟨w3.heap.size, 0, none⟩ 2 2 rfl (World.news_of_block (cs := #[.string mv, .string mv]) (t := 9) (fr := (0, 0)) (heap_alloc_new w3 _)) (by omega) (by omega) (S3.below ((Below.refl _ _).alloc (Nat.le_refl _) _)).kS ?_)
      intro g2 p2 w4 o2 gr2 at2 lt2 ow2 mk2
      have S4 := (S3.below ((Below.refl _ _).alloc (Nat.le_refl _) _)).grown gr2 ow2 h1 HVV.out (fun b hb => by cases hb)
      have A2 : (Value.slice la q lc).ownBlock = some g2 ∨ w.heap.size ≤ g2 := by
        rcases at2 with h | h
        · exact .inl h
        · right; have := S3.kx.size; (try simp at h); omega
      have N2 : MkG [.string mv] (q + 2) (some ⟨g2, 0, none⟩) w4 := by
        obtain ⟨a, c, e1, e2⟩ := mkG_of_owns o2
        simp only [Value.slice.injEq] at e1
        rw [e1.1]; exact e2
      have M0b := mk2 _ _ (M0a.below ((Below.refl _ _).alloc (Nat.le_refl _) _))
      have N1b := mk2 _ _ (N1.below ((Below.refl _ _).alloc (Nat.le_refl _) _))
      have L1b : g1 < w4.heap.size := Nat.lt_of_lt_of_le lt1 (by have := gr2.size; simp at this; omega)
      clear gr2 at2 o2 ow2 mk2 M0a N1 S2
      go_wp2_with (at_builtin; refine wpList_append_marksG _ hone (by simp) rfl _ _ 99 rfl L 9 i0 _ 16 Tryz.underlying99 hi hz0 hz1 hz2 (by omega) rfl (.slice la q lc) q rfl (S4.below ((Below.refl _ _).alloc (Nat.le_refl _) _)).ow ⟨w4.heap.size, 0, none⟩ 3 3 rfl (World.news_of_block (cs := #[.string mv, .string mv, .string mv]) (t := 9) (fr := (0, 0)) (heap_alloc_new w4 _)) (by omega) (by omega) (S4.below ((Below.refl _ _).alloc (Nat.le_refl _) _)).kS ?_)
      intro g3 p3 w5 o3 gr3 at3 lt3 ow3 mk3
      have S5 := (S4.below ((Below.refl _ _).alloc (Nat.le_refl _) _)).grown gr3 ow3 h1 HVV.out (fun b hb => by cases hb)
      have A3 : (Value.slice la q lc).ownBlock = some g3 ∨ w.heap.size ≤ g3 := by
        rcases at3 with h | h
        · exact .inl h
        · right; have := S4.kx.size; (try simp at h); omega
      have N3 : MkG [.string mv] (q + 3) (some ⟨g3, 0, none⟩) w5 := by
        obtain ⟨a, c, e1, e2⟩ := mkG_of_owns o3
        simp only [Value.slice.injEq] at e1
        rw [e1.1]; exact e2
      have M0c := mk3 _ _ (M0b.below ((Below.refl _ _).alloc (Nat.le_refl _) _))
      have N1c := mk3 _ _ (N1b.below ((Below.refl _ _).alloc (Nat.le_refl _) _))
      have N2c := mk3 _ _ (N2.below ((Below.refl _ _).alloc (Nat.le_refl _) _))
      have L1c : g1 < w5.heap.size := Nat.lt_of_lt_of_le L1b (by have := gr3.size; simp at this; omega)
      have L2c : g2 < w5.heap.size := Nat.lt_of_lt_of_le lt2 (by have := gr3.size; simp at this; omega)
      clear gr3 at3 o3 ow3 mk3 M0b N1b N2 S3 S4
      have b1 : w5.cell? ⟨bk, 1, none⟩ = some (.slice Va vs.length Vc) := by rw [Lib.cell_of_heap S5.kbk]; exact HCV.out
      have lk5 := heap_lt S5.kbk
      go_wp2_with (at_builtin; refine wpList_append_lies _ rfl _ _ 28 rfl B 99 j0 _ 1 24 Tryz.underlying28 hj jz0 jz1 jz2 rfl (by omega) (.slice Va vs.length Vc) vs.length vs rfl (owns_below S5.kV ((Below.refl _ _).alloc (Nat.le_refl _) _)) ⟨w5.heap.size, 0, none⟩ 4 4 [.slice la q lc, .slice (some ⟨g1, 0, none⟩) (q + 1) p1, .slice (some ⟨g2, 0, none⟩) (q + 2) p2, .slice (some ⟨g3, 0, none⟩) (q + 3) p3] rfl rfl (World.news_of_block (cs := #[.slice la q lc, .slice (some ⟨g1, 0, none⟩) (q + 1) p1, .slice (some ⟨g2, 0, none⟩) (q + 2) p2, .slice (some ⟨g3, 0, none⟩) (q + 3) p3]) (t := 99) (fr := (0, 0)) (heap_alloc_new w5 _)) (by intro u hu; simp at hu; rcases hu with rfl | rfl | rfl | rfl <;> rfl) (by omega) (by unfold maxLen; omega) (by omega) (Nat.le_trans S5.kT (by simp)) _ rfl ?_)
      intro gV pV w7 oV grV atV ltV
      have K4 := keep_end (j := 1) S5 (by omega) h1 HVV.out hbw HLW.out HVW.out hVb A1 A2 A3 L1c L2c lt3 M0c N1c N2c N3 oV grV (by simpa using atV)
      have hA6 := (Below.refl w5.heap.size w5).alloc (Nat.le_refl _) (.cells #[.slice la q lc, .slice (some ⟨g1, 0, none⟩) (q + 1) p1, .slice (some ⟨g2, 0, none⟩) (q + 2) p2, .slice (some ⟨g3, 0, none⟩) (q + 3) p3] 99)
      have k7 : w7.heap[bk]? = some (.cells cs ct (0, 0)) := by
        rw [grV.block bk (Nat.lt_of_lt_of_le lk5 hA6.size) (fun e => hVb e.symm), hA6.block bk lk5]; exact S5.kbk
      have c7 : w7.cell? ⟨bk, 1, none⟩ = some (.slice Va vs.length Vc) := by rw [Lib.cell_of_heap k7]; exact HCV.out
      have d7 : w7.frozen? ⟨bk, 1, none⟩ = false := Lib.frozen_of_heap k7 1
      have l7 := heap_lt k7
      have HK4 := hid K4
      clear K4 S5 oV grV atV ltV k7 hA6 M0c N1c N2c N3
      go_wp2
      refine bodyPost_end (v := .tuple #[]) (by simp [results, Tryz.results44, go_sem]) rfl ?_
      exact ⟨rfl, HK4.out⟩
end Go.Proofs.YtbiggccolpchcaaGreatDoor.Bn
