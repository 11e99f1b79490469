/- Texts that follow one another, joined. -/
import Derived.Test.YtaekbmfcnkpelaaGreatDoorJoin23
import Derived.Test.YtaekbmfcnkpelaaGreatDoorJoin25
import Derived.Test.YtaekbmfcnkpelaaGreatDoorJoin21
import Derived.Test.YtaekbmfcnkpelaaGreatDoorJoin22
/- The walk of porterkeep's sized; nothing old in memory turns. -/
namespace Go.Proofs.YtaekbmfcnkpelaaGreatDoor
open Go.RowKit

theorem ZoAt.of_owns {w : World} {B : Nat} {e : TypeId} {v : Value} {n : Nat} {l : List Int} (h : w.ownsRow B e 1 v n (l.map (Value.int .i64))) : ∃ a cap, v = .slice a l.length cap ∧ ZoAt l a w := by
  obtain ⟨h1, h2⟩ := h
  simp at h1
  rcases h2 with ⟨rfl, hn⟩ | ⟨g, cap, cur, rfl, _, hg, _, _, _, hc⟩
  · have hl : l = [] := List.eq_nil_of_length_eq_zero (by omega)
    subst hl
    exact ⟨none, 0, rfl, fun i hi => absurd hi (by simp)⟩
  · refine ⟨some ⟨g, 0, none⟩, cap, by rw [h1], fun i hi => ⟨g, 0, rfl, (Array.getElem?_eq_some_iff.1 hg).1, ?_⟩⟩
    rw [Lib.cell_of_heap hg]
    have h3 : (l.map (Value.int .i64))[i]? = some (.int .i64 l[i]) := by simp [List.getElem?_map, List.getElem?_eq_getElem hi]
    rw [← hc, List.getElem?_take_of_lt (by omega)] at h3
    simpa using h3
set_option maxRecDepth 100000 in
set_option maxHeartbeats 1000000 in
theorem sized_any (zs : List Int) (b : Option Addr) (cb n : Nat) (w : World) (hzo : ZoAt zs b w) (hl : zs.length ≤ maxLen) (hn : n ≤ 1000) (hz : ∀ i (h : i < zs.length), -9223372036854775808 ≤ zs[i] ∧ zs[i] ≤ 9223372036854775807) :
    Calls Tryz.prog 13 #[.slice b zs.length cb, .int .i64 n] w fun e w' => (∃ b' cb', e = .returned (.slice b' (sizedL zs n).length cb') ∧ ZoAt (sizedL zs n) b' w') ∧ Below w.heap.size w w' := by
  obtain ⟨i0, hi, hz0, hz1, hz2⟩ := info_parts infoInt
  have HZ := hid hz
  have HO := hid hzo
  unfold maxLen at hl
  clear hz hzo
  go_enter Tryz.func13, Tryz.ntmps13
  go_wp2
  go_loopw [1, 5, 6, 7] (fun m v i _ wr => ∃ (k left : Nat) (P : List Int), k ≤ zs.length ∧ k + left ≤ n ∧ P.length = k ∧ m = .int .i64 left ∧ i = .int .i64 k ∧ Hid (sizedL zs n = P ++ sizedL (zs.drop k) left) ∧ wr.ownsRow w.heap.size 3 1 v k (P.map (Value.int .i64)) ∧ Below w.heap.size w wr) (fun _ _ i _ _ => zs.length - (intOf i).toNat)
  case atStart => exact ⟨0, n, [], Nat.zero_le _, by omega, rfl, rfl, rfl, rfl, World.ownsRow_nil _ _ _ _, Below.refl _ _⟩
  case round =>
    obtain ⟨k, left, P, hk, hkl, hP, rfl, rfl, HE, hown, hbw⟩ := hrel
    by_cases hlt : k < zs.length ∧ 0 < left
    · obtain ⟨hl1, hl2⟩ := hlt
      obtain ⟨g, o, rfl, hg, hc1⟩ := (HO.out.below hbw) k hl1
      obtain ⟨z1, z2⟩ := HZ.out k hl1
      have HPK := hid (fun W => pick_any zs[k] (left : Nat) W z1 z2 (by omega) (by omega))
      obtain ⟨p1, p2⟩ := pickS_bd zs[k] (left : Nat) (by omega)
      obtain ⟨pk, hpk⟩ : ∃ pk : Nat, pickS zs[k] (left : Nat) = pk := ⟨(pickS zs[k] (left : Nat)).toNat, by omega⟩
      have HX : Hid (sizedL zs n = (P ++ [(pk : Int) + 1]) ++ sizedL (zs.drop (k + 1)) ((left - (pk + 1) : Nat) : Int)) := by
        have h1 := sized_next zs k left hl1 (by omega)
        rw [show pickN zs[k] (left : Int) = (pk : Int) from hpk] at h1
        unfold Hid
        rw [HE.out, h1, List.append_assoc, show ((left - (pk + 1) : Nat) : Int) = (left : Int) - ((pk : Int) + 1) from by omega]; rfl
      rw [hpk] at HPK p2
      have hbs := hbw.size
      generalize zs[k] = z at *
      clear HE z1 z2 hpk p1
      have hw3 : wrap64 ((left : Int) - ((pk : Int) + 1)) = ((left - (pk + 1) : Nat) : Int) := by unfold wrap64; omega
      go_wp2_with fail
      refine (HPK.out _).mono ?_
      rintro e w1 ⟨rfl, hw1⟩
      subst hw1
      clear HPK
      go_wp2_with (at_builtin; refine wpList_append_own _ rfl _ _ 25 rfl w.heap.size 3 i0 (.int .i64 0) 1 8 Tryz.underlying25 hi hz0 hz1 hz2 rfl (by decide) _ _ _ rfl (hown.alloc _) ⟨w1.heap.size, 0, none⟩ 1 1 [.int .i64 ((pk : Int) + 1)] rfl rfl ?c1 ?c2 ?c3 ?c4 ?c5 ?_)
      case c1 =>
        intro j u hj
        match j, hj with
        | 0, hj => simp at hj; subst hj; simp [Addr.add]
      case c2 => intro u hu; simp at hu; subst hu; rfl
      case c3 => unfold maxLen; omega
      case c4 => omega
      case c5 => have := hbw.size; simp; omega
      intro v' w2 hown' hgrow _
      have hb3 : Below w.heap.size w w2 := (hbw.alloc hbw.size _).grown hgrow (by have := hbw.size; simp; omega) (own_ge hown)
      clear hgrow
      go_wp2
      refine ⟨⟨k + 1, left - (pk + 1), P ++ [(pk : Int) + 1], by omega, by omega, by simp [hP], by go_num, by go_num, HX, ?_, hb3⟩, by simp [intOf]; omega⟩
      rw [List.map_append]
      exact hown'
    · by_cases h0 : 0 < left
      · have hkz : ¬ k < zs.length := fun h => hlt ⟨h, h0⟩
        have HX : Hid (sizedL zs n = P ++ [(left : Int)]) := by
          unfold Hid; rw [HE.out, List.drop_eq_nil_of_le (by omega), sizedL, if_pos (by omega)]
        have hbs := hbw.size
        clear HE
        go_wp2_with (at_builtin; refine wpList_append_own _ rfl _ _ 25 rfl w.heap.size 3 i0 (.int .i64 0) 1 8 Tryz.underlying25 hi hz0 hz1 hz2 rfl (by decide) _ _ _ rfl (hown.alloc _) ⟨wr.heap.size, 0, none⟩ 1 1 [.int .i64 (left : Int)] rfl rfl ?c1 ?c2 ?c3 ?c4 ?c5 ?_)
        case c1 =>
          intro j u hj
          match j, hj with
          | 0, hj => simp at hj; subst hj; simp [Addr.add]
        case c2 => intro u hu; simp at hu; subst hu; rfl
        case c3 => unfold maxLen; omega
        case c4 => omega
        case c5 => have := hbw.size; simp; omega
        intro v' w2 hown' hgrow _
        have hb3 : Below w.heap.size w w2 := (hbw.alloc hbw.size _).grown hgrow (by have := hbw.size; simp; omega) (own_ge hown)
        have hown2 : w2.ownsRow w.heap.size 3 1 v' (k + 1) ((sizedL zs n).map (Value.int .i64)) := by rw [HX.out, List.map_append]; exact hown'
        clear hgrow hown'
        obtain ⟨a', c', rfl, hzo⟩ := ZoAt.of_owns hown2
        go_wp2
        go_ret
        exact ⟨⟨a', c', rfl, hzo⟩, hb3⟩
      · have HX : Hid (sizedL zs n = P) := by
          unfold Hid; rw [HE.out, sized_zero _ _ (by omega), List.append_nil]
        clear HE
        rw [← HX.out] at hown
        obtain ⟨a', c', rfl, hzo⟩ := ZoAt.of_owns hown
        by_cases h1 : k < zs.length
        · go_wp2
          go_ret
          exact ⟨⟨a', c', rfl, hzo⟩, hbw⟩
        · go_wp2
          go_ret
          exact ⟨⟨a', c', rfl, hzo⟩, hbw⟩
end Go.Proofs.YtaekbmfcnkpelaaGreatDoor

/- The program's writeChunks: a body told in chunks; nothing old in memory turns but the Builder. -/
namespace Go.Proofs.YtaekbmfcnkpelaaGreatDoor
open Go.RowKit

theorem ch_next {zs : List Int} {k zn : Nat} {b : List UInt8} (hk : k < zs.length) (hz : zs[k] = (zn : Int)) : chL (zs.drop k) b = natT 16 zn ++ [13, 10] ++ b.take zn ++ [13, 10] ++ chL (zs.drop (k + 1)) (b.drop zn) := by
  rw [List.drop_eq_getElem_cons hk, chL, hz]
  have : numT 16 (zn : Int) = natT 16 zn := by unfold numT; rw [if_neg (by omega)]; rfl
  rw [this]; rfl
theorem ok_next {zs : List Int} {k : Nat} {n : Int} (hk : k < zs.length) (h : sizesOk (zs.drop k) n = true) : 1 ≤ zs[k] ∧ zs[k] ≤ n ∧ sizesOk (zs.drop (k + 1)) (n - zs[k]) = true := by
  rw [List.drop_eq_getElem_cons hk, sizesOk] at h
  split at h
  · cases h
  · rename_i hc; exact ⟨by omega, by omega, h⟩
set_option maxHeartbeats 400000 in
theorem wstr_any (B g : Nat) (l : List UInt8) (s : ByteArray) (w : World) (h : BuAt B g l w) (hl : l.length + s.size ≤ 140737488355328) (hB : B ≤ w.heap.size) :
    Calls Tryz.prog 21 #[.pointer (some ⟨g, 0, none⟩), .string s] w fun e w' => (∃ n : Int, e = .returned (.tuple #[.int .i64 n, .nilIface])) ∧ BuAt B g (l ++ s.data.toList) w' ∧ Below B w w' := by
  refine (Tryz.Builder_WriteString _ _ _ s _ h (by rw [bcells_len]; exact hl) hB).mono ?_
  rintro e w' ⟨rfl, h1, h2⟩
  exact ⟨⟨_, rfl⟩, bu_next h1, h2⟩
set_option maxRecDepth 100000 in
set_option maxHeartbeats 1000000 in
theorem writeChunks_any (B g : Nat) (l : List UInt8) (body : ByteArray) (zs : List Int) (a : Option Addr) (ca : Nat) (w : World) (h : BuAt B g l w) (hB : B ≤ w.heap.size) (hz : ∀ W, Below B w W → ZoAt zs a W) (ht : ∀ W, Below B w W → W.cell? ⟨6, 15, none⟩ = some (.int .u8 4))
    (hn : zs.length ≤ 1000000000) (hb : body.size ≤ 1000000000) (hl : l.length ≤ 1000000000000) (hok : sizesOk zs body.size = true) :
    Calls Tryz.prog 25 #[.pointer (some ⟨g, 0, none⟩), .string body, .slice a zs.length ca] w fun e w' => e = .returned (.tuple #[]) ∧ BuAt B g (l ++ chL zs body.data.toList) w' ∧ Below B w w' := by
  have HZ := hid hz
  have HT := hid ht
  have J0 : Hid (BuAt B g l w ∧ Below B w w) := ⟨h, Below.refl _ _⟩
  have HO := hid hok
  clear hz ht h hok
  go_enter Tryz.func25, Tryz.ntmps25
  go_wp2_with fail
  go_loopw [1, 7, 10] (fun b _ i wr => ∃ (k : Nat) (bs : ByteArray) (cur : List UInt8), k ≤ zs.length ∧ i = .int .i64 k ∧ b = .string bs ∧ bs.size ≤ body.size ∧ cur.length ≤ l.length + 69 * k + (body.size - bs.size) ∧ Hid (sizesOk (zs.drop k) bs.size = true ∧ l ++ chL zs body.data.toList = cur ++ chL (zs.drop k) bs.data.toList) ∧ Hid (BuAt B g cur wr ∧ Below B w wr)) (fun _ _ i _ => zs.length - (intOf i).toNat)
  case atStart => exact ⟨0, body, l, Nat.zero_le _, rfl, rfl, Nat.le_refl _, by omega, ⟨HO.out, rfl⟩, J0.out⟩
  case round =>
    clear J0 HO
    obtain ⟨k, bs, cur, hk, rfl, rfl, hbz, hcz, H, I⟩ := hrel
    by_cases hlt : k < zs.length
    · obtain ⟨go, o, rfl, hg, hc⟩ := HZ.out _ I.out.2 k hlt
      obtain ⟨z1, z2, z3⟩ := ok_next hlt H.out.1
      obtain ⟨zn, hzn⟩ : ∃ zn : Nat, zs[k] = (zn : Int) := ⟨zs[k].toNat, by omega⟩
      have HE := hid (H.out.2.trans (congrArg (cur ++ ·) (ch_next (b := bs.data.toList) hlt hzn)))
      rw [hzn] at hc z1 z2 z3
      have hlen := natT_le (b := 16) (u := zn) (by omega) (by omega)
      have HX := hid (fun W hW => format16_any zn (by omega) W (HT.out W hW))
      generalize hx : (⟨(natT 16 zn).toArray⟩ : ByteArray) = x at *
      have hxd : x.data.toList = natT 16 zn := by rw [← hx]
      have hxz : x.size ≤ 64 := by
        have : x.data.toList.length = x.size := by simp
        rw [hxd] at this; omega
      rw [← hxd] at HE
      have sB := I.out.2.size
      have hB1 := I.out.2
      have bu1 := I.out.1
      clear hx hxd hlen I H hzn
      go_wp2_with fail
      refine (HX.out _ hB1).mono ?_
      rintro e w1 ⟨rfl, hb1⟩
      have bu2 := bu_below bu1 hb1
      have hB2 : Below B w w1 := hB1.trans (hb1.mono (by omega))
      have s1 := hb1.size
      clear bu1 hB1 hb1 hc hg
      go_wp2_with fail
      refine (wstr_any B g cur x _ bu2 (by omega) (by omega)).mono ?_
      rintro e w2 ⟨⟨n2, rfl⟩, bu3, hb2⟩
      have hB3 := hB2.trans hb2
      have s2 := hb2.size
      have l3 : (cur ++ x.data.toList).length = cur.length + x.size := by simp
      clear bu2 hB2 hb2
      go_wp2_with fail
      refine (wstr_any B g _ ⟨#[13, 10]⟩ _ bu3 (show _ + 2 ≤ _ by omega) (by omega)).mono ?_
      rintro e w3 ⟨⟨n3, rfl⟩, bu4, hb3⟩
      have hB4 := hB3.trans hb3
      have s3 := hb3.size
      have l4 : (cur ++ x.data.toList ++ (⟨#[13, 10]⟩ : ByteArray).data.toList).length = cur.length + x.size + 2 := by rw [List.length_append, l3]; rfl
      clear bu3 hB3 hb3 l3
      have y1 : (zn : Int) ≤ (bs.size : Int) := z2
      have y0 : (0 : Int) ≤ (zn : Int) := by omega
      have q1 : (bs.extract 0 zn).size = zn := by simp; omega
      have q2 : (bs.extract 0 zn).data.toList = bs.data.toList.take zn := by rw [Lib.extract_data]; simp
      have q3 : (bs.extract zn bs.size).data.toList = bs.data.toList.drop zn := by rw [Lib.extract_data, List.take_of_length_le (by simp)]
      have q4 : (bs.extract zn bs.size).size = bs.size - zn := by simp
      have Q2 := hid q2
      have Q3 := hid q3
      clear q2 q3
      go_wp2_with fail
      refine (wstr_any B g _ (bs.extract 0 zn) _ bu4 (by omega) (by omega)).mono ?_
      rintro e w4 ⟨⟨n4, rfl⟩, bu5, hb4⟩
      have hB5 := hB4.trans hb4
      have s4 := hb4.size
      have l5 : (cur ++ x.data.toList ++ (⟨#[13, 10]⟩ : ByteArray).data.toList ++ (bs.extract 0 zn).data.toList).length = cur.length + x.size + 2 + zn := by rw [List.length_append, l4]; simp; omega
      clear bu4 hB4 hb4 l4
      go_wp2_with fail
      refine (wstr_any B g _ ⟨#[13, 10]⟩ _ bu5 (show _ + 2 ≤ _ by omega) (by omega)).mono ?_
      rintro e w5 ⟨⟨n5, rfl⟩, bu6, hb5⟩
      have hB6 := hB5.trans hb5
      have l6 : (cur ++ x.data.toList ++ (⟨#[13, 10]⟩ : ByteArray).data.toList ++ (bs.extract 0 zn).data.toList ++ (⟨#[13, 10]⟩ : ByteArray).data.toList).length = cur.length + x.size + 2 + zn + 2 := by rw [List.length_append, l5]; rfl
      have J6 : Hid (BuAt B g (cur ++ x.data.toList ++ (⟨#[13, 10]⟩ : ByteArray).data.toList ++ (bs.extract 0 zn).data.toList ++ (⟨#[13, 10]⟩ : ByteArray).data.toList) w5 ∧ Below B w w5) := ⟨bu6, hB6⟩
      have HF : Hid (sizesOk (zs.drop (k + 1)) ((bs.extract zn bs.size).size : Int) = true ∧ l ++ chL zs body.data.toList = (cur ++ x.data.toList ++ (⟨#[13, 10]⟩ : ByteArray).data.toList ++ (bs.extract 0 zn).data.toList ++ (⟨#[13, 10]⟩ : ByteArray).data.toList) ++ chL (zs.drop (k + 1)) (bs.extract zn bs.size).data.toList) := by
        refine ⟨?_, ?_⟩
        · rw [q4, show ((bs.size - zn : Nat) : Int) = (bs.size : Int) - (zn : Int) from by omega]; exact z3
        · rw [HE.out, Q2.out, Q3.out]; simp [List.append_assoc]
      clear bu5 hB5 hb5 l5 bu6 hB6
      generalize cur ++ x.data.toList ++ (⟨#[13, 10]⟩ : ByteArray).data.toList ++ (bs.extract 0 zn).data.toList ++ (⟨#[13, 10]⟩ : ByteArray).data.toList = nxt at *
      go_wp2
      refine ⟨⟨k + 1, bs.extract zn bs.size, nxt, by omega, by go_num, rfl, by omega, by omega, HF.out, J6.out⟩, by simp [intOf]; omega⟩
    · have HE : Hid (l ++ chL zs body.data.toList = cur ++ endC) := by
        unfold Hid; rw [H.out.2, List.drop_eq_nil_of_le (by omega)]; rfl
      have sB := I.out.2.size
      have hB1 := I.out.2
      have bu1 := I.out.1
      clear I H
      go_wp2_with fail
      refine (wstr_any B g cur ⟨#[48, 13, 10, 13, 10]⟩ _ bu1 (show _ + 5 ≤ _ by omega) (by omega)).mono ?_
      rintro e w1 ⟨⟨n1, rfl⟩, bu2, hb1⟩
      have BF : Hid (BuAt B g (l ++ chL zs body.data.toList) w1 ∧ Below B w w1) := ⟨by rw [HE.out]; exact bu2, hB1.trans hb1⟩
      clear bu1 bu2 hB1 hb1
      go_wp2
      refine bodyPost_end (v := .tuple #[]) (by simp [results, Tryz.results25, go_sem]) rfl ?_
      exact ⟨rfl, BF.out.1, BF.out.2⟩
end Go.Proofs.YtaekbmfcnkpelaaGreatDoor
