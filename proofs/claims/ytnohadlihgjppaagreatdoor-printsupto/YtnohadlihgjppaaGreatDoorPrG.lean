/- The program's writeChunks: a body told in chunks; nothing old in memory turns but the Builder. -/
import Derived.Test.YtnohadlihgjppaaGreatDoorPrF
namespace Go.Proofs.YtnohadlihgjppaaGreatDoor
open Go.RowKit

theorem ch_next {zs : List Int} {k zn : Nat} {b : List UInt8} (hk : k < zs.length) (hz : zs[k] = (zn : Int)) : chL (zs.drop k) b = natT 16 zn ++ [13, 10] ++ b.take zn ++ [13, 10] ++ chL (zs.drop (k + 1)) (b.drop zn) := by
  rw [List.drop_eq_getElem_cons hk, chL, hz]
  have : numT 16 (zn : Int) = natT 16 zn := by unfold numT; rw [if_neg (by omega)]; rfl
  rw [this]; rfl
theorem ok_next {zs : List Int} {k : Nat} {n : Int} (hk : k < zs.length) (h : sizesOk (zs.drop k) n = true) : 1 ≤ zs[k] ∧ zs[k] ≤ n ∧ sizesOk (zs.drop (k + 1)) (n - zs[k]) = true := by
  rw [List.drop_eq_getElem_cons hk, sizesOk] at h
  split at h
  · cases h
  · rename_i hc; exact ⟨by omega, by omega, h⟩
set_option maxHeartbeats 400000 in
theorem wstr_any (B g : Nat) (l : List UInt8) (s : ByteArray) (w : World) (h : BuAt B g l w) (hl : l.length + s.size ≤ 140737488355328) (hB : B ≤ w.heap.size) :
    Calls Tryz.prog 47 #[.pointer (some ⟨g, 0, none⟩), .string s] w fun e w' => (∃ n : Int, e = .returned (.tuple #[.int .i64 n, .nilIface])) ∧ BuAt B g (l ++ s.data.toList) w' ∧ Below B w w' := by
  refine (Tryz.Builder_WriteString _ _ _ s _ h (by rw [bcells_len]; exact hl) hB).mono ?_
  rintro e w' ⟨rfl, h1, h2⟩
  exact ⟨⟨_, rfl⟩, bu_next h1, h2⟩
set_option maxRecDepth 100000 in
set_option maxHeartbeats 1000000 in
theorem writeChunks_any (B g : Nat) (l : List UInt8) (body : ByteArray) (zs : List Int) (a : Option Addr) (ca : Nat) (w : World) (h : BuAt B g l w) (hB : B ≤ w.heap.size) (hz : ∀ W, Below B w W → ZoAt zs a W) (ht : ∀ W, Below B w W → W.cell? ⟨5, 15, none⟩ = some (.int .u8 4))
    (hn : zs.length ≤ 1000000000) (hb : body.size ≤ 1000000000) (hl : l.length ≤ 1000000000000) (hok : sizesOk zs body.size = true) :
    Calls Tryz.prog 51 #[.pointer (some ⟨g, 0, none⟩), .string body, .slice a zs.length ca] w fun e w' => e = .returned (.tuple #[]) ∧ BuAt B g (l ++ chL zs body.data.toList) w' ∧ Below B w w' := by
  have HZ := hid hz
  have HT := hid ht
  have J0 : Hid (BuAt B g l w ∧ Below B w w) := ⟨h, Below.refl _ _⟩
  have HO := hid hok
  clear hz ht h hok
  go_enter Tryz.func51, Tryz.ntmps51
  go_wp2_with fail
  go_loopw [1, 7, 10] (fun b _ i wr => ∃ (k : Nat) (bs : ByteArray) (cur : List UInt8), k ≤ zs.length ∧ i = .int .i64 k ∧ b = .string bs ∧ bs.size ≤ body.size ∧ cur.length ≤ l.length + 69 * k + (body.size - bs.size) ∧ Hid (sizesOk (zs.drop k) bs.size = true ∧ l ++ chL zs body.data.toList = cur ++ chL (zs.drop k) bs.data.toList) ∧ Hid (BuAt B g cur wr ∧ Below B w wr)) (fun _ _ i _ => zs.length - (intOf i).toNat)
  case atStart => exact ⟨0, body, l, Nat.zero_le _, rfl, rfl, Nat.le_refl _, by omega, ⟨HO.out, rfl⟩, J0.out⟩
  case round =>
    clear J0 HO
    obtain ⟨k, bs, cur, hk, rfl, rfl, hbz, hcz, H, I⟩ := hrel
    by_cases hlt : k < zs.length
    · obtain ⟨go, o, rfl, hg, hc⟩ := HZ.out _ I.out.2 k hlt
      obtain ⟨z1, z2, z3⟩ := ok_next hlt H.out.1
      obtain ⟨zn, hzn⟩ : ∃ zn : Nat, zs[k] = (zn : Int) := ⟨zs[k].toNat, by omega⟩
      have HE := hid (H.out.2.trans (congrArg (cur ++ ·) (ch_next (b := bs.data.toList) hlt hzn)))
      rw [hzn] at hc z1 z2 z3
      have hlen := natT_le (b := 16) (u := zn) (by omega) (by omega)
      have HX := hid (fun W hW => format16_any zn (by omega) W (HT.out W hW))
      generalize hx : (⟨(natT 16 zn).toArray⟩ : ByteArray) = x at *
      have hxd : x.data.toList = natT 16 zn := by rw [← hx]
      have hxz : x.size ≤ 64 := by
        have : x.data.toList.length = x.size := by simp
        rw [hxd] at this; omega
      rw [← hxd] at HE
      have sB := I.out.2.size
      have hB1 := I.out.2
      have bu1 := I.out.1
      clear hx hxd hlen I H hzn
      go_wp2_with fail
      refine (HX.out _ hB1).mono ?_
      rintro e w1 ⟨rfl, hb1⟩
      have bu2 := bu_below bu1 hb1
      have hB2 : Below B w w1 := hB1.trans (hb1.mono (by omega))
      have s1 := hb1.size
      clear bu1 hB1 hb1 hc hg
      go_wp2_with fail
      refine (wstr_any B g cur x _ bu2 (by omega) (by omega)).mono ?_
      rintro e w2 ⟨⟨n2, rfl⟩, bu3, hb2⟩
      have hB3 := hB2.trans hb2
      have s2 := hb2.size
      have l3 : (cur ++ x.data.toList).length = cur.length + x.size := by simp
      clear bu2 hB2 hb2
      go_wp2_with fail
      refine (wstr_any B g _ ⟨#[13, 10]⟩ _ bu3 (show _ + 2 ≤ _ by omega) (by omega)).mono ?_
      rintro e w3 ⟨⟨n3, rfl⟩, bu4, hb3⟩
      have hB4 := hB3.trans hb3
      have s3 := hb3.size
      have l4 : (cur ++ x.data.toList ++ (⟨#[13, 10]⟩ : ByteArray).data.toList).length = cur.length + x.size + 2 := by rw [List.length_append, l3]; rfl
      clear bu3 hB3 hb3 l3
      have y1 : (zn : Int) ≤ (bs.size : Int) := z2
      have y0 : (0 : Int) ≤ (zn : Int) := by omega
      have q1 : (bs.extract 0 zn).size = zn := by simp; omega
      have q2 : (bs.extract 0 zn).data.toList = bs.data.toList.take zn := by rw [Lib.extract_data]; simp
      have q3 : (bs.extract zn bs.size).data.toList = bs.data.toList.drop zn := by rw [Lib.extract_data, List.take_of_length_le (by simp)]
      have q4 : (bs.extract zn bs.size).size = bs.size - zn := by simp
      have Q2 := hid q2
      have Q3 := hid q3
      clear q2 q3
      go_wp2_with fail
      refine (wstr_any B g _ (bs.extract 0 zn) _ bu4 (by omega) (by omega)).mono ?_
      rintro e w4 ⟨⟨n4, rfl⟩, bu5, hb4⟩
      have hB5 := hB4.trans hb4
      have s4 := hb4.size
      have l5 : (cur ++ x.data.toList ++ (⟨#[13, 10]⟩ : ByteArray).data.toList ++ (bs.extract 0 zn).data.toList).length = cur.length + x.size + 2 + zn := by rw [List.length_append, l4]; simp; omega
      clear bu4 hB4 hb4 l4
      go_wp2_with fail
      refine (wstr_any B g _ ⟨#[13, 10]⟩ _ bu5 (show _ + 2 ≤ _ by omega) (by omega)).mono ?_
      rintro e w5 ⟨⟨n5, rfl⟩, bu6, hb5⟩
      have hB6 := hB5.trans hb5
      have l6 : (cur ++ x.data.toList ++ (⟨#[13, 10]⟩ : ByteArray).data.toList ++ (bs.extract 0 zn).data.toList ++ (⟨#[13, 10]⟩ : ByteArray).data.toList).length = cur.length + x.size + 2 + zn + 2 := by rw [List.length_append, l5]; rfl
      have J6 : Hid (BuAt B g (cur ++ x.data.toList ++ (⟨#[13, 10]⟩ : ByteArray).data.toList ++ (bs.extract 0 zn).data.toList ++ (⟨#[13, 10]⟩ : ByteArray).data.toList) w5 ∧ Below B w w5) := ⟨bu6, hB6⟩
      have HF : Hid (sizesOk (zs.drop (k + 1)) ((bs.extract zn bs.size).size : Int) = true ∧ l ++ chL zs body.data.toList = (cur ++ x.data.toList ++ (⟨#[13, 10]⟩ : ByteArray).data.toList ++ (bs.extract 0 zn).data.toList ++ (⟨#[13, 10]⟩ : ByteArray).data.toList) ++ chL (zs.drop (k + 1)) (bs.extract zn bs.size).data.toList) := by
        refine ⟨?_, ?_⟩
        · rw [q4, show ((bs.size - zn : Nat) : Int) = (bs.size : Int) - (zn : Int) from by omega]; exact z3
        · rw [HE.out, Q2.out, Q3.out]; simp [List.append_assoc]
      clear bu5 hB5 hb5 l5 bu6 hB6
      generalize cur ++ x.data.toList ++ (⟨#[13, 10]⟩ : ByteArray).data.toList ++ (bs.extract 0 zn).data.toList ++ (⟨#[13, 10]⟩ : ByteArray).data.toList = nxt at *
      go_wp2
      refine ⟨⟨k + 1, bs.extract zn bs.size, nxt, by omega, by go_num, rfl, by omega, by omega, HF.out, J6.out⟩, by simp [intOf]; omega⟩
    · have HE : Hid (l ++ chL zs body.data.toList = cur ++ endC) := by
        unfold Hid; rw [H.out.2, List.drop_eq_nil_of_le (by omega)]; rfl
      have sB := I.out.2.size
      have hB1 := I.out.2
      have bu1 := I.out.1
      clear I H
      go_wp2_with fail
      refine (wstr_any B g cur ⟨#[48, 13, 10, 13, 10]⟩ _ bu1 (show _ + 5 ≤ _ by omega) (by omega)).mono ?_
      rintro e w1 ⟨⟨n1, rfl⟩, bu2, hb1⟩
      have BF : Hid (BuAt B g (l ++ chL zs body.data.toList) w1 ∧ Below B w w1) := ⟨by rw [HE.out]; exact bu2, hB1.trans hb1⟩
      clear bu1 bu2 hB1 hb1
      go_wp2
      refine bodyPost_end (v := .tuple #[]) (by simp [results, Tryz.results51, go_sem]) rfl ?_
      exact ⟨rfl, BF.out.1, BF.out.2⟩
end Go.Proofs.YtnohadlihgjppaaGreatDoor
