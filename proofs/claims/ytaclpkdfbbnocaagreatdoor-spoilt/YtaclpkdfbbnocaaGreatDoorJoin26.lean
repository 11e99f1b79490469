/- Texts that follow one another, joined. -/
import Derived.Test.YtaclpkdfbbnocaaGreatDoorJoin22
/- The program's writeChunks: a body told in chunks; nothing old in memory turns but the Builder. -/
namespace Go.Proofs.YtaclpkdfbbnocaaGreatDoor
open Go.RowKit

theorem ch_next {zs : List Int} {k zn : Nat} {b : List UInt8} (hk : k < zs.length) (hz : zs[k] = (zn : Int)) : chL (zs.drop k) b = natT 16 zn ++ [13, 10] ++ b.take zn ++ [13, 10] ++ chL (zs.drop (k + 1)) (b.drop zn) := by
  rw [List.drop_eq_getElem_cons hk, chL, hz]
  have : numT 16 (zn : Int) = natT 16 zn := by unfold numT; rw [if_neg (by omega)]; rfl
  rw [this]; rfl
theorem ok_next {zs : List Int} {k : Nat} {n : Int} (hk : k < zs.length) (h : sizesOk (zs.drop k) n = true) : 1 ≤ zs[k] ∧ zs[k] ≤ n ∧ sizesOk (zs.drop (k + 1)) (n - zs[k]) = true := by
  rw [List.drop_eq_getElem_cons hk, sizesOk] at h
  split at h
  · cases h
  · rename_i hc; exact ⟨by omega, by omega, h⟩
set_option maxHeartbeats 400000 in
theorem wstr_any (B g : Nat) (l : List UInt8) (s : ByteArray) (w : World) (h : BuAt B g l w) (hl : l.length + s.size ≤ 140737488355328) (hB : B ≤ w.heap.size) :
    Calls Tryz.prog 22 #[.pointer (some ⟨g, 0, none⟩), .string s] w fun e w' => (∃ n : Int, e = .returned (.tuple #[.int .i64 n, .nilIface])) ∧ BuAt B g (l ++ s.data.toList) w' ∧ Below B w w' := by
  refine (Tryz.Builder_WriteString _ _ _ s _ h (by rw [bcells_len]; exact hl) hB).mono ?_
  rintro e w' ⟨rfl, h1, h2⟩
  exact ⟨⟨_, rfl⟩, bu_next h1, h2⟩
set_option maxRecDepth 100000 in
set_option maxHeartbeats 1000000 in
theorem writeChunks_any (B g : Nat) (l : List UInt8) (body : ByteArray) (zs : List Int) (a : Option Addr) (ca : Nat) (w : World) (h : BuAt B g l w) (hB : B ≤ w.heap.size) (hz : ∀ W, Below B w W → ZoAt zs a W) (ht : ∀ W, Below B w W → W.cell? ⟨6, 15, none⟩ = some (.int .u8 4))
    (hn : zs.length ≤ 1000000000) (hb : body.size ≤ 1000000000) (hl : l.length ≤ 1000000000000) (hok : sizesOk zs body.size = true) :
    Calls Tryz.prog 26 #[.pointer (some ⟨g, 0, none⟩), .string body, .slice a zs.length ca] w fun e w' => e = .returned (.tuple #[]) ∧ BuAt B g (l ++ chL zs body.data.toList) w' ∧ Below B w w' := by
  have HZ := hid hz
  have HT := hid ht
  have J0 : Hid (BuAt B g l w ∧ Below B w w) := ⟨h, Below.refl _ _⟩
  have HO := hid hok
  clear hz ht h hok
  go_enter Tryz.func26, Tryz.ntmps26
  go_wp2_with fail
  go_loopw [1, 7, 10] (fun b _ i wr => ∃ (k : Nat) (bs : ByteArray) (cur : List UInt8), k ≤ zs.length ∧ i = .int .i64 k ∧ b = .string bs ∧ bs.size ≤ body.size ∧ cur.length ≤ l.length + 69 * k + (body.size - bs.size) ∧ Hid (sizesOk (zs.drop k) bs.size = true ∧ l ++ chL zs body.data.toList = cur ++ chL (zs.drop k) bs.data.toList) ∧ Hid (BuAt B g cur wr ∧ Below B w wr)) (fun _ _ i _ => zs.length - (intOf i).toNat)
  case atStart => exact ⟨0, body, l, Nat.zero_le _, rfl, rfl, Nat.le_refl _, by omega, ⟨HO.out, rfl⟩, J0.out⟩
  case round =>
    clear J0 HO
    obtain ⟨k, bs, cur, hk, rfl, rfl, hbz, hcz, H, I⟩ := hrel
    by_cases hlt : k < zs.length
    · obtain ⟨go, o, rfl, hg, hc⟩ := HZ.out _ I.out.2 k hlt
      obtain ⟨z1, z2, z3⟩ := ok_next hlt H.out.1
      obtain ⟨zn, hzn⟩ : ∃ zn : Nat, zs[k] = (zn : Int) := ⟨zs[k].toNat, by omega⟩
      have HE := hid (H.out.2.trans (congrArg (cur ++ ·) (ch_next (b := bs.data.toList) hlt hzn)))
      rw [hzn] at hc z1 z2 z3
      have hlen := natT_le (b := 16) (u := zn) (by omega) (by omega)
      have HX := hid (fun W hW => format16_any zn (by omega) W (HT.out W hW))
      generalize hx : (⟨(natT 16 zn).toArray⟩ : ByteArray) = x at *
      have hxd : x.data.toList = natT 16 zn := by rw [← hx]
      have hxz : x.size ≤ 64 := by
        have : x.data.toList.length = x.size := by simp
        rw [hxd] at this; omega
      rw [← hxd] at HE
      have sB := I.out.2.size
      have hB1 := I.out.2
      have bu1 := I.out.1
      clear hx hxd hlen I H hzn
      go_wp2_with fail
      refine (HX.out _ hB1).mono ?_
      rintro e w1 ⟨rfl, hb1⟩
      have bu2 := bu_below bu1 hb1
      have hB2 : Below B w w1 := hB1.trans (hb1.mono (by omega))
      have s1 := hb1.size
      clear bu1 hB1 hb1 hc hg
      go_wp2_with fail
      refine (wstr_any B g cur x _ bu2 (by omega) (by omega)).mono ?_
      rintro e w2 ⟨⟨n2, rfl⟩, bu3, hb2⟩
      have hB3 := hB2.trans hb2
      have s2 := hb2.size
      have l3 : (cur ++ x.data.toList).length = cur.length + x.size := by simp
      clear bu2 hB2 hb2
      go_wp2_with fail
      refine (wstr_any B g _ ⟨#[13, 10]⟩ _ bu3 (show _ + 2 ≤ _ by omega) (by omega)).mono ?_
      rintro e w3 ⟨⟨n3, rfl⟩, bu4, hb3⟩
      have hB4 := hB3.trans hb3
      have s3 := hb3.size
      have l4 : (cur ++ x.data.toList ++ (⟨#[13, 10]⟩ : ByteArray).data.toList).length = cur.length + x.size + 2 := by rw [List.length_append, l3]; rfl
      clear bu3 hB3 hb3 l3
      have y1 : (zn : Int) ≤ (bs.size : Int) := z2
      have y0 : (0 : Int) ≤ (zn : Int) := by omega
      have q1 : (bs.extract 0 zn).size = zn := by simp; omega
      have q2 : (bs.extract 0 zn).data.toList = bs.data.toList.take zn := by rw [Lib.extract_data]; simp
      have q3 : (bs.extract zn bs.size).data.toList = bs.data.toList.drop zn := by rw [Lib.extract_data, List.take_of_length_le (by simp)]
      have q4 : (bs.extract zn bs.size).size = bs.size - zn := by simp
      have Q2 := hid q2
      have Q3 := hid q3
      clear q2 q3
      go_wp2_with fail
      refine (wstr_any B g _ (bs.extract 0 zn) _ bu4 (by omega) (by omega)).mono ?_
      rintro e w4 ⟨⟨n4, rfl⟩, bu5, hb4⟩
      have hB5 := hB4.trans hb4
      have s4 := hb4.size
      have l5 : (cur ++ x.data.toList ++ (⟨#[13, 10]⟩ : ByteArray).data.toList ++ (bs.extract 0 zn).data.toList).length = cur.length + x.size + 2 + zn := by rw [List.length_append, l4]; simp; omega
      clear bu4 hB4 hb4 l4
      go_wp2_with fail
      refine (wstr_any B g _ ⟨#[13, 10]⟩ _ bu5 (show _ + 2 ≤ _ by omega) (by omega)).mono ?_
      rintro e w5 ⟨⟨n5, rfl⟩, bu6, hb5⟩
      have hB6 := hB5.trans hb5
      have l6 : (cur ++ x.data.toList ++ (⟨#[13, 10]⟩ : ByteArray).data.toList ++ (bs.extract 0 zn).data.toList ++ (⟨#[13, 10]⟩ : ByteArray).data.toList).length = cur.length + x.size + 2 + zn + 2 := by rw [List.length_append, l5]; rfl
      have J6 : Hid (BuAt B g (cur ++ x.data.toList ++ (⟨#[13, 10]⟩ : ByteArray).data.toList ++ (bs.extract 0 zn).data.toList ++ (⟨#[13, 10]⟩ : ByteArray).data.toList) w5 ∧ Below B w w5) := ⟨bu6, hB6⟩
      have HF : Hid (sizesOk (zs.drop (k + 1)) ((bs.extract zn bs.size).size : Int) = true ∧ l ++ chL zs body.data.toList = (cur ++ x.data.toList ++ (⟨#[13, 10]⟩ : ByteArray).data.toList ++ (bs.extract 0 zn).data.toList ++ (⟨#[13, 10]⟩ : ByteArray).data.toList) ++ chL (zs.drop (k + 1)) (bs.extract zn bs.size).data.toList) := by
        refine ⟨?_, ?_⟩
        · rw [q4, show ((bs.size - zn : Nat) : Int) = (bs.size : Int) - (zn : Int) from by omega]; exact z3
        · rw [HE.out, Q2.out, Q3.out]; simp [List.append_assoc]
      clear bu5 hB5 hb5 l5 bu6 hB6
      generalize cur ++ x.data.toList ++ (⟨#[13, 10]⟩ : ByteArray).data.toList ++ (bs.extract 0 zn).data.toList ++ (⟨#[13, 10]⟩ : ByteArray).data.toList = nxt at *
      go_wp2
      refine ⟨⟨k + 1, bs.extract zn bs.size, nxt, by omega, by go_num, rfl, by omega, by omega, HF.out, J6.out⟩, by simp [intOf]; omega⟩
    · have HE : Hid (l ++ chL zs body.data.toList = cur ++ endC) := by
        unfold Hid; rw [H.out.2, List.drop_eq_nil_of_le (by omega)]; rfl
      have sB := I.out.2.size
      have hB1 := I.out.2
      have bu1 := I.out.1
      clear I H
      go_wp2_with fail
      refine (wstr_any B g cur ⟨#[48, 13, 10, 13, 10]⟩ _ bu1 (show _ + 5 ≤ _ by omega) (by omega)).mono ?_
      rintro e w1 ⟨⟨n1, rfl⟩, bu2, hb1⟩
      have BF : Hid (BuAt B g (l ++ chL zs body.data.toList) w1 ∧ Below B w w1) := ⟨by rw [HE.out]; exact bu2, hB1.trans hb1⟩
      clear bu1 bu2 hB1 hb1
      go_wp2
      refine bodyPost_end (v := .tuple #[]) (by simp [results, Tryz.results26, go_sem]) rfl ?_
      exact ⟨rfl, BF.out.1, BF.out.2⟩
end Go.Proofs.YtaclpkdfbbnocaaGreatDoor

/- The program's Print: the bytes that the plain mathematics tells; nothing old in memory turns. -/
namespace Go.Proofs.YtaclpkdfbbnocaaGreatDoor
open Go.RowKit

theorem ret_pr {a : ByteArray} {R : List UInt8 × Int} {n : Int} (h : R = (a.data.toList, n)) : Ending.returned (.tuple #[.string a, .int .i64 n]) = .returned (.tuple #[.string ⟨R.1.toArray⟩, .int .i64 R.2]) := by
  rw [h]
theorem line_write (B g : Nat) (m t : ByteArray) (W : World) (hm : m.size ≤ 1000000000) (ht : t.size ≤ 1000000000) (h1 : BuAt B g [] W) (h2 : B ≤ W.heap.size) :
    Calls Tryz.prog 22 #[.pointer (some ⟨g, 0, none⟩), .string (m ++ ⟨#[32]⟩ ++ t ++ ⟨#[32]⟩ ++ ⟨#[72, 84, 84, 80, 47, 49, 46, 49]⟩ ++ ⟨#[13, 10]⟩)] W fun e w' => (∃ n : Int, e = .returned (.tuple #[.int .i64 n, .nilIface])) ∧ BuAt B g (lineL m.data.toList t.data.toList) w' ∧ Below B W w' := by
  obtain ⟨x, hx⟩ : ∃ x : ByteArray, x = m ++ ⟨#[32]⟩ ++ t ++ ⟨#[32]⟩ ++ ⟨#[72, 84, 84, 80, 47, 49, 46, 49]⟩ ++ ⟨#[13, 10]⟩ := ⟨_, rfl⟩
  have hz : x.size ≤ 3000000000 := by
    have e1 : (⟨#[72, 84, 84, 80, 47, 49, 46, 49]⟩ : ByteArray).size = 8 := rfl
    have e2 : (⟨#[32]⟩ : ByteArray).size = 1 := rfl
    have e3 : (⟨#[13, 10]⟩ : ByteArray).size = 2 := rfl
    rw [hx]; simp only [ByteArray.size_append]; omega
  have hd : x.data.toList = lineL m.data.toList t.data.toList := by
    rw [hx]; simp [lineL, ByteArray.data_append, Array.toList_append]
  rw [← hx]
  refine (wstr_any B g [] x W h1 (by simp; omega) h2).mono ?_
  rintro e w' ⟨h3, h4, h5⟩
  rw [hd, List.nil_append] at h4
  exact ⟨h3, h4, h5⟩
set_option maxRecDepth 100000 in
set_option maxHeartbeats 2000000 in
theorem wPrint_any (m t : ByteArray) (fs : List Pr2) (a : Option Addr) (ca : Nat) (body : ByteArray) (how : Int) (zs : List Int) (b : Option Addr) (cb : Nat) (w : World) (hf : FoAt fs a w) (hzo : ZoAt zs b w) (hn : fs.length ≤ 1000000000) (hnz : zs.length ≤ 1000000000) (hm : m.size ≤ 1000000000) (ht : t.size ≤ 1000000000) (hb : body.size ≤ 1000000000)
    (hz : ∀ i (h : i < fs.length), fs[i].1.size ≤ 1000000000 ∧ fs[i].2.size ≤ 1000000000) (hfz : (fldsL fs).length ≤ 10000000000)
    (htb : Lib.TabBelow Tryz.prog w.heap.size w "internal/strconv.uint64pow10" .u64 Lib.pow10Tab) (h15 : w.cell? ⟨6, 15, none⟩ = some (.int .u8 4)) :
    Calls Tryz.prog 17 #[.agg #[.string m, .string t, .slice a fs.length ca, .string body], .int .i64 how, .slice b zs.length cb] w fun e w' => e = .returned (.tuple #[.string ⟨(printS m.data.toList t.data.toList fs body.data.toList how zs).1.toArray⟩, .int .i64 (printS m.data.toList t.data.toList fs body.data.toList how zs).2]) ∧ Below w.heap.size w w' := by
  have hB1 := (Below.refl w.heap.size w).alloc (Nat.le_refl _) (.cells #[.string m, .string t, .slice a fs.length ca, .string body] 24)
  have ro1 : RoAt w.heap.size m t (.slice a fs.length ca) body (w.alloc (.cells #[.string m, .string t, .slice a fs.length ca, .string body] 24)) := heap_alloc_new w _
  have hbl : body.data.toList.length = body.size := by simp
  have HF := hid hf
  have HZO := hid hzo
  have HTB := hid htb
  have H15 := hid h15
  have HPR := hid (fun W (hW : Below w.heap.size w W) => printable_any m t fs a ca body W (HF.out.below hW) hn hm ht hz)
  have HRS := hid (fun W (hW : Below w.heap.size w W) => rightSizes_any how zs b cb body.size W (HZO.out.below hW) hnz (by omega))
  have HS : Hid (printS m.data.toList t.data.toList fs body.data.toList how zs = if (pOk m.data.toList t.data.toList fs && howOk how zs body.size) = true then (printL m.data.toList t.data.toList fs body.data.toList how zs, 0) else ([], 1)) := by
    unfold Hid printS; rw [hbl]
  have HOK : Hid (howOk how zs body.size = true → how ≠ 0 → sizesOk zs body.size = true) := fun h h0 => by
    unfold howOk at h
    rw [if_neg h0] at h
    split at h
    · exact h
    · cases h
  generalize printS m.data.toList t.data.toList fs body.data.toList how zs = PS at *
  generalize pOk m.data.toList t.data.toList fs = PO at *
  generalize howOk how zs body.size = HO at *
  obtain ⟨c0, c1, c2, c3⟩ := ro1.cells
  have al1 := ro1.lt
  clear hf hzo htb h15 hz
  go_enter Tryz.func17, Tryz.ntmps17
  go_wp2_with fail
  generalize w.alloc (.cells #[.string m, .string t, .slice a fs.length ca, .string body] 24) = w1 at *
  refine (HPR.out _ hB1).mono ?_
  rintro e w2 ⟨rfl, hb2⟩
  have ro2 := ro1.below hb2 al1
  have hB2 := bel_of hB1 hb2
  clear c0 c1 c2 c3 hb2 hB1 al1 HPR ro1
  obtain ⟨c0, c1, c2, c3⟩ := ro2.cells
  have al2 := ro2.lt
  cases PO
  · have HN : Hid (PS = ([], 1)) := HS.out
    clear HS
    go_wp2
    go_ret2
    exact ⟨ret_pr (by rw [HN.out]), hB2⟩
  · rw [Bool.true_and] at HS
    go_wp2_with fail
    refine (HRS.out _ hB2).mono ?_
    rintro e w3 ⟨rfl, hw3⟩
    subst hw3
    cases HO
    · have HN : Hid (PS = ([], 1)) := HS.out
      clear HS
      go_wp2
      go_ret2
      exact ⟨ret_pr (by rw [HN.out]), hB2⟩
    · rw [if_pos rfl] at HS
      have hA := (Below.refl w3.heap.size w3).alloc (Nat.le_refl _) (.cells #[.pointer none, .slice none 0 0] 56)
      have ro3 := ro2.below hA al2
      have hB3 := bel_of hB2 hA
      have bu3 : BuAt w3.heap.size w3.heap.size [] (w3.alloc (.cells #[.pointer none, .slice none 0 0] 56)) := Lib.fresh_isBuilder _ _ w3
      have z3 : w3.heap.size + 1 ≤ (w3.alloc (.cells #[.pointer none, .slice none 0 0] 56)).heap.size := by simp
      obtain ⟨d0, d1, d2, d3⟩ := ro3.cells
      have al3 := ro3.lt
      have HL := hid (line_write w3.heap.size w3.heap.size m t _ hm ht bu3 hA.size)
      clear c0 c1 c2 c3 ro2 HRS
      go_wp2_with fail
      generalize w3.alloc (.cells #[.pointer none, .slice none 0 0] 56) = w4 at *
      refine HL.out.mono ?_
      rintro e w5 ⟨⟨n5, rfl⟩, bu5, hb5⟩
      have ro5 := ro3.below hb5 al2
      have hB5 : Below w.heap.size w w5 := hB3.trans (hb5.mono hB2.size)
      have e2 := ro5.cells.2.2.1
      have al5 := ro5.lt
      have s5 : w3.heap.size + 1 ≤ w5.heap.size := Nat.le_trans z3 hb5.size
      have J5 := hid (And.intro ro5 (And.intro bu5 (And.intro hB5 s5)))
      have hll : (lineL m.data.toList t.data.toList).length ≤ 2000000012 := by simp [lineL]; omega
      clear d0 d1 d2 d3 al3 HL bu3 hA ro3 bu5 hb5 ro5 hB5 s5 hB3 z3
      generalize hLL : lineL m.data.toList t.data.toList = LL at *
      go_wp2_with fail
      go_loopw [10, 36] (fun _ i wr => ∃ k : Nat, k ≤ fs.length ∧ i = .int .i64 k ∧ Hid (RoAt w.heap.size m t (.slice a fs.length ca) body wr ∧ BuAt w3.heap.size w3.heap.size (LL ++ fldsL (fs.take k)) wr ∧ Below w.heap.size w wr ∧ w3.heap.size + 1 ≤ wr.heap.size)) (fun _ i _ => fs.length - (intOf i).toNat)
      case atStart => exact ⟨0, Nat.zero_le _, rfl, J5.out.1, by simpa [fldsL] using J5.out.2.1, J5.out.2.2⟩
      case round =>
        clear J5 e2 al5
        obtain ⟨k, hk, rfl, I⟩ := hrel
        by_cases hlt : k < fs.length
        · obtain ⟨g, o, rfl, hg, hc1, hc2⟩ := (HF.out.below I.out.2.2.1) k hlt
          have HN := hid (fldsL_next fs k hlt)
          have hle := fldsL_le fs (k + 1)
          rw [HN.out, List.length_append] at hle
          generalize fs[k].1 = nm at *
          generalize fs[k].2 = vl at *
          have hfl : (fldL nm.data.toList vl.data.toList).length = nm.size + vl.size + 4 := by simp [fldL]; omega
          have hA := (Below.refl wr.heap.size wr).alloc (Nat.le_refl _) (.cells #[.string nm, .string vl] 40)
          have HWF := hid (writeField_any w3.heap.size w3.heap.size (LL ++ fldsL (fs.take k)) nm vl _ (bu_below I.out.2.1 hA) (by rw [List.length_append]; omega) (Nat.le_trans (Nat.le_trans (Nat.le_succ _) I.out.2.2.2) hA.size))
          have I2 : Hid (RoAt w.heap.size m t (.slice (some ⟨g, o, none⟩) fs.length ca) body (wr.alloc (.cells #[.string nm, .string vl] 40)) ∧ Below w.heap.size w (wr.alloc (.cells #[.string nm, .string vl] 40)) ∧ w3.heap.size + 1 ≤ (wr.alloc (.cells #[.string nm, .string vl] 40)).heap.size) := ⟨I.out.1.below hA I.out.1.lt, bel_of I.out.2.2.1 hA, Nat.le_trans I.out.2.2.2 hA.size⟩
          clear hA hle hfl
          go_wp2_with fail
          refine HWF.out.mono ?_
          rintro e w1 ⟨rfl, bu1, hb1⟩
          have J1 : Hid (RoAt w.heap.size m t (.slice (some ⟨g, o, none⟩) fs.length ca) body w1 ∧ BuAt w3.heap.size w3.heap.size (LL ++ fldsL (fs.take (k + 1))) w1 ∧ Below w.heap.size w w1 ∧ w3.heap.size + 1 ≤ w1.heap.size) := by
            refine ⟨I2.out.1.below hb1 al2, ?_, I2.out.2.1.trans (hb1.mono hB2.size), Nat.le_trans I2.out.2.2 hb1.size⟩
            rw [HN.out, ← List.append_assoc]; exact bu1
          clear HWF I I2 bu1 hb1 HN
          go_wp2
          exact ⟨⟨k + 1, by omega, by go_num, J1.out⟩, by simp [intOf]; omega⟩
        · have HTK : Hid (fs.take k = fs) := List.take_of_length_le (by omega)
          rw [HTK.out] at I
          obtain ⟨ro, bu, hB, hs⟩ := I.out
          have c3 := ro.cells.2.2.2
          have al := ro.lt
          clear HTK I
          have hfl0 : (LL ++ fldsL fs).length ≤ 12000000012 := by rw [List.length_append]; omega
          by_cases h0 : how = 0
          · have h0' : (how == 0) = true := by rw [h0]; rfl
            have HI := hid (fun W (hW : Below w.heap.size w W) => itoa_any (body.size : Int) (by omega) (by omega) W (HTB.out W hW))
            have hnl := numT_le (b := 10) (n := (body.size : Int)) (by omega) (by omega) (by omega)
            generalize hLT : (⟨(numT 10 (body.size : Int)).toArray⟩ : ByteArray) = lt at *
            have hld : lt.data.toList = numT 10 (body.data.toList.length : Int) := by rw [← hLT, hbl]
            have hlz : lt.size ≤ 65 := by
              have : lt.data.toList.length = lt.size := by simp
              rw [hld, hbl] at this; omega
            have HR : Hid (PS = (LL ++ fldsL fs ++ fldL cLen lt.data.toList ++ ((⟨#[13, 10]⟩ : ByteArray) ++ body).data.toList, 0)) := by
              unfold Hid; rw [HS.out, printL, if_pos h0, hLL, hld]; simp [List.append_assoc, ByteArray.data_append, Array.toList_append]
            clear hLT hld hnl h0 HS HOK
            go_wp2_with fail
            refine (HI.out _ hB).mono ?_
            rintro e w6 ⟨rfl, hb6⟩
            have bu6 := bu_below bu hb6
            have s6 := hb6.size
            have hB6 : Below w.heap.size w w6 := hB.trans (hb6.mono hB.size)
            have al6 : w.heap.size < w6.heap.size := Nat.lt_of_lt_of_le al s6
            have ro6 := ro.below hb6 al
            clear c3 bu hB hb6 ro HI
            go_wp2_with fail
            refine (writeField_any _ _ _ _ lt _ bu6 (show _ + 14 + _ + 4 ≤ _ by omega) (by omega)).mono ?_
            rintro e w7 ⟨rfl, bu7, hb7⟩
            have B7 : BuAt w3.heap.size w3.heap.size (LL ++ fldsL fs ++ fldL cLen lt.data.toList) w7 := bu7
            have ro7 := ro6.below hb7 al2
            have hB7 : Below w.heap.size w w7 := hB6.trans (hb7.mono hB2.size)
            have s7 := hb7.size
            have d3 := ro7.cells.2.2.2
            have al7 := ro7.lt
            have hfl : (fldL cLen lt.data.toList).length = lt.size + 18 := by simp [fldL, cLen]
            have hf7 : (LL ++ fldsL fs ++ fldL cLen lt.data.toList).length ≤ 13000000000 := by rw [List.length_append]; omega
            clear bu6 bu7 hb7 hB6 ro6 hfl
            have hz2 : ((⟨#[13, 10]⟩ : ByteArray) ++ body).size ≤ 2000000000 := by
              have : (⟨#[13, 10]⟩ : ByteArray).size = 2 := rfl
              rw [ByteArray.size_append]; omega
            have HW := hid (wstr_any w3.heap.size w3.heap.size _ ((⟨#[13, 10]⟩ : ByteArray) ++ body) w7 B7 (by omega) (by omega))
            clear hz2 B7
            go_wp2_with fail
            refine HW.out.mono ?_
            rintro e w8 ⟨⟨n8, rfl⟩, bu8, hb8⟩
            have hB8 : Below w.heap.size w w8 := hB7.trans (hb8.mono hB2.size)
            have s8 := hb8.size
            clear HW hB7 hb8 d3
            go_wp2_with fail
            refine (Tryz.Builder_String_any _ _ _ _ bu8 (by omega)).mono ?_
            rintro e w9 ⟨rfl, hb9⟩
            go_wp2
            go_ret2
            exact ⟨ret_pr (by rw [HR.out]; simp [List.append_assoc, ByteArray.data_append, Array.toList_append]), hB8.trans (hb9.mono hB2.size)⟩
          · have h0' : (how == 0) = false := by rw [beq_eq_false_iff_ne]; exact h0
            have hsz := HOK.out trivial h0
            have HR : Hid (PS = (LL ++ fldsL fs ++ fldL cCod cChu ++ [13, 10] ++ chL zs body.data.toList, 0)) := by
              unfold Hid; rw [HS.out, printL, if_neg h0, hLL]; simp [List.append_assoc]
            clear h0 HS HOK
            go_wp2_with fail
            refine (writeField_any _ _ _ _ _ _ bu (show _ + 17 + 7 + 4 ≤ _ by omega) (by omega)).mono ?_
            rintro e w7 ⟨rfl, bu7, hb7⟩
            have B7 : BuAt w3.heap.size w3.heap.size (LL ++ fldsL fs ++ fldL cCod cChu) w7 := bu7
            have ro7 := ro.below hb7 al2
            have hB7 : Below w.heap.size w w7 := hB.trans (hb7.mono hB2.size)
            have s7 := hb7.size
            have hcl : (fldL cCod cChu).length = 28 := rfl
            have hf7 : (LL ++ fldsL fs ++ fldL cCod cChu).length ≤ 13000000000 := by rw [List.length_append]; omega
            clear bu bu7 hb7 hB ro hcl c3
            go_wp2_with fail
            refine (wstr_any _ _ _ ⟨#[13, 10]⟩ w7 B7 (show _ + 2 ≤ _ by omega) (by omega)).mono ?_
            rintro e w8 ⟨⟨n8, rfl⟩, bu8, hb8⟩
            have B8 : BuAt w3.heap.size w3.heap.size (LL ++ fldsL fs ++ fldL cCod cChu ++ [13, 10]) w8 := bu8
            have ro8 := ro7.below hb8 al2
            have hB8 : Below w.heap.size w w8 := hB7.trans (hb8.mono hB2.size)
            have s8 := hb8.size
            have d3 := ro8.cells.2.2.2
            have al8 := ro8.lt
            have hf8 : (LL ++ fldsL fs ++ fldL cCod cChu ++ [13, 10]).length ≤ 13000000002 := by rw [List.length_append]; simp only [List.length_cons, List.length_nil]; omega
            have HWC := hid (writeChunks_any w3.heap.size w3.heap.size _ body zs b cb w8 B8 (by omega) (fun W hW => HZO.out.below (hB8.trans (hW.mono hB2.size))) (fun W hW => cell_later (hB8.trans (hW.mono hB2.size)) H15.out) hnz hb (by omega) hsz)
            clear B7 bu8 hb8 hB7 ro7 B8 hf8 hsz
            go_wp2_with fail
            refine HWC.out.mono ?_
            rintro e w9 ⟨rfl, bu9, hb9⟩
            have hB9 : Below w.heap.size w w9 := hB8.trans (hb9.mono hB2.size)
            have s9 := hb9.size
            clear HWC hB8 hb9 d3
            go_wp2_with fail
            refine (Tryz.Builder_String_any _ _ _ _ bu9 (by omega)).mono ?_
            rintro e w10 ⟨rfl, hb10⟩
            go_wp2
            go_ret2
            exact ⟨ret_pr (by rw [HR.out]; simp [List.append_assoc]), hB9.trans (hb10.mono hB2.size)⟩
end Go.Proofs.YtaclpkdfbbnocaaGreatDoor
