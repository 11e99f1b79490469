/- The program's Print: the bytes that the plain mathematics tells; nothing old in memory turns. -/
import Derived.Test.YtnohadlihgjppaaGreatDoorPrG
namespace Go.Proofs.YtnohadlihgjppaaGreatDoor
open Go.RowKit

theorem ret_pr {a : ByteArray} {R : List UInt8 × Int} {n : Int} (h : R = (a.data.toList, n)) : Ending.returned (.tuple #[.string a, .int .i64 n]) = .returned (.tuple #[.string ⟨R.1.toArray⟩, .int .i64 R.2]) := by
  rw [h]
theorem line_write (B g : Nat) (m t : ByteArray) (W : World) (hm : m.size ≤ 1000000000) (ht : t.size ≤ 1000000000) (h1 : BuAt B g [] W) (h2 : B ≤ W.heap.size) :
    Calls Tryz.prog 47 #[.pointer (some ⟨g, 0, none⟩), .string (m ++ ⟨#[32]⟩ ++ t ++ ⟨#[32]⟩ ++ ⟨#[72, 84, 84, 80, 47, 49, 46, 49]⟩ ++ ⟨#[13, 10]⟩)] W fun e w' => (∃ n : Int, e = .returned (.tuple #[.int .i64 n, .nilIface])) ∧ BuAt B g (lineL m.data.toList t.data.toList) w' ∧ Below B W w' := by
  obtain ⟨x, hx⟩ : ∃ x : ByteArray, x = m ++ ⟨#[32]⟩ ++ t ++ ⟨#[32]⟩ ++ ⟨#[72, 84, 84, 80, 47, 49, 46, 49]⟩ ++ ⟨#[13, 10]⟩ := ⟨_, rfl⟩
  have hz : x.size ≤ 3000000000 := by
    have e1 : (⟨#[72, 84, 84, 80, 47, 49, 46, 49]⟩ : ByteArray).size = 8 := rfl
    have e2 : (⟨#[32]⟩ : ByteArray).size = 1 := rfl
    have e3 : (⟨#[13, 10]⟩ : ByteArray).size = 2 := rfl
    rw [hx]; simp only [ByteArray.size_append]; omega
  have hd : x.data.toList = lineL m.data.toList t.data.toList := by
    rw [hx]; simp [lineL, ByteArray.data_append, Array.toList_append]
  rw [← hx]
  refine (wstr_any B g [] x W h1 (by simp; omega) h2).mono ?_
  rintro e w' ⟨h3, h4, h5⟩
  rw [hd, List.nil_append] at h4
  exact ⟨h3, h4, h5⟩
set_option maxRecDepth 100000 in
set_option maxHeartbeats 2000000 in
theorem wPrint_any (m t : ByteArray) (fs : List Pr2) (a : Option Addr) (ca : Nat) (body : ByteArray) (how : Int) (zs : List Int) (b : Option Addr) (cb : Nat) (w : World) (hf : FoAt fs a w) (hzo : ZoAt zs b w) (hn : fs.length ≤ 1000000000) (hnz : zs.length ≤ 1000000000) (hm : m.size ≤ 1000000000) (ht : t.size ≤ 1000000000) (hb : body.size ≤ 1000000000)
    (hz : ∀ i (h : i < fs.length), fs[i].1.size ≤ 1000000000 ∧ fs[i].2.size ≤ 1000000000) (hfz : (fldsL fs).length ≤ 10000000000)
    (htb : Lib.TabBelow Tryz.prog w.heap.size w "internal/strconv.uint64pow10" .u64 Lib.pow10Tab) (h15 : w.cell? ⟨5, 15, none⟩ = some (.int .u8 4)) :
    Calls Tryz.prog 33 #[.agg #[.string m, .string t, .slice a fs.length ca, .string body], .int .i64 how, .slice b zs.length cb] w fun e w' => e = .returned (.tuple #[.string ⟨(printS m.data.toList t.data.toList fs body.data.toList how zs).1.toArray⟩, .int .i64 (printS m.data.toList t.data.toList fs body.data.toList how zs).2]) ∧ Below w.heap.size w w' := by
  have hB1 := (Below.refl w.heap.size w).alloc (Nat.le_refl _) (.cells #[.string m, .string t, .slice a fs.length ca, .string body] 36)
  have ro1 : RoAt w.heap.size m t (.slice a fs.length ca) body (w.alloc (.cells #[.string m, .string t, .slice a fs.length ca, .string body] 36)) := heap_alloc_new w _
  have hbl : body.data.toList.length = body.size := by simp
  have HF := hid hf
  have HZO := hid hzo
  have HTB := hid htb
  have H15 := hid h15
  have HPR := hid (fun W (hW : Below w.heap.size w W) => printable_any m t fs a ca body W (HF.out.below hW) hn hm ht hz)
  have HRS := hid (fun W (hW : Below w.heap.size w W) => rightSizes_any how zs b cb body.size W (HZO.out.below hW) hnz (by omega))
  have HS : Hid (printS m.data.toList t.data.toList fs body.data.toList how zs = if (pOk m.data.toList t.data.toList fs && howOk how zs body.size) = true then (printL m.data.toList t.data.toList fs body.data.toList how zs, 0) else ([], 1)) := by
    unfold Hid printS; rw [hbl]
  have HOK : Hid (howOk how zs body.size = true → how ≠ 0 → sizesOk zs body.size = true) := fun h h0 => by
    unfold howOk at h
    rw [if_neg h0] at h
    split at h
    · exact h
    · cases h
  generalize printS m.data.toList t.data.toList fs body.data.toList how zs = PS at *
  generalize pOk m.data.toList t.data.toList fs = PO at *
  generalize howOk how zs body.size = HO at *
  obtain ⟨c0, c1, c2, c3⟩ := ro1.cells
  have al1 := ro1.lt
  clear hf hzo htb h15 hz
  go_enter Tryz.func33, Tryz.ntmps33
  go_wp2_with fail
  generalize w.alloc (.cells #[.string m, .string t, .slice a fs.length ca, .string body] 36) = w1 at *
  refine (HPR.out _ hB1).mono ?_
  rintro e w2 ⟨rfl, hb2⟩
  have ro2 := ro1.below hb2 al1
  have hB2 := bel_of hB1 hb2
  clear c0 c1 c2 c3 hb2 hB1 al1 HPR ro1
  obtain ⟨c0, c1, c2, c3⟩ := ro2.cells
  have al2 := ro2.lt
  cases PO
  · have HN : Hid (PS = ([], 1)) := HS.out
    clear HS
    go_wp2
    go_ret2
    exact ⟨ret_pr (by rw [HN.out]), hB2⟩
  · rw [Bool.true_and] at HS
    go_wp2_with fail
    refine (HRS.out _ hB2).mono ?_
    rintro e w3 ⟨rfl, hw3⟩
    subst hw3
    cases HO
    · have HN : Hid (PS = ([], 1)) := HS.out
      clear HS
      go_wp2
      go_ret2
      exact ⟨ret_pr (by rw [HN.out]), hB2⟩
    · rw [if_pos rfl] at HS
      have hA := (Below.refl w3.heap.size w3).alloc (Nat.le_refl _) (.cells #[.pointer none, .slice none 0 0] 88)
      have ro3 := ro2.below hA al2
      have hB3 := bel_of hB2 hA
      have bu3 : BuAt w3.heap.size w3.heap.size [] (w3.alloc (.cells #[.pointer none, .slice none 0 0] 88)) := Lib.fresh_isBuilder _ _ w3
      have z3 : w3.heap.size + 1 ≤ (w3.alloc (.cells #[.pointer none, .slice none 0 0] 88)).heap.size := by simp
      obtain ⟨d0, d1, d2, d3⟩ := ro3.cells
      have al3 := ro3.lt
      have HL := hid (line_write w3.heap.size w3.heap.size m t _ hm ht bu3 hA.size)
      clear c0 c1 c2 c3 ro2 HRS
      go_wp2_with fail
      generalize w3.alloc (.cells #[.pointer none, .slice none 0 0] 88) = w4 at *
      refine HL.out.mono ?_
      rintro e w5 ⟨⟨n5, rfl⟩, bu5, hb5⟩
      have ro5 := ro3.below hb5 al2
      have hB5 : Below w.heap.size w w5 := hB3.trans (hb5.mono hB2.size)
      have e2 := ro5.cells.2.2.1
      have al5 := ro5.lt
      have s5 : w3.heap.size + 1 ≤ w5.heap.size := Nat.le_trans z3 hb5.size
      have J5 := hid (And.intro ro5 (And.intro bu5 (And.intro hB5 s5)))
      have hll : (lineL m.data.toList t.data.toList).length ≤ 2000000012 := by simp [lineL]; omega
      clear d0 d1 d2 d3 al3 HL bu3 hA ro3 bu5 hb5 ro5 hB5 s5 hB3 z3
      generalize hLL : lineL m.data.toList t.data.toList = LL at *
      go_wp2_with fail
      go_loopw [10, 36] (fun _ i wr => ∃ k : Nat, k ≤ fs.length ∧ i = .int .i64 k ∧ Hid (RoAt w.heap.size m t (.slice a fs.length ca) body wr ∧ BuAt w3.heap.size w3.heap.size (LL ++ fldsL (fs.take k)) wr ∧ Below w.heap.size w wr ∧ w3.heap.size + 1 ≤ wr.heap.size)) (fun _ i _ => fs.length - (intOf i).toNat)
      case atStart => exact ⟨0, Nat.zero_le _, rfl, J5.out.1, by simpa [fldsL] using J5.out.2.1, J5.out.2.2⟩
      case round =>
        clear J5 e2 al5
        obtain ⟨k, hk, rfl, I⟩ := hrel
        by_cases hlt : k < fs.length
        · obtain ⟨g, o, rfl, hg, hc1, hc2⟩ := (HF.out.below I.out.2.2.1) k hlt
          have HN := hid (fldsL_next fs k hlt)
          have hle := fldsL_le fs (k + 1)
          rw [HN.out, List.length_append] at hle
          generalize fs[k].1 = nm at *
          generalize fs[k].2 = vl at *
          have hfl : (fldL nm.data.toList vl.data.toList).length = nm.size + vl.size + 4 := by simp [fldL]; omega
          have hA := (Below.refl wr.heap.size wr).alloc (Nat.le_refl _) (.cells #[.string nm, .string vl] 61)
          have HWF := hid (writeField_any w3.heap.size w3.heap.size (LL ++ fldsL (fs.take k)) nm vl _ (bu_below I.out.2.1 hA) (by rw [List.length_append]; omega) (Nat.le_trans (Nat.le_trans (Nat.le_succ _) I.out.2.2.2) hA.size))
          have I2 : Hid (RoAt w.heap.size m t (.slice (some ⟨g, o, none⟩) fs.length ca) body (wr.alloc (.cells #[.string nm, .string vl] 61)) ∧ Below w.heap.size w (wr.alloc (.cells #[.string nm, .string vl] 61)) ∧ w3.heap.size + 1 ≤ (wr.alloc (.cells #[.string nm, .string vl] 61)).heap.size) := ⟨I.out.1.below hA I.out.1.lt, bel_of I.out.2.2.1 hA, Nat.le_trans I.out.2.2.2 hA.size⟩
          clear hA hle hfl
          go_wp2_with fail
          refine HWF.out.mono ?_
          rintro e w1 ⟨rfl, bu1, hb1⟩
          have J1 : Hid (RoAt w.heap.size m t (.slice (some ⟨g, o, none⟩) fs.length ca) body w1 ∧ BuAt w3.heap.size w3.heap.size (LL ++ fldsL (fs.take (k + 1))) w1 ∧ Below w.heap.size w w1 ∧ w3.heap.size + 1 ≤ w1.heap.size) := by
            refine ⟨I2.out.1.below hb1 al2, ?_, I2.out.2.1.trans (hb1.mono hB2.size), Nat.le_trans I2.out.2.2 hb1.size⟩
            rw [HN.out, ← List.append_assoc]; exact bu1
          clear HWF I I2 bu1 hb1 HN
          go_wp2
          exact ⟨⟨k + 1, by omega, by go_num, J1.out⟩, by simp [intOf]; omega⟩
        · have HTK : Hid (fs.take k = fs) := List.take_of_length_le (by omega)
          rw [HTK.out] at I
          obtain ⟨ro, bu, hB, hs⟩ := I.out
          have c3 := ro.cells.2.2.2
          have al := ro.lt
          clear HTK I
          have hfl0 : (LL ++ fldsL fs).length ≤ 12000000012 := by rw [List.length_append]; omega
          by_cases h0 : how = 0
          · have h0' : (how == 0) = true := by rw [h0]; rfl
            have HI := hid (fun W (hW : Below w.heap.size w W) => itoa_any (body.size : Int) (by omega) (by omega) W (HTB.out W hW))
            have hnl := numT_le (b := 10) (n := (body.size : Int)) (by omega) (by omega) (by omega)
            generalize hLT : (⟨(numT 10 (body.size : Int)).toArray⟩ : ByteArray) = lt at *
            have hld : lt.data.toList = numT 10 (body.data.toList.length : Int) := by rw [← hLT, hbl]
            have hlz : lt.size ≤ 65 := by
              have : lt.data.toList.length = lt.size := by simp
              rw [hld, hbl] at this; omega
            have HR : Hid (PS = (LL ++ fldsL fs ++ fldL cLen lt.data.toList ++ ((⟨#[13, 10]⟩ : ByteArray) ++ body).data.toList, 0)) := by
              unfold Hid; rw [HS.out, printL, if_pos h0, hLL, hld]; simp [List.append_assoc, ByteArray.data_append, Array.toList_append]
            clear hLT hld hnl h0 HS HOK
            go_wp2_with fail
            refine (HI.out _ hB).mono ?_
            rintro e w6 ⟨rfl, hb6⟩
            have bu6 := bu_below bu hb6
            have s6 := hb6.size
            have hB6 : Below w.heap.size w w6 := hB.trans (hb6.mono hB.size)
            have al6 : w.heap.size < w6.heap.size := Nat.lt_of_lt_of_le al s6
            have ro6 := ro.below hb6 al
            clear c3 bu hB hb6 ro HI
            go_wp2_with fail
            refine (writeField_any _ _ _ _ lt _ bu6 (show _ + 14 + _ + 4 ≤ _ by omega) (by omega)).mono ?_
            rintro e w7 ⟨rfl, bu7, hb7⟩
            have B7 : BuAt w3.heap.size w3.heap.size (LL ++ fldsL fs ++ fldL cLen lt.data.toList) w7 := bu7
            have ro7 := ro6.below hb7 al2
            have hB7 : Below w.heap.size w w7 := hB6.trans (hb7.mono hB2.size)
            have s7 := hb7.size
            have d3 := ro7.cells.2.2.2
            have al7 := ro7.lt
            have hfl : (fldL cLen lt.data.toList).length = lt.size + 18 := by simp [fldL, cLen]
            have hf7 : (LL ++ fldsL fs ++ fldL cLen lt.data.toList).length ≤ 13000000000 := by rw [List.length_append]; omega
            clear bu6 bu7 hb7 hB6 ro6 hfl
            have hz2 : ((⟨#[13, 10]⟩ : ByteArray) ++ body).size ≤ 2000000000 := by
              have : (⟨#[13, 10]⟩ : ByteArray).size = 2 := rfl
              rw [ByteArray.size_append]; omega
            have HW := hid (wstr_any w3.heap.size w3.heap.size _ ((⟨#[13, 10]⟩ : ByteArray) ++ body) w7 B7 (by omega) (by omega))
            clear hz2 B7
            go_wp2_with fail
            refine HW.out.mono ?_
            rintro e w8 ⟨⟨n8, rfl⟩, bu8, hb8⟩
            have hB8 : Below w.heap.size w w8 := hB7.trans (hb8.mono hB2.size)
            have s8 := hb8.size
            clear HW hB7 hb8 d3
            go_wp2_with fail
            refine (Tryz.Builder_String_any _ _ _ _ bu8 (by omega)).mono ?_
            rintro e w9 ⟨rfl, hb9⟩
            go_wp2
            go_ret2
            exact ⟨ret_pr (by rw [HR.out]; simp [List.append_assoc, ByteArray.data_append, Array.toList_append]), hB8.trans (hb9.mono hB2.size)⟩
          · have h0' : (how == 0) = false := by rw [beq_eq_false_iff_ne]; exact h0
            have hsz := HOK.out trivial h0
            have HR : Hid (PS = (LL ++ fldsL fs ++ fldL cCod cChu ++ [13, 10] ++ chL zs body.data.toList, 0)) := by
              unfold Hid; rw [HS.out, printL, if_neg h0, hLL]; simp [List.append_assoc]
            clear h0 HS HOK
            go_wp2_with fail
            refine (writeField_any _ _ _ _ _ _ bu (show _ + 17 + 7 + 4 ≤ _ by omega) (by omega)).mono ?_
            rintro e w7 ⟨rfl, bu7, hb7⟩
            have B7 : BuAt w3.heap.size w3.heap.size (LL ++ fldsL fs ++ fldL cCod cChu) w7 := bu7
            have ro7 := ro.below hb7 al2
            have hB7 : Below w.heap.size w w7 := hB.trans (hb7.mono hB2.size)
            have s7 := hb7.size
            have hcl : (fldL cCod cChu).length = 28 := rfl
            have hf7 : (LL ++ fldsL fs ++ fldL cCod cChu).length ≤ 13000000000 := by rw [List.length_append]; omega
            clear bu bu7 hb7 hB ro hcl c3
            go_wp2_with fail
            refine (wstr_any _ _ _ ⟨#[13, 10]⟩ w7 B7 (show _ + 2 ≤ _ by omega) (by omega)).mono ?_
            rintro e w8 ⟨⟨n8, rfl⟩, bu8, hb8⟩
            have B8 : BuAt w3.heap.size w3.heap.size (LL ++ fldsL fs ++ fldL cCod cChu ++ [13, 10]) w8 := bu8
            have ro8 := ro7.below hb8 al2
            have hB8 : Below w.heap.size w w8 := hB7.trans (hb8.mono hB2.size)
            have s8 := hb8.size
            have d3 := ro8.cells.2.2.2
            have al8 := ro8.lt
            have hf8 : (LL ++ fldsL fs ++ fldL cCod cChu ++ [13, 10]).length ≤ 13000000002 := by rw [List.length_append]; simp only [List.length_cons, List.length_nil]; omega
            have HWC := hid (writeChunks_any w3.heap.size w3.heap.size _ body zs b cb w8 B8 (by omega) (fun W hW => HZO.out.below (hB8.trans (hW.mono hB2.size))) (fun W hW => cell_later (hB8.trans (hW.mono hB2.size)) H15.out) hnz hb (by omega) hsz)
            clear B7 bu8 hb8 hB7 ro7 B8 hf8 hsz
            go_wp2_with fail
            refine HWC.out.mono ?_
            rintro e w9 ⟨rfl, bu9, hb9⟩
            have hB9 : Below w.heap.size w w9 := hB8.trans (hb9.mono hB2.size)
            have s9 := hb9.size
            clear HWC hB8 hb9 d3
            go_wp2_with fail
            refine (Tryz.Builder_String_any _ _ _ _ bu9 (by omega)).mono ?_
            rintro e w10 ⟨rfl, hb10⟩
            go_wp2
            go_ret2
            exact ⟨ret_pr (by rw [HR.out]; simp [List.append_assoc]), hB9.trans (hb10.mono hB2.size)⟩
end Go.Proofs.YtnohadlihgjppaaGreatDoor
