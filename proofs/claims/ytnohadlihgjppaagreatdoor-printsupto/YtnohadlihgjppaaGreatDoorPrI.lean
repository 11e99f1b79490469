/- The reference's Print: the same bytes; nothing old in memory turns. -/
import Derived.Test.YtnohadlihgjppaaGreatDoorPrH
namespace Go.Proofs.YtnohadlihgjppaaGreatDoor
open Go.RowKit

set_option maxRecDepth 100000 in
set_option maxHeartbeats 2000000 in
theorem rPrint_any (m t : ByteArray) (fs : List Pr2) (a : Option Addr) (ca : Nat) (body : ByteArray) (how : Int) (zs : List Int) (b : Option Addr) (cb : Nat) (w : World) (hf : FoAt fs a w) (hzo : ZoAt zs b w) (hn : fs.length ≤ 1000000000) (hnz : zs.length ≤ 1000000000) (hm : m.size ≤ 1000000000) (ht : t.size ≤ 1000000000) (hb : body.size ≤ 1000000000)
    (hz : ∀ i (h : i < fs.length), fs[i].1.size ≤ 1000000000 ∧ fs[i].2.size ≤ 1000000000) (hfz : (fldsL fs).length ≤ 10000000000) :
    Calls Tryz.prog 20 #[.agg #[.string m, .string t, .slice a fs.length ca, .string body], .int .i64 how, .slice b zs.length cb] w fun e w' => e = .returned (.tuple #[.string ⟨(printS m.data.toList t.data.toList fs body.data.toList how zs).1.toArray⟩, .int .i64 (printS m.data.toList t.data.toList fs body.data.toList how zs).2]) ∧ Below w.heap.size w w' := by
  have hB1 := (Below.refl w.heap.size w).alloc (Nat.le_refl _) (.cells #[.string m, .string t, .slice a fs.length ca, .string body] 36)
  have ro1 : RoAt w.heap.size m t (.slice a fs.length ca) body (w.alloc (.cells #[.string m, .string t, .slice a fs.length ca, .string body] 36)) := heap_alloc_new w _
  have hbl : body.data.toList.length = body.size := by simp
  have HF := hid hf
  have HZO := hid hzo
  have HPR := hid (fun W (hW : Below w.heap.size w W) => rPrintable_any m t fs a ca body W (HF.out.below hW) hn hm ht hz)
  have HS : Hid (printS m.data.toList t.data.toList fs body.data.toList how zs = if (pOk m.data.toList t.data.toList fs && howOk how zs body.size) = true then (printL m.data.toList t.data.toList fs body.data.toList how zs, 0) else ([], 1)) := by
    unfold Hid printS; rw [hbl]
  generalize printS m.data.toList t.data.toList fs body.data.toList how zs = PS at *
  generalize pOk m.data.toList t.data.toList fs = PO at *
  obtain ⟨c0, c1, c2, c3⟩ := ro1.cells
  have al1 := ro1.lt
  clear hf hzo hz
  go_enter Tryz.func20, Tryz.ntmps20
  go_wp2_with fail
  generalize w.alloc (.cells #[.string m, .string t, .slice a fs.length ca, .string body] 36) = w1 at *
  refine (HPR.out _ hB1).mono ?_
  rintro e w2 ⟨rfl, hb2⟩
  have ro2 := ro1.below hb2 al1
  have hB2 := bel_of hB1 hb2
  clear c0 c1 c2 c3 hb2 hB1 al1 HPR ro1
  obtain ⟨c0, c1, c2, c3⟩ := ro2.cells
  have al2 := ro2.lt
  cases PO
  · have HN : Hid (PS = ([], 1)) := HS.out
    clear HS
    go_wp2
    go_ret2
    exact ⟨ret_pr (by rw [HN.out]), hB2⟩
  · rw [Bool.true_and] at HS
    have J3 := hid (And.intro ro2 hB2)
    have hll : (lineL m.data.toList t.data.toList).length ≤ 2000000012 := by simp [lineL]; omega
    by_cases hneg : how < 0
    · have hx : howOk how zs body.size = false := by unfold howOk; rw [if_neg (show ¬ how = 0 by omega), if_neg (show ¬ how = 1 by omega)]
      have HN : Hid (PS = ([], 1)) := by unfold Hid; rw [HS.out, hx]; rfl
      clear HS J3
      go_wp2
      go_ret2
      exact ⟨ret_pr (by rw [HN.out]), hB2⟩
    · by_cases hpos : how > 1
      · have hx : howOk how zs body.size = false := by unfold howOk; rw [if_neg (show ¬ how = 0 by omega), if_neg (show ¬ how = 1 by omega)]
        have HN : Hid (PS = ([], 1)) := by unfold Hid; rw [HS.out, hx]; rfl
        clear HS J3
        go_wp2
        go_ret2
        exact ⟨ret_pr (by rw [HN.out]), hB2⟩
      · by_cases h0 : how = 0
        · have h0' : (how == 0) = true := by rw [h0]; rfl
          rw [howOk, if_pos h0, printL, if_pos h0] at HS
          clear ro2 hB2 h0
          by_cases hze : zs.length > 0
          · have HN : Hid (PS = ([], 1)) := by
              unfold Hid; rw [HS.out, List.isEmpty_eq_false_iff.mpr (by intro h; rw [h] at hze; simp at hze)]; rfl
            clear HS
            go_wp2
            go_ret2
            exact ⟨ret_pr (by rw [HN.out]), J3.out.2⟩
          · have hzl : zs.isEmpty = true := by cases zs; rfl; simp at hze
            rw [hzl, if_pos rfl] at HS
            clear hzl
            generalize hLL : lineL m.data.toList t.data.toList = LL at *
            have HLL := hid hLL
            clear hLL
            go_wp2_with fail
            go_loopw [9, 10] (fun s i wr => ∃ (k : Nat) (sb : ByteArray), k ≤ fs.length ∧ i = .int .i64 k ∧ s = .string sb ∧ Hid (sb.data.toList = LL ++ fldsL (fs.take k)) ∧ Hid (RoAt w.heap.size m t (.slice a fs.length ca) body wr ∧ Below w.heap.size w wr)) (fun _ i _ => fs.length - (intOf i).toNat)
            case atStart => exact ⟨0, _, Nat.zero_le _, rfl, rfl, (by unfold Hid; rw [← HLL.out]; simp [lineL, fldsL, ByteArray.data_append, Array.toList_append]), J3.out⟩
            case round =>
              clear J3 c0 c1 c2 c3 al2
              obtain ⟨k, sb, hk, rfl, rfl, H, I⟩ := hrel
              obtain ⟨c0, c1, c2, c3⟩ := I.out.1.cells
              have al := I.out.1.lt
              have hbz : sb.size ≤ 2000000012 + (fldsL fs).length := by
                have h1 : sb.data.toList.length = sb.size := by simp
                have h2 := fldsL_le fs k
                rw [H.out, List.length_append] at h1; omega
              by_cases hlt : k < fs.length
              · obtain ⟨g, o, rfl, hg, hc1, hc2⟩ := (HF.out.below I.out.2) k hlt
                have HN := hid (fldsL_next fs k hlt)
                have hle := fldsL_le fs (k + 1)
                rw [HN.out, List.length_append] at hle
                generalize fs[k].1 = nm at *
                generalize fs[k].2 = vl at *
                have hfl : (fldL nm.data.toList vl.data.toList).length = nm.size + vl.size + 4 := by simp [fldL]; omega
                have hnz2 : nm.size + vl.size ≤ 10000000000 := by omega
                have hbz2 : sb.size ≤ 12000000012 := by omega
                have e58 : (⟨#[58, 32]⟩ : ByteArray).size = 2 := rfl
                have e13 : (⟨#[13, 10]⟩ : ByteArray).size = 2 := rfl
                clear hle hfl c0 c1 c3 hbz
                go_wp2_with fail
                go_quiet (fail)
                go_wp2
                refine ⟨⟨k + 1, _, by omega, by go_num, rfl, ?_, I.out.1.below (below_drewN (Below.refl _ _) _) al, below_drewN I.out.2 _⟩, by simp [intOf]; omega⟩
                unfold Hid
                rw [HN.out, ← List.append_assoc, ← H.out]
                simp [fldL, ByteArray.data_append, Array.toList_append]
              · have HTK : Hid (fs.take k = fs) := List.take_of_length_le (by omega)
                rw [HTK.out] at H
                have hB := I.out.2
                have ro := I.out.1
                have hbz2 : sb.size ≤ 12000000012 := by omega
                clear HTK I hbz HF c0 c1
                have HNb := hid (fun W => rNumber_pos 10 (.inl rfl) (body.size : Int) (by omega) (by omega) W)
                have hll := numT_le (b := 10) (n := (body.size : Int)) (by omega) (by omega) (by omega)
                generalize hLT : (⟨(numT 10 (body.size : Int)).toArray⟩ : ByteArray) = lt at *
                have hld : lt.data.toList = numT 10 (body.data.toList.length : Int) := by rw [← hLT, hbl]
                have hlz : lt.size ≤ 65 := by
                  have : lt.data.toList.length = lt.size := by simp
                  rw [hld, hbl] at this; omega
                have HR : Hid (PS = (LL ++ fldsL fs ++ fldL cLen lt.data.toList ++ [13, 10] ++ body.data.toList, 0)) := by
                  unfold Hid; rw [HS.out, hld]; simp [List.append_assoc]
                clear hLT hld hll HS
                go_wp2_with fail
                refine (HNb.out _).mono ?_
                rintro e w4 ⟨rfl, hb4⟩
                have ro4 := ro.below hb4 al
                have hB4 := bel_of hB hb4
                have d3 := ro4.cells.2.2.2
                have al4 := ro4.lt
                have e1 : (⟨#[67, 111, 110, 116, 101, 110, 116, 45, 76, 101, 110, 103, 116, 104, 58, 32]⟩ : ByteArray).size = 16 := rfl
                have e2 : (⟨#[13, 10, 13, 10]⟩ : ByteArray).size = 4 := rfl
                clear c2 c3 ro hB hb4 HNb ro4 al
                go_wp2
                go_ret2
                refine ⟨ret_pr ?_, hB4⟩
                rw [HR.out, ← H.out]
                simp [fldL, cLen, ByteArray.data_append, Array.toList_append]
        · have h0' : (how == 0) = false := by rw [beq_eq_false_iff_ne]; exact h0
          rw [howOk, if_neg h0, if_pos (show how = 1 by omega), printL, if_neg h0] at HS
          clear ro2 hB2 h0
          generalize hLL : lineL m.data.toList t.data.toList = LL at *
          have HLL := hid hLL
          clear hLL
          go_wp2_with fail
          go_loopw [9, 10] (fun s i wr => ∃ (k : Nat) (sb : ByteArray), k ≤ fs.length ∧ i = .int .i64 k ∧ s = .string sb ∧ Hid (sb.data.toList = LL ++ fldsL (fs.take k)) ∧ Hid (RoAt w.heap.size m t (.slice a fs.length ca) body wr ∧ Below w.heap.size w wr)) (fun _ i _ => fs.length - (intOf i).toNat)
          case atStart => exact ⟨0, _, Nat.zero_le _, rfl, rfl, (by unfold Hid; rw [← HLL.out]; simp [lineL, fldsL, ByteArray.data_append, Array.toList_append]), J3.out⟩
          case round =>
            clear J3 c0 c1 c2 c3 al2
            obtain ⟨k, sb, hk, rfl, rfl, H, I⟩ := hrel
            obtain ⟨c0, c1, c2, c3⟩ := I.out.1.cells
            have al := I.out.1.lt
            have hbz : sb.size ≤ 2000000012 + (fldsL fs).length := by
              have h1 : sb.data.toList.length = sb.size := by simp
              have h2 := fldsL_le fs k
              rw [H.out, List.length_append] at h1; omega
            by_cases hlt : k < fs.length
            · obtain ⟨g, o, rfl, hg, hc1, hc2⟩ := (HF.out.below I.out.2) k hlt
              have HN := hid (fldsL_next fs k hlt)
              have hle := fldsL_le fs (k + 1)
              rw [HN.out, List.length_append] at hle
              generalize fs[k].1 = nm at *
              generalize fs[k].2 = vl at *
              have hfl : (fldL nm.data.toList vl.data.toList).length = nm.size + vl.size + 4 := by simp [fldL]; omega
              have hnz2 : nm.size + vl.size ≤ 10000000000 := by omega
              have hbz2 : sb.size ≤ 12000000012 := by omega
              have e58 : (⟨#[58, 32]⟩ : ByteArray).size = 2 := rfl
              have e13 : (⟨#[13, 10]⟩ : ByteArray).size = 2 := rfl
              clear hle hfl c0 c1 c3 hbz
              go_wp2_with fail
              go_quiet (fail)
              go_wp2
              refine ⟨⟨k + 1, _, by omega, by go_num, rfl, ?_, I.out.1.below (below_drewN (Below.refl _ _) _) al, below_drewN I.out.2 _⟩, by simp [intOf]; omega⟩
              unfold Hid
              rw [HN.out, ← List.append_assoc, ← H.out]
              simp [fldL, ByteArray.data_append, Array.toList_append]
            · have HTK : Hid (fs.take k = fs) := List.take_of_length_le (by omega)
              rw [HTK.out] at H
              have hB := I.out.2
              have ro := I.out.1
              have hbz2 : sb.size ≤ 12000000012 := by omega
              clear HTK I hbz HF c0 c1
              have J4 := hid (And.intro ro hB)
              clear ro hB
              go_wp2_with fail
              go_loopw [12, 13, 14, 15] (fun e tl i _ wr => ∃ (j : Nat) (en : Nat) (iv : Int) (tb : ByteArray), j ≤ zs.length ∧ iv = (j : Int) - 1 ∧ i = .int .i64 iv ∧ e = .int .i64 en ∧ tl = .string tb ∧ en ≤ body.size ∧ tb.size ≤ 5 + 69 * (zs.length - j) + (body.size - en) ∧ Hid (Back zs body.data.toList j en tb.data.toList) ∧ Hid (RoAt w.heap.size m t (.slice a fs.length ca) body wr ∧ Below w.heap.size w wr)) (fun _ _ i _ _ => (intOf i + 1).toNat)
              case atStart => exact ⟨zs.length, body.size, _, _, Nat.le_refl _, rfl, by go_num, rfl, rfl, Nat.le_refl _, show 5 ≤ _ by omega, (by have := Back.start zs body.data.toList; rw [hbl] at this; exact this), J4.out⟩
              case round =>
                clear J4 c2 c3 al
                obtain ⟨j, en, iv, tb, hj, hiv, rfl, rfl, rfl, hen, htz, HB, I⟩ := hrel
                have d3 := I.out.1.cells.2.2.2
                have al := I.out.1.lt
                by_cases hlt : 0 < j
                · obtain ⟨i, rfl⟩ : ∃ i, j = i + 1 := ⟨j - 1, by omega⟩
                  have hi : iv = (i : Int) := by omega
                  subst hi
                  clear hiv
                  obtain ⟨g, o, rfl, hg, hc⟩ := (HZO.out.below I.out.2) i (by omega)
                  have hil : i < zs.length := by omega
                  by_cases hb1 : zs[i] < 1
                  · have HN : Hid (PS = ([], 1)) := by
                      unfold Hid; rw [HS.out, ← hbl, HB.out.bad hil (.inl hb1)]; rfl
                    have hB5 := I.out.2
                    generalize zs[i] = z at *
                    clear HS HB I
                    go_wp2
                    go_ret2
                    exact ⟨ret_pr (by rw [HN.out]), hB5⟩
                  · by_cases hb2 : (en : Int) < zs[i]
                    · have HN : Hid (PS = ([], 1)) := by
                        unfold Hid; rw [HS.out, ← hbl, HB.out.bad hil (.inr hb2)]; rfl
                      have hB5 := I.out.2
                      generalize zs[i] = z at *
                      clear HS HB I
                      go_wp2
                      go_ret2
                      exact ⟨ret_pr (by rw [HN.out]), hB5⟩
                    · obtain ⟨zn, hzn⟩ : ∃ zn : Nat, zs[i] = (zn : Int) := ⟨zs[i].toNat, by omega⟩
                      have HBN := hid (HB.out.next hil hb1 hb2)
                      rw [hzn] at hc hb1 hb2 HBN
                      have HNb := hid (fun W => rNumber_pos 16 (.inr rfl) (zn : Int) (by omega) (by omega) W)
                      have hll := numT_le (b := 16) (n := (zn : Int)) (by omega) (by omega) (by omega)
                      generalize hLT : (⟨(numT 16 (zn : Int)).toArray⟩ : ByteArray) = lt at *
                      have hld : lt.data.toList = numT 16 (zn : Int) := by rw [← hLT]
                      have hlz : lt.size ≤ 65 := by
                        have : lt.data.toList.length = lt.size := by simp
                        rw [hld] at this; omega
                      rw [← hld, show ((en : Int) - (zn : Int)) = ((en - zn : Nat) : Int) from by omega] at HBN
                      clear hLT hld hll HB hzn
                      go_wp2_with fail
                      refine (HNb.out _).mono ?_
                      rintro e w5 ⟨rfl, hb5⟩
                      have ro5 := I.out.1.below hb5 al
                      have hB5 := bel_of I.out.2 hb5
                      have f3 := ro5.cells.2.2.2
                      have al5 := ro5.lt
                      have hc5 := cell_later hb5 hc
                      have hg5 : g < w5.heap.size := Nat.lt_of_lt_of_le hg hb5.size
                      have e2 : (⟨#[13, 10]⟩ : ByteArray).size = 2 := rfl
                      have J5 := hid (And.intro ro5 hB5)
                      have hwz : wrap64 ((en : Int) - (zn : Int)) = ((en - zn : Nat) : Int) := by unfold wrap64; omega
                      have q1 : (body.extract (en - zn) en).size = zn := by simp; omega
                      have q2 : (body.extract (en - zn) en).data.toList = (body.data.toList.drop (en - zn)).take zn := by rw [Lib.extract_data]; congr 1; omega
                      have Q2 := hid q2
                      clear hc d3 hb5 HNb ro5 hB5 al I q2 hg
                      go_wp2_with fail
                      go_quiet (fail)
                      go_wp2
                      refine ⟨⟨i, en - zn, (i : Int) - 1, _, by omega, rfl, by go_num, by first | rfl | go_num, rfl, by omega, ?_, ?_, J5.out.1.below (below_drewN (Below.refl _ _) _) al5, below_drewN J5.out.2 _⟩, by simp [intOf]⟩
                      · simp only [ByteArray.size_append, q1, e2]; omega
                      · unfold Hid
                        have := HBN.out
                        rw [Int.toNat_natCast, Int.toNat_natCast, ← Q2.out] at this
                        simpa [ByteArray.data_append, Array.toList_append] using this
                · have hj0 : j = 0 := by omega
                  subst hj0
                  have hi : iv = -1 := by omega
                  subst hi
                  have hB5 := I.out.2
                  clear hiv I d3
                  by_cases he : en = 0
                  · subst he
                    have HN : Hid (PS = (LL ++ fldsL fs ++ (fldL cCod cChu ++ [13, 10] ++ tb.data.toList), 0)) := by
                      obtain ⟨k1, k2⟩ := HB.out.done.1 rfl
                      unfold Hid; rw [HS.out, ← hbl, k1, k2]; rfl
                    have ez : (⟨#[84, 114, 97, 110, 115, 102, 101, 114, 45, 69, 110, 99, 111, 100, 105, 110, 103, 58, 32, 99, 104, 117, 110, 107, 101, 100, 13, 10, 13, 10]⟩ : ByteArray).size = 30 := rfl
                    clear HS HB
                    go_wp2
                    go_ret2
                    refine ⟨ret_pr ?_, hB5⟩
                    rw [HN.out, ← H.out]
                    simp [fldL, cCod, cChu, ByteArray.data_append, Array.toList_append]
                  · have HN : Hid (PS = ([], 1)) := by
                      unfold Hid; rw [HS.out, ← hbl, HB.out.done.2 (by omega)]; rfl
                    clear HS HB
                    go_wp2
                    go_ret2
                    exact ⟨ret_pr (by rw [HN.out]), hB5⟩
end Go.Proofs.YtnohadlihgjppaaGreatDoor
