/- The program's printable and the reference's Printable: whether a request may be told; nothing old in memory turns. -/
import Derived.Test.YtnohadlihgjppaaGreatDoorPrD
namespace Go.Proofs.YtnohadlihgjppaaGreatDoor
open Go.RowKit

theorem host_next (fs : List Pr2) (k : Nat) (h : k < fs.length) : (valsOf (fs.take (k + 1)) nHost).length = (valsOf (fs.take k) nHost).length + (if Pm.alike fs[k].1.data.toList nHost = true then 1 else 0) := by
  cases hal : Pm.alike fs[k].1.data.toList nHost
  · rw [valsOf_no h hal]; simp
  · rw [valsOf_yes h hal]; simp
theorem all_next (fs : List Pr2) (k : Nat) (h : k < fs.length) : (fs.drop k).all okF = (okF fs[k] && (fs.drop (k + 1)).all okF) := by
  rw [List.drop_eq_getElem_cons h, List.all_cons]
set_option maxRecDepth 100000 in
set_option maxHeartbeats 2000000 in
theorem printable_any (m t : ByteArray) (fs : List Pr2) (a : Option Addr) (ca : Nat) (body : ByteArray) (w : World) (hf : FoAt fs a w) (hn : fs.length ≤ 1000000000) (hm : m.size ≤ 1000000000) (ht : t.size ≤ 1000000000) (hz : ∀ i (h : i < fs.length), fs[i].1.size ≤ 1000000000 ∧ fs[i].2.size ≤ 1000000000) :
    Calls Tryz.prog 45 #[.agg #[.string m, .string t, .slice a fs.length ca, .string body]] w fun e w' => e = .returned (.bool (pOk m.data.toList t.data.toList fs)) ∧ Below w.heap.size w w' := by
  have HF := hid hf
  have HZ := hid hz
  have hB1 := (Below.refl w.heap.size w).alloc (Nat.le_refl _) (.cells #[.string m, .string t, .slice a fs.length ca, .string body] 36)
  have ro1 : RoAt w.heap.size m t (.slice a fs.length ca) body (w.alloc (.cells #[.string m, .string t, .slice a fs.length ca, .string body] 36)) := heap_alloc_new w _
  clear hf hz
  have HM := hid (fun W => wIsMethod_any m W (by unfold maxLen; omega))
  have HT := hid (fun W => wIsTarget_any t W (by omega))
  have HP : Hid (pOk m.data.toList t.data.toList fs = (Pm.isMethod m.data.toList && (Pm.isTarget t.data.toList && (fs.all okF && decide ((valsOf fs nHost).length = 1))))) := rfl
  generalize pOk m.data.toList t.data.toList fs = PO at *
  generalize Pm.isMethod m.data.toList = im at *
  generalize Pm.isTarget t.data.toList = it at *
  obtain ⟨c0, c1, c2, c3⟩ := ro1.cells
  have al1 := ro1.lt
  go_enter Tryz.func45, Tryz.ntmps45
  go_wp2_with fail
  generalize w.alloc (.cells #[.string m, .string t, .slice a fs.length ca, .string body] 36) = w1 at *
  refine (HM.out _).mono ?_
  rintro e w2 ⟨rfl, hw2⟩
  subst hw2
  cases im
  · have HN : Hid (PO = false) := HP.out
    clear HP
    go_wp2
    go_ret
    exact ⟨ret_bool HN.out.symm, hB1⟩
  · go_wp2_with fail
    refine (HT.out _).mono ?_
    rintro e w3 ⟨rfl, hb3⟩
    have ro3 := ro1.below hb3 al1
    have hB3 := bel_of hB1 hb3
    cases it
    · have HN : Hid (PO = false) := HP.out
      clear HP
      go_wp2
      go_ret
      exact ⟨ret_bool HN.out.symm, hB3⟩
    · rw [Bool.true_and, Bool.true_and] at HP
      clear c0 c1 c2 c3 hb3 hB1 al1 HM HT ro1
      have d2 := ro3.cells.2.2.1
      have al3 := ro3.lt
      have J0 := hid hB3
      clear ro3 hB3
      go_wp2_with fail
      go_loopw [3, 5, 19] (fun h _ i wr => ∃ k : Nat, k ≤ fs.length ∧ i = .int .i64 k ∧ h = .int .i64 ((valsOf (fs.take k) nHost).length : Int) ∧ Hid (fs.all okF = (fs.drop k).all okF) ∧ Hid (Below w.heap.size w wr)) (fun _ _ i _ => fs.length - (intOf i).toNat)
      case atStart => exact ⟨0, Nat.zero_le _, rfl, rfl, rfl, J0.out⟩
      case round =>
        obtain ⟨k, hk, rfl, rfl, H, I⟩ := hrel
        clear J0
        have hvl := valsOf_le (fs.take k) nHost
        rw [List.length_take] at hvl
        by_cases hlt : k < fs.length
        · obtain ⟨g, o, rfl, hg, hc1, hc2⟩ := (HF.out.below I.out) k hlt
          have HA := hid (all_next fs k hlt)
          have HH := hid (host_next fs k hlt)
          obtain ⟨z1, z2⟩ := HZ.out k hlt
          have HO : Hid (okF fs[k] = (Pm.isField fs[k].1.data.toList fs[k].2.data.toList && (!(Pm.alike fs[k].1.data.toList nLength) && !(Pm.alike fs[k].1.data.toList nCoding)))) := rfl
          generalize okF fs[k] = ok at *
          generalize fs[k].1 = nm at *
          generalize fs[k].2 = vl at *
          have HIF := hid (fun W => wIsField_any nm vl W (by unfold maxLen; omega) (by unfold maxLen; omega))
          have HA1 : Hid (∀ W, Calls Tryz.prog 68 #[.string nm, .string ⟨#[67, 111, 110, 116, 101, 110, 116, 45, 76, 101, 110, 103, 116, 104]⟩] W fun e w' => e = .returned (.bool (Pm.alike nm.data.toList nLength)) ∧ Below W.heap.size W w') := fun W => wAlike_any nm ⟨#[67, 111, 110, 116, 101, 110, 116, 45, 76, 101, 110, 103, 116, 104]⟩ W (by unfold maxLen; omega)
          have HA2 : Hid (∀ W, Calls Tryz.prog 68 #[.string nm, .string ⟨#[84, 114, 97, 110, 115, 102, 101, 114, 45, 69, 110, 99, 111, 100, 105, 110, 103]⟩] W fun e w' => e = .returned (.bool (Pm.alike nm.data.toList nCoding)) ∧ Below W.heap.size W w') := fun W => wAlike_any nm ⟨#[84, 114, 97, 110, 115, 102, 101, 114, 45, 69, 110, 99, 111, 100, 105, 110, 103]⟩ W (by unfold maxLen; omega)
          have HA3 : Hid (∀ W, Calls Tryz.prog 68 #[.string nm, .string ⟨#[72, 111, 115, 116]⟩] W fun e w' => e = .returned (.bool (Pm.alike nm.data.toList nHost)) ∧ Below W.heap.size W w') := fun W => wAlike_any nm ⟨#[72, 111, 115, 116]⟩ W (by unfold maxLen; omega)
          generalize Pm.isField nm.data.toList vl.data.toList = b1 at *
          generalize Pm.alike nm.data.toList nLength = b2 at *
          generalize Pm.alike nm.data.toList nCoding = b3 at *
          generalize Pm.alike nm.data.toList nHost = b4 at *
          generalize (valsOf (fs.take k) nHost).length = hc at *
          have hA := (Below.refl wr.heap.size wr).alloc (Nat.le_refl _) (.cells #[.string nm, .string vl] 61)
          have hBA := bel_of I.out hA
          go_wp2_with fail
          refine (HIF.out _).mono ?_
          rintro e w4 ⟨rfl, hb4⟩
          have hB4 := bel_of hBA hb4
          have f0 := cell_later hb4 (a := ⟨wr.heap.size, 0, none⟩) (v := .string nm) (by simp)
          have fl : wr.heap.size < w4.heap.size := Nat.lt_of_lt_of_le (by simp) hb4.size
          clear HIF hA hBA hb4 hc1 hc2 I
          cases b1
          · have HN : Hid (PO = false) := by unfold Hid; rw [HP.out, H.out, HA.out, HO.out]; rfl
            clear HP H HA HH HO
            go_wp2
            go_ret
            exact ⟨ret_bool HN.out.symm, hB4⟩
          · go_wp2_with fail
            refine (HA1.out _).mono ?_
            rintro e w5 ⟨rfl, hb5⟩
            have hB5 := bel_of hB4 hb5
            have f05 := cell_later hb5 f0
            have fl5 : wr.heap.size < w5.heap.size := Nat.lt_of_lt_of_le fl hb5.size
            clear hB4 hb5 f0 fl
            cases b2
            · go_wp2_with fail
              refine (HA2.out _).mono ?_
              rintro e w6 ⟨rfl, hb6⟩
              have hB6 := bel_of hB5 hb6
              have f06 := cell_later hb6 f05
              have fl6 : wr.heap.size < w6.heap.size := Nat.lt_of_lt_of_le fl5 hb6.size
              clear hB5 hb6 f05 fl5
              cases b3
              · have HN : Hid (fs.all okF = (fs.drop (k + 1)).all okF) := by unfold Hid; rw [H.out, HA.out, HO.out]; rfl
                clear H HA HO
                go_wp2_with fail
                refine (HA3.out _).mono ?_
                rintro e w7 ⟨rfl, hb7⟩
                have hB7 := bel_of hB6 hb7
                clear hB6 hb7 f06 fl6
                cases b4
                · simp only [Bool.false_eq_true, if_false, Nat.add_zero] at HH
                  go_wp2
                  exact ⟨⟨k + 1, by omega, by go_num, by rw [HH.out], HN.out, hB7⟩, by simp [intOf]; omega⟩
                · simp only [if_true] at HH
                  go_wp2
                  exact ⟨⟨k + 1, by omega, by go_num, by rw [HH.out]; go_num, HN.out, hB7⟩, by simp [intOf]; omega⟩
              · have HN : Hid (PO = false) := by unfold Hid; rw [HP.out, H.out, HA.out, HO.out]; rfl
                clear HP H HA HH HO
                go_wp2
                go_ret
                exact ⟨ret_bool HN.out.symm, hB6⟩
            · have HN : Hid (PO = false) := by unfold Hid; rw [HP.out, H.out, HA.out, HO.out]; rfl
              clear HP H HA HH HO
              go_wp2
              go_ret
              exact ⟨ret_bool HN.out.symm, hB5⟩
        · have HE : Hid ((((valsOf (fs.take k) nHost).length : Int) == 1) = PO) := by
            unfold Hid
            rw [HP.out, H.out, List.drop_eq_nil_of_le (by omega), List.take_of_length_le (by omega)]
            rw [List.all_nil, Bool.true_and, Bool.eq_iff_iff, beq_iff_eq, decide_eq_true_iff]; omega
          generalize (valsOf (fs.take k) nHost).length = hc at *
          have hB := I.out
          go_wp2
          go_ret
          exact ⟨ret_bool HE.out, hB⟩
set_option maxRecDepth 100000 in
set_option maxHeartbeats 2000000 in
theorem rPrintable_any (m t : ByteArray) (fs : List Pr2) (a : Option Addr) (ca : Nat) (body : ByteArray) (w : World) (hf : FoAt fs a w) (hn : fs.length ≤ 1000000000) (hm : m.size ≤ 1000000000) (ht : t.size ≤ 1000000000) (hz : ∀ i (h : i < fs.length), fs[i].1.size ≤ 1000000000 ∧ fs[i].2.size ≤ 1000000000) :
    Calls Tryz.prog 34 #[.agg #[.string m, .string t, .slice a fs.length ca, .string body]] w fun e w' => e = .returned (.bool (pOk m.data.toList t.data.toList fs)) ∧ Below w.heap.size w w' := by
  have HF := hid hf
  have HZ := hid hz
  have hzm : ∀ i (h : i < fs.length), fs[i].1.size ≤ maxLen := fun i h => by have := (hz i h).1; unfold maxLen; omega
  have hB1 := (Below.refl w.heap.size w).alloc (Nat.le_refl _) (.cells #[.string m, .string t, .slice a fs.length ca, .string body] 36)
  have ro1 : RoAt w.heap.size m t (.slice a fs.length ca) body (w.alloc (.cells #[.string m, .string t, .slice a fs.length ca, .string body] 36)) := heap_alloc_new w _
  clear hf hz
  have HM := hid (fun W => rIsMethod_any m W (by unfold maxLen; omega))
  have HT := hid (fun W => rIsTarget_any t W (by unfold maxLen; omega))
  have H1 := hid (fun W (hW : Below w.heap.size w W) => rvHost fs a ca W (HF.out.below hW) hn hzm)
  have H2 := hid (fun W (hW : Below w.heap.size w W) => rvCoding fs a ca W (HF.out.below hW) hn hzm)
  have H3 := hid (fun W (hW : Below w.heap.size w W) => rvLength fs a ca W (HF.out.below hW) hn hzm)
  have HP : Hid (pOk m.data.toList t.data.toList fs = (Pm.isMethod m.data.toList && (Pm.isTarget t.data.toList && ((fs.all (fun f => Pm.isField f.1.data.toList f.2.data.toList) && (decide ((valsOf fs nLength).length = 0) && decide ((valsOf fs nCoding).length = 0))) && decide ((valsOf fs nHost).length = 1))))) := by
    unfold Hid pOk; rw [all_okF]
  have hv1 := valsOf_le fs nHost
  have hv2 := valsOf_le fs nCoding
  have hv3 := valsOf_le fs nLength
  generalize pOk m.data.toList t.data.toList fs = PO at *
  generalize Pm.isMethod m.data.toList = im at *
  generalize Pm.isTarget t.data.toList = it at *
  generalize (valsOf fs nHost).length = n1 at *
  generalize (valsOf fs nCoding).length = n2 at *
  generalize (valsOf fs nLength).length = n3 at *
  obtain ⟨c0, c1, c2, c3⟩ := ro1.cells
  have al1 := ro1.lt
  clear hzm
  go_enter Tryz.func34, Tryz.ntmps34
  go_wp2_with fail
  generalize w.alloc (.cells #[.string m, .string t, .slice a fs.length ca, .string body] 36) = w1 at *
  refine (HM.out _).mono ?_
  rintro e w2 ⟨rfl, hw2⟩
  subst hw2
  go_wp2_with fail
  refine (HT.out _).mono ?_
  rintro e w3 ⟨rfl, hb3⟩
  have ro3 := ro1.below hb3 al1
  have hB3 := bel_of hB1 hb3
  obtain ⟨d0, d1, d2, d3⟩ := ro3.cells
  have al3 := ro3.lt
  clear c0 c1 c2 c3 hb3 hB1 al1 HM HT ro1
  go_wp2_with fail
  refine (H1.out _ hB3).mono ?_
  rintro e w4 ⟨⟨x1, y1, rfl⟩, hb4⟩
  have ro4 := ro3.below hb4 al3
  have hB4 := bel_of hB3 hb4
  obtain ⟨e0, e1, e2, e3⟩ := ro4.cells
  have al4 := ro4.lt
  clear d0 d1 d2 d3 hb4 hB3 al3 H1 ro3
  go_wp2_with fail
  refine (H2.out _ hB4).mono ?_
  rintro e w5 ⟨⟨x2, y2, rfl⟩, hb5⟩
  have ro5 := ro4.below hb5 al4
  have hB5 := bel_of hB4 hb5
  obtain ⟨k0, k1, k2, k3⟩ := ro5.cells
  have al5 := ro5.lt
  clear e0 e1 e2 e3 hb5 hB4 al4 H2 ro4
  go_wp2_with fail
  refine (H3.out _ hB5).mono ?_
  rintro e w6 ⟨⟨x3, y3, rfl⟩, hb6⟩
  have ro6 := ro5.below hb6 al5
  have hB6 := bel_of hB5 hb6
  have al6 := ro6.lt
  clear k0 k1 k2 k3 hb6 hB5 al5 H3 ro5
  have bad : ∀ {x : Bool}, x = false → PO = x → Hid (PO = false) := fun h1 h2 => h2.trans h1
  cases im
  · have HN : Hid (PO = false) := HP.out
    clear HP bad
    go_wp2
    go_ret
    exact ⟨ret_bool HN.out.symm, hB6⟩
  · cases it
    · have HN : Hid (PO = false) := HP.out
      clear HP bad
      go_wp2
      go_ret
      exact ⟨ret_bool HN.out.symm, hB6⟩
    · rw [Bool.true_and, Bool.true_and] at HP
      by_cases g1 : n1 = 1
      · by_cases g2 : n2 = 0
        · by_cases g3 : n3 = 0
          · subst g1 g2 g3
            simp only [decide_true, Bool.and_true] at HP
            have J0 := hid (And.intro ro6 hB6)
            clear ro6 hB6 bad
            go_wp2_with fail
            go_loopw [8, 9, 10] (fun i _ _ wr => ∃ k : Nat, k ≤ fs.length ∧ i = .int .i64 k ∧ Hid (fs.all (fun f => Pm.isField f.1.data.toList f.2.data.toList) = (fs.drop k).all (fun f => Pm.isField f.1.data.toList f.2.data.toList)) ∧ Hid (RoAt w.heap.size m t (.slice a fs.length ca) body wr ∧ Below w.heap.size w wr)) (fun i _ _ _ => fs.length - (intOf i).toNat)
            case atStart => exact ⟨0, Nat.zero_le _, rfl, rfl, J0.out⟩
            case round =>
              clear J0
              obtain ⟨k, hk, rfl, H, I⟩ := hrel
              have b2 := I.out.1.cells.2.2.1
              have bl := I.out.1.lt
              by_cases hlt : k < fs.length
              · obtain ⟨g, o, rfl, hg, hc1, hc2⟩ := (HF.out.below I.out.2) k hlt
                have HA : Hid ((fs.drop k).all (fun f => Pm.isField f.1.data.toList f.2.data.toList) = ((Pm.isTok fs[k].1.data.toList && Pm.isValue fs[k].2.data.toList) && (fs.drop (k + 1)).all (fun f => Pm.isField f.1.data.toList f.2.data.toList))) := by
                  unfold Hid; rw [List.drop_eq_getElem_cons hlt, List.all_cons]; rfl
                obtain ⟨z1, z2⟩ := HZ.out k hlt
                have HK1 := hid (fun W => rIsToken_any fs[k].1 W (by unfold maxLen; omega))
                have HK2 := hid (fun W => rIsValue_any fs[k].2 W (by unfold maxLen; omega))
                generalize Pm.isTok fs[k].1.data.toList = t1 at *
                generalize Pm.isValue fs[k].2.data.toList = t2 at *
                generalize fs[k].1 = nm at *
                generalize fs[k].2 = vl at *
                go_wp2_with fail
                refine (HK1.out _).mono ?_
                rintro e w7 ⟨rfl, hw7⟩
                subst hw7
                go_wp2_with fail
                refine (HK2.out _).mono ?_
                rintro e w8 ⟨rfl, hb8⟩
                have ro8 := I.out.1.below hb8 bl
                have hB8 := bel_of I.out.2 hb8
                clear HK1 HK2 hc1 hc2 I hb8 b2
                have J8 := hid (And.intro ro8 hB8)
                clear ro8
                cases t1
                · have HN : Hid (PO = false) := by unfold Hid; rw [HP.out, H.out, HA.out]; rfl
                  clear HP H HA
                  go_wp2
                  go_ret
                  exact ⟨ret_bool HN.out.symm, hB8⟩
                · cases t2
                  · have HN : Hid (PO = false) := by unfold Hid; rw [HP.out, H.out, HA.out]; rfl
                    clear HP H HA
                    go_wp2
                    go_ret
                    exact ⟨ret_bool HN.out.symm, hB8⟩
                  · have HN : Hid (fs.all (fun f => Pm.isField f.1.data.toList f.2.data.toList) = (fs.drop (k + 1)).all (fun f => Pm.isField f.1.data.toList f.2.data.toList)) := by unfold Hid; rw [H.out, HA.out]; rfl
                    clear H HA
                    go_wp2
                    exact ⟨⟨k + 1, by omega, by go_num, HN.out, J8.out⟩, by simp [intOf]; omega⟩
              · have HN : Hid (PO = true) := by
                  unfold Hid; rw [HP.out, H.out, List.drop_eq_nil_of_le (by omega)]; rfl
                have hB := I.out.2
                go_wp2
                go_ret
                exact ⟨ret_bool HN.out.symm, hB⟩
          · have HN := bad (by rw [decide_eq_false g3]; simp) HP.out
            clear HP bad
            have q3 : (0 : Int) < (n3 : Int) := by omega
            subst g1 g2
            go_wp2
            go_ret
            exact ⟨ret_bool HN.out.symm, hB6⟩
        · have HN := bad (by rw [decide_eq_false g2]; simp) HP.out
          clear HP bad
          have q2 : (0 : Int) < (n2 : Int) := by omega
          subst g1
          go_wp2
          go_ret
          exact ⟨ret_bool HN.out.symm, hB6⟩
      · have HN := bad (by rw [decide_eq_false g1]; simp) HP.out
        clear HP bad
        have q1 : ((n1 : Int) != 1) = true := by rw [bne_iff_ne]; omega
        go_wp2
        go_ret
        exact ⟨ret_bool HN.out.symm, hB6⟩
end Go.Proofs.YtnohadlihgjppaaGreatDoor
