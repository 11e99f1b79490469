/- Texts that follow one another, joined. -/
import Derived.Test.YtnohadlihgjppaaDoorJoin24
/- The reference's IsPattern; nothing old in memory turns. -/
namespace Go.Proofs.YtnohadlihgjppaaDoor
open Go.RowKit

def alN : ByteArray := ⟨#[48, 49, 50, 51, 52, 53, 54, 55, 56, 57, 97, 98, 99, 100, 101, 102, 103, 104, 105, 106, 107, 108, 109, 110, 111, 112, 113, 114, 115, 116, 117, 118, 119, 120, 121, 122]⟩
def alF : List UInt8 := [48, 49, 50, 51, 52, 53, 54, 55, 56, 57, 97, 98, 99, 100, 101, 102, 103, 104, 105, 106, 107, 108, 109, 110, 111, 112, 113, 114, 115, 116, 117, 118, 119, 120, 121, 122, 65, 66, 67, 68, 69, 70, 71, 72, 73, 74, 75, 76, 77, 78, 79, 80, 81, 82, 83, 84, 85, 86, 87, 88, 89, 90, 45, 46, 95, 126]
theorem pcs_le : ∀ (n : Nat) (l : List UInt8), l.length ≤ n → (pcs l).length ≤ l.length ∧ ∀ x ∈ pcs l, x.length ≤ l.length
  | 0, l, h => by
    have : l = [] := List.eq_nil_of_length_eq_zero (by omega)
    rw [this, pcs, if_pos rfl]; simp
  | n + 1, l, h => by
    by_cases hl : l = []
    · rw [hl, pcs, if_pos rfl]; simp
    · have hp : 0 < l.length := List.length_pos_iff.mpr hl
      have h1 := behind_le 47 (l.drop 1)
      have h2 := (ahead_le 47 (l.drop 1)).1
      rw [List.length_drop] at h1 h2
      obtain ⟨i1, i2⟩ := pcs_le n (Pm.behind 47 (l.drop 1)) (by omega)
      rw [pcs_step hl]
      refine ⟨by rw [List.length_cons]; omega, fun x hx => ?_⟩
      rcases List.mem_cons.mp hx with rfl | hx
      · omega
      · have := i2 x hx; omega
def okN (n : ByteArray) (rest : Bool) (last : Bool) : Bool := (Pm.allP (Pm.inB alN.data.toList) n.data.toList && !n.toList.isEmpty) && (!rest || last)
def okP (ts : List ByteArray) (t : ByteArray) (k : Nat) : Bool :=
  if Pm.pieceK t.data.toList = 0 then Pm.allP (Pm.inB alF) t.data.toList
  else okN (nameOf t) (Pm.pieceK t.data.toList == 2) (decide (k + 1 = ts.length)) && (ts.take k).all (fun o => !((nameOf o).toList == (nameOf t).toList))

set_option maxRecDepth 100000 in
set_option maxHeartbeats 1000000 in
theorem rIsPattern_any (s : ByteArray) (w : World) (hs : s.size ≤ 4398046511104) :
    Calls Tryd.prog 33 #[.string s] w fun e w' => (∃ (b : Bool) (ts : List ByteArray), e = .returned (.bool b) ∧ ts.map (·.data.toList) = pcs s.data.toList ∧ (b = true ↔ s.size ≤ 64 ∧ Lib.hasPrefix s.data.toList [47] = true ∧ ∀ i (h : i < ts.length), okP ts ts[i] i = true)) ∧ Below w.heap.size w w' := by
  have hnone : ∃ ts : List ByteArray, ts.map (·.data.toList) = pcs s.data.toList := ⟨(pcs s.data.toList).map (fun l => ⟨l.toArray⟩), by rw [List.map_map]; exact (List.map_congr_left (fun _ _ => rfl)).trans (List.map_id _)⟩
  by_cases h0 : 0 < s.size
  · have he := empt_cons h0
    have HP := hid (hasP_at h0)
    cases hc : ((s[0].toNat : Int) == 47)
    · obtain ⟨ts, hts⟩ := hnone
      have HTS := hid hts
      clear hts
      have hc' : ((s[0].toNat : Int) != 47) = true := by rw [bne, hc]; rfl
      go_enter Tryd.func33, Tryd.ntmps33
      go_wp2
      go_ret
      exact ⟨⟨false, ts, rfl, HTS.out, by simp [HP.out, hc]⟩, Below.refl _ _⟩
    · have hc' : ((s[0].toNat : Int) != 47) = false := by rw [bne, hc]; rfl
      by_cases h64 : s.size ≤ 64
      · clear hnone
        have HPI := hid (fun W => rPieces_any s W hs)
        go_enter Tryd.func33, Tryd.ntmps33
        go_wp2_with fail
        refine (HPI.out _).mono ?_
        rintro e w1 ⟨⟨v, ts, rfl, ow1, hts⟩, hb1⟩
        obtain ⟨a, cap, rfl, hst⟩ := StAt.of_owns ow1
        have hpl := pcs_le _ s.data.toList (Nat.le_refl _)
        rw [← hts] at hpl
        have hsl : s.data.toList.length = s.size := by simp
        have htl : ts.length ≤ 64 := by have := hpl.1; rw [List.length_map] at this; omega
        have HZ : Hid (∀ i (h : i < ts.length), ts[i].size ≤ 64) := fun i h => by
          have h1 := hpl.2 ts[i].data.toList (List.mem_map.mpr ⟨_, List.getElem_mem h, rfl⟩)
          have h2 : ts[i].data.toList.length = ts[i].size := by simp
          omega
        have HTS := hid hts
        have HST := hid hst
        clear HPI hpl hts hst ow1 hsl
        have hlast : IntKind.i64.wrap ((ts.length : Int) - 1) = (ts.length : Int) - 1 := by simp [IntKind.wrap, IntKind.bits, IntKind.signed]; omega
        go_wp2_with fail
        go_loopw [4, 5, 6, 7, 8, 9, 10] (fun i _ _ _ _ _ _ wr => ∃ k : Nat, k ≤ ts.length ∧ i = .int .i64 k ∧ Hid (∀ j (_ : j < k) (h : j < ts.length), okP ts ts[j] j = true) ∧ Below w1.heap.size w1 wr) (fun i _ _ _ _ _ _ _ => ts.length - (intOf i).toNat)
        case atStart => exact ⟨0, Nat.zero_le _, rfl, fun j h => absurd h (by omega), Below.refl _ _⟩
        case round =>
          obtain ⟨k, hk, rfl, H, hbw⟩ := hrel
          by_cases hlt : k < ts.length
          · have HY : Hid (okP ts ts[k] k = true → ∀ j (_ : j < k + 1) (h : j < ts.length), okP ts ts[j] j = true) := fun h j h1 h2 => by
              rcases Nat.lt_or_ge j k with h3 | h3
              · exact H.out j h3 h2
              · obtain rfl : j = k := by omega
                exact h
            have HX : Hid (okP ts ts[k] k = false → ¬ ∀ j (h : j < ts.length), okP ts ts[j] j = true) := fun h h' => by
              rw [h' k hlt] at h; cases h
            obtain ⟨g, rfl, hg, hck⟩ := (HST.out.below hbw) k hlt
            have hzk := HZ.out k hlt
            generalize hOK : okP ts ts[k] k = OK at *
            have HOK := hid hOK
            clear hOK H
            unfold okP at HOK
            generalize ts[k] = tx at *
            have HFx := hid (fun W => rIsFixed_any tx W)
            have HRs := hid (fun W => rIsRest_any tx W)
            have HNm := hid (fun W => rnamed_any tx W (by unfold maxLen; omega))
            have HM1 := hid (fun W => madeG_any tx ⟨alF.toArray⟩ W (by unfold maxLen; omega) (by decide))
            have HM2 := hid (fun W (h : (nameOf tx).size ≤ maxLen) => madeG_any (nameOf tx) alN W h (by decide))
            generalize Pm.pieceK tx.data.toList = K at *
            go_wp2_with fail
            refine (HFx.out _).mono ?_
            rintro e w2 ⟨rfl, hb2⟩
            have hck2 := cell_later hb2 hck
            have hB2 := bel_of hbw hb2
            go_wp2_with fail
            refine (HRs.out _).mono ?_
            rintro e w3 ⟨rfl, hb3⟩
            have hck3 := cell_later hb3 hck2
            have hB3 := bel_of hB2 hb3
            have hg3 : g < w3.heap.size := Nat.lt_of_lt_of_le hg (Nat.le_trans hb2.size hb3.size)
            clear hck hck2 hb2 hb3 hB2 HFx HRs
            by_cases hK : K = 0
            · have hk0 : (K == 0) = true := by rw [hK]; rfl
              rw [if_pos hK] at HOK
              rw [hk0]
              go_wp2_with fail
              refine (HM1.out _).mono ?_
              rintro e w4 ⟨rfl, rfl⟩
              have hA : Pm.allP (Pm.inB (⟨alF.toArray⟩ : ByteArray).data.toList) tx.data.toList = OK := HOK.out
              rw [hA]
              cases OK
              · have HX2 := hid (HX.out rfl)
                clear HX HY HOK
                go_wp2
                go_ret
                exact ⟨⟨false, ts, rfl, HTS.out, ⟨fun h => Bool.noConfusion h, fun h => absurd h.2.2 HX2.out⟩⟩, bel_of hb1 hB3⟩
              · have HY2 := hid (HY.out rfl)
                clear HX HY HOK
                go_wp2
                exact ⟨⟨k + 1, by omega, by go_num, HY2.out, hB3⟩, by simp [intOf]; omega⟩
            · have hk0 : (K == 0) = false := by rw [beq_eq_false_iff_ne]; exact hK
              rw [if_neg hK] at HOK
              rw [hk0]
              have hnz : (nameOf tx).size ≤ maxLen := by
                unfold nameOf maxLen
                split
                · decide
                · simp; omega
              go_wp2_with fail
              refine (HNm.out _).mono ?_
              rintro e w4 ⟨rfl, hb4⟩
              have hB4 := bel_of hB3 hb4
              go_wp2_with fail
              refine (HM2.out _ hnz).mono ?_
              rintro e w5 ⟨rfl, rfl⟩
              have hN : okN (nameOf tx) (K == 2) (decide (k + 1 = ts.length)) = ((Pm.allP (Pm.inB alN.data.toList) (nameOf tx).data.toList && !(nameOf tx).toList.isEmpty) && (!(K == 2) || decide (k + 1 = ts.length))) := rfl
              have hL : ((k : Int) == (ts.length : Int) - 1) = decide (k + 1 = ts.length) := by
                rw [Bool.eq_iff_iff, beq_iff_eq, decide_eq_true_iff]; omega
              clear HNm HM1 HM2 hck3 hb4 hB3 hnz hK
              generalize nameOf tx = nm at *
              generalize Pm.allP (Pm.inB alN.data.toList) nm.data.toList = A at *
              generalize hBB : okN nm (K == 2) (decide (k + 1 = ts.length)) = BB at *
              clear hBB
              have hcs : (A = false ∧ BB = false) ∨ (A = true ∧ nm.toList.isEmpty = true ∧ BB = false) ∨ (A = true ∧ nm.toList.isEmpty = false ∧ (K == 2) = false ∧ BB = true) ∨ (A = true ∧ nm.toList.isEmpty = false ∧ (K == 2) = true ∧ ((k : Int) == (ts.length : Int) - 1) = BB) := by
                rw [hL]
                cases A
                · left; exact ⟨rfl, hN⟩
                · right
                  cases hE : nm.toList.isEmpty
                  · right
                    cases hR : (K == 2)
                    · left; refine ⟨rfl, rfl, rfl, ?_⟩; rw [hN, hE, hR]; rfl
                    · right; refine ⟨rfl, rfl, rfl, ?_⟩; rw [hN, hE, hR]; simp
                  · left; refine ⟨rfl, rfl, ?_⟩; rw [hN, hE]; rfl
              clear hN hL
              have HNQ := hid (fun q (h : q < ts.length) W => rnamed_any ts[q] W (by have := HZ.out q h; unfold maxLen; omega))
              rcases hcs with ⟨rfl, rfl⟩ | ⟨rfl, hE, rfl⟩ | ⟨rfl, hE, hR, rfl⟩ | ⟨rfl, hE, hR, hQ⟩
              all_goals
                go_wp2_with fail
                go_loopw [7, 9, 10] (fun o j _ wr => ∃ (q : Nat) (b : Bool), q ≤ k ∧ j = .int .i64 q ∧ o = .bool b ∧ Hid ((b && ((ts.take k).drop q).all (fun o => !((nameOf o).toList == nm.toList))) = OK) ∧ Below w1.heap.size w1 wr) (fun _ j _ _ => k - (intOf j).toNat)
                case atStart => exact ⟨0, _, Nat.zero_le _, rfl, rfl, HOK, hB4⟩
                case round =>
                  obtain ⟨q, b, hq, rfl, rfl, H, hbq⟩ := hrel
                  by_cases hqk : q < k
                  · have hq2 : q < ts.length := by omega
                    obtain ⟨g', hg', hgq, hcq⟩ := (HST.out.below hbq) q hq2
                    obtain rfl : g = g' := by simpa using hg'
                    have hdr : (ts.take k).drop q = ts[q] :: (ts.take k).drop (q + 1) := by
                      rw [← List.getElem_cons_drop (by rw [List.length_take]; omega : q < (ts.take k).length)]; simp
                    rw [hdr, List.all_cons] at H
                    have HN2 := hid (HNQ.out q hq2)
                    generalize ts[q] = tq at *
                    clear hdr hg'
                    go_wp2_with fail
                    refine (HN2.out _).mono ?_
                    rintro e w6 ⟨rfl, hb6⟩
                    have hB6 := bel_of hbq hb6
                    generalize nameOf tq = nq at *
                    clear HN2
                    cases b
                    · go_wp2
                      exact ⟨⟨q + 1, false, by omega, by go_num, rfl, H.out, hB6⟩, by simp [intOf]; omega⟩
                    · rw [Bool.true_and] at H
                      go_wp2
                      exact ⟨⟨q + 1, _, by omega, by go_num, rfl, H.out, hB6⟩, by simp [intOf]; omega⟩
                  · have HB : Hid (b = OK) := by
                      have := H.out
                      rw [List.drop_eq_nil_of_le (by rw [List.length_take]; omega)] at this
                      unfold Hid; simpa using this
                    rw [HB.out]
                    cases OK
                    · have HX2 := hid (HX.out rfl)
                      clear HX HY HOK H HB
                      go_wp2
                      go_ret
                      exact ⟨⟨false, ts, rfl, HTS.out, ⟨fun h => Bool.noConfusion h, fun h => absurd h.2.2 HX2.out⟩⟩, bel_of hb1 hbq⟩
                    · have HY2 := hid (HY.out rfl)
                      clear HX HY HOK H HB
                      go_wp2
                      exact ⟨⟨k + 1, by omega, by go_num, HY2.out, hbq⟩, by simp [intOf]; omega⟩
          · have HA : Hid (∀ j (h : j < ts.length), okP ts ts[j] j = true) := fun j h => H.out j (by omega) h
            go_wp2
            go_ret
            exact ⟨⟨true, ts, rfl, HTS.out, by simp only [true_iff]; exact ⟨h64, by rw [HP.out, hc], HA.out⟩⟩, bel_of hb1 hbw⟩
      · obtain ⟨ts, hts⟩ := hnone
        have HTS := hid hts
        clear hts
        have h64' : (64 : Int) < (s.size : Int) := by omega
        go_enter Tryd.func33, Tryd.ntmps33
        go_wp2
        go_ret
        exact ⟨⟨false, ts, rfl, HTS.out, by simp; omega⟩, Below.refl _ _⟩
  · have he := empt_nil h0
    obtain ⟨ts, hts⟩ := hnone
    have HTS := hid hts
    clear hts
    have HP := hid (hasP_none h0)
    go_enter Tryd.func33, Tryd.ntmps33
    go_wp2
    go_ret
    exact ⟨⟨false, ts, rfl, HTS.out, by simp [HP.out]⟩, Below.refl _ _⟩
end Go.Proofs.YtnohadlihgjppaaDoor

/- Plain mathematics of patterns, first part: the program's reading of a pattern is the reference's. -/
namespace Go.Proofs.YtnohadlihgjppaaDoor

theorem fix_al (c : UInt8) : Pm.inB alF c = Pm.fixB c := by
  have := Pm.all256 (p := fun c => Pm.inB alF c == Pm.fixB c) (by decide +kernel) c
  simpa using this
theorem name_al (c : UInt8) : Pm.inB alN.data.toList c = Pm.nameB c := by
  have := Pm.all256 (p := fun c => Pm.inB alN.data.toList c == Pm.nameB c) (by decide +kernel) c
  simpa using this
theorem fix_all (l : List UInt8) : Pm.allP (Pm.inB alF) l = Pm.allP Pm.fixB l := by
  unfold Pm.allP; congr 1; funext c; exact fix_al c
theorem name_all (l : List UInt8) : Pm.allP (Pm.inB alN.data.toList) l = Pm.allP Pm.nameB l := by
  unfold Pm.allP; congr 1; funext c; exact name_al c
theorem kind_cases (l : List UInt8) : Pm.pieceK l = 0 ∨ Pm.pieceK l = 1 ∨ Pm.pieceK l = 2 := by
  unfold Pm.pieceK; split
  · simp
  · split <;> simp
theorem pieceT_fix {l : List UInt8} (h : Pm.pieceK l = 0) : Pm.pieceT l = l := by
  unfold Pm.pieceK at h; unfold Pm.pieceT
  split at h
  · omega
  · rename_i h1; rw [if_neg h1]; split at h
    · omega
    · rename_i h2; rw [if_neg h2]
theorem pieceT_not {l : List UInt8} (h : Pm.pieceK l ≠ 0) : Pm.pieceT l = l.drop 1 := by
  unfold Pm.pieceK at h; unfold Pm.pieceT
  split
  · rfl
  · rename_i h1; rw [if_neg h1] at h; split
    · rfl
    · rename_i h2; rw [if_neg h2] at h; exact absurd rfl h
theorem nameOf_fix {s : ByteArray} (h : Pm.pieceK s.data.toList = 0) : nameOf s = ⟨#[]⟩ := by unfold nameOf; rw [if_pos h]
theorem nameOf_not {s : ByteArray} (h : Pm.pieceK s.data.toList ≠ 0) : nameOf s = ⟨(Pm.pieceT s.data.toList).toArray⟩ := by
  unfold nameOf; rw [if_neg h, pieceT_not h]
  have : (s.extract 1 s.size).data.toList = s.data.toList.drop 1 := by rw [Lib.extract_data, List.take_of_length_le (by simp)]
  rw [← this]
theorem nameOf_list {s : ByteArray} (h : Pm.pieceK s.data.toList ≠ 0) : (nameOf s).data.toList = Pm.pieceT s.data.toList := by rw [nameOf_not h]

theorem patOk_okP (ts : List ByteArray) (k : Nat) (hk : k < ts.length) :
    patOk ts[k].data.toList (decide (k + 1 = ts.length)) ((ts.take k).map (fun t => pcB t.data.toList)) = okP ts ts[k] k := by
  generalize ts[k] = t
  unfold patOk okP
  generalize decide (k + 1 = ts.length) = lst
  by_cases h0 : Pm.pieceK t.data.toList = 0
  · have h1 : ((ts.take k).map (fun t => pcB t.data.toList)).any (nameEq · (pcB t.data.toList)) = false := by
      rw [List.any_eq_false]; intro p _; unfold nameEq pcB; simp [h0]
    rw [if_pos h0, h1, fix_all, h0]
    unfold Pm.pieceOk; rw [if_pos h0]; simp
  · rw [if_neg h0]
    unfold Pm.pieceOk okN Pm.isName
    rw [if_neg h0, nameOf_list h0, name_all, ByteArray.toList_eq, nameOf_list h0]
    cases he : (Pm.pieceT t.data.toList).isEmpty
    · have h1 : ((ts.take k).map (fun t => pcB t.data.toList)).any (nameEq · (pcB t.data.toList)) = !((ts.take k).all (fun o => !((nameOf o).toList == Pm.pieceT t.data.toList))) := by
        rw [List.any_map, List.not_all_eq_any_not]
        congr 1; funext o
        simp only [Function.comp, Bool.not_not]
        unfold nameEq pcB
        simp only
        have h2 : (Pm.pieceK t.data.toList != 0) = true := by simpa using h0
        rw [h2, Bool.true_and, ByteArray.toList_eq, ByteArray.toList_eq, ByteArray.toList_eq]
        by_cases h3 : Pm.pieceK o.data.toList = 0
        · rw [nameOf_fix h3, h3]
          cases hp : Pm.pieceT t.data.toList with
          | nil => rw [hp] at he; simp at he
          | cons a b => rfl
        · rw [nameOf_list h3]; simp [h3]
      rw [h1, Bool.not_not]
      generalize ((ts.take k).all (fun o => !((nameOf o).toList == Pm.pieceT t.data.toList))) = A
      generalize Pm.allP Pm.nameB (Pm.pieceT t.data.toList) = B
      generalize (Pm.pieceK t.data.toList == 2) = C
      cases A <;> cases B <;> cases C <;> cases lst <;> rfl
    · simp
theorem patB_ok (ts : List ByteArray) : ∀ (n k : Nat), n + k = ts.length →
    ((∀ i, k ≤ i → ∀ h : i < ts.length, okP ts ts[i] i = true) → patB ((ts.drop k).map (·.data.toList)) ((ts.take k).map (fun t => pcB t.data.toList)) = some (ts.map (fun t => pcB t.data.toList))) ∧
    ((¬ ∀ i, k ≤ i → ∀ h : i < ts.length, okP ts ts[i] i = true) → patB ((ts.drop k).map (·.data.toList)) ((ts.take k).map (fun t => pcB t.data.toList)) = none)
  | 0, k, hn => by
    have hk : k = ts.length := by omega
    subst hk
    refine ⟨fun _ => ?_, fun h => absurd (fun i h1 h2 => absurd h2 (by omega)) h⟩
    rw [List.drop_length, List.take_length]; rfl
  | n + 1, k, hn => by
    have hk : k < ts.length := by omega
    obtain ⟨i1, i2⟩ := patB_ok ts n (k + 1) (by omega)
    have hd : ts.drop k = ts[k] :: ts.drop (k + 1) := (List.getElem_cons_drop hk).symm
    have hl : ((ts.drop (k + 1)).map (·.data.toList)).isEmpty = decide (k + 1 = ts.length) := by
      rw [Bool.eq_iff_iff, List.isEmpty_iff, List.map_eq_nil_iff, List.drop_eq_nil_iff, decide_eq_true_iff]; omega
    have ht : (ts.take k).map (fun t => pcB t.data.toList) ++ [pcB ts[k].data.toList] = (ts.take (k + 1)).map (fun t => pcB t.data.toList) := by
      rw [List.take_add_one, List.getElem?_eq_getElem hk, List.map_append]; rfl
    rw [hd, List.map_cons, patB, hl, patOk_okP ts k hk, ht]
    cases hok : okP ts ts[k] k
    · refine ⟨fun h => ?_, fun _ => by simp⟩
      rw [h k (Nat.le_refl _) hk] at hok; cases hok
    · rw [if_pos rfl]
      refine ⟨fun h => i1 (fun i hi => h i (by omega)), fun h => i2 (fun h' => h (fun i hi hl => ?_))⟩
      rcases Nat.lt_or_ge k i with h3 | h3
      · exact h' i h3 hl
      · obtain rfl : i = k := by omega
        exact hok
/- a pattern, as the reference says it -/
def GoodP (s : List UInt8) (ts : List ByteArray) : Prop := s.length ≤ 64 ∧ Lib.hasPrefix s [47] = true ∧ ∀ i (h : i < ts.length), okP ts ts[i] i = true
theorem patternOf_good {s : List UInt8} {ts : List ByteArray} (ht : ts.map (·.data.toList) = pcs s) (h : GoodP s ts) : patternOf s = some ((pcs s).map pcB) := by
  obtain ⟨h1, h2, h3⟩ := h
  have hne : s ≠ [] := by rintro rfl; simp [Lib.hasPrefix] at h2
  have := (patB_ok ts ts.length 0 (by omega)).1 (fun i _ h => h3 i h)
  unfold patternOf
  rw [if_pos ⟨h1, h2⟩]
  rw [List.drop_zero, ht, List.take_zero] at this
  have e : pcs s = Lib.split (s.drop 1) [47] := by unfold pcs; rw [if_neg hne]
  rw [← e, show ([] : List (Int × ByteArray)) = ([] : List ByteArray).map (fun t => pcB t.data.toList) from rfl, this, ← ht, List.map_map]; rfl
theorem patternOf_bad {s : List UInt8} {ts : List ByteArray} (ht : ts.map (·.data.toList) = pcs s) (h : ¬ GoodP s ts) : patternOf s = none := by
  unfold patternOf
  by_cases h1 : s.length ≤ 64 ∧ Lib.hasPrefix s [47] = true
  · rw [if_pos h1]
    have hne : s ≠ [] := by rintro rfl; simp [Lib.hasPrefix] at h1
    have e : pcs s = Lib.split (s.drop 1) [47] := by unfold pcs; rw [if_neg hne]
    have := (patB_ok ts ts.length 0 (by omega)).2 (fun h' => h ⟨h1.1, h1.2, fun i hi => h' i (Nat.zero_le _) hi⟩)
    rw [List.drop_zero, ht, List.take_zero] at this
    rw [← e]; exact this
  · rw [if_neg h1]
theorem good_rest {ts : List ByteArray} (h : ∀ i (h : i < ts.length), okP ts ts[i] i = true) : ∀ i (hi : i < ts.length), Pm.pieceK ts[i].data.toList = 2 → i + 1 = ts.length := fun i hi hk => by
  have := h i hi
  unfold okP at this
  rw [if_neg (by omega), hk] at this
  unfold okN at this
  simp only [Bool.and_eq_true] at this
  simpa using this.1.2
theorem good_fix {ts : List ByteArray} (h : ∀ i (h : i < ts.length), okP ts ts[i] i = true) : ∀ i (hi : i < ts.length), Pm.pieceK ts[i].data.toList = 0 → Pm.allP Pm.fixB ts[i].data.toList = true := fun i hi hk => by
  have := h i hi
  unfold okP at this
  rw [if_pos hk, fix_all] at this
  exact this
end Go.Proofs.YtnohadlihgjppaaDoor
