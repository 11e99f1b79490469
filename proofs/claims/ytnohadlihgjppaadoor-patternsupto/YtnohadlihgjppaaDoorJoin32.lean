/- Texts that follow one another, joined. -/
import Derived.Test.YtnohadlihgjppaaDoorJoin30
import Derived.Test.YtnohadlihgjppaaDoorJoin31
/- The reference's Common: the path that two patterns share, if there is one; nothing old in memory turns. -/
namespace Go.Proofs.YtnohadlihgjppaaDoor
open Go.RowKit

set_option maxRecDepth 100000 in
set_option maxHeartbeats 4000000 in
theorem rCommon_any (s t : ByteArray) (w : World) (hs : s.size ≤ 64) (ht : t.size ≤ 64) (ns : pcs s.data.toList ≠ []) (nt : pcs t.data.toList ≠ []) :
    Calls Tryd.prog 38 #[.string s, .string t] w fun r w' => (∃ b : ByteArray, r = .returned (.string b) ∧ b.toList.isEmpty = !(cmnB (pcs s.data.toList) (pcs t.data.toList))) ∧ Below w.heap.size w w' := by
  have HP1 := hid (fun W => rPieces_any s W (by omega))
  have HP2 := hid (fun W => rPieces_any t W (by omega))
  have HH1 := hid (fun (b : ByteArray) W (h : b.size ≤ 10000) => rHas_any s b W (by omega) (by omega))
  have HH2 := hid (fun (b : ByteArray) W (h : b.size ≤ 10000) => rHas_any t b W (by omega) (by omega))
  have hsl : s.data.toList.length = s.size := by simp
  have htl : t.data.toList.length = t.size := by simp
  have l1 := pcs_le _ s.data.toList (Nat.le_refl _)
  have l2 := pcs_le _ t.data.toList (Nat.le_refl _)
  rw [hsl] at l1
  rw [htl] at l2
  generalize hCB : cmnB (pcs s.data.toList) (pcs t.data.toList) = CB
  have HCB := hid hCB
  clear hCB
  unfold cmnB at HCB
  generalize pcs s.data.toList = A at *
  generalize pcs t.data.toList = B at *
  go_enter Tryd.func38, Tryd.ntmps38
  go_wp2_with fail
  refine (HP1.out _).mono ?_
  rintro e w1 ⟨⟨v1, ts, rfl, ow1, h1⟩, hb1⟩
  obtain ⟨a, ca, rfl, st1⟩ := StAt.of_owns ow1
  clear HP1 ow1
  go_wp2_with fail
  refine (HP2.out _).mono ?_
  rintro e w2 ⟨⟨v2, xs, rfl, ow2, h2⟩, hb2⟩
  obtain ⟨b, cb, rfl, st2⟩ := StAt.of_owns ow2
  have hB2 := bel_of hb1 hb2
  have ST1 := hid (st1.below hb2)
  have ST2 := hid st2
  subst h1 h2
  rw [List.length_map] at l1 l2
  have n1 : 0 < ts.length := List.length_pos_iff.mpr (fun h => ns (by rw [h]; rfl))
  have n2 : 0 < xs.length := List.length_pos_iff.mpr (fun h => nt (by rw [h]; rfl))
  have HZ1 : Hid (∀ i (h : i < ts.length), ts[i].size ≤ 64) := fun i h => by
    have h1 := l1.2 ts[i].data.toList (List.mem_map.mpr ⟨_, List.getElem_mem h, rfl⟩)
    have h2 : ts[i].data.toList.length = ts[i].size := by simp
    omega
  have HZ2 : Hid (∀ i (h : i < xs.length), xs[i].size ≤ 64) := fun i h => by
    have h1 := l2.2 xs[i].data.toList (List.mem_map.mpr ⟨_, List.getElem_mem h, rfl⟩)
    have h2 : xs[i].data.toList.length = xs[i].size := by simp
    omega
  have tl1 : ts.length ≤ 64 := by omega
  have tl2 : xs.length ≤ 64 := by omega
  clear HP2 ow2 st1 st2 hb1 hb2 l1 l2 hsl htl ns nt
  rw [List.length_map, List.length_map] at HCB
  generalize hA : ts.map (·.data.toList) = A at *
  generalize hBB : xs.map (·.data.toList) = B at *
  have HA := hid hA
  have HB := hid hBB
  clear hA hBB
  obtain ⟨n, hn⟩ : ∃ n, n = max ts.length xs.length := ⟨_, rfl⟩
  rw [← hn] at HCB
  have hmx : (ts.length < xs.length ∧ xs.length = n) ∨ (¬ ts.length < xs.length ∧ ts.length = n) := by omega
  have hn1 : ts.length ≤ n := by omega
  have hn2 : xs.length ≤ n := by omega
  have hn3 : n ≤ 64 := by omega
  clear hn
  have w1' : IntKind.i64.wrap ((ts.length : Int) - 1) = (ts.length : Int) - 1 := by simp [IntKind.wrap, IntKind.bits, IntKind.signed]; omega
  have w2' : IntKind.i64.wrap ((xs.length : Int) - 1) = (xs.length : Int) - 1 := by simp [IntKind.wrap, IntKind.bits, IntKind.signed]; omega
  rcases hmx with ⟨hlt, rfl⟩ | ⟨hlt, rfl⟩
  · go_wp2_with fail
    go_loopw [8, 9, 10, 11, 12, 13, 14, 15, 16, 17] (fun sv i _ _ _ _ _ _ _ _ wr => ∃ (q : Nat) (bs : ByteArray) (cs : List (List UInt8)), q ≤ xs.length ∧ i = .int .i64 q ∧ sv = .string bs ∧ bs.size ≤ q * 65 ∧ Hid (cmn A B q = some cs ∧ bs.data.toList = flatP cs) ∧ Below w2.heap.size w2 wr) (fun _ i _ _ _ _ _ _ _ _ _ => xs.length - (intOf i).toNat)
    case atStart => exact ⟨0, ⟨#[]⟩, [], Nat.zero_le _, rfl, rfl, Nat.le_refl _, ⟨rfl, rfl⟩, Below.refl _ _⟩
    case round =>
      obtain ⟨q, bs, cs, hq, rfl, rfl, hbs, H, hbw⟩ := hrel
      have HX : Hid ((xB ts q).data.toList = xAt A q) := by unfold Hid; rw [xB_at, HA.out]
      have HY : Hid ((xB xs q).data.toList = xAt B q) := by unfold Hid; rw [xB_at, HB.out]
      by_cases hq2 : q < xs.length
      · obtain ⟨ga, rfl, hga, hcaL⟩ := (ST1.out.below hbw) (ts.length - 1) (by omega)
        obtain ⟨gb, rfl, hgb, hcbL⟩ := (ST2.out.below hbw) (xs.length - 1) (by omega)
        obtain ⟨gN, hgN, _, hcN⟩ := (ST2.out.below hbw) q hq2
        obtain rfl : gb = gN := by simpa using hgN
        have hzN := HZ2.out q hq2
        have eN : xB xs q = xs[q] := by unfold xB; rw [if_pos hq2, List.getD_eq_getElem?_getD, List.getElem?_eq_getElem hq2]; rfl
        rw [← eN] at hcN hzN
        generalize xs[xs.length - 1] = lastN at *
        by_cases hq3 : q < ts.length
        case' pos =>
          obtain ⟨gO, hgO, _, hcO⟩ := (ST1.out.below hbw) q hq3
          obtain rfl : ga = gO := by simpa using hgO
          have hzO := HZ1.out q hq3
          have eO : xB ts q = ts[q] := by unfold xB; rw [if_pos hq3, List.getD_eq_getElem?_getD, List.getElem?_eq_getElem hq3]; rfl
          rw [← eO] at hcO hzO
          generalize ts[ts.length - 1] = lastO at *
          generalize xB ts q = X at *
          generalize xB xs q = Y at *
          clear eN eO hgN hgO
        case' neg =>
          have hzO := HZ1.out (ts.length - 1) (by omega)
          have eO : xB ts q = ts[ts.length - 1] := by unfold xB; rw [if_neg hq3, List.getD_eq_getElem?_getD, List.getElem?_eq_getElem (by omega)]; rfl
          rw [← eO] at hcaL hzO
          generalize xB ts q = X at *
          generalize xB xs q = Y at *
          clear eN eO hgN
        all_goals
          have hTs := heap_alloc_new wr (.cells #[.string X, .string Y, .string ⟨#[120]⟩] 99)
          have hA3 := (Below.refl wr.heap.size wr).alloc (Nat.le_refl _) (.cells #[.string X, .string Y, .string ⟨#[120]⟩] 99)
          have hB3 := bel_of hbw hA3
          have hzX : X.size ≤ 64 := by assumption
          have hzY : Y.size ≤ 64 := by assumption
          go_wp2_with fail
          generalize wr.alloc (.cells #[.string X, .string Y, .string ⟨#[120]⟩] 99) = w3 at *
          clear hA3
          generalize wr.heap.size = gT at *
          have HT : Hid (w3.heap[gT]? = some (.cells #[.string X, .string Y, .string ⟨#[120]⟩] 99 (0, 0))) := hTs
          have HTK := hid (fun p s W => rtakes_any p s W)
          have HFX := hid (fun s W => rIsFixed_any s W)
          clear hTs
          go_loopw [8, 13, 14, 15, 16, 17] (fun sv f k _ _ _ wi => ∃ (kk : Nat) (fd : Bool) (b2 : ByteArray), kk ≤ 3 ∧ k = .int .i64 kk ∧ f = .bool fd ∧ sv = .string b2 ∧ b2.size ≤ (q + 1) * 65 ∧ Hid ((fd = false ∧ b2 = bs ∧ ∀ j, j < kk → fitB X Y (tryAt X Y j) = false) ∨ (fd = true ∧ ∃ c, fnd X.data.toList Y.data.toList = some c ∧ b2.data.toList = bs.data.toList ++ 47 :: c)) ∧ Below w3.heap.size w3 wi) (fun _ _ k _ _ _ _ => 3 - (intOf k).toNat)
          case atStart => exact ⟨0, false, bs, Nat.zero_le _, rfl, rfl, rfl, by omega, .inl ⟨rfl, rfl, fun j h => absurd h (by omega)⟩, Below.refl _ _⟩
          case round =>
            obtain ⟨kk, fd, b2, hkk, rfl, rfl, rfl, hb2z, HI, hbi⟩ := hrel
            cases fd
            · obtain ⟨rfl, hno⟩ : b2 = bs ∧ ∀ j, j < kk → fitB X Y (tryAt X Y j) = false := by
                rcases HI.out with ⟨_, h1, h2⟩ | ⟨h, _⟩
                · exact ⟨h1, h2⟩
                · cases h
              have HNO := hid hno
              clear hno HI
              by_cases hk3 : kk < 3
              · have hcT := cell_later hbi (show w3.cell? ⟨gT, kk, none⟩ = some (.string (tryAt X Y kk)) by
                  rw [Lib.cell_of_heap HT.out]
                  match kk, hk3 with
                  | 0, _ => rfl
                  | 1, _ => rfl
                  | 2, _ => rfl)
                have hgT := Nat.lt_of_lt_of_le (Bp.heap_lt HT.out) hbi.size
                have hzT : (tryAt X Y kk).size ≤ 64 := by unfold tryAt; split; exact hzX; split; exact hzY; decide
                have HF : Hid (fitB X Y (tryAt X Y kk) = ((tkR X (tryAt X Y kk) && tkR Y (tryAt X Y kk)) && (Pm.pieceK (tryAt X Y kk).data.toList == 0))) := rfl
                have HYES : Hid (fitB X Y (tryAt X Y kk) = true → fnd X.data.toList Y.data.toList = some (tryAt X Y kk).data.toList) := fun h => fnd_at hk3 HNO.out h
                have HNEX : Hid (fitB X Y (tryAt X Y kk) = false → ∀ j, j < kk + 1 → fitB X Y (tryAt X Y j) = false) := fun h j hj => by
                  rcases Nat.lt_or_ge j kk with h3 | h3
                  · exact HNO.out j h3
                  · obtain rfl : j = kk := by omega
                    exact h
                generalize tryAt X Y kk = TT at *
                generalize fitB X Y TT = FB at *
                go_wp2_with fail
                refine (HTK.out X TT _).mono ?_
                rintro e w4 ⟨rfl, hb4⟩
                have hcT4 := cell_later hb4 hcT
                have hgT4 : gT < w4.heap.size := Nat.lt_of_lt_of_le hgT hb4.size
                have hB4 := bel_of hbi hb4
                clear hcT hgT
                go_wp2_with fail
                refine (HTK.out Y TT _).mono ?_
                rintro e w5 ⟨rfl, hb5⟩
                have hcT5 := cell_later hb5 hcT4
                have hgT5 : gT < w5.heap.size := Nat.lt_of_lt_of_le hgT4 hb5.size
                have hB5 := bel_of hB4 hb5
                clear hcT4 hgT4
                go_wp2_with fail
                refine (HFX.out TT _).mono ?_
                rintro e w6 ⟨rfl, hb6⟩
                have hcT6 := cell_later hb6 hcT5
                have hgT6 : gT < w6.heap.size := Nat.lt_of_lt_of_le hgT5 hb6.size
                have hB6 := bel_of hB5 hb6
                clear hcT5 hgT5 hb4 hb5 hb6 hB4 hB5
                generalize tkR X TT = f1 at *
                generalize tkR Y TT = f2 at *
                generalize (Pm.pieceK TT.data.toList == 0) = f3 at *
                cases f1
                · have HN2 := hid (HNEX.out HF.out)
                  clear HYES HNEX HF
                  go_wp2
                  exact ⟨⟨kk + 1, false, b2, by omega, by go_num, rfl, rfl, hb2z, .inl ⟨rfl, rfl, HN2.out⟩, hB6⟩, by simp [intOf]; omega⟩
                · cases f2
                  · have HN2 := hid (HNEX.out HF.out)
                    clear HYES HNEX HF
                    go_wp2
                    exact ⟨⟨kk + 1, false, b2, by omega, by go_num, rfl, rfl, hb2z, .inl ⟨rfl, rfl, HN2.out⟩, hB6⟩, by simp [intOf]; omega⟩
                  · cases f3
                    · have HN2 := hid (HNEX.out HF.out)
                      clear HYES HNEX HF
                      go_wp2
                      exact ⟨⟨kk + 1, false, b2, by omega, by go_num, rfl, rfl, hb2z, .inl ⟨rfl, rfl, HN2.out⟩, hB6⟩, by simp [intOf]; omega⟩
                    · have HY2 := hid (HYES.out HF.out)
                      clear HYES HNEX HF
                      go_wp2
                      exact ⟨⟨kk + 1, true, b2 ++ ⟨#[47]⟩ ++ TT, by omega, by go_num, rfl, rfl, (by simp only [ByteArray.size_append]; have h47 : (⟨#[47]⟩ : ByteArray).size = 1 := rfl; omega), .inr ⟨rfl, _, HY2.out, by simp⟩, hB6⟩, by simp [intOf]; omega⟩
              · have HS : Hid (cmn A B xs.length = none) := by
                  obtain rfl : kk = 3 := by omega
                  have h2 := fnd_no HNO.out
                  rw [HX.out, HY.out] at h2
                  exact cmn_stop h2 _ hq2
                have HF : Hid (CB = false) := by unfold Hid; rw [← HCB.out, HS.out]
                have hB7 := bel_of hB2 (bel_of hB3 hbi)
                clear HS HCB
                go_wp2
                go_ret
                exact ⟨⟨_, rfl, by rw [HF.out, ByteArray.toList_eq]; rfl⟩, hB7⟩
            · obtain ⟨c, hc1, hc2⟩ : ∃ c, fnd X.data.toList Y.data.toList = some c ∧ b2.data.toList = bs.data.toList ++ 47 :: c := by
                rcases HI.out with ⟨h, _⟩ | ⟨_, h⟩
                · cases h
                · exact h
              have HC : Hid (cmn A B (q + 1) = some (cs ++ [c]) ∧ b2.data.toList = flatP (cs ++ [c])) := by
                rw [HX.out, HY.out] at hc1
                exact ⟨cmn_next H.out.1 hc1, by rw [hc2, H.out.2, flatP_snoc]⟩
              have hB7 := bel_of hB3 hbi
              clear HI hc1 hc2
              go_wp2
              all_goals exact ⟨⟨q + 1, b2, _, by omega, by go_num, rfl, hb2z, HC.out, hB7⟩, by simp [intOf]; omega⟩
      · clear HX HY
        obtain rfl : q = xs.length := by omega
        obtain ⟨H1, H2⟩ := H.out
        rw [H1] at HCB
        have hcl := cmn_len _ _ H1
        have hne : cs ≠ [] := by rintro rfl; simp at hcl; omega
        have HE : Hid (bs.toList.isEmpty = false) := by unfold Hid; rw [ByteArray.toList_eq, H2]; exact flatP_empty cs hne
        have hbz : bs.size ≤ 10000 := by omega
        have HP1 := hid (fun W => HH1.out bs W hbz)
        have HP2 := hid (fun W => HH2.out bs W hbz)
        simp only at HCB
        rw [H2] at HP1 HP2
        generalize hasL A (pcs (flatP cs)) = M1 at *
        generalize hasL B (pcs (flatP cs)) = M2 at *
        have hB3 := bel_of hB2 hbw
        clear HH1 HH2 H H1 H2 hbw
        go_wp2_with fail
        refine (HP1.out _).mono ?_
        rintro e w4 ⟨hr4, hb4⟩
        have hB4 := bel_of hB3 hb4
        obtain ⟨v4, hv4⟩ : ∃ v, e = .returned (.tuple #[v, .bool M1.isSome]) := by
          cases M1 with
          | none => exact ⟨_, hr4⟩
          | some ps => obtain ⟨v, h, _⟩ := hr4; exact ⟨v, h⟩
        subst hv4
        clear hr4 HP1 hB3 hb4
        go_wp2_with fail
        refine (HP2.out _).mono ?_
        rintro e w5 ⟨hr5, hb5⟩
        have hB5 := bel_of hB4 hb5
        obtain ⟨v5, hv5⟩ : ∃ v, e = .returned (.tuple #[v, .bool M2.isSome]) := by
          cases M2 with
          | none => exact ⟨_, hr5⟩
          | some ps => obtain ⟨v, h, _⟩ := hr5; exact ⟨v, h⟩
        subst hv5
        clear hr5 HP2 hB4 hb5
        generalize M1.isSome = m1 at *
        generalize M2.isSome = m2 at *
        cases m1
        · have HF : Hid (CB = false) := HCB.out.symm
          clear HCB
          go_wp2
          go_ret
          exact ⟨⟨_, rfl, by rw [HF.out, ByteArray.toList_eq]; rfl⟩, hB5⟩
        · cases m2
          · have HF : Hid (CB = false) := HCB.out.symm
            clear HCB
            go_wp2
            go_ret
            exact ⟨⟨_, rfl, by rw [HF.out, ByteArray.toList_eq]; rfl⟩, hB5⟩
          · have HF : Hid (CB = true) := HCB.out.symm
            clear HCB
            go_wp2
            go_ret
            exact ⟨⟨_, rfl, by rw [HF.out, HE.out]; rfl⟩, hB5⟩
  · go_wp2_with fail
    go_loopw [8, 9, 10, 11, 12, 13, 14, 15, 16, 17] (fun sv i _ _ _ _ _ _ _ _ wr => ∃ (q : Nat) (bs : ByteArray) (cs : List (List UInt8)), q ≤ ts.length ∧ i = .int .i64 q ∧ sv = .string bs ∧ bs.size ≤ q * 65 ∧ Hid (cmn A B q = some cs ∧ bs.data.toList = flatP cs) ∧ Below w2.heap.size w2 wr) (fun _ i _ _ _ _ _ _ _ _ _ => ts.length - (intOf i).toNat)
    case atStart => exact ⟨0, ⟨#[]⟩, [], Nat.zero_le _, rfl, rfl, Nat.le_refl _, ⟨rfl, rfl⟩, Below.refl _ _⟩
    case round =>
      obtain ⟨q, bs, cs, hq, rfl, rfl, hbs, H, hbw⟩ := hrel
      have HX : Hid ((xB ts q).data.toList = xAt A q) := by unfold Hid; rw [xB_at, HA.out]
      have HY : Hid ((xB xs q).data.toList = xAt B q) := by unfold Hid; rw [xB_at, HB.out]
      by_cases hq2 : q < ts.length
      · obtain ⟨ga, rfl, hga, hcaL⟩ := (ST1.out.below hbw) (ts.length - 1) (by omega)
        obtain ⟨gb, rfl, hgb, hcbL⟩ := (ST2.out.below hbw) (xs.length - 1) (by omega)
        obtain ⟨gN, hgN, _, hcN⟩ := (ST1.out.below hbw) q hq2
        obtain rfl : ga = gN := by simpa using hgN
        have hzN := HZ1.out q hq2
        have eN : xB ts q = ts[q] := by unfold xB; rw [if_pos hq2, List.getD_eq_getElem?_getD, List.getElem?_eq_getElem hq2]; rfl
        rw [← eN] at hcN hzN
        generalize ts[ts.length - 1] = lastN at *
        by_cases hq3 : q < xs.length
        case' pos =>
          obtain ⟨gO, hgO, _, hcO⟩ := (ST2.out.below hbw) q hq3
          obtain rfl : gb = gO := by simpa using hgO
          have hzO := HZ2.out q hq3
          have eO : xB xs q = xs[q] := by unfold xB; rw [if_pos hq3, List.getD_eq_getElem?_getD, List.getElem?_eq_getElem hq3]; rfl
          rw [← eO] at hcO hzO
          generalize xs[xs.length - 1] = lastO at *
          generalize xB ts q = X at *
          generalize xB xs q = Y at *
          clear eN eO hgN hgO
        case' neg =>
          have hzO := HZ2.out (xs.length - 1) (by omega)
          have eO : xB xs q = xs[xs.length - 1] := by unfold xB; rw [if_neg hq3, List.getD_eq_getElem?_getD, List.getElem?_eq_getElem (by omega)]; rfl
          rw [← eO] at hcbL hzO
          generalize xB ts q = X at *
          generalize xB xs q = Y at *
          clear eN eO hgN
        all_goals
          have hTs := heap_alloc_new wr (.cells #[.string X, .string Y, .string ⟨#[120]⟩] 99)
          have hA3 := (Below.refl wr.heap.size wr).alloc (Nat.le_refl _) (.cells #[.string X, .string Y, .string ⟨#[120]⟩] 99)
          have hB3 := bel_of hbw hA3
          have hzX : X.size ≤ 64 := by assumption
          have hzY : Y.size ≤ 64 := by assumption
          go_wp2_with fail
          generalize wr.alloc (.cells #[.string X, .string Y, .string ⟨#[120]⟩] 99) = w3 at *
          clear hA3
          generalize wr.heap.size = gT at *
          have HT : Hid (w3.heap[gT]? = some (.cells #[.string X, .string Y, .string ⟨#[120]⟩] 99 (0, 0))) := hTs
          have HTK := hid (fun p s W => rtakes_any p s W)
          have HFX := hid (fun s W => rIsFixed_any s W)
          clear hTs
          go_loopw [8, 13, 14, 15, 16, 17] (fun sv f k _ _ _ wi => ∃ (kk : Nat) (fd : Bool) (b2 : ByteArray), kk ≤ 3 ∧ k = .int .i64 kk ∧ f = .bool fd ∧ sv = .string b2 ∧ b2.size ≤ (q + 1) * 65 ∧ Hid ((fd = false ∧ b2 = bs ∧ ∀ j, j < kk → fitB X Y (tryAt X Y j) = false) ∨ (fd = true ∧ ∃ c, fnd X.data.toList Y.data.toList = some c ∧ b2.data.toList = bs.data.toList ++ 47 :: c)) ∧ Below w3.heap.size w3 wi) (fun _ _ k _ _ _ _ => 3 - (intOf k).toNat)
          case atStart => exact ⟨0, false, bs, Nat.zero_le _, rfl, rfl, rfl, by omega, .inl ⟨rfl, rfl, fun j h => absurd h (by omega)⟩, Below.refl _ _⟩
          case round =>
            obtain ⟨kk, fd, b2, hkk, rfl, rfl, rfl, hb2z, HI, hbi⟩ := hrel
            cases fd
            · obtain ⟨rfl, hno⟩ : b2 = bs ∧ ∀ j, j < kk → fitB X Y (tryAt X Y j) = false := by
                rcases HI.out with ⟨_, h1, h2⟩ | ⟨h, _⟩
                · exact ⟨h1, h2⟩
                · cases h
              have HNO := hid hno
              clear hno HI
              by_cases hk3 : kk < 3
              · have hcT := cell_later hbi (show w3.cell? ⟨gT, kk, none⟩ = some (.string (tryAt X Y kk)) by
                  rw [Lib.cell_of_heap HT.out]
                  match kk, hk3 with
                  | 0, _ => rfl
                  | 1, _ => rfl
                  | 2, _ => rfl)
                have hgT := Nat.lt_of_lt_of_le (Bp.heap_lt HT.out) hbi.size
                have hzT : (tryAt X Y kk).size ≤ 64 := by unfold tryAt; split; exact hzX; split; exact hzY; decide
                have HF : Hid (fitB X Y (tryAt X Y kk) = ((tkR X (tryAt X Y kk) && tkR Y (tryAt X Y kk)) && (Pm.pieceK (tryAt X Y kk).data.toList == 0))) := rfl
                have HYES : Hid (fitB X Y (tryAt X Y kk) = true → fnd X.data.toList Y.data.toList = some (tryAt X Y kk).data.toList) := fun h => fnd_at hk3 HNO.out h
                have HNEX : Hid (fitB X Y (tryAt X Y kk) = false → ∀ j, j < kk + 1 → fitB X Y (tryAt X Y j) = false) := fun h j hj => by
                  rcases Nat.lt_or_ge j kk with h3 | h3
                  · exact HNO.out j h3
                  · obtain rfl : j = kk := by omega
                    exact h
                generalize tryAt X Y kk = TT at *
                generalize fitB X Y TT = FB at *
                go_wp2_with fail
                refine (HTK.out X TT _).mono ?_
                rintro e w4 ⟨rfl, hb4⟩
                have hcT4 := cell_later hb4 hcT
                have hgT4 : gT < w4.heap.size := Nat.lt_of_lt_of_le hgT hb4.size
                have hB4 := bel_of hbi hb4
                clear hcT hgT
                go_wp2_with fail
                refine (HTK.out Y TT _).mono ?_
                rintro e w5 ⟨rfl, hb5⟩
                have hcT5 := cell_later hb5 hcT4
                have hgT5 : gT < w5.heap.size := Nat.lt_of_lt_of_le hgT4 hb5.size
                have hB5 := bel_of hB4 hb5
                clear hcT4 hgT4
                go_wp2_with fail
                refine (HFX.out TT _).mono ?_
                rintro e w6 ⟨rfl, hb6⟩
                have hcT6 := cell_later hb6 hcT5
                have hgT6 : gT < w6.heap.size := Nat.lt_of_lt_of_le hgT5 hb6.size
                have hB6 := bel_of hB5 hb6
                clear hcT5 hgT5 hb4 hb5 hb6 hB4 hB5
                generalize tkR X TT = f1 at *
                generalize tkR Y TT = f2 at *
                generalize (Pm.pieceK TT.data.toList == 0) = f3 at *
                cases f1
                · have HN2 := hid (HNEX.out HF.out)
                  clear HYES HNEX HF
                  go_wp2
                  exact ⟨⟨kk + 1, false, b2, by omega, by go_num, rfl, rfl, hb2z, .inl ⟨rfl, rfl, HN2.out⟩, hB6⟩, by simp [intOf]; omega⟩
                · cases f2
                  · have HN2 := hid (HNEX.out HF.out)
                    clear HYES HNEX HF
                    go_wp2
                    exact ⟨⟨kk + 1, false, b2, by omega, by go_num, rfl, rfl, hb2z, .inl ⟨rfl, rfl, HN2.out⟩, hB6⟩, by simp [intOf]; omega⟩
                  · cases f3
                    · have HN2 := hid (HNEX.out HF.out)
                      clear HYES HNEX HF
                      go_wp2
                      exact ⟨⟨kk + 1, false, b2, by omega, by go_num, rfl, rfl, hb2z, .inl ⟨rfl, rfl, HN2.out⟩, hB6⟩, by simp [intOf]; omega⟩
                    · have HY2 := hid (HYES.out HF.out)
                      clear HYES HNEX HF
                      go_wp2
                      exact ⟨⟨kk + 1, true, b2 ++ ⟨#[47]⟩ ++ TT, by omega, by go_num, rfl, rfl, (by simp only [ByteArray.size_append]; have h47 : (⟨#[47]⟩ : ByteArray).size = 1 := rfl; omega), .inr ⟨rfl, _, HY2.out, by simp⟩, hB6⟩, by simp [intOf]; omega⟩
              · have HS : Hid (cmn A B ts.length = none) := by
                  obtain rfl : kk = 3 := by omega
                  have h2 := fnd_no HNO.out
                  rw [HX.out, HY.out] at h2
                  exact cmn_stop h2 _ hq2
                have HF : Hid (CB = false) := by unfold Hid; rw [← HCB.out, HS.out]
                have hB7 := bel_of hB2 (bel_of hB3 hbi)
                clear HS HCB
                go_wp2
                go_ret
                exact ⟨⟨_, rfl, by rw [HF.out, ByteArray.toList_eq]; rfl⟩, hB7⟩
            · obtain ⟨c, hc1, hc2⟩ : ∃ c, fnd X.data.toList Y.data.toList = some c ∧ b2.data.toList = bs.data.toList ++ 47 :: c := by
                rcases HI.out with ⟨h, _⟩ | ⟨_, h⟩
                · cases h
                · exact h
              have HC : Hid (cmn A B (q + 1) = some (cs ++ [c]) ∧ b2.data.toList = flatP (cs ++ [c])) := by
                rw [HX.out, HY.out] at hc1
                exact ⟨cmn_next H.out.1 hc1, by rw [hc2, H.out.2, flatP_snoc]⟩
              have hB7 := bel_of hB3 hbi
              clear HI hc1 hc2
              go_wp2
              all_goals exact ⟨⟨q + 1, b2, _, by omega, by go_num, rfl, hb2z, HC.out, hB7⟩, by simp [intOf]; omega⟩
      · clear HX HY
        obtain rfl : q = ts.length := by omega
        obtain ⟨H1, H2⟩ := H.out
        rw [H1] at HCB
        have hcl := cmn_len _ _ H1
        have hne : cs ≠ [] := by rintro rfl; simp at hcl; omega
        have HE : Hid (bs.toList.isEmpty = false) := by unfold Hid; rw [ByteArray.toList_eq, H2]; exact flatP_empty cs hne
        have hbz : bs.size ≤ 10000 := by omega
        have HP1 := hid (fun W => HH1.out bs W hbz)
        have HP2 := hid (fun W => HH2.out bs W hbz)
        simp only at HCB
        rw [H2] at HP1 HP2
        generalize hasL A (pcs (flatP cs)) = M1 at *
        generalize hasL B (pcs (flatP cs)) = M2 at *
        have hB3 := bel_of hB2 hbw
        clear HH1 HH2 H H1 H2 hbw
        go_wp2_with fail
        refine (HP1.out _).mono ?_
        rintro e w4 ⟨hr4, hb4⟩
        have hB4 := bel_of hB3 hb4
        obtain ⟨v4, hv4⟩ : ∃ v, e = .returned (.tuple #[v, .bool M1.isSome]) := by
          cases M1 with
          | none => exact ⟨_, hr4⟩
          | some ps => obtain ⟨v, h, _⟩ := hr4; exact ⟨v, h⟩
        subst hv4
        clear hr4 HP1 hB3 hb4
        go_wp2_with fail
        refine (HP2.out _).mono ?_
        rintro e w5 ⟨hr5, hb5⟩
        have hB5 := bel_of hB4 hb5
        obtain ⟨v5, hv5⟩ : ∃ v, e = .returned (.tuple #[v, .bool M2.isSome]) := by
          cases M2 with
          | none => exact ⟨_, hr5⟩
          | some ps => obtain ⟨v, h, _⟩ := hr5; exact ⟨v, h⟩
        subst hv5
        clear hr5 HP2 hB4 hb5
        generalize M1.isSome = m1 at *
        generalize M2.isSome = m2 at *
        cases m1
        · have HF : Hid (CB = false) := HCB.out.symm
          clear HCB
          go_wp2
          go_ret
          exact ⟨⟨_, rfl, by rw [HF.out, ByteArray.toList_eq]; rfl⟩, hB5⟩
        · cases m2
          · have HF : Hid (CB = false) := HCB.out.symm
            clear HCB
            go_wp2
            go_ret
            exact ⟨⟨_, rfl, by rw [HF.out, ByteArray.toList_eq]; rfl⟩, hB5⟩
          · have HF : Hid (CB = true) := HCB.out.symm
            clear HCB
            go_wp2
            go_ret
            exact ⟨⟨_, rfl, by rw [HF.out, HE.out]; rfl⟩, hB5⟩
end Go.Proofs.YtnohadlihgjppaaDoor

/- The reference's Overlap; nothing old in memory turns. -/
namespace Go.Proofs.YtnohadlihgjppaaDoor
open Go.RowKit

set_option maxRecDepth 100000 in
set_option maxHeartbeats 1000000 in
theorem rfOverlap_any (s t : ByteArray) (w : World) (hs : s.size ≤ 4398046511104) (ht : t.size ≤ 4398046511104) :
    Calls Tryd.prog 21 #[.string s, .string t] w fun r w' =>
      r = .returned (.tuple #[.bool (overlapS s.data.toList t.data.toList).1, .int .i64 (overlapS s.data.toList t.data.toList).2]) ∧ Below w.heap.size w w' := by
  have HI1 := hid (fun W => rIsPattern_any s W hs)
  have HI2 := hid (fun W => rIsPattern_any t W ht)
  have hsl : s.data.toList.length = s.size := by simp
  have htl : t.data.toList.length = t.size := by simp
  generalize hR : overlapS s.data.toList t.data.toList = R
  have HR := hid hR
  clear hR
  unfold overlapS at HR
  go_enter Tryd.func21, Tryd.ntmps21
  go_wp2_with fail
  refine (HI1.out _).mono ?_
  rintro e w1 ⟨⟨b1, ts, rfl, h1, if1⟩, hb1⟩
  clear HI1
  go_wp2_with fail
  refine (HI2.out _).mono ?_
  rintro e w2 ⟨⟨b2, xs, rfl, h2, if2⟩, hb2⟩
  have hB2 := bel_of hb1 hb2
  clear HI2 hb1 hb2
  cases b1
  · have hbad : ¬ GoodP s.data.toList ts := fun h => by
      have := if1.mpr (by unfold GoodP at h; rw [hsl] at h; exact h)
      cases this
    have HN : Hid (R = (false, 8)) := by unfold Hid; rw [← HR.out, patternOf_bad h1 hbad]
    clear HR if1 if2 hbad h1 h2
    go_wp2
    go_ret2
    rw [HN.out]
    exact ⟨rfl, hB2⟩
  · obtain ⟨g1, g2, g3⟩ := if1.mp rfl
    have hgood : GoodP s.data.toList ts := ⟨by rw [hsl]; exact g1, g2, g3⟩
    have hp := good_pieces h1 g3
    rw [patternOf_good h1 hgood] at HR
    simp only at HR
    clear if1 hgood g3
    cases b2
    · have hbad : ¬ GoodP t.data.toList xs := fun h => by
        have := if2.mpr (by unfold GoodP at h; rw [htl] at h; exact h)
        cases this
      have HN : Hid (R = (false, 8)) := by unfold Hid; rw [← HR.out, patternOf_bad h2 hbad]
      clear HR if2 hbad h1 h2
      go_wp2
      go_ret2
      rw [HN.out]
      exact ⟨rfl, hB2⟩
    · obtain ⟨k1, k2, k3⟩ := if2.mp rfl
      have hgood : GoodP t.data.toList xs := ⟨by rw [htl]; exact k1, k2, k3⟩
      have hq := good_pieces h2 k3
      rw [patternOf_good h2 hgood] at HR
      simp only at HR
      rw [← common_meet (pcs_ne g2) (pcs_ne k2) hp hq] at HR
      have HC := hid (fun W => rCommon_any s t W g1 k1 (pcs_ne g2) (pcs_ne k2))
      generalize cmnB (pcs s.data.toList) (pcs t.data.toList) = CB at *
      have HN : Hid (R = (CB, 0)) := HR.out.symm
      clear HR if2 hgood h1 h2 k3 hp hq g2 k2
      go_wp2_with fail
      refine (HC.out _).mono ?_
      rintro e w3 ⟨⟨b, rfl, he⟩, hb3⟩
      have hB3 := bel_of hB2 hb3
      clear HC
      cases CB
      · simp only [Bool.not_false] at he
        go_wp2
        go_ret2
        rw [HN.out]
        exact ⟨rfl, hB3⟩
      · simp only [Bool.not_true] at he
        go_wp2
        go_ret2
        rw [HN.out]
        exact ⟨rfl, hB3⟩
end Go.Proofs.YtnohadlihgjppaaDoor
