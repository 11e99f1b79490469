/- Texts that follow one another, joined. -/
import Derived.Test.YtaekbmfcnkpelaaGreatDoorJoin18
import Derived.Test.YtaekbmfcnkpelaaGreatDoorJoin22
/- The walks of porterkeep's small helpers: pick, upTo, drawn, bare, number, after; nothing old in memory turns. -/
namespace Go.Proofs.YtaekbmfcnkpelaaGreatDoor
open Go.RowKit

theorem own_bytes {w : World} {B : Nat} {v : Value} {n : Nat} {l : List UInt8} (h : w.ownsRow B 5 1 v n (Lib.byteCells l)) : (convert 45 9 v).run Tryz.prog w = .ok (.string ⟨l.toArray⟩) w := by
  obtain ⟨h1, h2⟩ := h
  have hl : l.length = n := by simpa [Lib.byteCells] using h1
  rcases h2 with ⟨rfl, hn⟩ | ⟨g, cap, cur, rfl, _, hg, _, _, _, hc⟩
  · have e : l = [] := List.eq_nil_of_length_eq_zero (by omega)
    subst e
    exact run_convert_bytes_nil w 45 5 Tryz.underlying45 Tryz.underlying5 0 0 9 Tryz.underlying9
  · refine bytes_str Tryz.underlying45 Tryz.underlying5 Tryz.underlying9 (fun j hj => ?_) n cap hl
    rw [Lib.cell_of_heap hg]
    have h3 : (Lib.byteCells l)[j]? = some (.int .u8 (l[j].toNat : Int)) := by simp [Lib.byteCells, List.getElem?_map, List.getElem?_eq_getElem hj]
    rw [← hc, List.getElem?_take_of_lt (by omega)] at h3
    simpa using h3

theorem infoU8 : (Tryz.prog.info? 5).map (fun i => (i.zero, i.size, i.bytes)) = some (some (.int .u8 0), 1, 1) := by kernel_rfl
theorem infoInt : (Tryz.prog.info? 3).map (fun i => (i.zero, i.size, i.bytes)) = some (some (.int .i64 0), 1, 8) := by kernel_rfl
theorem getD_at (ab : ByteArray) (r : Nat) (h : r < ab.size) : ab.data.toList.getD r 0 = ab[r] := by
  rw [List.getD_eq_getElem?_getD, List.getElem?_eq_getElem (by simpa using h)]
  rfl
set_option maxRecDepth 100000 in
set_option maxHeartbeats 1000000 in
theorem drawn_any (s ab : ByteArray) (n : Nat) (w : World) (hs : s.size ≤ maxLen) (hn : n ≤ 1000) (ha : 0 < ab.size) (ha2 : ab.size ≤ 1000) :
    Calls Tryz.prog 10 #[.string s, .string ab, .int .i64 n] w fun e w' => e = .returned (.string ⟨(drawnL s.data.toList ab.data.toList n).toArray⟩) ∧ Below w.heap.size w w' := by
  obtain ⟨i0, hi, hz0, hz1, hz2⟩ := info_parts infoU8
  unfold maxLen at hs
  go_enter Tryz.func10, Tryz.ntmps10
  go_wp2
  go_loopw [7, 8] (fun v i wr => ∃ k : Nat, k ≤ s.size ∧ k ≤ n ∧ i = .int .i64 k ∧ wr.ownsRow w.heap.size 5 1 v k (Lib.byteCells (drawnL s.data.toList ab.data.toList k)) ∧ Below w.heap.size w wr) (fun _ i _ => n - (intOf i).toNat)
  case atStart => exact ⟨0, Nat.zero_le _, Nat.zero_le _, rfl, World.ownsRow_nil _ _ _ _, Below.refl _ _⟩
  case round =>
    obtain ⟨k, hk, hkn, rfl, hown, hbw⟩ := hrel
    by_cases hlt : k < s.size ∧ k < n
    · obtain ⟨hl1, hl2⟩ := hlt
      have HN := hid (drawn_next s.data.toList ab.data.toList k (by simpa using hl1))
      have hrl : s[k].toNat % ab.size < ab.size := Nat.mod_lt _ ha
      have HG := hid (getD_at ab (s[k].toNat % ab.size) hrl)
      have hr : (wrap64 (s[k].toNat : Int)).tmod (ab.size : Int) = ((s[k].toNat % ab.size : Nat) : Int) := by
        have h256 : s[k].toNat < 256 := UInt8.toNat_lt _
        rw [show wrap64 (s[k].toNat : Int) = (s[k].toNat : Int) from by unfold wrap64; omega, Int.tmod_eq_emod_of_nonneg (by omega), Int.natCast_emod]
      have hbs := hbw.size
      have hsl : s.data.toList[k]'(by simpa using hl1) = s[k] := rfl
      have hal : ab.data.toList.length = ab.size := by simp
      have HN2 : Hid (drawnL s.data.toList ab.data.toList (k + 1) = drawnL s.data.toList ab.data.toList k ++ [ab[s[k].toNat % ab.size]]) := by
        have := HN.out
        rw [hsl, hal, HG.out] at this; exact this
      clear HN HG hsl hal
      generalize hq : s[k].toNat % ab.size = r at *
      clear hq
      go_wp2_with (at_builtin; refine wpList_append_own _ rfl _ _ 45 rfl w.heap.size 5 i0 (.int .u8 0) 1 1 Tryz.underlying45 hi hz0 hz1 hz2 rfl (by decide) _ _ _ rfl (hown.alloc _) ⟨wr.heap.size, 0, none⟩ 1 1 [.int .u8 (ab[r].toNat : Int)] rfl rfl ?c1 ?c2 ?c3 ?c4 ?c5 ?_)
      case c1 =>
        intro j u hj
        match j, hj with
        | 0, hj => simp at hj; subst hj; simp [Addr.add]
      case c2 => intro u hu; simp at hu; subst hu; rfl
      case c3 => unfold maxLen; omega
      case c4 => omega
      case c5 => have := hbw.size; simp; omega
      intro v' w2 hown' hgrow _
      have hb3 : Below w.heap.size w w2 := (hbw.alloc hbw.size _).grown hgrow (by have := hbw.size; simp; omega) (own_ge hown)
      clear hgrow
      go_wp2
      refine ⟨⟨k + 1, by omega, by omega, by go_num, ?_, hb3⟩, by simp [intOf]; omega⟩
      rw [HN2.out, ← cells_snoc]
      exact hown'
    · have HD := hid (drawn_done s.data.toList ab.data.toList k n (by simpa using hlt) (by simpa using hk) hkn)
      have hcv := own_bytes hown
      by_cases h1 : k < s.size
      · have h2 : ¬ k < n := fun h => hlt ⟨h1, h⟩
        go_wp2
        go_ret
        exact ⟨ret_strL (a := ⟨(drawnL s.data.toList ab.data.toList k).toArray⟩) HD.out.symm, hbw⟩
      · go_wp2
        go_ret
        exact ⟨ret_strL (a := ⟨(drawnL s.data.toList ab.data.toList k).toArray⟩) HD.out.symm, hbw⟩
set_option maxHeartbeats 400000 in
theorem upTo_any (s : ByteArray) (n : Nat) (w : World) (hn : n ≤ 1000) :
    Calls Tryz.prog 11 #[.string s, .int .i64 n] w fun e w' => e = .returned (.string ⟨(s.data.toList.take n).toArray⟩) ∧ w' = w := by
  have hsl : s.data.toList.length = s.size := by simp
  by_cases h : n < s.size
  · have HE : Hid ((s.extract 0 n).data.toList = s.data.toList.take n) := by unfold Hid; rw [Lib.extract_data]; simp
    go_enter Tryz.func11, Tryz.ntmps11
    go_wp2
    go_ret
    exact ⟨ret_strL HE.out, rfl⟩
  · have HE : Hid (s.data.toList = s.data.toList.take n) := (List.take_of_length_le (by omega)).symm
    go_enter Tryz.func11, Tryz.ntmps11
    go_wp2
    go_ret
    exact ⟨ret_strL HE.out, rfl⟩
end Go.Proofs.YtaekbmfcnkpelaaGreatDoor

/- The walks of porterkeep's bare, number and after; nothing old in memory turns. -/
namespace Go.Proofs.YtaekbmfcnkpelaaGreatDoor
open Go.RowKit

abbrev blk : UInt8 → Bool := fun c => Pm.blanks.contains c
theorem bare_of (l t : List UInt8) (h1 : t.reverse.dropWhile blk = (l.dropWhile blk).reverse.dropWhile blk) (h2 : t.reverse.dropWhile blk = t.reverse) : t = bareL l := by
  unfold bareL
  rw [← h1, h2, List.reverse_reverse]
theorem drop_stay (x : UInt8) (l : List UInt8) (h : ¬ Pm.blanks.contains x = true) : (x :: l).dropWhile blk = x :: l := List.dropWhile_cons_of_neg h
theorem drop_go (x : UInt8) (l : List UInt8) (h : Pm.blanks.contains x = true) : (x :: l).dropWhile blk = l.dropWhile blk := List.dropWhile_cons_of_pos h
set_option maxRecDepth 100000 in
set_option maxHeartbeats 1000000 in
theorem bare_any (s : ByteArray) (w : World) (hs : s.size ≤ 1000) :
    Calls Tryz.prog 12 #[.string s] w fun e w' => e = .returned (.string ⟨(bareL s.data.toList).toArray⟩) ∧ w' = w := by
  go_enter Tryz.func12, Tryz.ntmps12
  go_wp2
  go_loopw [0] (fun r wr => ∃ t : ByteArray, r = .string t ∧ t.size ≤ s.size ∧ Hid (t.data.toList.dropWhile blk = s.data.toList.dropWhile blk) ∧ wr = w) (fun r _ => lenOf r)
  case atStart => exact ⟨s, rfl, Nat.le_refl _, rfl, rfl⟩
  case round =>
    obtain ⟨t, rfl, hts, HT, hwr⟩ := hrel
    have hwr' := hwr.symm
    subst hwr'
    clear hwr
    have hcase : (t.toList.isEmpty = true ∧ t.data.toList.dropWhile blk = t.data.toList) ∨ (∃ (h0 : 0 < t.size), t.toList.isEmpty = false ∧ ((((t[0].toNat : Int) = 32 ∨ (t[0].toNat : Int) = 9) ∧ t.data.toList.dropWhile blk = (t.data.toList.drop 1).dropWhile blk) ∨ ((¬ (t[0].toNat : Int) = 32 ∧ ¬ (t[0].toNat : Int) = 9) ∧ t.data.toList.dropWhile blk = t.data.toList))) := by
      rw [ByteArray.toList_eq]
      cases hl : t.data.toList with
      | nil => exact .inl ⟨rfl, rfl⟩
      | cons x l =>
        have h0 : 0 < t.size := by rw [size_of hl]; simp
        have hx : t[0] = x := by
          have h1 : t.data.toList[0]'(by simpa using h0) = x := by simp [hl]
          exact h1
        refine .inr ⟨h0, rfl, ?_⟩
        rw [hx]
        by_cases hb : Pm.blanks.contains x = true
        · exact .inl ⟨(blank_iff x).1 hb, by rw [drop_go x l hb]; rfl⟩
        · exact .inr ⟨by have := mt (blank_iff x).2 hb; constructor <;> (intro h; exact this (by simp [h])), drop_stay x l hb⟩
    rcases hcase with ⟨he, hd⟩ | ⟨h0, he, ⟨hc, hd⟩ | ⟨⟨hc1, hc2⟩, hd⟩⟩
    case inr.inl =>
      have HX : Hid ((t.extract 1 t.size).data.toList.dropWhile blk = s.data.toList.dropWhile blk) := by
        unfold Hid; rw [← HT.out, hd, Lib.extract_data]; congr 1
        rw [List.take_of_length_le (by simp)]
      clear hd HT
      rcases hc with hc | hc
      all_goals
        go_wp2
        exact ⟨⟨_, rfl, by simp; omega, HX, by first | rfl | trivial⟩, by simp [lenOf]; omega⟩
    all_goals
      try have hb1 : ((t[0].toNat : Int) == 32) = false := beq_eq_false_iff_ne.2 hc1
      try have hb2 : ((t[0].toNat : Int) == 9) = false := beq_eq_false_iff_ne.2 hc2
      have HE : Hid (t.data.toList = s.data.toList.dropWhile blk) := hd.symm.trans HT.out
      clear hd HT
      go_wp2
      go_loopw [0] (fun r wr => ∃ u : ByteArray, r = .string u ∧ u.size ≤ s.size ∧ Hid (u.data.toList.reverse.dropWhile blk = t.data.toList.reverse.dropWhile blk) ∧ wr = w) (fun r _ => lenOf r)
      case atStart => exact ⟨t, rfl, hts, rfl, rfl⟩
      case round =>
        obtain ⟨u, rfl, hus, HU, hwr⟩ := hrel
        have hwr' := hwr.symm
        subst hwr'
        clear hwr
        have hcase : (u.toList.isEmpty = true ∧ u.data.toList.reverse.dropWhile blk = u.data.toList.reverse) ∨ (∃ (m : Nat) (hm : m < u.size), u.size = m + 1 ∧ u.toList.isEmpty = false ∧ ((((u[m].toNat : Int) = 32 ∨ (u[m].toNat : Int) = 9) ∧ u.data.toList.reverse.dropWhile blk = (u.data.toList.take m).reverse.dropWhile blk) ∨ ((¬ (u[m].toNat : Int) = 32 ∧ ¬ (u[m].toNat : Int) = 9) ∧ u.data.toList.reverse.dropWhile blk = u.data.toList.reverse))) := by
          rw [ByteArray.toList_eq]
          rcases List.eq_nil_or_concat u.data.toList with hl | ⟨l, x, hl⟩
          · rw [hl]; exact .inl ⟨rfl, rfl⟩
          · have hz : u.size = l.length + 1 := by rw [size_of hl]; simp
            have hx : u[l.length]'(by omega) = x := by
              have h1 : u.data.toList[l.length]'(by rw [hl]; simp) = x := by simp [hl]
              exact h1
            refine .inr ⟨l.length, by omega, hz, by rw [hl]; simp, ?_⟩
            rw [hx, hl]
            by_cases hb : Pm.blanks.contains x = true
            · refine .inl ⟨(blank_iff x).1 hb, ?_⟩
              rw [List.concat_eq_append, List.reverse_append, List.take_append_of_le_length (Nat.le_refl _), List.take_length]
              exact drop_go x _ hb
            · refine .inr ⟨by have := mt (blank_iff x).2 hb; constructor <;> (intro h; exact this (by simp [h])), ?_⟩
              rw [List.concat_eq_append, List.reverse_append]
              exact drop_stay x _ hb
        rcases hcase with ⟨he2, hd2⟩ | ⟨m, hm, hz, he2, ⟨hd1, hd2⟩ | ⟨⟨hd1, hd3⟩, hd2⟩⟩
        case inr.inl =>
          have HX : Hid ((u.extract 0 m).data.toList.reverse.dropWhile blk = t.data.toList.reverse.dropWhile blk) := by
            unfold Hid; rw [← HU.out, hd2, Lib.extract_data]; simp
          have hw : wrap64 ((u.size : Int) - 1) = (m : Int) := by unfold wrap64; omega
          have hw2 : ((u.size : Int) - 1) = (m : Int) := by omega
          clear hd2 HU
          rcases hd1 with hd1 | hd1
          all_goals
            go_wp2
            exact ⟨⟨_, rfl, by simp; omega, HX, by first | rfl | trivial⟩, by simp [lenOf]; omega⟩
        case inl =>
          have HR : Hid (u.data.toList = bareL s.data.toList) := bare_of _ _ (by rw [HU.out, HE.out]) hd2
          clear hd2 HU
          go_wp2
          go_ret
          exact ⟨ret_strL HR.out, rfl⟩
        case inr.inr =>
          have HR : Hid (u.data.toList = bareL s.data.toList) := bare_of _ _ (by rw [HU.out, HE.out]) hd2
          have hw : wrap64 ((u.size : Int) - 1) = (m : Int) := by unfold wrap64; omega
          have hw2 : ((u.size : Int) - 1) = (m : Int) := by omega
          have hb3 : ((u[m].toNat : Int) == 32) = false := beq_eq_false_iff_ne.2 hd1
          have hb4 : ((u[m].toNat : Int) == 9) = false := beq_eq_false_iff_ne.2 hd3
          clear hd2 HU
          go_wp2
          go_ret
          exact ⟨ret_strL HR.out, rfl⟩
end Go.Proofs.YtaekbmfcnkpelaaGreatDoor
