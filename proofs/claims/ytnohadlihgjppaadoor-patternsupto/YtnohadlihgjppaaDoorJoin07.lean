/- Texts that follow one another, joined. -/
import Derived.Test.YtnohadlihgjppaaDoorJoin06
import Derived.Deep.QuietTactic
import Derived.BigQuiet
import Derived.Test.YtnohadlihgjppaaDoorJoin00
import Derived.Laws.BytesArg
/- The reference's numbers: number, Decimal and Hex answer what the plain mathematics says; nothing old in memory turns. -/
namespace Go.Proofs.YtnohadlihgjppaaDoor
open Go.RowKit

theorem dig_at {base : Int} (hb : base = 10 ∨ base = 16) (d : ByteArray) (hd : d.data.toList = Pm.digs16.take base.toNat) (c : UInt8) :
    Lib.indexByte d.data.toList (Pm.small c) = if Pm.dval c < base then Pm.dval c else -1 := by
  rw [hd]
  rcases hb with rfl | rfl
  · exact Pm.dig_at10 c
  · exact Pm.dig_at16 c

set_option maxHeartbeats 600000 in
theorem rnumber_any (s : ByteArray) (base most : Int) (w : World) (hs : s.size ≤ maxLen) (hb : base = 10 ∨ base = 16) (hm : most ≤ 9) :
    Calls Tryd.prog 86 #[.string s, .int .i64 base, .int .i64 most] w fun e w' => e = .returned (.int .i64 (Pm.numM base most s.data.toList)) ∧ Below w.heap.size w w' := by
  unfold maxLen at hs
  have hlen : (s.data.toList.length : Int) = s.size := by simp
  have HL : Hid ((s.data.toList.length : Int) = s.size) := hlen
  clear hlen
  by_cases h1 : (s.size : Int) < 1 ∨ most < s.size
  · have h2 : Pm.numOk base most s.data.toList = false := Pm.numOk_no1 (by rw [HL.out]; exact h1)
    have H2 : Hid (Pm.numOk base most s.data.toList = false) := h2
    clear h2
    by_cases h3 : (s.size : Int) < 1
    all_goals
      go_enter Tryd.func86, Tryd.ntmps86
      go_wp2
      go_ret
      exact ⟨ret_int (by unfold Pm.numM; rw [H2.out]; rfl), Below.refl _ _⟩
  · have h3 : ¬ (s.size : Int) < 1 := by omega
    have h4 : ¬ most < (s.size : Int) := by omega
    clear h1
    have HB : Hid (base = 10 ∨ base = 16) := hb
    have hb0 : 0 ≤ base := by omega
    have hb2 : base ≤ 16 := by omega
    clear hb
    go_enter Tryd.func86, Tryd.ntmps86
    go_wp2
    go_loopw [7, 8, 9, 10] (fun n i _ _ wr => ∃ k : Nat, k ≤ s.size ∧ i = .int .i64 k ∧ n = .int .i64 (Pm.numv base (s.data.toList.take k)) ∧ Hid (Pm.digsB base (s.data.toList.take k) = true) ∧ Below w.heap.size w wr) (fun _ i _ _ _ => s.size - (intOf i).toNat)
    case atStart => exact ⟨0, Nat.zero_le _, rfl, rfl, rfl, Below.refl _ _⟩
    case round =>
      obtain ⟨k, hk, rfl, rfl, H, hbw⟩ := hrel
      by_cases hlt : k < s.size
      · have hbd := Pm.numv_bd _ (s.data.toList.take k) hb0 hb2 H.out (by simp; omega)
        go_wp2_with (go_at_call 109; refine (rSmall_one _ s[k] _ (by rw [Lib.extract_data]; exact Pm.one_at s k hlt)).mono ?_; rintro e w' ⟨rfl, rfl⟩)
        go_quiet ((go_at_call 85; exact Calls.quiet_of_same (rAt_any _ _ _ (by unfold maxLen; simp; omega))))
        generalize hg : Lib.indexByte (ByteArray.extract _ 0 base.toNat).data.toList _ = g
        have hg2 : g = if Pm.dval s[k] < base then Pm.dval s[k] else -1 := by
          rw [← hg]; exact dig_at HB.out _ (by rw [Lib.extract_data, List.drop_zero, Nat.sub_zero]; rfl) s[k]
        clear hg
        generalize ByteArray.extract _ 0 base.toNat = dd
        have hmul1 : 0 ≤ Pm.numv base (s.data.toList.take k) * base := Int.mul_nonneg hbd.1 hb0
        have hmul2 : Pm.numv base (s.data.toList.take k) * base ≤ 68719476736 * 16 := Int.le_trans (Int.mul_le_mul_of_nonneg_left hb2 hbd.1) (Int.mul_le_mul_of_nonneg_right (by omega) (by omega))
        have hdv := Pm.dval_bd s[k]
        have HS : Hid (Pm.digsB base (s.data.toList.take (k + 1)) = (Pm.digsB base (s.data.toList.take k) && decide (Pm.dval s[k] < base))) := by rw [Pm.take_snoc s k hlt, Pm.digsB_snoc]; exact rfl
        have HN : Hid (Pm.numv base (s.data.toList.take (k + 1)) = Pm.numv base (s.data.toList.take k) * base + Pm.dval s[k]) := by rw [Pm.take_snoc s k hlt, Pm.numv_snoc]; exact rfl
        by_cases hb3 : Pm.dval s[k] < base
        · rw [if_pos hb3] at hg2
          subst hg2
          go_wp2
          go_roundw
          case rel => exact ⟨k + 1, by omega, by go_num, by rw [HN.out], by unfold Hid; rw [HS.out, H.out]; simpa using hb3, hbw.trans (below_drewN (Below.refl _ _) _)⟩
          case measure => simp [intOf]; omega
        · rw [if_neg hb3] at hg2
          subst hg2
          go_wp2
          have h5 := HS.out
          rw [decide_eq_false (p := Pm.dval s[k] < base) (by omega), Bool.and_false] at h5
          have h6 : Pm.numOk base most s.data.toList = false := Pm.numOk_no2 (Pm.digsB_take h5)
          go_ret
          exact ⟨ret_int (by unfold Pm.numM; rw [h6]; rfl), hbw.trans (below_drewN (Below.refl _ _) _)⟩
      · go_wp2
        have h5 := H.out
        rw [List.take_of_length_le (by simp; omega)] at h5
        have h6 : Pm.numOk base most s.data.toList = true := Pm.numOk_yes (by rw [HL.out]; omega) (by rw [HL.out]; omega) h5
        go_ret
        exact ⟨ret_int (by unfold Pm.numM; rw [h6, if_pos rfl, List.take_of_length_le (by simp; omega)]), hbw⟩

theorem numM_neg {base most : Int} {l : List UInt8} (hb : 0 ≤ base) (hb2 : base ≤ 16) (hm : most ≤ 9) (h : Pm.numM base most l < 0) : Pm.numN base most l = 0 ∧ Pm.numE base most l = 1 := by
  unfold Pm.numM at h
  split at h
  · rename_i h1
    have h2 := h1
    simp only [Pm.numOk, Bool.and_eq_true, decide_eq_true_eq] at h1
    have := Pm.numv_bd base l hb hb2 h1.2 (by omega); omega
  · rename_i h1
    simp [Pm.numN, Pm.numE, h1]
theorem numM_pos {base most : Int} {l : List UInt8} (h : 0 ≤ Pm.numM base most l) : Pm.numN base most l = Pm.numM base most l ∧ Pm.numE base most l = 0 := by
  unfold Pm.numM at h ⊢
  split at h
  · rename_i h1
    simp [Pm.numN, Pm.numE, h1]
  · omega

end Go.Proofs.YtnohadlihgjppaaDoor

/- Ahead and Unescape, the reference's and the program's: each answers what the plain mathematics says; nothing old in memory turns. -/
namespace Go.Proofs.YtnohadlihgjppaaDoor
open Go.RowKit

theorem hid {p : Prop} (h : p) : Hid p := h
theorem ret_strs {a b c d : ByteArray} (h : a = b) (h' : c = d) : Ending.returned (.tuple #[.string a, .string c]) = .returned (.tuple #[.string b, .string d]) := by rw [h, h']
theorem ret_strint {k : IntKind} {a b : ByteArray} {c d : Int} (h : a = b) (h' : c = d) : Ending.returned (.tuple #[.string a, .int k c]) = .returned (.tuple #[.string b, .int k d]) := by rw [h, h']
theorem bytes_of {a : ByteArray} {l : List UInt8} (h : a.data.toList = l) : a = ⟨l.toArray⟩ := by
  obtain ⟨⟨m⟩⟩ := a; simp at h; subst h; rfl
theorem size_of {a : ByteArray} {l : List UInt8} (h : a.data.toList = l) : a.size = l.length := by
  rw [← h]; simp

set_option maxHeartbeats 400000 in
theorem rAhead_any (s : ByteArray) (c : UInt8) (w : World) (hs : s.size ≤ maxLen) :
    Calls Tryd.prog 84 #[.string s, .int .u8 c.toNat] w fun e w' => (∃ a b : ByteArray, e = .returned (.tuple #[.string a, .string b]) ∧ a.data.toList = Pm.ahead c s.data.toList ∧ b.data.toList = Pm.behind c s.data.toList) ∧ Below w.heap.size w w' := by
  have hl : s.data.toList.length = s.size := by simp
  rcases Pm.behind_cases c s.data.toList with h | ⟨r, h⟩
  · obtain ⟨h1, h2⟩ := Pm.index_no h
    have H : Hid (Pm.behind c s.data.toList = []) := h
    have H2 : Hid (Pm.ahead c s.data.toList = s.data.toList) := h2
    clear h h2 hl
    go_enter Tryd.func84, Tryd.ntmps84
    go_wp2_with (go_at_call 85; refine (rAt_any _ _ _ hs).mono ?_; rintro e w' ⟨rfl, rfl⟩)
    go_ret2
    exact ⟨⟨s, ⟨#[]⟩, rfl, H2.out.symm, H.out.symm⟩, Below.refl _ _⟩
  · have h1 := Pm.index_yes h
    have h3 : (Pm.ahead c s.data.toList).length ≤ s.size := by
      have := congrArg List.length (Pm.ahead_behind c s.data.toList)
      rw [List.length_append, hl] at this; omega
    have HT : Hid ((s.data.toList).take (Pm.ahead c s.data.toList).length = Pm.ahead c s.data.toList) := Pm.take_ahead c _
    have HD : Hid ((s.data.toList).drop (Pm.ahead c s.data.toList).length = Pm.behind c s.data.toList) := Pm.drop_ahead c _
    have HL : Hid (s.data.toList.length = s.size) := hl
    clear h hl
    generalize Pm.ahead c s.data.toList = A at *
    generalize hn : A.length = n at *
    clear hn
    unfold maxLen at hs
    have h0 : (0 : Int) ≤ (n : Int) := by omega
    go_enter Tryd.func84, Tryd.ntmps84
    go_wp2_with (go_at_call 85; refine (rAt_any _ _ _ (by unfold maxLen; exact hs)).mono ?_; rintro e w' ⟨rfl, rfl⟩)
    go_quiet (fail)
    go_wp2
    go_ret2
    refine ⟨⟨_, _, rfl, ?_, ?_⟩, below_drewN (Below.refl _ _) _⟩
    · rw [Lib.extract_data, ← HT.out]; simp
    · rw [Lib.extract_data, ← HD.out, List.take_of_length_le (by rw [List.length_drop, HL.out]; omega)]

theorem rnumber_two (t : ByteArray) (x y : UInt8) (w : World) (h : t.data.toList = [x, y]) :
    Calls Tryd.prog 86 #[.string t, .int .i64 16, .int .i64 2] w fun e w' => e = .returned (.int .i64 (Pm.numM 16 2 [x, y])) ∧ Below w.heap.size w w' := by
  have h1 := size_of h
  have h2 := rnumber_any t 16 2 w (by rw [h1]; show 2 ≤ maxLen; unfold maxLen; omega) (by omega) (by omega)
  rw [h] at h2
  exact h2

theorem conv_one (v : Int) (W : World) : (convert 101 9 (.slice (some ⟨W.heap.size, 0, none⟩) 1 1)).run Tryd.prog (W.alloc (.cells #[.int .u8 v] 5)) = .ok (.string (strOfNums [v])) (W.alloc (.cells #[.int .u8 v] 5)) := by
  refine run_convert_bytes_arg (W.alloc (.cells #[.int .u8 v] 5)) 101 5 Tryd.underlying101 Tryd.underlying5 W.heap.size 0 1 1 [v] rfl ?_ 9 Tryd.underlying9
  intro i hi
  obtain rfl : i = 0 := by omega
  simp
theorem strOf_one (v : Int) : (strOfNums [v]).data.toList = [v.toNat.toUInt8] := rfl
theorem strOf_size (v : Int) : (strOfNums [v]).size = 1 := rfl

def lenOf (v : Value) : Nat := match v with | .string s => s.size | _ => 0

set_option maxHeartbeats 800000 in
theorem rUnescape_any (s : ByteArray) (w : World) (hs : s.size ≤ maxLen) :
    Calls Tryd.prog 57 #[.string s] w fun e w' => e = .returned (.tuple #[.string (Pm.unT s.data.toList), .int .i64 (Pm.unE s.data.toList)]) ∧ Below w.heap.size w w' := by
  unfold maxLen at hs
  go_enter Tryd.func57, Tryd.ntmps57
  go_wp2
  go_loopw [0, 4, 5, 6, 7] (fun r o _ _ _ wr => ∃ (q p : ByteArray), r = .string q ∧ o = .string p ∧ p.size + q.size ≤ s.size ∧ Hid (Pm.Read s.data.toList p.data.toList q.data.toList) ∧ Below w.heap.size w wr) (fun r _ _ _ _ _ => lenOf r)
  case atStart => exact ⟨s, ⟨#[]⟩, rfl, rfl, by show 0 + s.size ≤ s.size; omega, Pm.Read.start _, Below.refl _ _⟩
  case round =>
    obtain ⟨q, p, rfl, rfl, hsz, H, hbw⟩ := hrel
    go_wp2_with fail
    refine (rAhead_any _ 37 _ (by unfold maxLen; omega)).mono ?_
    rintro e w' ⟨⟨a, b, rfl, ha, hb⟩, hb1⟩
    have hb2 := hbw.trans (hb1.mono hbw.size)
    have hab : a.size + b.size = q.size := by
      rw [size_of ha, size_of hb, ← List.length_append, Pm.ahead_behind]; simp
    have hab1 : a.size + b.size ≤ q.size := by omega
    have HR : Hid (Pm.Read s.data.toList (p ++ a).data.toList b.data.toList) := by
      have := H.out.ahead
      rw [← ha, ← hb] at this
      rw [ByteArray.data_append, Array.toList_append]; exact this
    have hbs := size_of hb
    have hcs := Pm.behind_cases 37 q.data.toList
    rw [← hb] at hcs hbs
    clear hab ha hb hbs
    clear hb1 hbw H
    rcases hcs with h | ⟨r, h⟩
    · have he : b.toList.isEmpty = true := by rw [ByteArray.toList_eq, h]; rfl
      have HF : Hid (Pm.unesc s.data.toList = some (p ++ a).data.toList) := by have := HR.out; rw [h] at this; exact this.done
      clear h
      go_wp2
      go_ret2
      exact ⟨ret_strint (by rw [Pm.unT_some HF.out]) (Pm.unE_some HF.out).symm, hb2⟩
    · have he : b.toList.isEmpty = false := by rw [ByteArray.toList_eq, h]; rfl
      have hbs := size_of h
      rw [List.length_cons] at hbs
      by_cases hr : r.length < 2
      · have HF : Hid (Pm.unesc s.data.toList = none) := by have := HR.out; rw [h] at this; exact this.short hr
        have hb3 : b.size < 3 := by omega
        clear h hbs
        go_wp2
        go_ret2
        exact ⟨ret_strint (Pm.unT_none HF.out).symm (Pm.unE_none HF.out).symm, hb2⟩
      · obtain ⟨x, y, r', rfl⟩ : ∃ x y r', r = x :: y :: r' := by
          match r, hr with
          | [], hr => exact absurd (by simp) hr
          | [_], hr => exact absurd (by simp) hr
          | x :: y :: r', _ => exact ⟨x, y, r', rfl⟩
        have hb3 : 3 ≤ b.size := by rw [hbs]; simp
        have HX : Hid (b.data.toList = 37 :: x :: y :: r') := h
        have HE : Hid ((b.extract 1 3).data.toList = [x, y]) := by rw [Lib.extract_data, h]; exact rfl
        clear h hbs hr
        cases hd : Pm.digsB 16 [x, y]
        · have HF : Hid (Pm.unesc s.data.toList = none) := by have := HR.out; rw [HX.out] at this; exact this.bad hd
          have hv : Pm.numM 16 2 [x, y] = -1 := by unfold Pm.numM; rw [Pm.numOk_two 2 x y (by omega), hd]; rfl
          clear hd
          go_wp2_with (go_at_call 86; refine (rnumber_two _ x y _ HE.out).mono ?_; rintro e w2 ⟨rfl, hb4⟩)
          go_ret2
          exact ⟨ret_strint (Pm.unT_none HF.out).symm (Pm.unE_none HF.out).symm, hb2.trans (hb4.mono hb2.size)⟩
        · have HR2 : Hid (Pm.Read s.data.toList ((p ++ a).data.toList ++ [(Pm.numv 16 [x, y]).toNat.toUInt8]) r') := by have := HR.out; rw [HX.out] at this; exact this.esc hd
          have hv : Pm.numM 16 2 [x, y] = Pm.numv 16 [x, y] := by unfold Pm.numM; rw [Pm.numOk_two 2 x y (by omega), hd]; rfl
          have hbd := Pm.numv_two x y hd
          clear hd
          generalize Pm.numv 16 [x, y] = v at *
          have hcv := conv_one v
          have hcs : (strOfNums [v]).size ≤ 1 := by rw [strOf_size]; omega
          go_wp2_with (go_at_call 86; refine (rnumber_two _ x y _ HE.out).mono ?_; rintro e w2 ⟨rfl, hb4⟩)
          refine ⟨⟨_, _, rfl, rfl, ?_, ?_, ?_⟩, ?_⟩
          · simp [strOf_size]; omega
          · unfold Hid
            rw [ByteArray.data_append, Array.toList_append, strOf_one, Lib.extract_data, HX.out]
            have := HR2.out
            rw [List.take_of_length_le (by have := size_of HX.out; simp at this ⊢; omega)]
            exact this
          · exact hb2.trans ((hb4.alloc hb4.size _).mono hb2.size)
          · simp [lenOf]; omega
end Go.Proofs.YtnohadlihgjppaaDoor
