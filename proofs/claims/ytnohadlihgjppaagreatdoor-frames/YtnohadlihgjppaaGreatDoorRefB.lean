/- The reference's lines: where one ends, and what it tells; each call answers what the plain mathematics says; nothing old in memory turns. -/
import Derived.Test.YtnohadlihgjppaaGreatDoorPlainJ
import Derived.Test.YtnohadlihgjppaaGreatDoorRefC
namespace Go.Proofs.YtnohadlihgjppaaGreatDoor
open Go.RowKit

theorem drop_get {s : ByteArray} {k j : Nat} (h : k + j < s.size) : ∃ h2 : j < (s.data.toList.drop k).length, (s.data.toList.drop k)[j] = s[k + j] := by
  refine ⟨by simp; omega, ?_⟩
  rw [List.getElem_drop]; rfl
theorem nat_eq10 {c : UInt8} (h : ((c.toNat : Int) == 10) = true) : c = 10 := by
  apply UInt8.toNat_inj.1; simp at h; show c.toNat = 10; omega
theorem nat_ne10 {c : UInt8} (h : ((c.toNat : Int) == 10) = false) : c ≠ 10 := by
  rintro rfl; simp at h
theorem nat_eq13 {c : UInt8} (h : ((c.toNat : Int) != 13) = false) : c = 13 := by
  apply UInt8.toNat_inj.1; simp at h; show c.toNat = 13; omega
theorem nat_ne13 {c : UInt8} (h : ((c.toNat : Int) != 13) = true) : c ≠ 13 := by
  rintro rfl; simp at h

theorem ret_line {a : ByteArray} {l : List UInt8} {n m e f : Int} (h : a.data.toList = l) (h2 : n = m) (h3 : e = f) :
    Ending.returned (.tuple #[.string a, .int .i64 n, .int .i64 e]) = .returned (.tuple #[.string ⟨l.toArray⟩, .int .i64 m, .int .i64 f]) := by
  rw [bytes_of h, h2, h3]

set_option maxHeartbeats 800000 in
theorem rline_any (s : ByteArray) (k e : Nat) (over : Int) (w : World) (hs : s.size ≤ maxLen) (hk : k ≤ s.size) (he : k ≤ e) (he2 : e ≤ 4611686018427387904) :
    Calls Tryz.prog 38 #[.string s, .int .i64 k, .int .i64 e, .int .i64 over] w fun r w' =>
      r = .returned (.tuple #[.string ⟨(Pm.lineS (s.data.toList.drop k) (e - k) over).2.1.toArray⟩, .int .i64 (k + (Pm.lineS (s.data.toList.drop k) (e - k) over).2.2 : Nat), .int .i64 (Pm.lineS (s.data.toList.drop k) (e - k) over).1]) ∧ Below w.heap.size w w' := by
  unfold maxLen at hs
  have HL : Hid ((s.data.toList.drop k).length = s.size - k) := by show (s.data.toList.drop k).length = s.size - k; simp
  go_enter Tryz.func38, Tryz.ntmps38
  go_wp2_with fail
  go_loop [11] (fun i => ∃ j : Nat, k + j ≤ s.size ∧ k + j ≤ e ∧ i = .int .i64 ((k + j : Nat) : Int) ∧ Hid (Pm.noLF (s.data.toList.drop k) j)) (fun i => e - (intOf i).toNat)
  case atStart => exact ⟨0, by omega, by omega, rfl, Pm.noLF_zero _⟩
  case round =>
    obtain ⟨j, hj1, hj2, rfl, H⟩ := hrel
    by_cases h1 : k + j < e
    · by_cases h2 : k + j < s.size
      · obtain ⟨g1, g2⟩ := drop_get h2
        have G := hid g2
        clear g2
        cases h3 : ((s[k + j].toNat : Int) == 10)
        · have HN := hid (Pm.noLF_succ g1 H.out (by rw [G.out]; exact nat_ne10 h3))
          go_wp2
          go_round
          case rel => exact ⟨j + 1, by omega, by omega, by go_num, HN⟩
          case measure => simp [intOf]; omega
        · cases j with
          | zero =>
            have HR := hid (Pm.line_bad0 (long := over) g1 (by rw [G.out]; exact nat_eq10 h3) (show 0 < e - k by omega))
            have h2' : k < s.size := h2
            have h3' : (((s[k]'h2').toNat : Int) == 10) = true := h3
            have h1' : k < e := h1
            clear G h3 g1 h1 h2 hj1 hj2
            go_wp2
            go_ret3
            exact ⟨ret_line (by simp [HR.out]) (by simp [HR.out]) (by simp [HR.out]), Below.refl _ _⟩
          | succ j =>
            obtain ⟨g3, g4⟩ := drop_get (s := s) (k := k) (j := j) (by omega)
            have G2 := hid g4
            clear g4
            have hx : ((k + (j + 1) : Nat) : Int) - 1 = ((k + j : Nat) : Int) := by omega
            cases h4 : ((s[k + j].toNat : Int) != 13)
            · have HR := hid (Pm.line_good (long := over) H.out g1 (by rw [G.out]; exact nat_eq10 h3) (show j + 1 < e - k by omega) (by rw [G2.out]; exact nat_eq13 h4))
              go_wp2
              go_ret3
              refine ⟨ret_line ?_ ?_ ?_, Below.refl _ _⟩
              · rw [HR.out, Lib.extract_data, show k + (j + 1) - 1 - k = j from by omega]
              · rw [HR.out]; simp only; omega
              · rw [HR.out]
            · have HR := hid (Pm.line_bad (long := over) H.out g1 (by rw [G.out]; exact nat_eq10 h3) (show j + 1 < e - k by omega) (by rw [G2.out]; exact nat_ne13 h4))
              go_wp2
              go_ret3
              exact ⟨ret_line (by simp [HR.out]) (by simp [HR.out]) (by simp [HR.out]), Below.refl _ _⟩
      · have HR := hid (Pm.line_more (lim := e - k) (long := over) (by rw [HL.out, ← show j = s.size - k by omega]; exact H.out) (by rw [HL.out]; omega))
        go_wp2
        go_ret3
        exact ⟨ret_line (by simp [HR.out]) (by simp [HR.out]) (by simp [HR.out]), Below.refl _ _⟩
    · have HR := hid (Pm.line_over (lim := e - k) (long := over) (by rw [← show j = e - k by omega]; exact H.out) (by rw [HL.out]; omega))
      go_wp2
      go_ret3
      exact ⟨ret_line (by simp [HR.out]) (by simp [HR.out]) (by simp [HR.out]), Below.refl _ _⟩

set_option maxHeartbeats 800000 in
theorem rfieldOf_any (s : ByteArray) (w : World) (hs : s.size ≤ maxLen) :
    Calls Tryz.prog 40 #[.string s] w fun r w' =>
      (∃ n v : ByteArray, r = .returned (.tuple #[.agg #[.string n, .string v], .bool (Pm.fieldS s.data.toList).isSome]) ∧ (∀ f, Pm.fieldS s.data.toList = some f → n.data.toList = f.1 ∧ v.data.toList = f.2)) ∧ Below w.heap.size w w' := by
  have hA := (Below.refl w.heap.size w).alloc (Nat.le_refl _) (.cells #[.string ⟨#[]⟩, .string ⟨#[]⟩] 61)
  go_enter Tryz.func40, Tryz.ntmps40
  go_wp2_with fail
  refine (rAhead_any s 58 _ hs).mono ?_
  rintro e w1 ⟨⟨a, b, rfl, ha, hb⟩, hb1⟩
  have hB1 := bel_of hA hb1
  have c0 := cell_later hb1 (a := ⟨w.heap.size, 0, none⟩) (v := .string ⟨#[]⟩) (by simp)
  have c1 := cell_later hb1 (a := ⟨w.heap.size, 1, none⟩) (v := .string ⟨#[]⟩) (by simp)
  have d0 : w1.frozen? ⟨w.heap.size, 0, none⟩ = false := by rw [hb1.frozen (by simp)]; simp
  have d1 : w1.frozen? ⟨w.heap.size, 1, none⟩ = false := by rw [hb1.frozen (by simp)]; simp
  have sz1 : w.heap.size < w1.heap.size := by have := hb1.size; simp at this; omega
  have hsab : a.size + b.size = s.size := by
    rw [size_of ha, size_of hb, ← List.length_append, Pm.ahead_behind]; simp
  have HF : Hid (Pm.fieldS s.data.toList = if (!b.data.toList.isEmpty && Pm.isField a.data.toList (Lib.trimS (b.data.toList.drop 1) Pm.blanks)) = true then some (a.data.toList, Lib.trimS (b.data.toList.drop 1) Pm.blanks) else none) := by
    unfold Hid Pm.fieldS; rw [ha, hb]
  clear hA ha hb hb1
  generalize hFR : Pm.fieldS s.data.toList = FR at HF
  have HFR := hid hFR
  clear hFR
  by_cases h0 : b.data.toList = []
  · have he : b.toList.isEmpty = true := by rw [ByteArray.toList_eq, h0]; rfl
    have HN : Hid (FR = none) := by have := HF.out; rw [h0] at this; exact this
    clear h0 HF
    go_wp2
    refine bodyPost_ret (v := .tuple #[.agg #[.string ⟨#[]⟩, .string ⟨#[]⟩], .bool false]) (by simp [results, Tryz.results40, go_sem, c0, c1]) rfl ?_
    rw [HFR.out, HN.out]
    exact ⟨⟨_, _, rfl, fun f hf => by simp at hf⟩, (hB1.setCell (Nat.le_refl _) _).setCell (Nat.le_refl _) _⟩
  · have he : b.toList.isEmpty = false := by rw [ByteArray.toList_eq]; cases hb : b.data.toList with | nil => exact absurd hb h0 | cons => rfl
    have hbs : 1 ≤ b.size := by rw [size_of (rfl : b.data.toList = _)]; cases hb : b.data.toList with | nil => exact absurd hb h0 | cons => simp
    have HF2 : Hid (FR = if Pm.isField a.data.toList (Lib.trimS (b.data.toList.drop 1) Pm.blanks) = true then some (a.data.toList, Lib.trimS (b.data.toList.drop 1) Pm.blanks) else none) := by
      have := HF.out
      rw [show b.data.toList.isEmpty = false from by rw [← ByteArray.toList_eq]; exact he, Bool.not_false, Bool.true_and] at this; exact this
    have hxs : (b.extract 1 b.size).data.toList = b.data.toList.drop 1 := by
      rw [Lib.extract_data, List.take_of_length_le (by simp)]
    have hxz : (b.extract 1 b.size).size ≤ maxLen := by simp; omega
    unfold maxLen at hs
    clear h0 HF
    go_wp2_with fail
    refine (rBare_any _ _ hxz).mono ?_
    rintro e w2 ⟨⟨o, rfl, ho⟩, hb2⟩
    rw [hxs] at ho
    rw [← ho] at HF2
    have hos : o.size ≤ maxLen := by
      have h1 := trim_le (b.data.toList.drop 1)
      rw [← ho] at h1
      simp at h1; unfold maxLen; omega
    have has : a.size ≤ maxLen := by unfold maxLen; omega
    clear ho hxs
    have c0' := cell_later hb2 c0
    have c1' := cell_later hb2 c1
    have d0' : w2.frozen? ⟨w.heap.size, 0, none⟩ = false := by rw [hb2.frozen sz1]; exact d0
    have d1' : w2.frozen? ⟨w.heap.size, 1, none⟩ = false := by rw [hb2.frozen sz1]; exact d1
    have sz2 : w.heap.size < w2.heap.size := Nat.lt_of_lt_of_le sz1 hb2.size
    have hB2 := bel_of hB1 hb2
    clear c0 c1 d0 d1 hB1 hb2 sz1
    go_wp2_with (go_at_call 54; refine (rIsToken_any _ _ has).mono ?_; rintro e w3 ⟨rfl, rfl⟩)
    refine (rIsValue_any _ _ hos).mono ?_
    rintro e w4 ⟨rfl, hb4⟩
    have c0 := cell_later hb4 c0'
    have c1 := cell_later hb4 c1'
    have d0 : w4.frozen? ⟨w.heap.size, 0, none⟩ = false := by rw [hb4.frozen sz2]; exact d0'
    have d1 : w4.frozen? ⟨w.heap.size, 1, none⟩ = false := by rw [hb4.frozen sz2]; exact d1'
    have sz4 : w.heap.size < w4.heap.size := Nat.lt_of_lt_of_le sz2 hb4.size
    have BL := hid (bel_of hB2 hb4)
    unfold Pm.isField at HF2
    clear c0' c1' d0' d1' sz2 hb4 hB2
    cases ht : Pm.isTok a.data.toList
    · have HN : Hid (FR = none) := by unfold Hid; have := HF2.out; rw [ht, Bool.false_and] at this; simpa using this
      clear HF2
      go_wp2
      refine bodyPost_ret (v := .tuple #[.agg #[.string a, .string o], .bool false]) (by simp [results, Tryz.results40, go_sem, c0, c1]) rfl ?_
      rw [HFR.out, HN.out]
      exact ⟨⟨_, _, rfl, fun f hf => by simp at hf⟩, (BL.out.setCell (Nat.le_refl _) _).setCell (Nat.le_refl _) _⟩
    · have HN := HF2.out
      rw [ht, Bool.true_and] at HN
      have HN2 := hid HN
      clear HF2 HN
      generalize Pm.isValue o.data.toList = vb at *
      go_wp2
      refine bodyPost_ret (v := .tuple #[.agg #[.string a, .string o], .bool vb]) (by simp [results, Tryz.results40, go_sem, c0, c1]) rfl ?_
      rw [HFR.out, HN2.out]
      refine ⟨⟨a, o, ?_, ?_⟩, (BL.out.setCell (Nat.le_refl _) _).setCell (Nat.le_refl _) _⟩
      · cases vb <;> rfl
      · cases vb
        · intro f hf; simp at hf
        · intro f hf; simp at hf; subst hf; exact ⟨rfl, rfl⟩

end Go.Proofs.YtnohadlihgjppaaGreatDoor
