/- The reference's first line: it tells what the plain mathematics says; nothing old in memory turns. -/
import Derived.Test.YtnohadlihgjppaaGreatDoorPlainL
import Derived.Test.YtnohadlihgjppaaGreatDoorRefB
import Derived.Test.YtnohadlihgjppaaGreatDoorWalkX
namespace Go.Proofs.YtnohadlihgjppaaGreatDoor
open Go.RowKit

theorem firstR_none {l : List UInt8} (h : Pm.behind 32 l = []) : Pm.firstS l = (3, [], []) := by
  rw [Pm.firstS_R]; unfold Pm.firstR; simp only; rw [if_pos h]
theorem firstR_some {l r : List UInt8} (h : Pm.behind 32 l = 32 :: r) : Pm.firstS l = if (Pm.isMethod (Pm.ahead 32 l) && (Pm.isTarget (Pm.ahead 32 r) && Pm.isVersion ((Pm.behind 32 r).drop 1)) && !(Pm.behind 32 r).isEmpty) = true then (if (Pm.behind 32 r).drop 1 = Pm.http11 then (0, Pm.ahead 32 l, Pm.ahead 32 r) else (7, [], [])) else (3, [], []) := by
  rw [Pm.firstS_R]; unfold Pm.firstR; simp only; rw [if_neg (by rw [h]; simp), h]; rfl
/- what stands behind the target is no version's -/
theorem no_ver {v : List UInt8} (hc : v = [] ∨ ∃ r, v = 32 :: r) (hn : ¬ ∃ a b c, v = [32, 72, 84, 84, 80, 47, a, b, c]) : (Pm.isVersion (v.drop 1) && !v.isEmpty) = false := by
  rcases hc with rfl | ⟨r, rfl⟩
  · simp
  · cases h : Pm.isVersion r
    · simp [h]
    · obtain ⟨a, b, c, rfl⟩ := Pm.ver_form h
      exact absurd ⟨a, b, c, rfl⟩ hn
theorem and3 (a b c d : Bool) : (a && (b && c) && d) = (a && (b && (c && d))) := by cases a <;> cases b <;> cases c <;> cases d <;> rfl

set_option maxRecDepth 100000 in
set_option maxHeartbeats 2000000 in
theorem rfirst_any (s : ByteArray) (w : World) (hs : s.size ≤ maxLen) :
    Calls Tryz.prog 39 #[.string s] w fun r w' =>
      r = .returned (.tuple #[.agg #[.string ⟨(Pm.firstS s.data.toList).2.1.toArray⟩, .string ⟨(Pm.firstS s.data.toList).2.2.toArray⟩, .slice none 0 0, .string ⟨#[]⟩], .int .i64 (Pm.firstS s.data.toList).1]) ∧ Below w.heap.size w w' := by
  have hA := (Below.refl w.heap.size w).alloc (Nat.le_refl _) (.cells #[.string ⟨#[]⟩, .string ⟨#[]⟩, .slice none 0 0, .string ⟨#[]⟩] 36)
  have q0 : RqB w.heap.size [] [] (.slice none 0 0) (w.alloc (.cells #[.string ⟨#[]⟩, .string ⟨#[]⟩, .slice none 0 0, .string ⟨#[]⟩] 36)) := heap_alloc_new w _
  go_enter Tryz.func39, Tryz.ntmps39
  go_wp2_with fail
  refine (rAhead_any s 32 _ hs).mono ?_
  rintro e w1 ⟨⟨a, b, rfl, ha, hb⟩, hb1⟩
  have hB1 := bel_of hA hb1
  have q1 := q0.below hb1
  have hsab : a.size + b.size = s.size := by
    rw [size_of ha, size_of hb, ← List.length_append, Pm.ahead_behind]; simp
  have has : a.size ≤ maxLen := by omega
  clear hA q0 hb1
  rcases Pm.behind_cases 32 s.data.toList with h | ⟨r, h⟩
  · have HF := hid (firstR_none h)
    rw [h] at hb
    have he : b.toList.isEmpty = true := by rw [ByteArray.toList_eq, hb]; rfl
    obtain ⟨c0, c1, c2, c3⟩ := q1.cells
    have d0 := q1.free 0
    have d1 := q1.free 1
    have d2 := q1.free 2
    have d3 := q1.free 3
    have sz1 := q1.lt
    have BL := hid hB1
    clear h ha hb q1 hB1
    go_wp2
    refine bodyPost_ret (v := .tuple #[.agg #[.string ⟨#[]⟩, .string ⟨#[]⟩, .slice none 0 0, .string ⟨#[]⟩], .int .i64 3]) (by simp [results, Tryz.results39, go_sem, c0, c1, c2, c3]) rfl ?_
    rw [HF.out]
    exact ⟨rfl, (((BL.out.setCell (Nat.le_refl _) _).setCell (Nat.le_refl _) _).setCell (Nat.le_refl _) _).setCell (Nat.le_refl _) _⟩
  · have HF := hid (firstR_some h)
    rw [← ha] at HF
    have he : b.toList.isEmpty = false := by rw [ByteArray.toList_eq, hb, h]; rfl
    have hbs : 1 ≤ b.size := by rw [size_of hb, h]; simp
    have hx : (b.extract 1 b.size).data.toList = r := by
      rw [Lib.extract_data, List.take_of_length_le (by simp), hb, h]; rfl
    have hxz : (b.extract 1 b.size).size ≤ maxLen := by simp; omega
    unfold maxLen at hs
    clear h ha hb
    go_wp2_with fail
    refine (rAhead_any _ 32 _ hxz).mono ?_
    rintro e w2 ⟨⟨t, v, rfl, ht, hv⟩, hb2⟩
    have htv : t.size + v.size = (b.extract 1 b.size).size := by
      rw [size_of ht, size_of hv, ← List.length_append, Pm.ahead_behind]; simp
    have hts : t.size ≤ maxLen := by omega
    rw [hx] at ht hv
    have hvc := Pm.behind_cases 32 r
    rw [← ht, ← hv] at HF
    rw [← hv] at hvc
    have hB2 := bel_of hB1 hb2
    have q2 := q1.below hb2
    clear hx ht hv hB1 q1 hb2
    go_wp2_with (go_at_call 52; refine (rIsMethod_any _ _ has).mono ?_; rintro e w3 ⟨rfl, rfl⟩)
    refine (rIsTarget_any _ _ hts).mono ?_
    rintro e w4 ⟨rfl, hb4⟩
    have q4 := q2.below hb4
    obtain ⟨c0, c1, c2, c3⟩ := q4.cells
    have d0 := q4.free 0
    have d1 := q4.free 1
    have d2 := q4.free 2
    have d3 := q4.free 3
    have sz4 := q4.lt
    have BL := hid (bel_of hB2 hb4)
    rw [and3] at HF
    generalize hFS : Pm.firstS s.data.toList = FSs at HF
    have HFS := hid hFS
    clear hFS q2 q4 hB2 hb4
    cases hm : Pm.isMethod a.data.toList
    · have FB : Hid (FSs = (3, [], [])) := by unfold Hid; rw [HF.out, hm]; rfl
      clear HF
      go_wp2
      refine bodyPost_ret (v := .tuple #[.agg #[.string ⟨#[]⟩, .string ⟨#[]⟩, .slice none 0 0, .string ⟨#[]⟩], .int .i64 3]) (by simp [results, Tryz.results39, go_sem, c0, c1, c2, c3]) rfl ?_
      rw [HFS.out, FB.out]
      exact ⟨rfl, (((BL.out.setCell (Nat.le_refl _) _).setCell (Nat.le_refl _) _).setCell (Nat.le_refl _) _).setCell (Nat.le_refl _) _⟩
    · cases htg : Pm.isTarget t.data.toList
      · have FB : Hid (FSs = (3, [], [])) := by unfold Hid; rw [HF.out, hm, htg]; rfl
        clear HF
        go_wp2
        refine bodyPost_ret (v := .tuple #[.agg #[.string ⟨#[]⟩, .string ⟨#[]⟩, .slice none 0 0, .string ⟨#[]⟩], .int .i64 3]) (by simp [results, Tryz.results39, go_sem, c0, c1, c2, c3]) rfl ?_
        rw [HFS.out, FB.out]
        exact ⟨rfl, (((BL.out.setCell (Nat.le_refl _) _).setCell (Nat.le_refl _) _).setCell (Nat.le_refl _) _).setCell (Nat.le_refl _) _⟩
      · have HF2 : Hid (FSs = if (Pm.isVersion (v.data.toList.drop 1) && !v.data.toList.isEmpty) = true then (if v.data.toList.drop 1 = Pm.http11 then (0, a.data.toList, t.data.toList) else (7, [], [])) else (3, [], [])) := by
          unfold Hid; rw [HF.out, hm, htg]; rfl
        clear HF
        have hvl : v.data.toList.length = v.size := by simp
        by_cases hn : ∃ x y z, v.data.toList = [32, 72, 84, 84, 80, 47, x, y, z]
        · obtain ⟨x, y, z, hv⟩ := hn
          have h9 : v.size = 9 := by rw [← hvl, hv]; rfl
          have h6 : ((v.extract 0 6).toList == [32, 72, 84, 84, 80, 47]) = true := by rw [ByteArray.toList_eq, Lib.extract_data, hv]; rfl
          have h7e : v[7]'(by omega) = y := by
            have : v.data.toList[7]? = some y := by rw [hv]; rfl
            rw [List.getElem?_eq_getElem (by simp; omega)] at this
            exact Option.some.inj this
          have h67 : (v.extract 6 7 ++ v.extract 8 9).data.toList = [x, z] := by
            rw [ByteArray.data_append, Array.toList_append, Lib.extract_data, Lib.extract_data, hv]; rfl
          have hvr : Pm.isVersion (v.data.toList.drop 1) = (Pm.digB x && (y == 46 && Pm.digB z)) := by rw [hv]; exact Pm.ver_at x y z
          have hve : v.data.toList.isEmpty = false := by rw [hv]; rfl
          rw [hvr, hve, Bool.not_false, Bool.and_true] at HF2
          have H11 : Hid ((v.toList == [32, 72, 84, 84, 80, 47, 49, 46, 49]) = decide (v.data.toList.drop 1 = Pm.http11)) := by
            unfold Hid; rw [ByteArray.toList_eq, hv]; unfold Pm.http11
            rw [Bool.eq_iff_iff]; simp
          cases h7 : ((v[7]'(by omega)).toNat : Int) != 46
          · have hy : (y == 46) = true := by rw [Pm.b46, ← h7e, h7]; rfl
            rw [hy, Bool.true_and] at HF2
            have hz67 : (v.extract 6 7 ++ v.extract 8 9).size ≤ maxLen := by
              have : (v.extract 6 7 ++ v.extract 8 9).data.toList.length = 2 := by rw [h67]; rfl
              simp at this; unfold maxLen; simp; omega
            have HD : Hid (Pm.allP (Pm.inB (⟨#[48, 49, 50, 51, 52, 53, 54, 55, 56, 57]⟩ : ByteArray).data.toList) (v.extract 6 7 ++ v.extract 8 9).data.toList = (Pm.digB x && Pm.digB z)) := by
              unfold Hid; rw [h67]; simp [Pm.allP, Pm.num_in]
            have hal : (⟨#[48, 49, 50, 51, 52, 53, 54, 55, 56, 57]⟩ : ByteArray).size ≤ maxLen := by show 10 ≤ maxLen; unfold maxLen; omega
            have HMD := hid (fun W => madeG_any (v.extract 6 7 ++ v.extract 8 9) ⟨#[48, 49, 50, 51, 52, 53, 54, 55, 56, 57]⟩ W hz67 hal)
            rw [HD.out] at HMD
            clear h67 hv hvr hve h7e hy hvc HD
            go_wp2_with fail
            go_region_with (go_at_call 61; refine (HMD.out _).mono ?_; rintro e w5 ⟨rfl, hw5⟩)
            subst hw5
            cases hdd : (Pm.digB x && Pm.digB z)
            · have FB : Hid (FSs = (3, [], [])) := by unfold Hid; rw [HF2.out, hdd]; rfl
              clear HF2 H11 hdd HMD
              go_wp2
              refine bodyPost_ret (v := .tuple #[.agg #[.string ⟨#[]⟩, .string ⟨#[]⟩, .slice none 0 0, .string ⟨#[]⟩], .int .i64 3]) (by simp [results, Tryz.results39, go_sem, c0, c1, c2, c3]) rfl ?_
              rw [HFS.out, FB.out]
              exact ⟨rfl, (((BL.out.drew.setCell (Nat.le_refl _) _).setCell (Nat.le_refl _) _).setCell (Nat.le_refl _) _).setCell (Nat.le_refl _) _⟩
            · rw [hdd, if_pos rfl] at HF2
              have h11e := H11.out
              clear H11 hdd HMD
              by_cases h11 : v.data.toList.drop 1 = Pm.http11
              · rw [decide_eq_true h11] at h11e
                have FB : Hid (FSs = (0, a.data.toList, t.data.toList)) := by unfold Hid; rw [HF2.out, if_pos h11]
                clear HF2 h11
                go_wp2
                refine bodyPost_ret (v := .tuple #[.agg #[.string a, .string t, .slice none 0 0, .string ⟨#[]⟩], .int .i64 0]) (by simp [results, Tryz.results39, go_sem, c0, c1, c2, c3]) rfl ?_
                rw [HFS.out, FB.out]
                exact ⟨rfl, (((BL.out.drew.setCell (Nat.le_refl _) _).setCell (Nat.le_refl _) _).setCell (Nat.le_refl _) _).setCell (Nat.le_refl _) _⟩
              · rw [decide_eq_false h11] at h11e
                have FB : Hid (FSs = (7, [], [])) := by unfold Hid; rw [HF2.out, if_neg h11]
                clear HF2 h11
                go_wp2
                refine bodyPost_ret (v := .tuple #[.agg #[.string ⟨#[]⟩, .string ⟨#[]⟩, .slice none 0 0, .string ⟨#[]⟩], .int .i64 7]) (by simp [results, Tryz.results39, go_sem, c0, c1, c2, c3]) rfl ?_
                rw [HFS.out, FB.out]
                exact ⟨rfl, (((BL.out.drew.setCell (Nat.le_refl _) _).setCell (Nat.le_refl _) _).setCell (Nat.le_refl _) _).setCell (Nat.le_refl _) _⟩
          · have hy : (y == 46) = false := by rw [Pm.b46, ← h7e, h7]; rfl
            have FB : Hid (FSs = (3, [], [])) := by unfold Hid; rw [HF2.out, hy, Bool.false_and, Bool.and_false]; rfl
            clear HF2 h67 hv hvr hve h7e hy H11
            go_wp2
            refine bodyPost_ret (v := .tuple #[.agg #[.string ⟨#[]⟩, .string ⟨#[]⟩, .slice none 0 0, .string ⟨#[]⟩], .int .i64 3]) (by simp [results, Tryz.results39, go_sem, c0, c1, c2, c3]) rfl ?_
            rw [HFS.out, FB.out]
            exact ⟨rfl, (((BL.out.setCell (Nat.le_refl _) _).setCell (Nat.le_refl _) _).setCell (Nat.le_refl _) _).setCell (Nat.le_refl _) _⟩
        · have FB : Hid (FSs = (3, [], [])) := by unfold Hid; rw [HF2.out, no_ver hvc hn]; rfl
          by_cases h9 : v.size = 9
          focus
            have h6 : ((v.extract 0 6).toList == [32, 72, 84, 84, 80, 47]) = false := by
              rw [beq_eq_false_iff_ne, ByteArray.toList_eq, Lib.extract_data]
              intro hc
              exact hn (Pm.nine (by rw [hvl]; exact h9) (by simpa using hc))
          rotate_left
          focus
            have h9' : ((v.size : Int) != 9) = true := by rw [bne_iff_ne]; omega
          all_goals
            clear HF2 hn hvc hvl
            go_wp2
            refine bodyPost_ret (v := .tuple #[.agg #[.string ⟨#[]⟩, .string ⟨#[]⟩, .slice none 0 0, .string ⟨#[]⟩], .int .i64 3]) (by simp [results, Tryz.results39, go_sem, c0, c1, c2, c3]) rfl ?_
            rw [HFS.out, FB.out]
            exact ⟨rfl, (((BL.out.setCell (Nat.le_refl _) _).setCell (Nat.le_refl _) _).setCell (Nat.le_refl _) _).setCell (Nat.le_refl _) _⟩
end Go.Proofs.YtnohadlihgjppaaGreatDoor
