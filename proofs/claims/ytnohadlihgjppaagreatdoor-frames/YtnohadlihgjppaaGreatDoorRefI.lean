/- The reference's Frame at right limits: the request, how many bytes it has, the error, as the plain mathematics says; nothing old in memory turns. -/
import Derived.Test.YtnohadlihgjppaaGreatDoorRefH
namespace Go.Proofs.YtnohadlihgjppaaGreatDoor
open Go.RowKit

theorem rLimited_any (hd bd : Int) (w : World) :
    Calls Tryz.prog 24 #[.agg #[.int .i64 hd, .int .i64 bd]] w fun e w' => e = .returned (.bool (decide (32 ≤ hd ∧ hd ≤ 500 ∧ 0 ≤ bd ∧ bd ≤ 200))) ∧ Below w.heap.size w w' := by
  go_enter Tryz.func24, Tryz.ntmps24
  go_wp2
  all_goals
    go_ret
    refine ⟨?_, (Below.refl _ _).alloc (Nat.le_refl _) _⟩
    try congr 2
    try simp
    try simp [*]
    try (intros; omega)

set_option maxRecDepth 100000 in
set_option maxHeartbeats 3000000 in
theorem rFrame_any (hd : Nat) (bd : Int) (s : ByteArray) (w : World) (hs : s.size ≤ 281474976710656) (hh0 : 32 ≤ hd) (hh : hd ≤ 500) (hb0 : 0 ≤ bd) (hb1 : bd ≤ 200) :
    Calls Tryz.prog 9 #[.agg #[.int .i64 hd, .int .i64 bd], .string s] w fun r w' =>
      (∃ v, r = .returned (.tuple #[.agg #[.string ⟨(frameS s.data.toList hd bd).2.1.toArray⟩, .string ⟨(frameS s.data.toList hd bd).2.2.1.toArray⟩, v, .string ⟨(frameS s.data.toList hd bd).2.2.2.2.1.toArray⟩], .int .i64 (frameS s.data.toList hd bd).2.2.2.2.2, .int .i64 (frameS s.data.toList hd bd).1]) ∧ w'.ownsRow w.heap.size 61 2 v (frameS s.data.toList hd bd).2.2.2.1.length (flat (frameS s.data.toList hd bd).2.2.2.1)) ∧ Below w.heap.size w w' := by
  have HHD := hid (fun W => rhead_any s hd W (by omega) hh)
  have hlen := headS_len (hd + 1) true s.data.toList hd [] [] [] 0
  have hfld := hid (headS_flds (hd + 1) true s.data.toList hd [] [] [] 0)
  generalize hF : frameS s.data.toList hd bd = FR
  unfold frameS at hF
  generalize Pm.headS (hd + 1) true s.data.toList hd [] [] [] 0 = H at *
  have HF := hid hF
  clear hF
  have hdec : decide (32 ≤ (hd : Int) ∧ (hd : Int) ≤ 500 ∧ 0 ≤ bd ∧ bd ≤ 200) = true := decide_eq_true ⟨by omega, by omega, hb0, hb1⟩
  go_enter Tryz.func9, Tryz.ntmps9
  go_wp2_with fail
  refine (rLimited_any _ _ _).mono ?_
  rintro e w2 ⟨rfl, hb2⟩
  rw [hdec]
  have hA : Below w.heap.size w ((w.alloc (.cells #[.int .i64 hd, .int .i64 bd] 23)).alloc (.cells #[.string ⟨#[]⟩, .string ⟨#[]⟩, .slice none 0 0, .string ⟨#[]⟩] 36)) := ((Below.refl _ _).alloc (Nat.le_refl _) _).alloc (by simp) _
  have hB2 := bel_of hA hb2
  have q1 : RqB (w.heap.size + 1) [] [] (.slice none 0 0) ((w.alloc (.cells #[.int .i64 hd, .int .i64 bd] 23)).alloc (.cells #[.string ⟨#[]⟩, .string ⟨#[]⟩, .slice none 0 0, .string ⟨#[]⟩] 36)) := by
    have := heap_alloc_new (w.alloc (.cells #[.int .i64 hd, .int .i64 bd] 23)) (.cells #[.string ⟨#[]⟩, .string ⟨#[]⟩, .slice none 0 0, .string ⟨#[]⟩] 36)
    rw [show (w.alloc (.cells #[.int .i64 hd, .int .i64 bd] 23)).heap.size = w.heap.size + 1 from by simp] at this
    exact this
  have q2 := q1.below hb2
  have c0 := cell_later hb2 (a := ⟨w.heap.size, 0, none⟩) (v := .int .i64 hd) (by simp)
  have c1 := cell_later hb2 (a := ⟨w.heap.size, 1, none⟩) (v := .int .i64 bd) (by simp)
  have sz2 : w.heap.size + 2 ≤ w2.heap.size := by have := hb2.size; simp at this; omega
  clear q1 hA hb2
  go_wp2_with fail
  refine (HHD.out _).mono ?_
  rintro e w3 ⟨⟨v, rfl, ow3⟩, hb3⟩
  have hB3 := bel_of hB2 hb3
  have q3 := q2.below hb3
  have c0' := cell_later hb3 c0
  have c1' := cell_later hb3 c1
  have sz3 : w.heap.size + 2 ≤ w3.heap.size := Nat.le_trans sz2 hb3.size
  have ob0 := own_not ow3 (g := w.heap.size + 1) (by omega)
  have ob1 := own_lt ow3 (g := w3.heap.size) (Nat.le_refl _)
  have ow3 := owns_base ow3 (B' := w.heap.size) (by omega)
  obtain ⟨va, vk, vc, rfl⟩ := owns_form ow3
  clear HHD hB2 q2 c0 c1 hb3 sz2
  have szr : w.heap.size + 1 < w3.heap.size := by omega
  have szl : w.heap.size < w3.heap.size := by omega
  obtain ⟨u0, u1, u2, u3⟩ := q3.cells
  have y0 := q3.free 0
  have y1 := q3.free 1
  have y2 := q3.free 2
  have y3 := q3.free 3
  by_cases he : H.1 = 0
  · obtain ⟨n1, n2⟩ := hlen he
    obtain ⟨f1, f2⟩ := hfld.out he
    obtain ⟨fa, fc, hfv, hfl⟩ := flat_at ow3
    rw [if_neg (by simp [he])] at HF
    rw [he]
    have f2' : ∀ x ∈ fldsOf H.2.2.2.1, x.1.size ≤ maxLen ∧ x.2.size ≤ maxLen := by
      intro x hx
      unfold fldsOf at hx
      rw [List.mem_map] at hx
      obtain ⟨y, hy, rfl⟩ := hx
      rcases f2 y hy with h | h
      · exact absurd h (by simp)
      · unfold maxLen; simp [ByteArray.size]; omega
    have HG := hid (fun m t y W hW => rbody_any (fldsOf H.2.2.2.1) m t y fa fc bd W hW (by rw [fldsOf_len]; simp at f1; omega) hb0 (fun x hx => (f2' x hx).1) (fun x hx => (f2' x hx).2))
    rw [hfv] at ow3 ob0 ob1 ⊢
    have OB := hid (And.intro ob0 ob1)
    have hLn := hid (framOf_len (fs := fldsOf H.2.2.2.1) (bd := bd))
    have n3 : H.2.2.2.2 ≤ s.size := by simp at n2; exact n2
    clear hfv f2' f2 hfld hlen ob0 ob1 u0 u1 u2 u3 y0 y1 y2 y3
    generalize framOf (fldsOf H.2.2.2.1) bd = M at *
    have hA4 := (Below.refl w3.heap.size w3).alloc (Nat.le_refl _) (.cells #[.string ⟨H.2.1.toArray⟩, .string ⟨H.2.2.1.toArray⟩, .slice fa (fldsOf H.2.2.2.1).length fc, .string ⟨#[]⟩] 36)
    have qb4 : RqB w3.heap.size H.2.1 H.2.2.1 (.slice fa (fldsOf H.2.2.2.1).length fc) (w3.alloc (.cells #[.string ⟨H.2.1.toArray⟩, .string ⟨H.2.2.1.toArray⟩, .slice fa (fldsOf H.2.2.2.1).length fc, .string ⟨#[]⟩] 36)) := heap_alloc_new w3 _
    have q4 := q3.below hA4
    have ow4 := owns_below ow3 hA4
    have hf4 := hfl.below hA4
    have hB4 := bel_of hB3 hA4
    have c04 := cell_later hA4 c0'
    have c14 := cell_later hA4 c1'
    go_wp2_with fail
    clear hA4 q3 ow3 hfl hB3 c0' c1'
    have sz4 : w3.heap.size < (w3.alloc (.cells #[.string ⟨H.2.1.toArray⟩, .string ⟨H.2.2.1.toArray⟩, .slice fa (fldsOf H.2.2.2.1).length fc, .string ⟨#[]⟩] 36)).heap.size := by simp
    generalize w3.alloc (.cells #[.string ⟨H.2.1.toArray⟩, .string ⟨H.2.2.1.toArray⟩, .slice fa (fldsOf H.2.2.2.1).length fc, .string ⟨#[]⟩] 36) = w4 at *
    generalize w3.heap.size = gq at *
    refine (HG.out _ _ _ _ hf4).mono ?_
    rintro e w5 ⟨rfl, hb5⟩
    have q5 := q4.below hb5
    have qb5 := qb4.below hb5
    have ow5 := owns_below ow4 hb5
    have hB5 := bel_of hB4 hb5
    have c05 := cell_later hb5 c04
    have c15 := cell_later hb5 c14
    have sz5 : gq < w5.heap.size := Nat.lt_of_lt_of_le sz4 hb5.size
    have szr5 : w.heap.size + 1 < w5.heap.size := by omega
    clear HG hf4 q4 qb4 ow4 hB4 c04 c14 hb5 sz4
    obtain ⟨u0, u1, u2, u3⟩ := q5.cells
    have y0 := q5.free 0
    have y1 := q5.free 1
    have y2 := q5.free 2
    have y3 := q5.free 3
    obtain ⟨e1, ch, ln⟩ := M
    by_cases hE : e1 = 0
    · subst hE
      rw [if_neg (by simp)] at HF
      obtain ⟨l0, l1⟩ := hLn.out rfl
      obtain ⟨n, rfl⟩ : ∃ n : Nat, ln = n := ⟨ln.toNat, (Int.toNat_of_nonneg l0).symm⟩
      simp only [Int.toNat_natCast] at HF
      cases ch
      · have hbn : bodyN (0, false, (n : Int)) = n := rfl
        rw [hbn]
        have hbl : (s.data.toList.drop H.2.2.2.2).length = s.size - H.2.2.2.2 := by simp
        have hbS : bodyS (s.data.toList.drop H.2.2.2.2) hd bd false n = if s.size - H.2.2.2.2 < n then (2, [], 0) else (0, (s.data.toList.drop H.2.2.2.2).take n, n) := by unfold bodyS; rw [if_neg (by simp), hbl]
        rw [hbS] at HF
        clear hbn hbl hbS
        generalize H.2.2.2.2 = at_ at *
        by_cases hmo : s.size - at_ < n
        · rw [if_pos hmo, if_pos (by simp)] at HF
          have BL := hid hB5
          clear q5 qb5 ow5 hB5
          go_wp2
          refine bodyPost_ret (v := .tuple #[.agg #[.string ⟨#[]⟩, .string ⟨#[]⟩, .slice none 0 0, .string ⟨#[]⟩], .int .i64 0, .int .i64 2]) (by simp [results, Tryz.results9, go_sem, u0, u1, u2, u3]) rfl ?_
          rw [← HF.out]
          exact ⟨⟨_, rfl, World.ownsRow_nil _ _ _ _⟩, (((BL.out.setCell (Nat.le_succ _) _).setCell (Nat.le_succ _) _).setCell (Nat.le_succ _) _).setCell (Nat.le_succ _) _⟩
        · rw [if_neg hmo, if_neg (by simp)] at HF
          have hex : (s.extract at_ (at_ + n)).data.toList = (s.data.toList.drop at_).take n := by rw [Lib.extract_data, show at_ + n - at_ = n from by omega]
          obtain ⟨z0, z1, z2, z3⟩ := qb5.cells
          have x3 := qb5.free 3
          have hgw : gq ≠ w.heap.size + 1 := by omega
          have hwg : w.heap.size + 1 ≠ gq := by omega
          have BL := hid hB5
          have OW := hid ow5
          have HEX := hid (bytes_of hex)
          clear q5 qb5 ow5 hB5 hex
          go_wp2
          refine bodyPost_ret (v := .tuple #[.agg #[.string ⟨H.2.1.toArray⟩, .string ⟨H.2.2.1.toArray⟩, .slice fa (fldsOf H.2.2.2.1).length fc, .string (s.extract at_ (at_ + n))], .int .i64 ((at_ : Int) + (n : Int)), .int .i64 0]) (by simp [results, Tryz.results9, go_sem, u0, u1, u2, u3]) rfl ?_
          rw [← HF.out]
          refine ⟨⟨.slice fa (fldsOf H.2.2.2.1).length fc, ?_, ?_⟩, ?_⟩
          rotate_left
          · exact owns_not (owns_not (owns_not (owns_not (owns_not OW.out OB.out.2 3 _) OB.out.1 0 _) OB.out.1 1 _) OB.out.1 2 _) OB.out.1 3 _
          · exact (((((BL.out.setCell (by show w.heap.size ≤ gq; omega) _).setCell (Nat.le_succ _) _).setCell (Nat.le_succ _) _).setCell (Nat.le_succ _) _).setCell (Nat.le_succ _) _)
          · rw [HEX.out]; rfl
      · have hbn : bodyN (0, true, (n : Int)) = -1 := rfl
        rw [hbn]
        have hbl : (s.data.toList.drop H.2.2.2.2).length = s.size - H.2.2.2.2 := by simp
        have hbS : bodyS (s.data.toList.drop H.2.2.2.2) hd bd true n = chunksS (s.size - H.2.2.2.2 + 1) (s.data.toList.drop H.2.2.2.2) hd bd [] 0 := by unfold bodyS; rw [if_pos rfl, hbl]
        rw [hbS, chunks_R] at HF
        have HC := hid (fun W => rchunked_to s hd hs hh (s.size - H.2.2.2.2 + 1) H.2.2.2.2 bd W n3 (by omega) hb0 hb1)
        clear hbn hbl hbS
        generalize H.2.2.2.2 = at_ at *
        generalize chunksR (s.size - at_ + 1) (s.data.toList.drop at_) hd bd = R at *
        go_wp2_with fail
        refine (HC.out _).mono ?_
        rintro e w6 ⟨rfl, hb6⟩
        have q6 := q5.below hb6
        have qb6 := qb5.below hb6
        have ow6 := owns_below ow5 hb6
        have hB6 := bel_of hB5 hb6
        have sz6 : gq < w6.heap.size := Nat.lt_of_lt_of_le sz5 hb6.size
        have szr6 : w.heap.size + 1 < w6.heap.size := by omega
        clear HC q5 qb5 ow5 hB5 hb6 u0 u1 u2 u3 y0 y1 y2 y3
        obtain ⟨u0, u1, u2, u3⟩ := q6.cells
        have y0 := q6.free 0
        have y1 := q6.free 1
        have y2 := q6.free 2
        have y3 := q6.free 3
        generalize hce : chEnd at_ R = ce
        have HCE := hid hce
        clear hce
        by_cases hr : R.1 = 0
        · have hin : (if R.1 ≠ 0 then ((R.1, [], 0) : Int × List UInt8 × Nat) else (0, R.2.1, R.2.2)) = (0, R.2.1, R.2.2) := if_neg (by simp [hr])
          rw [hin, if_neg (by simp)] at HF
          clear hin
          rw [hr]
          obtain ⟨z0, z1, z2, z3⟩ := qb6.cells
          have x3 := qb6.free 3
          have hgw : gq ≠ w.heap.size + 1 := by omega
          have hwg : w.heap.size + 1 ≠ gq := by omega
          have BL := hid hB6
          have OW := hid ow6
          clear q6 qb6 ow6 hB6
          go_wp2
          refine bodyPost_ret (v := .tuple #[.agg #[.string ⟨H.2.1.toArray⟩, .string ⟨H.2.2.1.toArray⟩, .slice fa (fldsOf H.2.2.2.1).length fc, .string ⟨R.2.1.toArray⟩], .int .i64 ce, .int .i64 0]) (by simp [results, Tryz.results9, go_sem, u0, u1, u2, u3]) rfl ?_
          rw [← HF.out]
          refine ⟨⟨.slice fa (fldsOf H.2.2.2.1).length fc, ?_, ?_⟩, ?_⟩
          rotate_left
          · exact owns_not (owns_not (owns_not (owns_not (owns_not OW.out OB.out.2 3 _) OB.out.1 0 _) OB.out.1 1 _) OB.out.1 2 _) OB.out.1 3 _
          · exact (((((BL.out.setCell (by show w.heap.size ≤ gq; omega) _).setCell (Nat.le_succ _) _).setCell (Nat.le_succ _) _).setCell (Nat.le_succ _) _).setCell (Nat.le_succ _) _)
          · rw [← HCE.out]; unfold chEnd; rw [if_pos hr]
        · have hin : (if R.1 ≠ 0 then ((R.1, [], 0) : Int × List UInt8 × Nat) else (0, R.2.1, R.2.2)) = (R.1, [], 0) := if_pos hr
          rw [hin, if_pos (by simpa using hr)] at HF
          clear hin
          have hne : (R.1 != 0) = true := by rw [bne_iff_ne]; exact hr
          have BL := hid hB6
          clear q6 qb6 ow6 hB6
          go_wp2
          refine bodyPost_ret (v := .tuple #[.agg #[.string ⟨#[]⟩, .string ⟨#[]⟩, .slice none 0 0, .string ⟨#[]⟩], .int .i64 0, .int .i64 R.1]) (by simp [results, Tryz.results9, go_sem, u0, u1, u2, u3]) rfl ?_
          rw [← HF.out]
          exact ⟨⟨_, rfl, World.ownsRow_nil _ _ _ _⟩, (((BL.out.setCell (Nat.le_succ _) _).setCell (Nat.le_succ _) _).setCell (Nat.le_succ _) _).setCell (Nat.le_succ _) _⟩
    · rw [if_pos hE] at HF
      have hne : (e1 != 0) = true := by rw [bne_iff_ne]; exact hE
      have BL := hid hB5
      generalize bodyN (e1, ch, ln) = bn
      clear q5 qb5 ow5 hB5
      go_wp2
      refine bodyPost_ret (v := .tuple #[.agg #[.string ⟨#[]⟩, .string ⟨#[]⟩, .slice none 0 0, .string ⟨#[]⟩], .int .i64 0, .int .i64 e1]) (by simp [results, Tryz.results9, go_sem, u0, u1, u2, u3]) rfl ?_
      rw [← HF.out]
      exact ⟨⟨_, rfl, World.ownsRow_nil _ _ _ _⟩, (((BL.out.setCell (Nat.le_succ _) _).setCell (Nat.le_succ _) _).setCell (Nat.le_succ _) _).setCell (Nat.le_succ _) _⟩
  · rw [if_pos he] at HF
    have hne : (H.1 != 0) = true := by rw [bne_iff_ne]; exact he
    have BL := hid hB3
    clear hlen hfld q3 ow3 hB3 ob0 ob1
    go_wp2
    refine bodyPost_ret (v := .tuple #[.agg #[.string ⟨#[]⟩, .string ⟨#[]⟩, .slice none 0 0, .string ⟨#[]⟩], .int .i64 0, .int .i64 H.1]) (by simp [results, Tryz.results9, go_sem, u0, u1, u2, u3, szr]) rfl ?_
    rw [← HF.out]
    refine ⟨⟨_, rfl, World.ownsRow_nil _ _ _ _⟩, ?_⟩
    exact ((((BL.out.setCell (Nat.le_succ _) _).setCell (Nat.le_succ _) _).setCell (Nat.le_succ _) _).setCell (Nat.le_succ _) _).alloc (by simp; omega) _
end Go.Proofs.YtnohadlihgjppaaGreatDoor
