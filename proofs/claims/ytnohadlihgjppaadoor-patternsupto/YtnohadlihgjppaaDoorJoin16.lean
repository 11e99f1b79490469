/- Texts that follow one another, joined. -/
import Derived.Test.YtnohadlihgjppaaDoorJoin15
/- What a reader makes of a body, told in one piece or in chunks, as the plain mathematics says it; and what a framing without error tells. -/
namespace Go.Proofs.YtnohadlihgjppaaDoor
open Go.RowKit

theorem oneN_nonneg (l : List (List UInt8)) : 0 ≤ Pm.oneN l := by
  unfold Pm.oneN
  split
  · rename_i h
    unfold Pm.onePre
    cases l with
    | nil => simp
    | cons x r =>
      have h2 := List.all_eq_true.1 h x (by simp)
      simp only [Pm.numOk, Bool.and_eq_true, decide_eq_true_eq] at h2
      exact (Pm.numv_bd 10 x (by omega) (by omega) h2.1.2 (by omega)).1
  · exact Int.le_refl _
theorem framOf_len {fs : List (ByteArray × ByteArray)} {bd : Int} (h : (framOf fs bd).1 = 0) : 0 ≤ (framOf fs bd).2.2 ∧ (framOf fs bd).2.2 ≤ bd := by
  unfold framOf framS at h ⊢
  split at h <;> rename_i h1
  · simp at h
  rw [if_neg h1]
  split at h <;> rename_i h2
  · simp at h
  rw [if_neg h2]
  split at h <;> rename_i h3
  · simp at h
  rw [if_neg h3]
  split at h <;> rename_i h4
  · simp at h
  rw [if_neg h4]
  split at h <;> rename_i h5
  · simp at h
  rw [if_neg h5]
  exact ⟨oneN_nonneg _, by simpa using h5⟩

theorem bytes_body (b : Nat) (hd bd : Int) (hd' : Nat) (s : ByteArray) (k n : Nat) (w : World) (hr : RdAt b hd bd s k w) (hs : s.size ≤ maxLen) (hk : k ≤ s.size) (hn2 : n ≤ 281474976710656) :
    Calls Tryd.prog 48 #[.pointer (some ⟨b, 0, none⟩), .int .i64 n] w fun r w' =>
      r = .returned (.tuple #[.string ⟨(bodyS (s.data.toList.drop k) hd' bd false n).2.1.toArray⟩, .int .i64 (bodyS (s.data.toList.drop k) hd' bd false n).1]) ∧
      (∃ k', RdAt b hd bd s k' w' ∧ ((bodyS (s.data.toList.drop k) hd' bd false n).1 = 0 → k' = k + (bodyS (s.data.toList.drop k) hd' bd false n).2.2)) ∧ Kp b w w' := by
  have hl : (s.data.toList.drop k).length = s.size - k := by simp
  unfold bodyS
  rw [if_neg (by simp), hl]
  by_cases h : s.size - k < n
  · rw [if_pos h]
    refine (bytes_short b hd bd s k n w hr hs hk h (by omega)).mono ?_
    rintro e w' ⟨rfl, h1, h2⟩
    exact ⟨rfl, ⟨k, h1, fun h => by simp at h⟩, h2⟩
  · rw [if_neg h]
    refine (bytes_full b hd bd s k n w hr hs hk (by omega) hn2).mono ?_
    rintro e w' ⟨rfl, h1, h2⟩
    refine ⟨?_, ⟨k + n, h1, fun _ => rfl⟩, h2⟩
    have : s.extract k (k + n) = ⟨((s.data.toList.drop k).take n).toArray⟩ := by
      apply ByteArray.ext
      apply Array.ext'
      rw [Lib.extract_data]
      simp
    rw [this]

theorem chunks_body (b : Nat) (hd : Nat) (bd : Int) (s : ByteArray) (k n : Nat) (w : World) (hr : RdAt b hd bd s k w) (hs : s.size ≤ 1152921504606846976) (hk : k ≤ s.size) (hh : hd ≤ 500) (hb0 : 0 ≤ bd) (hb1 : bd ≤ 200) :
    Calls Tryd.prog 47 #[.pointer (some ⟨b, 0, none⟩)] w fun r w' =>
      r = .returned (.tuple #[.string ⟨(bodyS (s.data.toList.drop k) hd bd true n).2.1.toArray⟩, .int .i64 (bodyS (s.data.toList.drop k) hd bd true n).1]) ∧
      (∃ k', RdAt b hd bd s k' w' ∧ ((bodyS (s.data.toList.drop k) hd bd true n).1 = 0 → k' = k + (bodyS (s.data.toList.drop k) hd bd true n).2.2)) ∧ Kp b w w' := by
  have hl : (s.data.toList.drop k).length = s.size - k := by simp
  unfold bodyS
  rw [if_pos rfl, hl]
  exact chunks_any b hd bd s k w hr hs hk hh hb0 hb1

end Go.Proofs.YtnohadlihgjppaaDoor

/- A reader's request, from the beginning of its bytes, is what the plain mathematics says; no old block but the reader's turns. -/
namespace Go.Proofs.YtnohadlihgjppaaDoor
open Go.RowKit

theorem carry {b g g0 B : Nat} {w w2 W w5 : World} {m t m0 t0 : List UInt8} {v v0 x : Value} {e : TypeId} {sz n : Nat} {xs : List Value} (hB : Below w2.heap.size w2 W) (kp5 : Kp b W w5) (qb : RqB g m t v w2) (q : RqB g0 m0 t0 v0 w2) (ow : w2.ownsRow B e sz x n xs) (kp : Kp b w w2) (h1 : g ≠ b) (h2 : g0 ≠ b) (h3 : b < B) :
    RqB g m t v w5 ∧ RqB g0 m0 t0 v0 w5 ∧ w5.ownsRow B e sz x n xs ∧ Kp b w w5 ∧ w2.heap.size ≤ w5.heap.size ∧ W.heap.size ≤ w5.heap.size :=
  ⟨(qb.below hB).kp kp5 h1, (q.below hB).kp kp5 h2, kp5.owns (owns_below ow hB) h3, (kp.trans (Kp.of hB)).trans kp5, Nat.le_trans hB.size kp5.2.2.2.1, kp5.2.2.2.1⟩
theorem Kp.alloc {b : Nat} {w w1 : World} (h : Kp b w w1) (o : Obj) : Kp b w (w1.alloc o) := h.trans (Kp.of ((Below.refl _ _).alloc (Nat.le_refl _) _))
theorem owns_not {w : World} {B : Nat} {e : TypeId} {sz : Nat} {x : Value} {n : Nat} {xs : List Value} (ho : w.ownsRow B e sz x n xs) {g : Nat} (hg : x.ownBlock ≠ some g) (o : Nat) (v : Value) : (w.setCell ⟨g, o, none⟩ v).ownsRow B e sz x n xs := by
  obtain ⟨h1, h2⟩ := ho
  refine ⟨h1, ?_⟩
  rcases h2 with h2 | ⟨r, cap, cur, hv, hB, hr, h3⟩
  · exact .inl h2
  · refine .inr ⟨r, cap, cur, hv, hB, ?_, h3⟩
    have hne : r ≠ g := fun h => hg (by rw [hv, ← h]; rfl)
    rw [heap_setCell_other w ⟨g, o, none⟩ r v hne]; exact hr
theorem RqB.set3 {g : Nat} {m t : List UInt8} {x : Value} {w : World} (h : RqB g m t x w) (y : Value) : (w.setCell ⟨g, 3, none⟩ y).heap[g]? = some (.cells #[.string ⟨m.toArray⟩, .string ⟨t.toArray⟩, x, y] 28 (0, 0)) := by
  unfold RqB at h; rw [heap_setCell_same w g 3 _ _ _ h]; rfl

set_option maxRecDepth 100000 in
set_option maxHeartbeats 4000000 in
theorem request_any (b : Nat) (hd : Nat) (bd : Int) (s : ByteArray) (mx : Int) (w : World) (hr : RdAt b hd bd s 0 w) (hs : s.size ≤ 1152921504606846976) (hh : hd ≤ 500) (hb0 : 0 ≤ bd) (hb1 : bd ≤ 200) (hm : w.cell? ⟨1, 0, none⟩ = some (.int .i64 mx)) (hb : b ≠ 1) :
    Calls Tryd.prog 31 #[.pointer (some ⟨b, 0, none⟩)] w fun r w' =>
      (∃ (m g : ByteArray) (a : Option Addr) (k c : Nat) (y : ByteArray), r = .returned (.tuple #[.agg #[.string m, .string g, .slice a k c, .string y], .int .i64 (frameS s.data.toList hd bd).1]) ∧ ((frameS s.data.toList hd bd).1 = 0 → m = ⟨(frameS s.data.toList hd bd).2.1.toArray⟩ ∧ g = ⟨(frameS s.data.toList hd bd).2.2.1.toArray⟩ ∧ y = ⟨(frameS s.data.toList hd bd).2.2.2.2.1.toArray⟩ ∧ w'.ownsRow w.heap.size 34 2 (.slice a k c) (frameS s.data.toList hd bd).2.2.2.1.length (flat (frameS s.data.toList hd bd).2.2.2.1) ∧ RdAt b hd bd s (frameS s.data.toList hd bd).2.2.2.2.2 w')) ∧
      Kp b w w' := by
  have hbl := hr.lt
  have hml := block_lt_of_cell hm
  have hA := (Below.refl w.heap.size w).alloc (Nat.le_refl _) (.cells #[.string ⟨#[]⟩, .string ⟨#[]⟩, .slice none 0 0, .string ⟨#[]⟩] 28)
  have HA := hid (head_any b hd bd s 0 mx _ (hr.below hA) hs (Nat.zero_le _) hh (cell_later hA hm) hb)
  rw [List.drop_zero] at HA
  have HQ : Hid (RqB w.heap.size [] [] (.slice none 0 0) (w.alloc (.cells #[.string ⟨#[]⟩, .string ⟨#[]⟩, .slice none 0 0, .string ⟨#[]⟩] 28))) := heap_alloc_new w _
  have HK : Hid (Kp b w (w.alloc (.cells #[.string ⟨#[]⟩, .string ⟨#[]⟩, .slice none 0 0, .string ⟨#[]⟩] 28))) := Kp.of hA
  have hsz : (w.alloc (.cells #[.string ⟨#[]⟩, .string ⟨#[]⟩, .slice none 0 0, .string ⟨#[]⟩] 28)).heap.size = w.heap.size + 1 := by simp
  clear hr hm hA
  generalize hF : frameS s.data.toList hd bd = FR
  unfold frameS at hF
  have hlen := headS_len (hd + 1) true s.data.toList hd [] [] [] 0
  have hfld := hid (headS_flds (hd + 1) true s.data.toList hd [] [] [] 0)
  generalize Pm.headS (hd + 1) true s.data.toList hd [] [] [] 0 = H at *
  have HF := hid hF
  clear hF
  go_enter Tryd.func31, Tryd.ntmps31
  go_wp2_with fail
  generalize w.alloc (.cells #[.string ⟨#[]⟩, .string ⟨#[]⟩, .slice none 0 0, .string ⟨#[]⟩] 28) = w0 at *
  refine HA.out.mono ?_
  rintro e w1 ⟨⟨v, rfl, ho1⟩, ⟨k1, hr1, hk1⟩, kp1⟩
  have q1 := HQ.out.kp kp1 (by omega)
  have kq1 := HK.out.trans kp1
  have sz1 : w.heap.size + 1 ≤ w1.heap.size := by rw [← hsz]; exact kp1.2.2.2.1
  have ob0 := own_not ho1 (g := w.heap.size) (by omega)
  have ob1 := own_lt ho1 (g := w1.heap.size) (Nat.le_refl _)
  have ho1 := owns_base ho1 (B' := w.heap.size) (by omega)
  obtain ⟨va, vk, vc, rfl⟩ := owns_form ho1
  clear HA HQ HK kp1
  have szA : w.heap.size < w1.heap.size := by omega
  obtain ⟨p0, p1, p2, p3⟩ := q1.cells
  have y0 := q1.free 0
  have y1 := q1.free 1
  have y2 := q1.free 2
  have y3 := q1.free 3
  by_cases he : H.1 = 0
  · obtain ⟨n1, n2⟩ := hlen he
    obtain ⟨f1, f2⟩ := hfld.out he
    obtain ⟨fa, fc, hfv, hfl⟩ := flat_at ho1
    rw [if_neg (by simp [he])] at HF
    rw [he]
    rw [hk1 he, Nat.zero_add] at hr1
    have f2' : ∀ x ∈ fldsOf H.2.2.2.1, x.1.size ≤ maxLen ∧ x.2.size ≤ maxLen := by
      intro x hx
      unfold fldsOf at hx
      rw [List.mem_map] at hx
      obtain ⟨y, hy, rfl⟩ := hx
      rcases f2 y hy with h | h
      · exact absurd h (by simp)
      · unfold maxLen; simp [ByteArray.size]; omega
    have HG := hid (fun W hW => framingOf_any (fldsOf H.2.2.2.1) fa fc bd W hW (by rw [fldsOf_len]; simp at f1; omega) (fun x hx => (f2' x hx).1) (fun x hx => (f2' x hx).2))
    obtain ⟨c0, c1, c2, c3⟩ := hr1.cell
    rw [hfv] at ho1 ob0 ob1 ⊢
    have OB := hid (And.intro ob0 ob1)
    clear ob0 ob1
    clear hfv f2' f2 hfld hlen hk1
    go_wp2
    have hA2 := (Below.refl w1.heap.size w1).alloc (Nat.le_refl _) (.cells #[.string ⟨H.2.1.toArray⟩, .string ⟨H.2.2.1.toArray⟩, .slice fa (fldsOf H.2.2.2.1).length fc, .string ⟨#[]⟩] 28)
    have qb2 : RqB w1.heap.size H.2.1 H.2.2.1 (.slice fa (fldsOf H.2.2.2.1).length fc) (w1.alloc (.cells #[.string ⟨H.2.1.toArray⟩, .string ⟨H.2.2.1.toArray⟩, .slice fa (fldsOf H.2.2.2.1).length fc, .string ⟨#[]⟩] 28)) := heap_alloc_new w1 _
    have q2 := q1.below hA2
    have rd2 := hr1.below hA2
    have ow2 := owns_below ho1 hA2
    have fl2 := hfl.below hA2
    have kp2 := kq1.trans (Kp.of hA2)
    have sz2 : w1.heap.size < (w1.alloc (.cells #[.string ⟨H.2.1.toArray⟩, .string ⟨H.2.2.1.toArray⟩, .slice fa (fldsOf H.2.2.2.1).length fc, .string ⟨#[]⟩] 28)).heap.size := by simp
    clear hA2 q1 hr1 ho1 hfl kq1 p0 p1 p2 p3 y0 y1 y2 y3 c0 c1 c2 c3
    generalize w1.alloc (.cells #[.string ⟨H.2.1.toArray⟩, .string ⟨H.2.2.1.toArray⟩, .slice fa (fldsOf H.2.2.2.1).length fc, .string ⟨#[]⟩] 28) = w2 at *
    generalize w1.heap.size = g at *
    obtain ⟨z0, z1, z2, z3⟩ := qb2.cells
    obtain ⟨c0, c1, c2, c3⟩ := rd2.cell
    have szb := rd2.lt
    have szw := q2.lt
    have hLn := hid (framOf_len (fs := fldsOf H.2.2.2.1) (bd := bd))
    generalize framOf (fldsOf H.2.2.2.1) bd = M at *
    obtain ⟨e1, ch, ln⟩ := M
    have hAl := (Below.refl w2.heap.size w2).alloc (Nat.le_refl _) (.cells #[.bool false, .int .i64 0] 82)
    have fl2' := fl2.below hAl
    go_region_with (first | (go_at_call 46; refine (HG.out _ ?_).mono ?_; exact fl2; rintro e w3 ⟨rfl, hb3⟩) | (go_at_call 46; refine (HG.out _ ?_).mono ?_; exact fl2'; rintro e w3 ⟨rfl, hb3⟩; have h0 := cell_later hb3 (a := ⟨w2.heap.size, 0, none⟩) (v := .bool false) (by simp); have h1 := cell_later hb3 (a := ⟨w2.heap.size, 1, none⟩) (v := .int .i64 0) (by simp); have g0 : w3.frozen? ⟨w2.heap.size, 0, none⟩ = false := (by rw [hb3.frozen (by simp)]; simp); have g1 : w3.frozen? ⟨w2.heap.size, 1, none⟩ = false := (by rw [hb3.frozen (by simp)]; simp)))
    all_goals
      have hB3 : Below w2.heap.size w2 w3 := by first | exact bel_of (Below.refl _ _).drew hb3 | exact bel_of hAl.drew hb3
      have q3 := q2.below hB3
      have qb3 := qb2.below hB3
      have rd3 := rd2.below hB3
      have ow3 := owns_below ow2 hB3
      have kp3 := kp2.trans (Kp.of hB3)
      have sz3 := hB3.size
      have szb3 := rd3.lt
      have szw3 := q3.lt
      have szg3 := qb3.lt
      clear hb3 z0 z1 z2 z3 c0 c1 c2 c3 fl2 fl2' HG
      obtain ⟨p0, p1, p2, p3⟩ := q3.cells
      have y0 := q3.free 0
      have y1 := q3.free 1
      have y2 := q3.free 2
      have y3 := q3.free 3
      by_cases hE : e1 = 0
      · subst hE
        rw [if_neg (by simp)] at HF
        obtain ⟨l0, l1⟩ := hLn.out rfl
        obtain ⟨n, rfl⟩ : ∃ n : Nat, ln = n := ⟨ln.toNat, (Int.toNat_of_nonneg l0).symm⟩
        cases ch
        focus
          go_wp2_with fail
          refine (bytes_body b hd bd hd s _ n _ (rd2.below (by first | exact hB3.alloc hB3.size _ | exact (hB3.setCell (Nat.le_refl _) _).setCell (Nat.le_refl _) _)) (by unfold maxLen; omega) (by simp at n1 n2; omega) (by omega)).mono ?_
          rintro e w5 ⟨rfl, ⟨k5, rd5, hk5⟩, kp5⟩
          obtain ⟨qb5, q5, ow5, kpw, sz5, sz6⟩ := carry (by first | exact hB3.alloc hB3.size _ | exact (hB3.setCell (Nat.le_refl _) _).setCell (Nat.le_refl _) _) kp5 qb2 q2 ow2 kp2 (by omega) (by omega) (by omega)
          rw [Int.toNat_natCast] at HF
          generalize bodyS (s.data.toList.drop H.2.2.2.2) hd bd false n = BR at *
        rotate_left
        focus
          go_wp2_with fail
          refine (chunks_body b hd bd s _ n _ (rd2.below (by first | exact hB3.alloc hB3.size _ | exact (hB3.setCell (Nat.le_refl _) _).setCell (Nat.le_refl _) _)) hs (by simp at n1 n2; omega) hh hb0 hb1).mono ?_
          rintro e w5 ⟨rfl, ⟨k5, rd5, hk5⟩, kp5⟩
          obtain ⟨qb5, q5, ow5, kpw, sz5, sz6⟩ := carry (by first | exact hB3.alloc hB3.size _ | exact (hB3.setCell (Nat.le_refl _) _).setCell (Nat.le_refl _) _) kp5 qb2 q2 ow2 kp2 (by omega) (by omega) (by omega)
          rw [Int.toNat_natCast] at HF
          generalize bodyS (s.data.toList.drop H.2.2.2.2) hd bd true n = BR at *
        all_goals
          obtain ⟨z0, z1, z2, z3⟩ := qb5.cells
          have x3 := qb5.free 3
          obtain ⟨u0, u1, u2, u3⟩ := q5.cells
          have v0 := q5.free 0
          have v1 := q5.free 1
          have v2 := q5.free 2
          have v3 := q5.free 3
          have sza := q5.lt
          have szc := qb5.lt
          have hgw : g ≠ w.heap.size := by omega
          have hwg : w.heap.size ≠ g := by omega
          have RD := hid rd5
          have KP := hid kpw
          have OW := hid ow5
          have HK := hid hk5
          clear q2 rd2 ow2 kp2 qb2 hB3 q3 qb3 rd3 ow3 kp3 p0 p1 p2 p3 y0 y1 y2 y3 kp5 qb5 q5 rd5 kpw ow5 hk5 ho1 hAl
          go_wp2
          refine bodyPost_ret (v := .tuple #[.agg #[.string ⟨H.2.1.toArray⟩, .string ⟨H.2.2.1.toArray⟩, .slice fa (fldsOf H.2.2.2.1).length fc, .string ⟨BR.2.1.toArray⟩], .int .i64 BR.1]) (by simp [results, Tryd.results31, go_sem, u0, u1, u2, u3]) rfl ?_
          have hF := HF.out
          by_cases hBR : BR.1 = 0
          · rw [if_neg (by simp [hBR])] at hF
            subst hF
            rw [hBR]
            refine ⟨⟨_, _, _, _, _, _, rfl, fun _ => ⟨rfl, rfl, rfl, ?_, ?_⟩⟩, ?_⟩
            · exact owns_not (owns_not (owns_not (owns_not (owns_not OW.out OB.out.2 3 _) OB.out.1 0 _) OB.out.1 1 _) OB.out.1 2 _) OB.out.1 3 _
            · have hk := HK.out hBR
              subst hk
              exact ((((RD.out.other (by omega) 3 _).other (by omega) 0 _).other (by omega) 1 _).other (by omega) 2 _).other (by omega) 3 _
            · exact ((((KP.out.fresh (by omega) 3 _).fresh (Nat.le_refl _) 0 _).fresh (Nat.le_refl _) 1 _).fresh (Nat.le_refl _) 2 _).fresh (Nat.le_refl _) 3 _
          · rw [if_pos hBR] at hF
            subst hF
            exact ⟨⟨_, _, _, _, _, _, rfl, fun h => absurd h hBR⟩, ((((KP.out.fresh (by omega) 3 _).fresh (Nat.le_refl _) 0 _).fresh (Nat.le_refl _) 1 _).fresh (Nat.le_refl _) 2 _).fresh (Nat.le_refl _) 3 _⟩
      · rw [if_pos hE] at HF
        have hne : (e1 != 0) = true := by rw [bne_iff_ne]; exact hE
        go_wp2
        refine bodyPost_ret (v := .tuple #[.agg #[.string ⟨#[]⟩, .string ⟨#[]⟩, .slice none 0 0, .string ⟨#[]⟩], .int .i64 e1]) (by simp [results, Tryd.results31, go_sem, p0, p1, p2, p3, szw3]) rfl ?_
        rw [← HF.out]
        refine ⟨⟨_, _, _, _, _, _, rfl, fun h => absurd h hE⟩, ?_⟩
        first
          | ((with_reducible refine Kp.alloc (Kp.fresh (Kp.fresh (Kp.fresh (Kp.fresh kp3 ?_ _ _) ?_ _ _) ?_ _ _) ?_ _ _) _) <;> exact Nat.le_refl _)
          | ((with_reducible refine Kp.fresh (Kp.fresh (Kp.fresh (Kp.fresh (Kp.fresh (Kp.fresh kp3 ?_ _ _) ?_ _ _) ?_ _ _) ?_ _ _) ?_ _ _) ?_ _ _) <;> omega)
  · rw [if_pos he] at HF
    have hne : (H.1 != 0) = true := by rw [bne_iff_ne]; exact he
    have hbr : b ≠ w.heap.size := by omega
    clear ho1 hk1 hlen
    go_wp2
    refine bodyPost_ret (v := .tuple #[.agg #[.string ⟨#[]⟩, .string ⟨#[]⟩, .slice none 0 0, .string ⟨#[]⟩], .int .i64 H.1]) (by simp [results, Tryd.results31, go_sem, p0, p1, p2, p3, szA]) rfl ?_
    rw [← HF.out]
    refine ⟨⟨_, _, _, _, _, _, rfl, fun h => absurd h he⟩, ?_⟩
    exact ((((kq1.fresh (Nat.le_refl _) 0 _).fresh (Nat.le_refl _) 1 _).fresh (Nat.le_refl _) 2 _).fresh (Nat.le_refl _) 3 _).trans (Kp.of ((Below.refl _ _).alloc (Nat.le_refl _) _))

end Go.Proofs.YtnohadlihgjppaaDoor
