/- Texts that follow one another, joined. -/
import Derived.Test.YtbphabgjhoifbaaGreatDoorJoin05
/- Plain mathematics, eighth part: what a reading says, but that bytes are missing, it says whatever comes behind. -/
namespace Go.Proofs.YtbphabgjhoifbaaGreatDoor

theorem ahead_app (c : UInt8) (a b : List UInt8) (h : Pm.behind c a ≠ []) : Pm.ahead c (a ++ b) = Pm.ahead c a ∧ Pm.behind c (a ++ b) = Pm.behind c a ++ b := by
  induction a with
  | nil => exact absurd rfl h
  | cons x a ih =>
    by_cases hx : x = c
    · subst hx; simp [Pm.ahead, Pm.behind]
    · have h1 : Pm.behind c (x :: a) = Pm.behind c a := by simp [Pm.behind, hx]
      have h2 := ih (by rw [← h1]; exact h)
      refine ⟨?_, ?_⟩
      · have : Pm.ahead c (x :: (a ++ b)) = x :: Pm.ahead c (a ++ b) := by simp [Pm.ahead, hx]
        rw [List.cons_append, this, h2.1]; simp [Pm.ahead, hx]
      · have : Pm.behind c (x :: (a ++ b)) = Pm.behind c (a ++ b) := by simp [Pm.behind, hx]
        rw [List.cons_append, this, h2.2, h1]
theorem lineS_app (l t : List UInt8) (lim : Nat) (long : Int) (h : (Pm.lineS l lim long).1 ≠ 2) : Pm.lineS (l ++ t) lim long = Pm.lineS l lim long := by
  by_cases h1 : Pm.behind 10 (l.take lim) = []
  · rw [Pm.lineS_none h1] at h ⊢
    by_cases h2 : l.length < lim
    · rw [if_pos h2] at h; exact absurd rfl h
    · have h3 : (l ++ t).take lim = l.take lim := List.take_append_of_le_length (by omega)
      rw [Pm.lineS_none (by rw [h3]; exact h1), if_neg h2, if_neg (by rw [List.length_append]; omega)]
  · have h3 : (l ++ t).take lim = l.take lim ++ t.take (lim - l.length) := List.take_append
    obtain ⟨ha, hb⟩ := ahead_app 10 (l.take lim) (t.take (lim - l.length)) h1
    unfold Pm.lineS
    rw [h3, ha, hb]
    have h4 : (Pm.behind 10 (l.take lim)).isEmpty = false := by
      cases hq : Pm.behind 10 (l.take lim) with
      | nil => exact absurd hq h1
      | cons => rfl
    have h5 : (Pm.behind 10 (l.take lim) ++ t.take (lim - l.length)).isEmpty = false := by
      cases hq : Pm.behind 10 (l.take lim) with
      | nil => exact absurd hq h1
      | cons => rfl
    rw [h4, h5]; rfl
theorem drop_app {l t : List UInt8} {n : Nat} (h : n ≤ l.length) : (l ++ t).drop n = l.drop n ++ t := List.drop_append_of_le_length h
theorem headS_app (t : List UInt8) (f : Nat) : ∀ (first : Bool) (l : List UInt8) (lim : Nat) (m tg : List UInt8) (fs : List Pm.Fld) (u : Nat), (Pm.headS f first l lim m tg fs u).1 ≠ 2 → Pm.headS f first (l ++ t) lim m tg fs u = Pm.headS f first l lim m tg fs u := by
  induction f with
  | zero => intro first l lim m tg fs u h; exact absurd rfl h
  | succ f ih =>
    intro first l lim m tg fs u h
    have hl := line_len l lim 5
    rw [headS_succ] at h
    rw [headS_succ, headS_succ]
    by_cases h1 : (Pm.lineS l lim 5).1 = 2
    · rw [if_pos (by rw [h1]; decide)] at h; exact absurd h1 h
    · rw [lineS_app l t lim 5 h1, drop_app hl.2.2]
      by_cases h2 : (Pm.lineS l lim 5).1 ≠ 0
      · rw [if_pos h2, if_pos h2]
      · rw [if_neg h2] at h ⊢
        rw [if_neg h2]
        by_cases h3 : first = true
        · rw [if_pos h3] at h ⊢
          rw [if_pos h3]
          by_cases h4 : (Pm.firstS (Pm.lineS l lim 5).2.1).1 ≠ 0
          · rw [if_pos h4, if_pos h4]
          · rw [if_neg h4] at h ⊢
            rw [if_neg h4]
            exact ih _ _ _ _ _ _ _ h
        · rw [if_neg h3] at h ⊢
          rw [if_neg h3]
          by_cases h4 : (Pm.lineS l lim 5).2.1 = []
          · rw [if_pos h4, if_pos h4]
          · rw [if_neg h4] at h ⊢
            rw [if_neg h4]
            cases h5 : Pm.fieldS (Pm.lineS l lim 5).2.1 with
            | none => rfl
            | some f' =>
              rw [h5] at h
              exact ih _ _ _ _ _ _ _ h
theorem trailS_app (t : List UInt8) (f : Nat) : ∀ (l : List UInt8) (lim u : Nat), (Pm.trailS f l lim u).1 ≠ 2 → Pm.trailS f (l ++ t) lim u = Pm.trailS f l lim u := by
  induction f with
  | zero => intro l lim u h; exact absurd rfl h
  | succ f ih =>
    intro l lim u h
    have hl := line_len l lim 5
    rw [Pm.trailS_succ] at h
    rw [Pm.trailS_succ, Pm.trailS_succ]
    by_cases h1 : (Pm.lineS l lim 5).1 = 2
    · rw [if_pos (by rw [h1]; decide)] at h; exact absurd h1 h
    · rw [lineS_app l t lim 5 h1, drop_app hl.2.2]
      by_cases h2 : (Pm.lineS l lim 5).1 ≠ 0
      · rw [if_pos h2, if_pos h2]
      · rw [if_neg h2] at h ⊢
        rw [if_neg h2]
        by_cases h4 : (Pm.lineS l lim 5).2.1 = []
        · rw [if_pos h4, if_pos h4]
        · rw [if_neg h4] at h ⊢
          rw [if_neg h4]
          by_cases h5 : (Pm.fieldS (Pm.lineS l lim 5).2.1).isSome = true
          · rw [if_pos h5] at h ⊢
            rw [if_pos h5]
            exact ih _ _ _ h
          · rw [if_neg h5, if_neg h5]
theorem chunkS_app (l t : List UInt8) (n : Nat) (room : Int) (h : (chunkS l n room).1 ≠ 2) : chunkS (l ++ t) n room = chunkS l n room := by
  unfold chunkS at h ⊢
  by_cases h1 : room < n
  · rw [if_pos h1, if_pos h1]
  · rw [if_neg h1] at h ⊢
    rw [if_neg h1]
    by_cases h2 : l.length < n + 2
    · rw [if_pos h2] at h; exact absurd rfl h
    · rw [if_neg h2, if_neg (by rw [List.length_append]; omega), List.take_append_of_le_length (by omega)]
theorem sizeE_two (l : List UInt8) (h : sizeE l ≠ 2) : (Pm.lineS l 10 3).1 ≠ 2 := by
  intro h1; apply h; unfold sizeE; rw [if_neg (by rw [h1]; decide), h1]
theorem size_app (l t : List UInt8) (h : sizeE l ≠ 2) : sizeE (l ++ t) = sizeE l ∧ sizeN (l ++ t) = sizeN l := by
  have h1 := lineS_app l t 10 3 (sizeE_two l h)
  unfold sizeE sizeN; rw [h1]; exact ⟨rfl, rfl⟩
theorem chunksS_app (t : List UInt8) (hd : Nat) (bd : Int) (f : Nat) : ∀ (g : Nat) (l body : List UInt8) (u : Nat), f ≤ g → (chunksS f l hd bd body u).1 ≠ 2 → chunksS g (l ++ t) hd bd body u = chunksS f l hd bd body u := by
  induction f with
  | zero => intro g l body u _ h; exact absurd rfl h
  | succ f ih =>
    intro g l body u hg h
    obtain ⟨g, rfl⟩ : ∃ g', g = g' + 1 := ⟨g - 1, by omega⟩
    have hl := line_len l 10 3
    rw [chunksS_succ] at h
    rw [chunksS_succ, chunksS_succ]
    by_cases h1 : sizeE l = 2
    · rw [if_pos (by rw [h1]; decide)] at h; exact absurd h1 h
    · obtain ⟨e1, e2⟩ := size_app l t h1
      rw [e1, e2, lineS_app l t 10 3 (sizeE_two l h1), drop_app hl.2.2]
      by_cases h2 : sizeE l ≠ 0
      · rw [if_pos h2, if_pos h2]
      · rw [if_neg h2] at h ⊢
        rw [if_neg h2]
        by_cases h3 : 0 < sizeN l
        · rw [if_pos h3] at h ⊢
          rw [if_pos h3]
          generalize hC : chunkS (l.drop (Pm.lineS l 10 3).2.2) (sizeN l).toNat (bd - body.length) = C at h ⊢
          by_cases h4 : C.1 = 2
          · rw [if_pos (by rw [h4]; decide)] at h; exact absurd h4 h
          · rw [chunkS_app _ t _ _ (by rw [hC]; exact h4), hC]
            have hc := chunkS_len (l.drop (Pm.lineS l 10 3).2.2) (sizeN l).toNat (bd - body.length)
            rw [hC, List.length_drop] at hc
            by_cases h5 : C.1 ≠ 0
            · rw [if_pos h5, if_pos h5]
            · rw [if_neg h5] at h ⊢
              rw [if_neg h5, drop_app (by omega)]
              exact ih _ _ _ _ (by omega) h
        · rw [if_neg h3] at h ⊢
          rw [if_neg h3]
          generalize hT : Pm.trailS (hd + 1) (l.drop (Pm.lineS l 10 3).2.2) hd 0 = T at h ⊢
          by_cases h4 : T.1 = 2
          · rw [if_pos (by rw [h4]; decide)] at h; exact absurd h4 h
          · rw [trailS_app t _ _ _ _ (by rw [hT]; exact h4), hT]

/- the error, the method, the target, the fields, the body and how many bytes are used up -/
abbrev FrameR := Int × List UInt8 × List UInt8 × List Pm.Fld × List UInt8 × Nat
def frameBad (e : Int) : FrameR := (e, [], [], [], [], 0)
def fldsOf (fs : List Pm.Fld) : List (ByteArray × ByteArray) := fs.map fun f => (⟨f.1.toArray⟩, ⟨f.2.toArray⟩)
/- the body and its length behind the head, when the head's end and its framing are known -/
def bodyS (l : List UInt8) (hd : Nat) (bd : Int) (chunked : Bool) (n : Nat) : Int × List UInt8 × Nat :=
  if chunked = true then chunksS (l.length + 1) l hd bd [] 0
  else if l.length < n then (2, [], 0) else (0, l.take n, n)
def frameS (l : List UInt8) (hd : Nat) (bd : Int) : FrameR :=
  let h := Pm.headS (hd + 1) true l hd [] [] [] 0
  if h.1 ≠ 0 then frameBad h.1
  else
    let m := framOf (fldsOf h.2.2.2.1) bd
    if m.1 ≠ 0 then frameBad m.1
    else
      let b := bodyS (l.drop h.2.2.2.2) hd bd m.2.1 m.2.2.toNat
      if b.1 ≠ 0 then frameBad b.1 else (0, h.2.1, h.2.2.1, h.2.2.2.1, b.2.1, h.2.2.2.2 + b.2.2)
theorem bodyS_app (l t : List UInt8) (hd : Nat) (bd : Int) (c : Bool) (n : Nat) (h : (bodyS l hd bd c n).1 ≠ 2) : bodyS (l ++ t) hd bd c n = bodyS l hd bd c n := by
  unfold bodyS at h ⊢
  by_cases h1 : c = true
  · rw [if_pos h1] at h ⊢
    rw [if_pos h1]
    exact chunksS_app t hd bd _ _ _ _ _ (by rw [List.length_append]; omega) h
  · rw [if_neg h1] at h ⊢
    rw [if_neg h1]
    by_cases h2 : l.length < n
    · rw [if_pos h2] at h; exact absurd rfl h
    · rw [if_neg h2, if_neg (by rw [List.length_append]; omega), List.take_append_of_le_length (by omega)]
theorem headS_len (f : Nat) : ∀ (first : Bool) (l : List UInt8) (lim : Nat) (m tg : List UInt8) (fs : List Pm.Fld) (u : Nat), (Pm.headS f first l lim m tg fs u).1 = 0 → u + 1 ≤ (Pm.headS f first l lim m tg fs u).2.2.2.2 ∧ (Pm.headS f first l lim m tg fs u).2.2.2.2 ≤ u + l.length := by
  induction f with
  | zero => intro first l lim m tg fs u h; exact absurd (show (2 : Int) = 0 from h) (by decide)
  | succ f ih =>
    intro first l lim m tg fs u h
    rw [headS_succ] at h ⊢
    by_cases h2 : (Pm.lineS l lim 5).1 ≠ 0
    · rw [if_pos h2] at h; exact absurd h h2
    · have hk := Pm.lineS_ok (l := l) (lim := lim) (long := 5) (by decide) (by omega)
      rw [if_neg h2] at h ⊢
      by_cases h3 : first = true
      · rw [if_pos h3] at h ⊢
        by_cases h4 : (Pm.firstS (Pm.lineS l lim 5).2.1).1 ≠ 0
        · rw [if_pos h4] at h; exact absurd h h4
        · rw [if_neg h4] at h ⊢
          have := ih _ _ _ _ _ _ _ h
          rw [List.length_drop] at this; omega
      · rw [if_neg h3] at h ⊢
        by_cases h4 : (Pm.lineS l lim 5).2.1 = []
        · rw [if_pos h4] at h ⊢
          refine ⟨by simp only; omega, by simp only; omega⟩
        · rw [if_neg h4] at h ⊢
          cases h5 : Pm.fieldS (Pm.lineS l lim 5).2.1 with
          | none => rw [h5] at h; exact absurd (show (3 : Int) = 0 from h) (by decide)
          | some f' =>
            rw [h5] at h
            have := ih _ _ _ _ _ _ _ h
            rw [List.length_drop] at this
            simp only; omega
theorem frameS_app (l t : List UInt8) (hd : Nat) (bd : Int) (h : (frameS l hd bd).1 ≠ 2) : frameS (l ++ t) hd bd = frameS l hd bd := by
  unfold frameS at h ⊢
  generalize hH : Pm.headS (hd + 1) true l hd [] [] [] 0 = H at h ⊢
  simp only at h ⊢
  by_cases h1 : H.1 = 2
  · rw [if_pos (by rw [h1]; decide)] at h; exact absurd h1 h
  · rw [headS_app t _ _ _ _ _ _ _ _ (by rw [hH]; exact h1), hH]
    by_cases h2 : H.1 ≠ 0
    · rw [if_pos h2, if_pos h2]
    · have hl := headS_len (hd + 1) true l hd [] [] [] 0 (by rw [hH]; omega)
      rw [hH] at hl
      rw [if_neg h2] at h ⊢
      rw [if_neg h2]
      generalize framOf (fldsOf H.2.2.2.1) bd = M at h ⊢
      by_cases h3 : M.1 ≠ 0
      · rw [if_pos h3, if_pos h3]
      · rw [if_neg h3] at h ⊢
        rw [if_neg h3, drop_app (by omega)]
        generalize hB : bodyS (l.drop H.2.2.2.2) hd bd M.2.1 M.2.2.toNat = B at h ⊢
        by_cases h4 : B.1 = 2
        · rw [if_pos (by rw [h4]; decide)] at h; exact absurd h4 h
        · rw [bodyS_app _ t _ _ _ _ (by rw [hB]; exact h4), hB]
theorem frameS_more (l : List UInt8) (c hd : Nat) (bd : Int) (h : (frameS l hd bd).1 = 2) : (frameS (l.take c) hd bd).1 = 2 := by
  by_cases h1 : (frameS (l.take c) hd bd).1 = 2
  · exact h1
  · have := frameS_app (l.take c) (l.drop c) hd bd h1
    rw [List.take_append_drop] at this
    rw [← this]; exact h
theorem frameS_bad (l : List UInt8) (hd : Nat) (bd : Int) (h : (frameS l hd bd).1 ≠ 0) : frameS l hd bd = frameBad (frameS l hd bd).1 := by
  unfold frameS at h ⊢
  simp only at h ⊢
  split at h
  · rename_i h1; rw [if_pos h1]; rfl
  · rename_i h1; rw [if_neg h1]
    split at h
    · rename_i h2; rw [if_pos h2]; rfl
    · rename_i h2; rw [if_neg h2]
      split at h
      · rename_i h3; rw [if_pos h3]; rfl
      · exact absurd rfl h

theorem line_ne1 (l : List UInt8) (lim : Nat) (long : Int) (h : long ≠ 1) : (Pm.lineS l lim long).1 ≠ 1 := by
  unfold Pm.lineS
  split
  · simp only; split
    · decide
    · exact h
  · split
    · simp
    · simp
theorem first_ne1 (l : List UInt8) : (Pm.firstS l).1 ≠ 1 := by
  unfold Pm.firstS
  repeat' split
  all_goals (first | decide | simp)
theorem headS_ne1 (f : Nat) : ∀ (first : Bool) (l : List UInt8) (lim : Nat) (m tg : List UInt8) (fs : List Pm.Fld) (u : Nat), (Pm.headS f first l lim m tg fs u).1 ≠ 1 := by
  induction f with
  | zero => intro first l lim m tg fs u h; exact absurd (show (2 : Int) = 1 from h) (by decide)
  | succ f ih =>
    intro first l lim m tg fs u
    rw [headS_succ]
    by_cases h2 : (Pm.lineS l lim 5).1 ≠ 0
    · rw [if_pos h2]; exact line_ne1 l lim 5 (by decide)
    · rw [if_neg h2]
      by_cases h3 : first = true
      · rw [if_pos h3]
        by_cases h4 : (Pm.firstS (Pm.lineS l lim 5).2.1).1 ≠ 0
        · rw [if_pos h4]; exact first_ne1 _
        · rw [if_neg h4]; exact ih _ _ _ _ _ _ _
      · rw [if_neg h3]
        by_cases h4 : (Pm.lineS l lim 5).2.1 = []
        · rw [if_pos h4]; simp
        · rw [if_neg h4]
          cases h5 : Pm.fieldS (Pm.lineS l lim 5).2.1 with
          | none => exact fun h => absurd (show (3 : Int) = 1 from h) (by decide)
          | some f' => exact ih _ _ _ _ _ _ _
theorem trailS_ne1 (f : Nat) : ∀ (l : List UInt8) (lim u : Nat), (Pm.trailS f l lim u).1 ≠ 1 := by
  induction f with
  | zero => intro l lim u h; exact absurd (show (2 : Int) = 1 from h) (by decide)
  | succ f ih =>
    intro l lim u
    rw [Pm.trailS_succ]
    by_cases h2 : (Pm.lineS l lim 5).1 ≠ 0
    · rw [if_pos h2]; exact line_ne1 l lim 5 (by decide)
    · rw [if_neg h2]
      by_cases h4 : (Pm.lineS l lim 5).2.1 = []
      · rw [if_pos h4]; simp
      · rw [if_neg h4]
        by_cases h5 : (Pm.fieldS (Pm.lineS l lim 5).2.1).isSome = true
        · rw [if_pos h5]; exact ih _ _ _
        · rw [if_neg h5]; simp
theorem trailS_len (f : Nat) : ∀ (l : List UInt8) (lim u : Nat), (Pm.trailS f l lim u).1 = 0 → (Pm.trailS f l lim u).2 ≤ u + l.length := by
  induction f with
  | zero => intro l lim u h; exact absurd (show (2 : Int) = 0 from h) (by decide)
  | succ f ih =>
    intro l lim u h
    have hl := line_len l lim 5
    rw [Pm.trailS_succ] at h ⊢
    by_cases h2 : (Pm.lineS l lim 5).1 ≠ 0
    · rw [if_pos h2] at h; exact absurd h h2
    · rw [if_neg h2] at h ⊢
      by_cases h4 : (Pm.lineS l lim 5).2.1 = []
      · rw [if_pos h4]; simp only; omega
      · rw [if_neg h4] at h ⊢
        by_cases h5 : (Pm.fieldS (Pm.lineS l lim 5).2.1).isSome = true
        · rw [if_pos h5] at h ⊢
          have := ih _ _ _ h
          rw [List.length_drop] at this; omega
        · rw [if_neg h5] at h; exact absurd (show (3 : Int) = 0 from h) (by decide)
theorem sizeE_ne1 (l : List UInt8) : sizeE l ≠ 1 := by
  unfold sizeE
  split
  · split
    · decide
    · decide
  · exact line_ne1 l 10 3 (by decide)
theorem chunkS_ne1 (l : List UInt8) (n : Nat) (room : Int) : (chunkS l n room).1 ≠ 1 := by
  unfold chunkS
  repeat' split
  all_goals simp
theorem chunksS_say (hd : Nat) (bd : Int) (f : Nat) : ∀ (l body : List UInt8) (u : Nat), (chunksS f l hd bd body u).1 ≠ 1 ∧ ((chunksS f l hd bd body u).1 = 0 → (chunksS f l hd bd body u).2.2 ≤ u + l.length) := by
  induction f with
  | zero => intro l body u; exact ⟨fun h => absurd (show (2 : Int) = 1 from h) (by decide), fun h => absurd (show (2 : Int) = 0 from h) (by decide)⟩
  | succ f ih =>
    intro l body u
    have hl := line_len l 10 3
    rw [chunksS_succ]
    by_cases h2 : sizeE l ≠ 0
    · rw [if_pos h2]; exact ⟨sizeE_ne1 l, fun h => absurd h h2⟩
    · rw [if_neg h2]
      by_cases h3 : 0 < sizeN l
      · rw [if_pos h3]
        have hc := chunkS_len (l.drop (Pm.lineS l 10 3).2.2) (sizeN l).toNat (bd - body.length)
        have hn := chunkS_ne1 (l.drop (Pm.lineS l 10 3).2.2) (sizeN l).toNat (bd - body.length)
        generalize chunkS (l.drop (Pm.lineS l 10 3).2.2) (sizeN l).toNat (bd - body.length) = C at hc hn ⊢
        rw [List.length_drop] at hc
        by_cases h5 : C.1 ≠ 0
        · rw [if_pos h5]; exact ⟨hn, fun h => absurd h h5⟩
        · rw [if_neg h5]
          obtain ⟨i1, i2⟩ := ih (l.drop ((Pm.lineS l 10 3).2.2 + C.2.2)) (body ++ C.2.1) (u + (Pm.lineS l 10 3).2.2 + C.2.2)
          refine ⟨i1, fun h => ?_⟩
          have := i2 h
          rw [List.length_drop] at this; omega
      · rw [if_neg h3]
        have hn := trailS_ne1 (hd + 1) (l.drop (Pm.lineS l 10 3).2.2) hd 0
        have ht := trailS_len (hd + 1) (l.drop (Pm.lineS l 10 3).2.2) hd 0
        generalize Pm.trailS (hd + 1) (l.drop (Pm.lineS l 10 3).2.2) hd 0 = T at hn ht ⊢
        rw [List.length_drop] at ht
        by_cases h5 : T.1 ≠ 0
        · rw [if_pos h5]; exact ⟨hn, fun h => absurd h h5⟩
        · rw [if_neg h5]
          have := ht (by omega)
          exact ⟨by simp, fun _ => (by simp only; omega)⟩
theorem framS_ne1 (hosts : Nat) (lens cods : List (List UInt8)) (most : Int) : (framS hosts lens cods most).1 ≠ 1 := by
  unfold framS
  repeat' split
  all_goals simp
theorem bodyS_say (l : List UInt8) (hd : Nat) (bd : Int) (c : Bool) (n : Nat) : (bodyS l hd bd c n).1 ≠ 1 ∧ ((bodyS l hd bd c n).1 = 0 → (bodyS l hd bd c n).2.2 ≤ l.length) := by
  unfold bodyS
  split
  · have := chunksS_say hd bd (l.length + 1) l [] 0
    exact ⟨this.1, fun h => by have := this.2 h; omega⟩
  · split
    · exact ⟨by simp, fun h => absurd (show (2 : Int) = 0 from h) (by decide)⟩
    · exact ⟨by simp, fun _ => (by simp only; omega)⟩
/- no error of the caller's; and just where there is none, some bytes are used up, and no more than are there -/
theorem frameS_say (l : List UInt8) (hd : Nat) (bd : Int) : (frameS l hd bd).1 ≠ 1 ∧ ((frameS l hd bd).1 = 0 → 0 < (frameS l hd bd).2.2.2.2.2) ∧ ((frameS l hd bd).1 ≠ 0 → (frameS l hd bd).2.2.2.2.2 = 0) ∧ (frameS l hd bd).2.2.2.2.2 ≤ l.length := by
  unfold frameS
  have hn := headS_ne1 (hd + 1) true l hd [] [] [] 0
  have hl := headS_len (hd + 1) true l hd [] [] [] 0
  generalize Pm.headS (hd + 1) true l hd [] [] [] 0 = H at hn hl ⊢
  simp only
  by_cases h1 : H.1 ≠ 0
  · rw [if_pos h1]; exact ⟨hn, fun h => absurd h h1, fun _ => rfl, Nat.zero_le _⟩
  · have hl := hl (by omega)
    rw [if_neg h1]
    have hm : (framOf (fldsOf H.2.2.2.1) bd).1 ≠ 1 := framS_ne1 _ _ _ _
    generalize framOf (fldsOf H.2.2.2.1) bd = M at hm ⊢
    by_cases h2 : M.1 ≠ 0
    · rw [if_pos h2]; exact ⟨hm, fun h => absurd h h2, fun _ => rfl, Nat.zero_le _⟩
    · rw [if_neg h2]
      have hb := bodyS_say (l.drop H.2.2.2.2) hd bd M.2.1 M.2.2.toNat
      generalize bodyS (l.drop H.2.2.2.2) hd bd M.2.1 M.2.2.toNat = B at hb ⊢
      rw [List.length_drop] at hb
      by_cases h3 : B.1 ≠ 0
      · rw [if_pos h3]; exact ⟨hb.1, fun h => absurd h h3, fun _ => rfl, Nat.zero_le _⟩
      · rw [if_neg h3]
        have := hb.2 (by omega)
        exact ⟨by simp, fun _ => (by simp only; omega), fun h => absurd rfl h, (by simp only; omega)⟩

end Go.Proofs.YtbphabgjhoifbaaGreatDoor

/- RightLimits; what the fields of a head are, in memory and in number. -/
namespace Go.Proofs.YtbphabgjhoifbaaGreatDoor
open Go.RowKit

theorem rightLimits_any (hd bd : Int) (w : World) :
    Calls Tryz.prog 45 #[.agg #[.int .i64 hd, .int .i64 bd]] w fun e w' => e = .returned (.bool (decide (32 ≤ hd ∧ hd ≤ 500 ∧ 0 ≤ bd ∧ bd ≤ 200))) ∧ Below w.heap.size w w' := by
  go_enter Tryz.func45, Tryz.ntmps45
  go_wp2
  all_goals
    go_ret
    refine ⟨?_, (Below.refl _ _).alloc (Nat.le_refl _) _⟩
    try congr 2
    try simp
    try simp [*]
    try (intros; omega)

theorem fldsOf_len (fs : List Pm.Fld) : (fldsOf fs).length = fs.length := by unfold fldsOf; simp
theorem flat_get : ∀ (fs : List Pm.Fld) (i : Nat) (h : i < (fldsOf fs).length), (flat fs)[i * 2]? = some (.string (fldsOf fs)[i].1) ∧ (flat fs)[i * 2 + 1]? = some (.string (fldsOf fs)[i].2)
  | [], i, h => absurd h (by simp [fldsOf])
  | f :: fs, 0, h => by simp [flat, fldsOf]
  | f :: fs, i + 1, h => by
    have := flat_get fs i (by simpa [fldsOf] using h)
    have e : flat (f :: fs) = (.string ⟨f.1.toArray⟩) :: (.string ⟨f.2.toArray⟩) :: flat fs := by simp [flat]
    rw [e, show (i + 1) * 2 = i * 2 + 1 + 1 from by omega, List.getElem?_cons_succ, List.getElem?_cons_succ, show i * 2 + 1 + 1 + 1 = (i * 2 + 1) + 1 + 1 from by omega, List.getElem?_cons_succ, List.getElem?_cons_succ]
    simpa [fldsOf] using this
theorem flat_at {w : World} {B : Nat} {e : TypeId} {v : Value} {fs : List Pm.Fld} (h : w.ownsRow B e 2 v fs.length (flat fs)) : ∃ a cap, v = .slice a (fldsOf fs).length cap ∧ FlAt (fldsOf fs) a w := by
  obtain ⟨h1, h2⟩ := h
  rcases h2 with ⟨h2, h3⟩ | ⟨g, cap, cur, hv, hB, hg, hc, hm, hsz, ht⟩
  · refine ⟨none, 0, ?_, fun i hi => ?_⟩
    · rw [fldsOf_len, h3]; exact h2
    · rw [fldsOf_len] at hi; omega
  · refine ⟨some ⟨g, 0, none⟩, cap, ?_, fun i hi => ⟨g, rfl, ?_, ?_, ?_⟩⟩
    · rw [fldsOf_len]; exact hv
    · exact (Array.getElem?_eq_some_iff.1 hg).1
    · rw [Lib.cell_of_heap hg]
      have := (flat_get fs i hi).1
      rw [← ht, List.getElem?_take_of_lt (by rw [fldsOf_len] at hi; omega)] at this
      simpa using this
    · rw [Lib.cell_of_heap hg]
      have := (flat_get fs i hi).2
      rw [← ht, List.getElem?_take_of_lt (by rw [fldsOf_len] at hi; omega)] at this
      simpa using this
theorem headS_flds (f : Nat) : ∀ (first : Bool) (l : List UInt8) (lim : Nat) (m tg : List UInt8) (fs : List Pm.Fld) (u : Nat), (Pm.headS f first l lim m tg fs u).1 = 0 → (Pm.headS f first l lim m tg fs u).2.2.2.1.length ≤ fs.length + lim ∧ ∀ x ∈ (Pm.headS f first l lim m tg fs u).2.2.2.1, x ∈ fs ∨ x.1.length + x.2.length ≤ lim := by
  induction f with
  | zero => intro first l lim m tg fs u h; exact absurd (show (2 : Int) = 0 from h) (by decide)
  | succ f ih =>
    intro first l lim m tg fs u h
    rw [headS_succ] at h ⊢
    by_cases h2 : (Pm.lineS l lim 5).1 ≠ 0
    · rw [if_pos h2] at h; exact absurd h h2
    · have hk := Pm.lineS_ok (l := l) (lim := lim) (long := 5) (by decide) (by omega)
      rw [if_neg h2] at h ⊢
      by_cases h3 : first = true
      · rw [if_pos h3] at h ⊢
        by_cases h4 : (Pm.firstS (Pm.lineS l lim 5).2.1).1 ≠ 0
        · rw [if_pos h4] at h; exact absurd h h4
        · rw [if_neg h4] at h ⊢
          obtain ⟨i1, i2⟩ := ih _ _ _ _ _ _ _ h
          refine ⟨by omega, fun x hx => ?_⟩
          rcases i2 x hx with h5 | h5
          · exact .inl h5
          · exact .inr (by omega)
      · rw [if_neg h3] at h ⊢
        by_cases h4 : (Pm.lineS l lim 5).2.1 = []
        · rw [if_pos h4]
          exact ⟨Nat.le_add_right _ _, fun x hx => .inl hx⟩
        · rw [if_neg h4] at h ⊢
          cases h5 : Pm.fieldS (Pm.lineS l lim 5).2.1 with
          | none => rw [h5] at h; exact absurd (show (3 : Int) = 0 from h) (by decide)
          | some f' =>
            rw [h5] at h
            have hle := field_le (n := f'.1) (v := f'.2) h5
            obtain ⟨i1, i2⟩ := ih _ _ _ _ _ _ _ h
            simp only
            rw [List.length_append, List.length_singleton] at i1
            refine ⟨by omega, fun x hx => ?_⟩
            rcases i2 x hx with h6 | h6
            · rw [List.mem_append, List.mem_singleton] at h6
              rcases h6 with h6 | h6
              · exact .inl h6
              · subst h6; exact .inr (by omega)
            · exact .inr (by omega)

end Go.Proofs.YtbphabgjhoifbaaGreatDoor

/- What a reader makes of a body, told in one piece or in chunks, as the plain mathematics says it; and what a framing without error tells. -/
namespace Go.Proofs.YtbphabgjhoifbaaGreatDoor
open Go.RowKit

theorem oneN_nonneg (l : List (List UInt8)) : 0 ≤ Pm.oneN l := by
  unfold Pm.oneN
  split
  · rename_i h
    unfold Pm.onePre
    cases l with
    | nil => simp
    | cons x r =>
      have h2 := List.all_eq_true.1 h x (by simp)
      simp only [Pm.numOk, Bool.and_eq_true, decide_eq_true_eq] at h2
      exact (Pm.numv_bd 10 x (by omega) (by omega) h2.1.2 (by omega)).1
  · exact Int.le_refl _
theorem framOf_len {fs : List (ByteArray × ByteArray)} {bd : Int} (h : (framOf fs bd).1 = 0) : 0 ≤ (framOf fs bd).2.2 ∧ (framOf fs bd).2.2 ≤ bd := by
  unfold framOf framS at h ⊢
  split at h <;> rename_i h1
  · simp at h
  rw [if_neg h1]
  split at h <;> rename_i h2
  · simp at h
  rw [if_neg h2]
  split at h <;> rename_i h3
  · simp at h
  rw [if_neg h3]
  split at h <;> rename_i h4
  · simp at h
  rw [if_neg h4]
  split at h <;> rename_i h5
  · simp at h
  rw [if_neg h5]
  exact ⟨oneN_nonneg _, by simpa using h5⟩

theorem bytes_body (b : Nat) (hd bd : Int) (hd' : Nat) (s : ByteArray) (k n : Nat) (w : World) (hr : RdAt b hd bd s k w) (hs : s.size ≤ maxLen) (hk : k ≤ s.size) (hn2 : n ≤ 281474976710656) :
    Calls Tryz.prog 73 #[.pointer (some ⟨b, 0, none⟩), .int .i64 n] w fun r w' =>
      r = .returned (.tuple #[.string ⟨(bodyS (s.data.toList.drop k) hd' bd false n).2.1.toArray⟩, .int .i64 (bodyS (s.data.toList.drop k) hd' bd false n).1]) ∧
      (∃ k', RdAt b hd bd s k' w' ∧ ((bodyS (s.data.toList.drop k) hd' bd false n).1 = 0 → k' = k + (bodyS (s.data.toList.drop k) hd' bd false n).2.2)) ∧ Kp b w w' := by
  have hl : (s.data.toList.drop k).length = s.size - k := by simp
  unfold bodyS
  rw [if_neg (by simp), hl]
  by_cases h : s.size - k < n
  · rw [if_pos h]
    refine (bytes_short b hd bd s k n w hr hs hk h (by omega)).mono ?_
    rintro e w' ⟨rfl, h1, h2⟩
    exact ⟨rfl, ⟨k, h1, fun h => by simp at h⟩, h2⟩
  · rw [if_neg h]
    refine (bytes_full b hd bd s k n w hr hs hk (by omega) hn2).mono ?_
    rintro e w' ⟨rfl, h1, h2⟩
    refine ⟨?_, ⟨k + n, h1, fun _ => rfl⟩, h2⟩
    have : s.extract k (k + n) = ⟨((s.data.toList.drop k).take n).toArray⟩ := by
      apply ByteArray.ext
      apply Array.ext'
      rw [Lib.extract_data]
      simp
    rw [this]

theorem chunks_body (b : Nat) (hd : Nat) (bd : Int) (s : ByteArray) (k n : Nat) (w : World) (hr : RdAt b hd bd s k w) (hs : s.size ≤ 1152921504606846976) (hk : k ≤ s.size) (hh : hd ≤ 500) (hb0 : 0 ≤ bd) (hb1 : bd ≤ 200) :
    Calls Tryz.prog 72 #[.pointer (some ⟨b, 0, none⟩)] w fun r w' =>
      r = .returned (.tuple #[.string ⟨(bodyS (s.data.toList.drop k) hd bd true n).2.1.toArray⟩, .int .i64 (bodyS (s.data.toList.drop k) hd bd true n).1]) ∧
      (∃ k', RdAt b hd bd s k' w' ∧ ((bodyS (s.data.toList.drop k) hd bd true n).1 = 0 → k' = k + (bodyS (s.data.toList.drop k) hd bd true n).2.2)) ∧ Kp b w w' := by
  have hl : (s.data.toList.drop k).length = s.size - k := by simp
  unfold bodyS
  rw [if_pos rfl, hl]
  exact chunks_any b hd bd s k w hr hs hk hh hb0 hb1

end Go.Proofs.YtbphabgjhoifbaaGreatDoor

/- A reader's request, from the beginning of its bytes, is what the plain mathematics says; no old block but the reader's turns. -/
namespace Go.Proofs.YtbphabgjhoifbaaGreatDoor
open Go.RowKit

theorem carry {b g g0 B : Nat} {w w2 W w5 : World} {m t m0 t0 : List UInt8} {v v0 x : Value} {e : TypeId} {sz n : Nat} {xs : List Value} (hB : Below w2.heap.size w2 W) (kp5 : Kp b W w5) (qb : RqB g m t v w2) (q : RqB g0 m0 t0 v0 w2) (ow : w2.ownsRow B e sz x n xs) (kp : Kp b w w2) (h1 : g ≠ b) (h2 : g0 ≠ b) (h3 : b < B) :
    RqB g m t v w5 ∧ RqB g0 m0 t0 v0 w5 ∧ w5.ownsRow B e sz x n xs ∧ Kp b w w5 ∧ w2.heap.size ≤ w5.heap.size ∧ W.heap.size ≤ w5.heap.size :=
  ⟨(qb.below hB).kp kp5 h1, (q.below hB).kp kp5 h2, kp5.owns (owns_below ow hB) h3, (kp.trans (Kp.of hB)).trans kp5, Nat.le_trans hB.size kp5.2.2.2.1, kp5.2.2.2.1⟩
theorem Kp.alloc {b : Nat} {w w1 : World} (h : Kp b w w1) (o : Obj) : Kp b w (w1.alloc o) := h.trans (Kp.of ((Below.refl _ _).alloc (Nat.le_refl _) _))
theorem owns_not {w : World} {B : Nat} {e : TypeId} {sz : Nat} {x : Value} {n : Nat} {xs : List Value} (ho : w.ownsRow B e sz x n xs) {g : Nat} (hg : x.ownBlock ≠ some g) (o : Nat) (v : Value) : (w.setCell ⟨g, o, none⟩ v).ownsRow B e sz x n xs := by
  obtain ⟨h1, h2⟩ := ho
  refine ⟨h1, ?_⟩
  rcases h2 with h2 | ⟨r, cap, cur, hv, hB, hr, h3⟩
  · exact .inl h2
  · refine .inr ⟨r, cap, cur, hv, hB, ?_, h3⟩
    have hne : r ≠ g := fun h => hg (by rw [hv, ← h]; rfl)
    rw [heap_setCell_other w ⟨g, o, none⟩ r v hne]; exact hr
theorem RqB.set3 {g : Nat} {m t : List UInt8} {x : Value} {w : World} (h : RqB g m t x w) (y : Value) : (w.setCell ⟨g, 3, none⟩ y).heap[g]? = some (.cells #[.string ⟨m.toArray⟩, .string ⟨t.toArray⟩, x, y] 58 (0, 0)) := by
  unfold RqB at h; rw [heap_setCell_same w g 3 _ _ _ h]; rfl

set_option maxRecDepth 100000 in
set_option maxHeartbeats 4000000 in
theorem request_any (b : Nat) (hd : Nat) (bd : Int) (s : ByteArray) (mx : Int) (w : World) (hr : RdAt b hd bd s 0 w) (hs : s.size ≤ 1152921504606846976) (hh : hd ≤ 500) (hb0 : 0 ≤ bd) (hb1 : bd ≤ 200) (hm : w.cell? ⟨1, 0, none⟩ = some (.int .i64 mx)) (hb : b ≠ 1) :
    Calls Tryz.prog 49 #[.pointer (some ⟨b, 0, none⟩)] w fun r w' =>
      (∃ (m g : ByteArray) (a : Option Addr) (k c : Nat) (y : ByteArray), r = .returned (.tuple #[.agg #[.string m, .string g, .slice a k c, .string y], .int .i64 (frameS s.data.toList hd bd).1]) ∧ ((frameS s.data.toList hd bd).1 = 0 → m = ⟨(frameS s.data.toList hd bd).2.1.toArray⟩ ∧ g = ⟨(frameS s.data.toList hd bd).2.2.1.toArray⟩ ∧ y = ⟨(frameS s.data.toList hd bd).2.2.2.2.1.toArray⟩ ∧ w'.ownsRow w.heap.size 133 2 (.slice a k c) (frameS s.data.toList hd bd).2.2.2.1.length (flat (frameS s.data.toList hd bd).2.2.2.1) ∧ RdAt b hd bd s (frameS s.data.toList hd bd).2.2.2.2.2 w')) ∧
      Kp b w w' := by
  have hbl := hr.lt
  have hml := block_lt_of_cell hm
  have hA := (Below.refl w.heap.size w).alloc (Nat.le_refl _) (.cells #[.string ⟨#[]⟩, .string ⟨#[]⟩, .slice none 0 0, .string ⟨#[]⟩] 58)
  have HA := hid (head_any b hd bd s 0 mx _ (hr.below hA) hs (Nat.zero_le _) hh (cell_later hA hm) hb)
  rw [List.drop_zero] at HA
  have HQ : Hid (RqB w.heap.size [] [] (.slice none 0 0) (w.alloc (.cells #[.string ⟨#[]⟩, .string ⟨#[]⟩, .slice none 0 0, .string ⟨#[]⟩] 58))) := heap_alloc_new w _
  have HK : Hid (Kp b w (w.alloc (.cells #[.string ⟨#[]⟩, .string ⟨#[]⟩, .slice none 0 0, .string ⟨#[]⟩] 58))) := Kp.of hA
  have hsz : (w.alloc (.cells #[.string ⟨#[]⟩, .string ⟨#[]⟩, .slice none 0 0, .string ⟨#[]⟩] 58)).heap.size = w.heap.size + 1 := by simp
  clear hr hm hA
  generalize hF : frameS s.data.toList hd bd = FR
  unfold frameS at hF
  have hlen := headS_len (hd + 1) true s.data.toList hd [] [] [] 0
  have hfld := hid (headS_flds (hd + 1) true s.data.toList hd [] [] [] 0)
  generalize Pm.headS (hd + 1) true s.data.toList hd [] [] [] 0 = H at *
  have HF := hid hF
  clear hF
  go_enter Tryz.func49, Tryz.ntmps49
  go_wp2_with fail
  generalize w.alloc (.cells #[.string ⟨#[]⟩, .string ⟨#[]⟩, .slice none 0 0, .string ⟨#[]⟩] 58) = w0 at *
  refine HA.out.mono ?_
  rintro e w1 ⟨⟨v, rfl, ho1⟩, ⟨k1, hr1, hk1⟩, kp1⟩
  have q1 := HQ.out.kp kp1 (by omega)
  have kq1 := HK.out.trans kp1
  have sz1 : w.heap.size + 1 ≤ w1.heap.size := by rw [← hsz]; exact kp1.2.2.2.1
  have ob0 := own_not ho1 (g := w.heap.size) (by omega)
  have ob1 := own_lt ho1 (g := w1.heap.size) (Nat.le_refl _)
  have ho1 := owns_base ho1 (B' := w.heap.size) (by omega)
  obtain ⟨va, vk, vc, rfl⟩ := owns_form ho1
  clear HA HQ HK kp1
  have szA : w.heap.size < w1.heap.size := by omega
  obtain ⟨p0, p1, p2, p3⟩ := q1.cells
  have y0 := q1.free 0
  have y1 := q1.free 1
  have y2 := q1.free 2
  have y3 := q1.free 3
  by_cases he : H.1 = 0
  · obtain ⟨n1, n2⟩ := hlen he
    obtain ⟨f1, f2⟩ := hfld.out he
    obtain ⟨fa, fc, hfv, hfl⟩ := flat_at ho1
    rw [if_neg (by simp [he])] at HF
    rw [he]
    rw [hk1 he, Nat.zero_add] at hr1
    have f2' : ∀ x ∈ fldsOf H.2.2.2.1, x.1.size ≤ maxLen ∧ x.2.size ≤ maxLen := by
      intro x hx
      unfold fldsOf at hx
      rw [List.mem_map] at hx
      obtain ⟨y, hy, rfl⟩ := hx
      rcases f2 y hy with h | h
      · exact absurd h (by simp)
      · unfold maxLen; simp [ByteArray.size]; omega
    have HG := hid (fun W hW => framingOf_any (fldsOf H.2.2.2.1) fa fc bd W hW (by rw [fldsOf_len]; simp at f1; omega) (fun x hx => (f2' x hx).1) (fun x hx => (f2' x hx).2))
    obtain ⟨c0, c1, c2, c3⟩ := hr1.cell
    rw [hfv] at ho1 ob0 ob1 ⊢
    have OB := hid (And.intro ob0 ob1)
    clear ob0 ob1
    clear hfv f2' f2 hfld hlen hk1
    go_wp2
    have hA2 := (Below.refl w1.heap.size w1).alloc (Nat.le_refl _) (.cells #[.string ⟨H.2.1.toArray⟩, .string ⟨H.2.2.1.toArray⟩, .slice fa (fldsOf H.2.2.2.1).length fc, .string ⟨#[]⟩] 58)
    have qb2 : RqB w1.heap.size H.2.1 H.2.2.1 (.slice fa (fldsOf H.2.2.2.1).length fc) (w1.alloc (.cells #[.string ⟨H.2.1.toArray⟩, .string ⟨H.2.2.1.toArray⟩, .slice fa (fldsOf H.2.2.2.1).length fc, .string ⟨#[]⟩] 58)) := heap_alloc_new w1 _
    have q2 := q1.below hA2
    have rd2 := hr1.below hA2
    have ow2 := owns_below ho1 hA2
    have fl2 := hfl.below hA2
    have kp2 := kq1.trans (Kp.of hA2)
    have sz2 : w1.heap.size < (w1.alloc (.cells #[.string ⟨H.2.1.toArray⟩, .string ⟨H.2.2.1.toArray⟩, .slice fa (fldsOf H.2.2.2.1).length fc, .string ⟨#[]⟩] 58)).heap.size := by simp
    clear hA2 q1 hr1 ho1 hfl kq1 p0 p1 p2 p3 y0 y1 y2 y3 c0 c1 c2 c3
    generalize w1.alloc (.cells #[.string ⟨H.2.1.toArray⟩, .string ⟨H.2.2.1.toArray⟩, .slice fa (fldsOf H.2.2.2.1).length fc, .string ⟨#[]⟩] 58) = w2 at *
    generalize w1.heap.size = g at *
    obtain ⟨z0, z1, z2, z3⟩ := qb2.cells
    obtain ⟨c0, c1, c2, c3⟩ := rd2.cell
    have szb := rd2.lt
    have szw := q2.lt
    have hLn := hid (framOf_len (fs := fldsOf H.2.2.2.1) (bd := bd))
    generalize framOf (fldsOf H.2.2.2.1) bd = M at *
    obtain ⟨e1, ch, ln⟩ := M
    have hAl := (Below.refl w2.heap.size w2).alloc (Nat.le_refl _) (.cells #[.bool false, .int .i64 0] 153)
    have fl2' := fl2.below hAl
    go_region_with (first | (go_at_call 71; refine (HG.out _ ?_).mono ?_; exact fl2; rintro e w3 ⟨rfl, hb3⟩) | (go_at_call 71; refine (HG.out _ ?_).mono ?_; exact fl2'; rintro e w3 ⟨rfl, hb3⟩; have h0 := cell_later hb3 (a := ⟨w2.heap.size, 0, none⟩) (v := .bool false) (by simp); have h1 := cell_later hb3 (a := ⟨w2.heap.size, 1, none⟩) (v := .int .i64 0) (by simp); have g0 : w3.frozen? ⟨w2.heap.size, 0, none⟩ = false := (by rw [hb3.frozen (by simp)]; simp); have g1 : w3.frozen? ⟨w2.heap.size, 1, none⟩ = false := (by rw [hb3.frozen (by simp)]; simp)))
    all_goals
      have hB3 : Below w2.heap.size w2 w3 := by first | exact bel_of (Below.refl _ _).drew hb3 | exact bel_of hAl.drew hb3
      have q3 := q2.below hB3
      have qb3 := qb2.below hB3
      have rd3 := rd2.below hB3
      have ow3 := owns_below ow2 hB3
      have kp3 := kp2.trans (Kp.of hB3)
      have sz3 := hB3.size
      have szb3 := rd3.lt
      have szw3 := q3.lt
      have szg3 := qb3.lt
      clear hb3 z0 z1 z2 z3 c0 c1 c2 c3 fl2 fl2' HG
      obtain ⟨p0, p1, p2, p3⟩ := q3.cells
      have y0 := q3.free 0
      have y1 := q3.free 1
      have y2 := q3.free 2
      have y3 := q3.free 3
      by_cases hE : e1 = 0
      · subst hE
        rw [if_neg (by simp)] at HF
        obtain ⟨l0, l1⟩ := hLn.out rfl
        obtain ⟨n, rfl⟩ : ∃ n : Nat, ln = n := ⟨ln.toNat, (Int.toNat_of_nonneg l0).symm⟩
        cases ch
        · go_wp2_with fail
          refine (bytes_body b hd bd hd s _ n _ (rd2.below (by first | exact hB3.alloc hB3.size _ | exact (hB3.setCell (Nat.le_refl _) _).setCell (Nat.le_refl _) _)) (by unfold maxLen; omega) (by simp at n1 n2; omega) (by omega)).mono ?_
          rintro e w5 ⟨rfl, ⟨k5, rd5, hk5⟩, kp5⟩
          obtain ⟨qb5, q5, ow5, kpw, sz5, sz6⟩ := carry (by first | exact hB3.alloc hB3.size _ | exact (hB3.setCell (Nat.le_refl _) _).setCell (Nat.le_refl _) _) kp5 qb2 q2 ow2 kp2 (by omega) (by omega) (by omega)
          rw [Int.toNat_natCast] at HF
          generalize bodyS (s.data.toList.drop H.2.2.2.2) hd bd false n = BR at *
          obtain ⟨z0, z1, z2, z3⟩ := qb5.cells
          have x3 := qb5.free 3
          obtain ⟨u0, u1, u2, u3⟩ := q5.cells
          have v0 := q5.free 0
          have v1 := q5.free 1
          have v2 := q5.free 2
          have v3 := q5.free 3
          have sza := q5.lt
          have szc := qb5.lt
          have hgw : g ≠ w.heap.size := by omega
          have hwg : w.heap.size ≠ g := by omega
          have RD := hid rd5
          have KP := hid kpw
          have OW := hid ow5
          have HK := hid hk5
          clear q2 rd2 ow2 kp2 qb2 hB3 q3 qb3 rd3 ow3 kp3 p0 p1 p2 p3 y0 y1 y2 y3 kp5 qb5 q5 rd5 kpw ow5 hk5 ho1 hAl
          go_wp2
          refine bodyPost_ret (v := .tuple #[.agg #[.string ⟨H.2.1.toArray⟩, .string ⟨H.2.2.1.toArray⟩, .slice fa (fldsOf H.2.2.2.1).length fc, .string ⟨BR.2.1.toArray⟩], .int .i64 BR.1]) (by simp [results, Tryz.results49, go_sem, u0, u1, u2, u3]) rfl ?_
          have hF := HF.out
          by_cases hBR : BR.1 = 0
          · rw [if_neg (by simp [hBR])] at hF
            subst hF
            rw [hBR]
            refine ⟨⟨_, _, _, _, _, _, rfl, fun _ => ⟨rfl, rfl, rfl, ?_, ?_⟩⟩, ?_⟩
            · exact owns_not (owns_not (owns_not (owns_not (owns_not OW.out OB.out.2 3 _) OB.out.1 0 _) OB.out.1 1 _) OB.out.1 2 _) OB.out.1 3 _
            · have hk := HK.out hBR
              subst hk
              exact ((((RD.out.other (by omega) 3 _).other (by omega) 0 _).other (by omega) 1 _).other (by omega) 2 _).other (by omega) 3 _
            · exact ((((KP.out.fresh (by omega) 3 _).fresh (Nat.le_refl _) 0 _).fresh (Nat.le_refl _) 1 _).fresh (Nat.le_refl _) 2 _).fresh (Nat.le_refl _) 3 _
          · rw [if_pos hBR] at hF
            subst hF
            exact ⟨⟨_, _, _, _, _, _, rfl, fun h => absurd h hBR⟩, ((((KP.out.fresh (by omega) 3 _).fresh (Nat.le_refl _) 0 _).fresh (Nat.le_refl _) 1 _).fresh (Nat.le_refl _) 2 _).fresh (Nat.le_refl _) 3 _⟩
        · go_wp2_with fail
          refine (chunks_body b hd bd s _ n _ (rd2.below (by first | exact hB3.alloc hB3.size _ | exact (hB3.setCell (Nat.le_refl _) _).setCell (Nat.le_refl _) _)) hs (by simp at n1 n2; omega) hh hb0 hb1).mono ?_
          rintro e w5 ⟨rfl, ⟨k5, rd5, hk5⟩, kp5⟩
          obtain ⟨qb5, q5, ow5, kpw, sz5, sz6⟩ := carry (by first | exact hB3.alloc hB3.size _ | exact (hB3.setCell (Nat.le_refl _) _).setCell (Nat.le_refl _) _) kp5 qb2 q2 ow2 kp2 (by omega) (by omega) (by omega)
          rw [Int.toNat_natCast] at HF
          generalize bodyS (s.data.toList.drop H.2.2.2.2) hd bd true n = BR at *
          obtain ⟨z0, z1, z2, z3⟩ := qb5.cells
          have x3 := qb5.free 3
          obtain ⟨u0, u1, u2, u3⟩ := q5.cells
          have v0 := q5.free 0
          have v1 := q5.free 1
          have v2 := q5.free 2
          have v3 := q5.free 3
          have sza := q5.lt
          have szc := qb5.lt
          have hgw : g ≠ w.heap.size := by omega
          have hwg : w.heap.size ≠ g := by omega
          have RD := hid rd5
          have KP := hid kpw
          have OW := hid ow5
          have HK := hid hk5
          clear q2 rd2 ow2 kp2 qb2 hB3 q3 qb3 rd3 ow3 kp3 p0 p1 p2 p3 y0 y1 y2 y3 kp5 qb5 q5 rd5 kpw ow5 hk5 ho1 hAl
          go_wp2
          refine bodyPost_ret (v := .tuple #[.agg #[.string ⟨H.2.1.toArray⟩, .string ⟨H.2.2.1.toArray⟩, .slice fa (fldsOf H.2.2.2.1).length fc, .string ⟨BR.2.1.toArray⟩], .int .i64 BR.1]) (by simp [results, Tryz.results49, go_sem, u0, u1, u2, u3]) rfl ?_
          have hF := HF.out
          by_cases hBR : BR.1 = 0
          · rw [if_neg (by simp [hBR])] at hF
            subst hF
            rw [hBR]
            refine ⟨⟨_, _, _, _, _, _, rfl, fun _ => ⟨rfl, rfl, rfl, ?_, ?_⟩⟩, ?_⟩
            · exact owns_not (owns_not (owns_not (owns_not (owns_not OW.out OB.out.2 3 _) OB.out.1 0 _) OB.out.1 1 _) OB.out.1 2 _) OB.out.1 3 _
            · have hk := HK.out hBR
              subst hk
              exact ((((RD.out.other (by omega) 3 _).other (by omega) 0 _).other (by omega) 1 _).other (by omega) 2 _).other (by omega) 3 _
            · exact ((((KP.out.fresh (by omega) 3 _).fresh (Nat.le_refl _) 0 _).fresh (Nat.le_refl _) 1 _).fresh (Nat.le_refl _) 2 _).fresh (Nat.le_refl _) 3 _
          · rw [if_pos hBR] at hF
            subst hF
            exact ⟨⟨_, _, _, _, _, _, rfl, fun h => absurd h hBR⟩, ((((KP.out.fresh (by omega) 3 _).fresh (Nat.le_refl _) 0 _).fresh (Nat.le_refl _) 1 _).fresh (Nat.le_refl _) 2 _).fresh (Nat.le_refl _) 3 _⟩
      · rw [if_pos hE] at HF
        have hne : (e1 != 0) = true := by rw [bne_iff_ne]; exact hE
        go_wp2
        refine bodyPost_ret (v := .tuple #[.agg #[.string ⟨#[]⟩, .string ⟨#[]⟩, .slice none 0 0, .string ⟨#[]⟩], .int .i64 e1]) (by simp [results, Tryz.results49, go_sem, p0, p1, p2, p3, szw3]) rfl ?_
        rw [← HF.out]
        refine ⟨⟨_, _, _, _, _, _, rfl, fun h => absurd h hE⟩, ?_⟩
        first
          | ((with_reducible refine Kp.alloc (Kp.fresh (Kp.fresh (Kp.fresh (Kp.fresh kp3 ?_ _ _) ?_ _ _) ?_ _ _) ?_ _ _) _) <;> exact Nat.le_refl _)
          | ((with_reducible refine Kp.fresh (Kp.fresh (Kp.fresh (Kp.fresh (Kp.fresh (Kp.fresh kp3 ?_ _ _) ?_ _ _) ?_ _ _) ?_ _ _) ?_ _ _) ?_ _ _) <;> omega)
  · rw [if_pos he] at HF
    have hne : (H.1 != 0) = true := by rw [bne_iff_ne]; exact he
    have hbr : b ≠ w.heap.size := by omega
    clear ho1 hk1 hlen
    go_wp2
    refine bodyPost_ret (v := .tuple #[.agg #[.string ⟨#[]⟩, .string ⟨#[]⟩, .slice none 0 0, .string ⟨#[]⟩], .int .i64 H.1]) (by simp [results, Tryz.results49, go_sem, p0, p1, p2, p3, szA]) rfl ?_
    rw [← HF.out]
    refine ⟨⟨_, _, _, _, _, _, rfl, fun h => absurd h he⟩, ?_⟩
    exact ((((kq1.fresh (Nat.le_refl _) 0 _).fresh (Nat.le_refl _) 1 _).fresh (Nat.le_refl _) 2 _).fresh (Nat.le_refl _) 3 _).trans (Kp.of ((Below.refl _ _).alloc (Nat.le_refl _) _))

end Go.Proofs.YtbphabgjhoifbaaGreatDoor

/- Frame, wire's and porter's own: the request, how many bytes it has, the error, as the plain mathematics says; nothing old in memory turns. The limits are right ones. -/
namespace Go.Proofs.YtbphabgjhoifbaaGreatDoor
open Go.RowKit

theorem below_of_kp {b : Nat} {w w1 w2 : World} (h1 : Below w.heap.size w w1) (h2 : Kp b w1 w2) (hb : w.heap.size ≤ b) : Below w.heap.size w w2 :=
  { os := h2.1.trans h1.os, tape := h2.2.1.trans h1.tape, output := h2.2.2.1.trans h1.output, size := Nat.le_trans h1.size h2.2.2.2.1, block := fun k hk => (h2.2.2.2.2 k (Nat.lt_of_lt_of_le hk h1.size) (by omega)).trans (h1.block k hk) }

set_option maxRecDepth 100000 in
set_option maxHeartbeats 1000000 in
theorem wFrame_any (hd : Nat) (bd : Int) (s : ByteArray) (mx : Int) (w : World) (hs : s.size ≤ 1152921504606846976) (hh0 : 32 ≤ hd) (hh : hd ≤ 500) (hb0 : 0 ≤ bd) (hb1 : bd ≤ 200) (hm : w.cell? ⟨1, 0, none⟩ = some (.int .i64 mx)) :
    Calls Tryz.prog 35 #[.agg #[.int .i64 hd, .int .i64 bd], .string s] w fun r w' =>
      (∃ v, r = .returned (.tuple #[.agg #[.string ⟨(frameS s.data.toList hd bd).2.1.toArray⟩, .string ⟨(frameS s.data.toList hd bd).2.2.1.toArray⟩, v, .string ⟨(frameS s.data.toList hd bd).2.2.2.2.1.toArray⟩], .int .i64 (frameS s.data.toList hd bd).2.2.2.2.2, .int .i64 (frameS s.data.toList hd bd).1]) ∧ w'.ownsRow w.heap.size 133 2 v (frameS s.data.toList hd bd).2.2.2.1.length (flat (frameS s.data.toList hd bd).2.2.2.1)) ∧ Below w.heap.size w w' := by
  have hml := block_lt_of_cell hm
  have HM := hid (fun W (hW : Below w.heap.size w W) => cell_later hW hm)
  have HR := hid (fun b W (hr : RdAt b hd bd s 0 W) hm' hb => request_any b hd bd s mx W hr hs hh hb0 hb1 hm' hb)
  have HL := hid (frameS_say s.data.toList hd bd)
  have HB := hid (frameS_bad s.data.toList hd bd)
  generalize frameS s.data.toList hd bd = FR at *
  have hdec : decide (32 ≤ (hd : Int) ∧ (hd : Int) ≤ 500 ∧ 0 ≤ bd ∧ bd ≤ 200) = true := decide_eq_true ⟨by omega, by omega, hb0, hb1⟩
  clear hm
  go_enter Tryz.func35, Tryz.ntmps35
  go_wp2_with fail
  refine (rightLimits_any _ _ _).mono ?_
  rintro e w2 ⟨rfl, hb2⟩
  rw [hdec]
  have hA : Below w.heap.size w ((w.alloc (.cells #[.int .i64 hd, .int .i64 bd] 23)).alloc (.cells #[.string ⟨#[]⟩, .string ⟨#[]⟩, .slice none 0 0, .string ⟨#[]⟩] 58)) := ((Below.refl _ _).alloc (Nat.le_refl _) _).alloc (by simp) _
  have hA2 := bel_of hA hb2
  have q1 : RqB (w.heap.size + 1) [] [] (.slice none 0 0) ((w.alloc (.cells #[.int .i64 hd, .int .i64 bd] 23)).alloc (.cells #[.string ⟨#[]⟩, .string ⟨#[]⟩, .slice none 0 0, .string ⟨#[]⟩] 58)) := by
    have := heap_alloc_new (w.alloc (.cells #[.int .i64 hd, .int .i64 bd] 23)) (.cells #[.string ⟨#[]⟩, .string ⟨#[]⟩, .slice none 0 0, .string ⟨#[]⟩] 58)
    rw [show (w.alloc (.cells #[.int .i64 hd, .int .i64 bd] 23)).heap.size = w.heap.size + 1 from by simp] at this
    exact this
  have q2 := q1.below hb2
  have c0 := cell_later hb2 (a := ⟨w.heap.size, 0, none⟩) (v := .int .i64 hd) (by simp)
  have c1 := cell_later hb2 (a := ⟨w.heap.size, 1, none⟩) (v := .int .i64 bd) (by simp)
  have sz2 : w.heap.size + 2 ≤ w2.heap.size := by have := hb2.size; simp at this; omega
  have hm2 := HM.out _ hA2
  clear q1 hA hb2
  go_wp2_with fail
  have hA3 := (Below.refl w2.heap.size w2).alloc (Nat.le_refl _) (.cells #[.int .i64 hd, .int .i64 bd, .string s, .int .i64 0] 121)
  refine (HR.out _ _ (heap_alloc_new w2 _) (cell_later hA3 hm2) (by omega)).mono ?_
  rintro e w4 ⟨⟨m, g, va, vk, vc, y, rfl, hq⟩, kp⟩
  have q4 := (q2.below hA3).kp kp (by omega)
  have hB4 := below_of_kp (hA2.alloc hA2.size _) kp (by omega)
  have sz4 : w2.heap.size + 1 ≤ w4.heap.size := by have := kp.2.2.2.1; simp at this; omega
  obtain ⟨u0, u1, u2, u3⟩ := q4.cells
  have y0 := q4.free 0
  have y1 := q4.free 1
  have y2 := q4.free 2
  have y3 := q4.free 3
  have BL := hid hB4
  have s1 : w2.heap.size < w4.heap.size := by omega
  have s2 : w.heap.size + 1 < w4.heap.size := by omega
  have s3 : ¬ w2.heap.size = w.heap.size + 1 := by omega
  have s4 : ¬ w.heap.size + 1 = w2.heap.size := by omega
  clear HR HM q2 hA3 hA2 c0 c1 hm2 kp hB4 q4
  by_cases hE : FR.1 = 0
  · obtain ⟨rfl, rfl, rfl, ow, rd⟩ := hq hE
    have ow2 := owns_base ow (B' := w.heap.size) (by simp; omega)
    have OB := hid (own_not ow (g := w.heap.size + 1) (by simp; omega))
    obtain ⟨r0, r1, r2, r3⟩ := rd.cell
    have OW := hid ow2
    rw [hE]
    clear hq ow ow2 rd HB HL r0 r1 r2
    go_wp2
    go_region
    go_wp2
    refine bodyPost_ret (v := .tuple #[.agg #[.string ⟨FR.2.1.toArray⟩, .string ⟨FR.2.2.1.toArray⟩, .slice va vk vc, .string ⟨FR.2.2.2.2.1.toArray⟩], .int .i64 FR.2.2.2.2.2, .int .i64 0]) (by simp [results, Tryz.results35, go_sem, u0, u1, u2, u3, s2]) rfl ?_
    rw [hE]
    refine ⟨⟨_, rfl, ?_⟩, ?_⟩
    · exact owns_below (owns_not (owns_not (owns_not (owns_not OW.out OB.out 0 _) OB.out 1 _) OB.out 2 _) OB.out 3 _) ((Below.refl _ _).alloc (Nat.le_refl _) _).drew
    · exact (((((BL.out.setCell (Nat.le_succ _) _).setCell (Nat.le_succ _) _).setCell (Nat.le_succ _) _).setCell (Nat.le_succ _) _).alloc (by simp; omega) _).drew
  · have HB2 := hid (HB.out hE)
    have hne : (FR.1 != 0) = true := by rw [bne_iff_ne]; exact hE
    clear hq HB HL
    go_wp2
    refine bodyPost_ret (v := .tuple #[.agg #[.string ⟨#[]⟩, .string ⟨#[]⟩, .slice none 0 0, .string ⟨#[]⟩], .int .i64 0, .int .i64 FR.1]) (by simp [results, Tryz.results35, go_sem, u0, u1, u2, u3, s2]) rfl ?_
    generalize hx : FR.1 = x at *
    rw [HB2.out]
    refine ⟨⟨_, rfl, World.ownsRow_nil _ _ _ _⟩, ?_⟩
    exact ((((BL.out.setCell (Nat.le_succ _) _).setCell (Nat.le_succ _) _).setCell (Nat.le_succ _) _).setCell (Nat.le_succ _) _).alloc (by simp; omega) _

set_option maxRecDepth 100000 in
set_option maxHeartbeats 1000000 in
theorem pFrame_any (hd : Nat) (bd : Int) (s : ByteArray) (mx : Int) (w : World) (hs : s.size ≤ 1152921504606846976) (hh0 : 32 ≤ hd) (hh : hd ≤ 500) (hb0 : 0 ≤ bd) (hb1 : bd ≤ 200) (hm : w.cell? ⟨1, 0, none⟩ = some (.int .i64 mx)) :
    Calls Tryz.prog 20 #[.agg #[.int .i64 hd, .int .i64 bd], .string s] w fun r w' =>
      (∃ v, r = .returned (.tuple #[.agg #[.string ⟨(frameS s.data.toList hd bd).2.1.toArray⟩, .string ⟨(frameS s.data.toList hd bd).2.2.1.toArray⟩, v, .string ⟨(frameS s.data.toList hd bd).2.2.2.2.1.toArray⟩], .int .i64 (frameS s.data.toList hd bd).2.2.2.2.2, .int .i64 (frameS s.data.toList hd bd).1]) ∧ w'.ownsRow w.heap.size 133 2 v (frameS s.data.toList hd bd).2.2.2.1.length (flat (frameS s.data.toList hd bd).2.2.2.1)) ∧ Below w.heap.size w w' := by
  have HM := hid (fun W (hW : Below w.heap.size w W) => wFrame_any hd bd s mx W hs hh0 hh hb0 hb1 (cell_later hW hm))
  generalize frameS s.data.toList hd bd = FR at *
  clear hm
  go_enter Tryz.func20, Tryz.ntmps20
  go_wp2_with fail
  have hA : Below w.heap.size w ((w.alloc (.cells #[.int .i64 hd, .int .i64 bd] 23)).alloc (.cells #[.string ⟨#[]⟩, .string ⟨#[]⟩, .slice none 0 0, .string ⟨#[]⟩] 58)) := ((Below.refl _ _).alloc (Nat.le_refl _) _).alloc (by simp) _
  refine (HM.out _ hA).mono ?_
  rintro e w2 ⟨⟨v, rfl, ow⟩, hb2⟩
  have q1 : RqB (w.heap.size + 1) [] [] (.slice none 0 0) ((w.alloc (.cells #[.int .i64 hd, .int .i64 bd] 23)).alloc (.cells #[.string ⟨#[]⟩, .string ⟨#[]⟩, .slice none 0 0, .string ⟨#[]⟩] 58)) := by
    have := heap_alloc_new (w.alloc (.cells #[.int .i64 hd, .int .i64 bd] 23)) (.cells #[.string ⟨#[]⟩, .string ⟨#[]⟩, .slice none 0 0, .string ⟨#[]⟩] 58)
    rw [show (w.alloc (.cells #[.int .i64 hd, .int .i64 bd] 23)).heap.size = w.heap.size + 1 from by simp] at this
    exact this
  have q2 := q1.below hb2
  obtain ⟨u0, u1, u2, u3⟩ := q2.cells
  have y0 := q2.free 0
  have y1 := q2.free 1
  have y2 := q2.free 2
  have y3 := q2.free 3
  have BL := hid (bel_of hA hb2)
  have OW := hid (owns_base ow (B' := w.heap.size) (by simp; omega))
  have OB := hid (own_not ow (g := w.heap.size + 1) (by simp))
  obtain ⟨va, vk, vc, rfl⟩ := owns_form ow
  clear HM hA hb2 q1 q2 ow
  go_wp2
  refine bodyPost_ret (v := .tuple #[.agg #[.string ⟨FR.2.1.toArray⟩, .string ⟨FR.2.2.1.toArray⟩, .slice va vk vc, .string ⟨FR.2.2.2.2.1.toArray⟩], .int .i64 FR.2.2.2.2.2, .int .i64 FR.1]) (by simp [results, Tryz.results20, go_sem, u0, u1, u2, u3]) rfl ?_
  refine ⟨⟨_, rfl, ?_⟩, ?_⟩
  · exact owns_not (owns_not (owns_not (owns_not OW.out OB.out 0 _) OB.out 1 _) OB.out 2 _) OB.out 3 _
  · exact (((BL.out.setCell (Nat.le_succ _) _).setCell (Nat.le_succ _) _).setCell (Nat.le_succ _) _).setCell (Nat.le_succ _) _
end Go.Proofs.YtbphabgjhoifbaaGreatDoor
