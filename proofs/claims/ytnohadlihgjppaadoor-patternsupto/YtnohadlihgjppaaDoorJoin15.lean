/- Texts that follow one another, joined. -/
import Derived.Test.YtnohadlihgjppaaDoorJoin14
/- Plain mathematics, eighth part: what a reading says, but that bytes are missing, it says whatever comes behind. -/
namespace Go.Proofs.YtnohadlihgjppaaDoor

theorem ahead_app (c : UInt8) (a b : List UInt8) (h : Pm.behind c a ≠ []) : Pm.ahead c (a ++ b) = Pm.ahead c a ∧ Pm.behind c (a ++ b) = Pm.behind c a ++ b := by
  induction a with
  | nil => exact absurd rfl h
  | cons x a ih =>
    by_cases hx : x = c
    · subst hx; simp [Pm.ahead, Pm.behind]
    · have h1 : Pm.behind c (x :: a) = Pm.behind c a := by simp [Pm.behind, hx]
      have h2 := ih (by rw [← h1]; exact h)
      refine ⟨?_, ?_⟩
      · have : Pm.ahead c (x :: (a ++ b)) = x :: Pm.ahead c (a ++ b) := by simp [Pm.ahead, hx]
        rw [List.cons_append, this, h2.1]; simp [Pm.ahead, hx]
      · have : Pm.behind c (x :: (a ++ b)) = Pm.behind c (a ++ b) := by simp [Pm.behind, hx]
        rw [List.cons_append, this, h2.2, h1]
theorem lineS_app (l t : List UInt8) (lim : Nat) (long : Int) (h : (Pm.lineS l lim long).1 ≠ 2) : Pm.lineS (l ++ t) lim long = Pm.lineS l lim long := by
  by_cases h1 : Pm.behind 10 (l.take lim) = []
  · rw [Pm.lineS_none h1] at h ⊢
    by_cases h2 : l.length < lim
    · rw [if_pos h2] at h; exact absurd rfl h
    · have h3 : (l ++ t).take lim = l.take lim := List.take_append_of_le_length (by omega)
      rw [Pm.lineS_none (by rw [h3]; exact h1), if_neg h2, if_neg (by rw [List.length_append]; omega)]
  · have h3 : (l ++ t).take lim = l.take lim ++ t.take (lim - l.length) := List.take_append
    obtain ⟨ha, hb⟩ := ahead_app 10 (l.take lim) (t.take (lim - l.length)) h1
    unfold Pm.lineS
    rw [h3, ha, hb]
    have h4 : (Pm.behind 10 (l.take lim)).isEmpty = false := by
      cases hq : Pm.behind 10 (l.take lim) with
      | nil => exact absurd hq h1
      | cons => rfl
    have h5 : (Pm.behind 10 (l.take lim) ++ t.take (lim - l.length)).isEmpty = false := by
      cases hq : Pm.behind 10 (l.take lim) with
      | nil => exact absurd hq h1
      | cons => rfl
    rw [h4, h5]; rfl
theorem drop_app {l t : List UInt8} {n : Nat} (h : n ≤ l.length) : (l ++ t).drop n = l.drop n ++ t := List.drop_append_of_le_length h
theorem headS_app (t : List UInt8) (f : Nat) : ∀ (first : Bool) (l : List UInt8) (lim : Nat) (m tg : List UInt8) (fs : List Pm.Fld) (u : Nat), (Pm.headS f first l lim m tg fs u).1 ≠ 2 → Pm.headS f first (l ++ t) lim m tg fs u = Pm.headS f first l lim m tg fs u := by
  induction f with
  | zero => intro first l lim m tg fs u h; exact absurd rfl h
  | succ f ih =>
    intro first l lim m tg fs u h
    have hl := line_len l lim 5
    rw [headS_succ] at h
    rw [headS_succ, headS_succ]
    by_cases h1 : (Pm.lineS l lim 5).1 = 2
    · rw [if_pos (by rw [h1]; decide)] at h; exact absurd h1 h
    · rw [lineS_app l t lim 5 h1, drop_app hl.2.2]
      by_cases h2 : (Pm.lineS l lim 5).1 ≠ 0
      · rw [if_pos h2, if_pos h2]
      · rw [if_neg h2] at h ⊢
        rw [if_neg h2]
        by_cases h3 : first = true
        · rw [if_pos h3] at h ⊢
          rw [if_pos h3]
          by_cases h4 : (Pm.firstS (Pm.lineS l lim 5).2.1).1 ≠ 0
          · rw [if_pos h4, if_pos h4]
          · rw [if_neg h4] at h ⊢
            rw [if_neg h4]
            exact ih _ _ _ _ _ _ _ h
        · rw [if_neg h3] at h ⊢
          rw [if_neg h3]
          by_cases h4 : (Pm.lineS l lim 5).2.1 = []
          · rw [if_pos h4, if_pos h4]
          · rw [if_neg h4] at h ⊢
            rw [if_neg h4]
            cases h5 : Pm.fieldS (Pm.lineS l lim 5).2.1 with
            | none => rfl
            | some f' =>
              rw [h5] at h
              exact ih _ _ _ _ _ _ _ h
theorem trailS_app (t : List UInt8) (f : Nat) : ∀ (l : List UInt8) (lim u : Nat), (Pm.trailS f l lim u).1 ≠ 2 → Pm.trailS f (l ++ t) lim u = Pm.trailS f l lim u := by
  induction f with
  | zero => intro l lim u h; exact absurd rfl h
  | succ f ih =>
    intro l lim u h
    have hl := line_len l lim 5
    rw [Pm.trailS_succ] at h
    rw [Pm.trailS_succ, Pm.trailS_succ]
    by_cases h1 : (Pm.lineS l lim 5).1 = 2
    · rw [if_pos (by rw [h1]; decide)] at h; exact absurd h1 h
    · rw [lineS_app l t lim 5 h1, drop_app hl.2.2]
      by_cases h2 : (Pm.lineS l lim 5).1 ≠ 0
      · rw [if_pos h2, if_pos h2]
      · rw [if_neg h2] at h ⊢
        rw [if_neg h2]
        by_cases h4 : (Pm.lineS l lim 5).2.1 = []
        · rw [if_pos h4, if_pos h4]
        · rw [if_neg h4] at h ⊢
          rw [if_neg h4]
          by_cases h5 : (Pm.fieldS (Pm.lineS l lim 5).2.1).isSome = true
          · rw [if_pos h5] at h ⊢
            rw [if_pos h5]
            exact ih _ _ _ h
          · rw [if_neg h5, if_neg h5]
theorem chunkS_app (l t : List UInt8) (n : Nat) (room : Int) (h : (chunkS l n room).1 ≠ 2) : chunkS (l ++ t) n room = chunkS l n room := by
  unfold chunkS at h ⊢
  by_cases h1 : room < n
  · rw [if_pos h1, if_pos h1]
  · rw [if_neg h1] at h ⊢
    rw [if_neg h1]
    by_cases h2 : l.length < n + 2
    · rw [if_pos h2] at h; exact absurd rfl h
    · rw [if_neg h2, if_neg (by rw [List.length_append]; omega), List.take_append_of_le_length (by omega)]
theorem sizeE_two (l : List UInt8) (h : sizeE l ≠ 2) : (Pm.lineS l 10 3).1 ≠ 2 := by
  intro h1; apply h; unfold sizeE; rw [if_neg (by rw [h1]; decide), h1]
theorem size_app (l t : List UInt8) (h : sizeE l ≠ 2) : sizeE (l ++ t) = sizeE l ∧ sizeN (l ++ t) = sizeN l := by
  have h1 := lineS_app l t 10 3 (sizeE_two l h)
  unfold sizeE sizeN; rw [h1]; exact ⟨rfl, rfl⟩
theorem chunksS_app (t : List UInt8) (hd : Nat) (bd : Int) (f : Nat) : ∀ (g : Nat) (l body : List UInt8) (u : Nat), f ≤ g → (chunksS f l hd bd body u).1 ≠ 2 → chunksS g (l ++ t) hd bd body u = chunksS f l hd bd body u := by
  induction f with
  | zero => intro g l body u _ h; exact absurd rfl h
  | succ f ih =>
    intro g l body u hg h
    obtain ⟨g, rfl⟩ : ∃ g', g = g' + 1 := ⟨g - 1, by omega⟩
    have hl := line_len l 10 3
    rw [chunksS_succ] at h
    rw [chunksS_succ, chunksS_succ]
    by_cases h1 : sizeE l = 2
    · rw [if_pos (by rw [h1]; decide)] at h; exact absurd h1 h
    · obtain ⟨e1, e2⟩ := size_app l t h1
      rw [e1, e2, lineS_app l t 10 3 (sizeE_two l h1), drop_app hl.2.2]
      by_cases h2 : sizeE l ≠ 0
      · rw [if_pos h2, if_pos h2]
      · rw [if_neg h2] at h ⊢
        rw [if_neg h2]
        by_cases h3 : 0 < sizeN l
        · rw [if_pos h3] at h ⊢
          rw [if_pos h3]
          generalize hC : chunkS (l.drop (Pm.lineS l 10 3).2.2) (sizeN l).toNat (bd - body.length) = C at h ⊢
          by_cases h4 : C.1 = 2
          · rw [if_pos (by rw [h4]; decide)] at h; exact absurd h4 h
          · rw [chunkS_app _ t _ _ (by rw [hC]; exact h4), hC]
            have hc := chunkS_len (l.drop (Pm.lineS l 10 3).2.2) (sizeN l).toNat (bd - body.length)
            rw [hC, List.length_drop] at hc
            by_cases h5 : C.1 ≠ 0
            · rw [if_pos h5, if_pos h5]
            · rw [if_neg h5] at h ⊢
              rw [if_neg h5, drop_app (by omega)]
              exact ih _ _ _ _ (by omega) h
        · rw [if_neg h3] at h ⊢
          rw [if_neg h3]
          generalize hT : Pm.trailS (hd + 1) (l.drop (Pm.lineS l 10 3).2.2) hd 0 = T at h ⊢
          by_cases h4 : T.1 = 2
          · rw [if_pos (by rw [h4]; decide)] at h; exact absurd h4 h
          · rw [trailS_app t _ _ _ _ (by rw [hT]; exact h4), hT]

/- the error, the method, the target, the fields, the body and how many bytes are used up -/
abbrev FrameR := Int × List UInt8 × List UInt8 × List Pm.Fld × List UInt8 × Nat
def frameBad (e : Int) : FrameR := (e, [], [], [], [], 0)
def fldsOf (fs : List Pm.Fld) : List (ByteArray × ByteArray) := fs.map fun f => (⟨f.1.toArray⟩, ⟨f.2.toArray⟩)
/- the body and its length behind the head, when the head's end and its framing are known -/
def bodyS (l : List UInt8) (hd : Nat) (bd : Int) (chunked : Bool) (n : Nat) : Int × List UInt8 × Nat :=
  if chunked = true then chunksS (l.length + 1) l hd bd [] 0
  else if l.length < n then (2, [], 0) else (0, l.take n, n)
def frameS (l : List UInt8) (hd : Nat) (bd : Int) : FrameR :=
  let h := Pm.headS (hd + 1) true l hd [] [] [] 0
  if h.1 ≠ 0 then frameBad h.1
  else
    let m := framOf (fldsOf h.2.2.2.1) bd
    if m.1 ≠ 0 then frameBad m.1
    else
      let b := bodyS (l.drop h.2.2.2.2) hd bd m.2.1 m.2.2.toNat
      if b.1 ≠ 0 then frameBad b.1 else (0, h.2.1, h.2.2.1, h.2.2.2.1, b.2.1, h.2.2.2.2 + b.2.2)
theorem bodyS_app (l t : List UInt8) (hd : Nat) (bd : Int) (c : Bool) (n : Nat) (h : (bodyS l hd bd c n).1 ≠ 2) : bodyS (l ++ t) hd bd c n = bodyS l hd bd c n := by
  unfold bodyS at h ⊢
  by_cases h1 : c = true
  · rw [if_pos h1] at h ⊢
    rw [if_pos h1]
    exact chunksS_app t hd bd _ _ _ _ _ (by rw [List.length_append]; omega) h
  · rw [if_neg h1] at h ⊢
    rw [if_neg h1]
    by_cases h2 : l.length < n
    · rw [if_pos h2] at h; exact absurd rfl h
    · rw [if_neg h2, if_neg (by rw [List.length_append]; omega), List.take_append_of_le_length (by omega)]
theorem headS_len (f : Nat) : ∀ (first : Bool) (l : List UInt8) (lim : Nat) (m tg : List UInt8) (fs : List Pm.Fld) (u : Nat), (Pm.headS f first l lim m tg fs u).1 = 0 → u + 1 ≤ (Pm.headS f first l lim m tg fs u).2.2.2.2 ∧ (Pm.headS f first l lim m tg fs u).2.2.2.2 ≤ u + l.length := by
  induction f with
  | zero => intro first l lim m tg fs u h; exact absurd (show (2 : Int) = 0 from h) (by decide)
  | succ f ih =>
    intro first l lim m tg fs u h
    rw [headS_succ] at h ⊢
    by_cases h2 : (Pm.lineS l lim 5).1 ≠ 0
    · rw [if_pos h2] at h; exact absurd h h2
    · have hk := Pm.lineS_ok (l := l) (lim := lim) (long := 5) (by decide) (by omega)
      rw [if_neg h2] at h ⊢
      by_cases h3 : first = true
      · rw [if_pos h3] at h ⊢
        by_cases h4 : (Pm.firstS (Pm.lineS l lim 5).2.1).1 ≠ 0
        · rw [if_pos h4] at h; exact absurd h h4
        · rw [if_neg h4] at h ⊢
          have := ih _ _ _ _ _ _ _ h
          rw [List.length_drop] at this; omega
      · rw [if_neg h3] at h ⊢
        by_cases h4 : (Pm.lineS l lim 5).2.1 = []
        · rw [if_pos h4] at h ⊢
          refine ⟨by simp only; omega, by simp only; omega⟩
        · rw [if_neg h4] at h ⊢
          cases h5 : Pm.fieldS (Pm.lineS l lim 5).2.1 with
          | none => rw [h5] at h; exact absurd (show (3 : Int) = 0 from h) (by decide)
          | some f' =>
            rw [h5] at h
            have := ih _ _ _ _ _ _ _ h
            rw [List.length_drop] at this
            simp only; omega
theorem frameS_app (l t : List UInt8) (hd : Nat) (bd : Int) (h : (frameS l hd bd).1 ≠ 2) : frameS (l ++ t) hd bd = frameS l hd bd := by
  unfold frameS at h ⊢
  generalize hH : Pm.headS (hd + 1) true l hd [] [] [] 0 = H at h ⊢
  simp only at h ⊢
  by_cases h1 : H.1 = 2
  · rw [if_pos (by rw [h1]; decide)] at h; exact absurd h1 h
  · rw [headS_app t _ _ _ _ _ _ _ _ (by rw [hH]; exact h1), hH]
    by_cases h2 : H.1 ≠ 0
    · rw [if_pos h2, if_pos h2]
    · have hl := headS_len (hd + 1) true l hd [] [] [] 0 (by rw [hH]; omega)
      rw [hH] at hl
      rw [if_neg h2] at h ⊢
      rw [if_neg h2]
      generalize framOf (fldsOf H.2.2.2.1) bd = M at h ⊢
      by_cases h3 : M.1 ≠ 0
      · rw [if_pos h3, if_pos h3]
      · rw [if_neg h3] at h ⊢
        rw [if_neg h3, drop_app (by omega)]
        generalize hB : bodyS (l.drop H.2.2.2.2) hd bd M.2.1 M.2.2.toNat = B at h ⊢
        by_cases h4 : B.1 = 2
        · rw [if_pos (by rw [h4]; decide)] at h; exact absurd h4 h
        · rw [bodyS_app _ t _ _ _ _ (by rw [hB]; exact h4), hB]
theorem frameS_more (l : List UInt8) (c hd : Nat) (bd : Int) (h : (frameS l hd bd).1 = 2) : (frameS (l.take c) hd bd).1 = 2 := by
  by_cases h1 : (frameS (l.take c) hd bd).1 = 2
  · exact h1
  · have := frameS_app (l.take c) (l.drop c) hd bd h1
    rw [List.take_append_drop] at this
    rw [← this]; exact h
theorem frameS_bad (l : List UInt8) (hd : Nat) (bd : Int) (h : (frameS l hd bd).1 ≠ 0) : frameS l hd bd = frameBad (frameS l hd bd).1 := by
  unfold frameS at h ⊢
  simp only at h ⊢
  split at h
  · rename_i h1; rw [if_pos h1]; rfl
  · rename_i h1; rw [if_neg h1]
    split at h
    · rename_i h2; rw [if_pos h2]; rfl
    · rename_i h2; rw [if_neg h2]
      split at h
      · rename_i h3; rw [if_pos h3]; rfl
      · exact absurd rfl h

theorem line_ne1 (l : List UInt8) (lim : Nat) (long : Int) (h : long ≠ 1) : (Pm.lineS l lim long).1 ≠ 1 := by
  unfold Pm.lineS
  split
  · simp only; split
    · decide
    · exact h
  · split
    · simp
    · simp
theorem first_ne1 (l : List UInt8) : (Pm.firstS l).1 ≠ 1 := by
  unfold Pm.firstS
  repeat' split
  all_goals (first | decide | simp)
theorem headS_ne1 (f : Nat) : ∀ (first : Bool) (l : List UInt8) (lim : Nat) (m tg : List UInt8) (fs : List Pm.Fld) (u : Nat), (Pm.headS f first l lim m tg fs u).1 ≠ 1 := by
  induction f with
  | zero => intro first l lim m tg fs u h; exact absurd (show (2 : Int) = 1 from h) (by decide)
  | succ f ih =>
    intro first l lim m tg fs u
    rw [headS_succ]
    by_cases h2 : (Pm.lineS l lim 5).1 ≠ 0
    · rw [if_pos h2]; exact line_ne1 l lim 5 (by decide)
    · rw [if_neg h2]
      by_cases h3 : first = true
      · rw [if_pos h3]
        by_cases h4 : (Pm.firstS (Pm.lineS l lim 5).2.1).1 ≠ 0
        · rw [if_pos h4]; exact first_ne1 _
        · rw [if_neg h4]; exact ih _ _ _ _ _ _ _
      · rw [if_neg h3]
        by_cases h4 : (Pm.lineS l lim 5).2.1 = []
        · rw [if_pos h4]; simp
        · rw [if_neg h4]
          cases h5 : Pm.fieldS (Pm.lineS l lim 5).2.1 with
          | none => exact fun h => absurd (show (3 : Int) = 1 from h) (by decide)
          | some f' => exact ih _ _ _ _ _ _ _
theorem trailS_ne1 (f : Nat) : ∀ (l : List UInt8) (lim u : Nat), (Pm.trailS f l lim u).1 ≠ 1 := by
  induction f with
  | zero => intro l lim u h; exact absurd (show (2 : Int) = 1 from h) (by decide)
  | succ f ih =>
    intro l lim u
    rw [Pm.trailS_succ]
    by_cases h2 : (Pm.lineS l lim 5).1 ≠ 0
    · rw [if_pos h2]; exact line_ne1 l lim 5 (by decide)
    · rw [if_neg h2]
      by_cases h4 : (Pm.lineS l lim 5).2.1 = []
      · rw [if_pos h4]; simp
      · rw [if_neg h4]
        by_cases h5 : (Pm.fieldS (Pm.lineS l lim 5).2.1).isSome = true
        · rw [if_pos h5]; exact ih _ _ _
        · rw [if_neg h5]; simp
theorem trailS_len (f : Nat) : ∀ (l : List UInt8) (lim u : Nat), (Pm.trailS f l lim u).1 = 0 → (Pm.trailS f l lim u).2 ≤ u + l.length := by
  induction f with
  | zero => intro l lim u h; exact absurd (show (2 : Int) = 0 from h) (by decide)
  | succ f ih =>
    intro l lim u h
    have hl := line_len l lim 5
    rw [Pm.trailS_succ] at h ⊢
    by_cases h2 : (Pm.lineS l lim 5).1 ≠ 0
    · rw [if_pos h2] at h; exact absurd h h2
    · rw [if_neg h2] at h ⊢
      by_cases h4 : (Pm.lineS l lim 5).2.1 = []
      · rw [if_pos h4]; simp only; omega
      · rw [if_neg h4] at h ⊢
        by_cases h5 : (Pm.fieldS (Pm.lineS l lim 5).2.1).isSome = true
        · rw [if_pos h5] at h ⊢
          have := ih _ _ _ h
          rw [List.length_drop] at this; omega
        · rw [if_neg h5] at h; exact absurd (show (3 : Int) = 0 from h) (by decide)
theorem sizeE_ne1 (l : List UInt8) : sizeE l ≠ 1 := by
  unfold sizeE
  split
  · split
    · decide
    · decide
  · exact line_ne1 l 10 3 (by decide)
theorem chunkS_ne1 (l : List UInt8) (n : Nat) (room : Int) : (chunkS l n room).1 ≠ 1 := by
  unfold chunkS
  repeat' split
  all_goals simp
theorem chunksS_say (hd : Nat) (bd : Int) (f : Nat) : ∀ (l body : List UInt8) (u : Nat), (chunksS f l hd bd body u).1 ≠ 1 ∧ ((chunksS f l hd bd body u).1 = 0 → (chunksS f l hd bd body u).2.2 ≤ u + l.length) := by
  induction f with
  | zero => intro l body u; exact ⟨fun h => absurd (show (2 : Int) = 1 from h) (by decide), fun h => absurd (show (2 : Int) = 0 from h) (by decide)⟩
  | succ f ih =>
    intro l body u
    have hl := line_len l 10 3
    rw [chunksS_succ]
    by_cases h2 : sizeE l ≠ 0
    · rw [if_pos h2]; exact ⟨sizeE_ne1 l, fun h => absurd h h2⟩
    · rw [if_neg h2]
      by_cases h3 : 0 < sizeN l
      · rw [if_pos h3]
        have hc := chunkS_len (l.drop (Pm.lineS l 10 3).2.2) (sizeN l).toNat (bd - body.length)
        have hn := chunkS_ne1 (l.drop (Pm.lineS l 10 3).2.2) (sizeN l).toNat (bd - body.length)
        generalize chunkS (l.drop (Pm.lineS l 10 3).2.2) (sizeN l).toNat (bd - body.length) = C at hc hn ⊢
        rw [List.length_drop] at hc
        by_cases h5 : C.1 ≠ 0
        · rw [if_pos h5]; exact ⟨hn, fun h => absurd h h5⟩
        · rw [if_neg h5]
          obtain ⟨i1, i2⟩ := ih (l.drop ((Pm.lineS l 10 3).2.2 + C.2.2)) (body ++ C.2.1) (u + (Pm.lineS l 10 3).2.2 + C.2.2)
          refine ⟨i1, fun h => ?_⟩
          have := i2 h
          rw [List.length_drop] at this; omega
      · rw [if_neg h3]
        have hn := trailS_ne1 (hd + 1) (l.drop (Pm.lineS l 10 3).2.2) hd 0
        have ht := trailS_len (hd + 1) (l.drop (Pm.lineS l 10 3).2.2) hd 0
        generalize Pm.trailS (hd + 1) (l.drop (Pm.lineS l 10 3).2.2) hd 0 = T at hn ht ⊢
        rw [List.length_drop] at ht
        by_cases h5 : T.1 ≠ 0
        · rw [if_pos h5]; exact ⟨hn, fun h => absurd h h5⟩
        · rw [if_neg h5]
          have := ht (by omega)
          exact ⟨by simp, fun _ => (by simp only; omega)⟩
theorem framS_ne1 (hosts : Nat) (lens cods : List (List UInt8)) (most : Int) : (framS hosts lens cods most).1 ≠ 1 := by
  unfold framS
  repeat' split
  all_goals simp
theorem bodyS_say (l : List UInt8) (hd : Nat) (bd : Int) (c : Bool) (n : Nat) : (bodyS l hd bd c n).1 ≠ 1 ∧ ((bodyS l hd bd c n).1 = 0 → (bodyS l hd bd c n).2.2 ≤ l.length) := by
  unfold bodyS
  split
  · have := chunksS_say hd bd (l.length + 1) l [] 0
    exact ⟨this.1, fun h => by have := this.2 h; omega⟩
  · split
    · exact ⟨by simp, fun h => absurd (show (2 : Int) = 0 from h) (by decide)⟩
    · exact ⟨by simp, fun _ => (by simp only; omega)⟩
/- no error of the caller's; and just where there is none, some bytes are used up, and no more than are there -/
theorem frameS_say (l : List UInt8) (hd : Nat) (bd : Int) : (frameS l hd bd).1 ≠ 1 ∧ ((frameS l hd bd).1 = 0 → 0 < (frameS l hd bd).2.2.2.2.2) ∧ ((frameS l hd bd).1 ≠ 0 → (frameS l hd bd).2.2.2.2.2 = 0) ∧ (frameS l hd bd).2.2.2.2.2 ≤ l.length := by
  unfold frameS
  have hn := headS_ne1 (hd + 1) true l hd [] [] [] 0
  have hl := headS_len (hd + 1) true l hd [] [] [] 0
  generalize Pm.headS (hd + 1) true l hd [] [] [] 0 = H at hn hl ⊢
  simp only
  by_cases h1 : H.1 ≠ 0
  · rw [if_pos h1]; exact ⟨hn, fun h => absurd h h1, fun _ => rfl, Nat.zero_le _⟩
  · have hl := hl (by omega)
    rw [if_neg h1]
    have hm : (framOf (fldsOf H.2.2.2.1) bd).1 ≠ 1 := framS_ne1 _ _ _ _
    generalize framOf (fldsOf H.2.2.2.1) bd = M at hm ⊢
    by_cases h2 : M.1 ≠ 0
    · rw [if_pos h2]; exact ⟨hm, fun h => absurd h h2, fun _ => rfl, Nat.zero_le _⟩
    · rw [if_neg h2]
      have hb := bodyS_say (l.drop H.2.2.2.2) hd bd M.2.1 M.2.2.toNat
      generalize bodyS (l.drop H.2.2.2.2) hd bd M.2.1 M.2.2.toNat = B at hb ⊢
      rw [List.length_drop] at hb
      by_cases h3 : B.1 ≠ 0
      · rw [if_pos h3]; exact ⟨hb.1, fun h => absurd h h3, fun _ => rfl, Nat.zero_le _⟩
      · rw [if_neg h3]
        have := hb.2 (by omega)
        exact ⟨by simp, fun _ => (by simp only; omega), fun h => absurd rfl h, (by simp only; omega)⟩

end Go.Proofs.YtnohadlihgjppaaDoor

/- RightLimits; what the fields of a head are, in memory and in number. -/
namespace Go.Proofs.YtnohadlihgjppaaDoor
open Go.RowKit

theorem rightLimits_any (hd bd : Int) (w : World) :
    Calls Tryd.prog 30 #[.agg #[.int .i64 hd, .int .i64 bd]] w fun e w' => e = .returned (.bool (decide (32 ≤ hd ∧ hd ≤ 500 ∧ 0 ≤ bd ∧ bd ≤ 200))) ∧ Below w.heap.size w w' := by
  go_enter Tryd.func30, Tryd.ntmps30
  go_wp2
  all_goals
    go_ret
    refine ⟨?_, (Below.refl _ _).alloc (Nat.le_refl _) _⟩
    try congr 2
    try simp
    try simp [*]
    try (intros; omega)

theorem fldsOf_len (fs : List Pm.Fld) : (fldsOf fs).length = fs.length := by unfold fldsOf; simp
theorem flat_get : ∀ (fs : List Pm.Fld) (i : Nat) (h : i < (fldsOf fs).length), (flat fs)[i * 2]? = some (.string (fldsOf fs)[i].1) ∧ (flat fs)[i * 2 + 1]? = some (.string (fldsOf fs)[i].2)
  | [], i, h => absurd h (by simp [fldsOf])
  | f :: fs, 0, h => by simp [flat, fldsOf]
  | f :: fs, i + 1, h => by
    have := flat_get fs i (by simpa [fldsOf] using h)
    have e : flat (f :: fs) = (.string ⟨f.1.toArray⟩) :: (.string ⟨f.2.toArray⟩) :: flat fs := by simp [flat]
    rw [e, show (i + 1) * 2 = i * 2 + 1 + 1 from by omega, List.getElem?_cons_succ, List.getElem?_cons_succ, show i * 2 + 1 + 1 + 1 = (i * 2 + 1) + 1 + 1 from by omega, List.getElem?_cons_succ, List.getElem?_cons_succ]
    simpa [fldsOf] using this
theorem flat_at {w : World} {B : Nat} {e : TypeId} {v : Value} {fs : List Pm.Fld} (h : w.ownsRow B e 2 v fs.length (flat fs)) : ∃ a cap, v = .slice a (fldsOf fs).length cap ∧ FlAt (fldsOf fs) a w := by
  obtain ⟨h1, h2⟩ := h
  rcases h2 with ⟨h2, h3⟩ | ⟨g, cap, cur, hv, hB, hg, hc, hm, hsz, ht⟩
  · refine ⟨none, 0, ?_, fun i hi => ?_⟩
    · rw [fldsOf_len, h3]; exact h2
    · rw [fldsOf_len] at hi; omega
  · refine ⟨some ⟨g, 0, none⟩, cap, ?_, fun i hi => ⟨g, rfl, ?_, ?_, ?_⟩⟩
    · rw [fldsOf_len]; exact hv
    · exact (Array.getElem?_eq_some_iff.1 hg).1
    · rw [Lib.cell_of_heap hg]
      have := (flat_get fs i hi).1
      rw [← ht, List.getElem?_take_of_lt (by rw [fldsOf_len] at hi; omega)] at this
      simpa using this
    · rw [Lib.cell_of_heap hg]
      have := (flat_get fs i hi).2
      rw [← ht, List.getElem?_take_of_lt (by rw [fldsOf_len] at hi; omega)] at this
      simpa using this
theorem headS_flds (f : Nat) : ∀ (first : Bool) (l : List UInt8) (lim : Nat) (m tg : List UInt8) (fs : List Pm.Fld) (u : Nat), (Pm.headS f first l lim m tg fs u).1 = 0 → (Pm.headS f first l lim m tg fs u).2.2.2.1.length ≤ fs.length + lim ∧ ∀ x ∈ (Pm.headS f first l lim m tg fs u).2.2.2.1, x ∈ fs ∨ x.1.length + x.2.length ≤ lim := by
  induction f with
  | zero => intro first l lim m tg fs u h; exact absurd (show (2 : Int) = 0 from h) (by decide)
  | succ f ih =>
    intro first l lim m tg fs u h
    rw [headS_succ] at h ⊢
    by_cases h2 : (Pm.lineS l lim 5).1 ≠ 0
    · rw [if_pos h2] at h; exact absurd h h2
    · have hk := Pm.lineS_ok (l := l) (lim := lim) (long := 5) (by decide) (by omega)
      rw [if_neg h2] at h ⊢
      by_cases h3 : first = true
      · rw [if_pos h3] at h ⊢
        by_cases h4 : (Pm.firstS (Pm.lineS l lim 5).2.1).1 ≠ 0
        · rw [if_pos h4] at h; exact absurd h h4
        · rw [if_neg h4] at h ⊢
          obtain ⟨i1, i2⟩ := ih _ _ _ _ _ _ _ h
          refine ⟨by omega, fun x hx => ?_⟩
          rcases i2 x hx with h5 | h5
          · exact .inl h5
          · exact .inr (by omega)
      · rw [if_neg h3] at h ⊢
        by_cases h4 : (Pm.lineS l lim 5).2.1 = []
        · rw [if_pos h4]
          exact ⟨Nat.le_add_right _ _, fun x hx => .inl hx⟩
        · rw [if_neg h4] at h ⊢
          cases h5 : Pm.fieldS (Pm.lineS l lim 5).2.1 with
          | none => rw [h5] at h; exact absurd (show (3 : Int) = 0 from h) (by decide)
          | some f' =>
            rw [h5] at h
            have hle := field_le (n := f'.1) (v := f'.2) h5
            obtain ⟨i1, i2⟩ := ih _ _ _ _ _ _ _ h
            simp only
            rw [List.length_append, List.length_singleton] at i1
            refine ⟨by omega, fun x hx => ?_⟩
            rcases i2 x hx with h6 | h6
            · rw [List.mem_append, List.mem_singleton] at h6
              rcases h6 with h6 | h6
              · exact .inl h6
              · subst h6; exact .inr (by omega)
            · exact .inr (by omega)

end Go.Proofs.YtnohadlihgjppaaDoor
