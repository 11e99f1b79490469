/- Texts that follow one another, joined. -/
import Derived.Test.YtnohadlihgjppaaDoorJoin25
/- Plain mathematics of patterns, second part: what a pattern's names stand for in a path. -/
namespace Go.Proofs.YtnohadlihgjppaaDoor

def hasL : List (List UInt8) → List (List UInt8) → Option (List Prm)
  | [], [] => some []
  | [], _ :: _ => none
  | _ :: _, [] => none
  | t :: r, x :: xs => if Pm.pieceK t = 2 then some [(⟨(Pm.pieceT t).toArray⟩, Pm.unT (joinL (x :: xs)))]
    else match hasL r xs with
      | none => none
      | some more => if Pm.pieceK t = 0 then (if (Pm.unT x).data.toList = t then some more else none) else if x = [] then none else some ((⟨(Pm.pieceT t).toArray⟩, Pm.unT x) :: more)
/- a rest is the last piece alone -/
def restLast : List (List UInt8) → Prop
  | [] => True
  | t :: r => (Pm.pieceK t = 2 → r = []) ∧ restLast r

theorem unesc_cut : ∀ (n : Nat) (a b o : List UInt8), a.length ≤ n → Pm.unesc (a ++ 47 :: b) = some o → (Pm.unesc a).isSome ∧ (Pm.unesc b).isSome
  | _, [], b, o, _, h => by
    rw [List.nil_append, Pm.unesc_plain _ _ (by decide)] at h
    refine ⟨by simp [Pm.unesc], ?_⟩
    cases hb : Pm.unesc b with
    | none => rw [hb] at h; cases h
    | some x => rfl
  | n + 1, c :: a, b, o, hn, h => by
    by_cases hc : c = 37
    · subst hc
      match a, hn, h with
      | [], _, h =>
        match b, h with
        | [], h => rw [List.cons_append, Pm.unesc_short _ (by simp)] at h; cases h
        | y :: b, h =>
          rw [List.cons_append, List.nil_append, Pm.unesc_esc] at h
          have hd : Pm.digsB 16 [47, y] = false := by
            have : ∀ y, Pm.digsB 16 [47, y] = false := fun y => by
              have := Pm.all256 (p := fun y => !(Pm.digsB 16 [47, y])) (by decide +kernel) y
              simpa using this
            exact this y
          rw [hd] at h; simp at h
      | [x], _, h =>
        rw [List.cons_append, List.cons_append, List.nil_append, Pm.unesc_esc] at h
        have hd : Pm.digsB 16 [x, 47] = false := by
          have := Pm.all256 (p := fun y => !(Pm.digsB 16 [y, 47])) (by decide +kernel) x
          simpa using this
        rw [hd] at h; simp at h
      | x :: y :: a, hn, h =>
        rw [List.cons_append, List.cons_append, List.cons_append, Pm.unesc_esc] at h
        rw [Pm.unesc_esc]
        cases hd : Pm.digsB 16 [x, y]
        · rw [hd] at h; simp at h
        · rw [hd, if_pos rfl] at h
          rw [if_pos rfl]
          cases hu : Pm.unesc (a ++ 47 :: b) with
          | none => rw [hu] at h; cases h
          | some o' =>
            obtain ⟨h1, h2⟩ := unesc_cut n a b o' (by simp at hn; omega) hu
            exact ⟨by rw [Option.isSome_map]; exact h1, h2⟩
    · rw [List.cons_append, Pm.unesc_plain _ _ hc] at h
      rw [Pm.unesc_plain _ _ hc]
      cases hu : Pm.unesc (a ++ 47 :: b) with
      | none => rw [hu] at h; cases h
      | some o' =>
        obtain ⟨h1, h2⟩ := unesc_cut n a b o' (by simp at hn; omega) hu
        exact ⟨by rw [Option.isSome_map]; exact h1, h2⟩
theorem unesc_nil : ∀ (l : List UInt8), Pm.unesc l = some [] → l = []
  | [], _ => rfl
  | c :: r, h => by
    by_cases hc : c = 37
    · subst hc
      match r, h with
      | [], h => rw [Pm.unesc_short _ (by simp)] at h; cases h
      | [x], h => rw [Pm.unesc_short _ (by simp)] at h; cases h
      | x :: y :: r, h =>
        rw [Pm.unesc_esc] at h
        split at h
        · cases hu : Pm.unesc r with
          | none => rw [hu] at h; cases h
          | some o => rw [hu] at h; simp at h
        · cases h
    · rw [Pm.unesc_plain _ _ hc] at h
      cases hu : Pm.unesc r with
      | none => rw [hu] at h; cases h
      | some o => rw [hu] at h; simp at h
theorem unT_empty {x : List UInt8} (h : (Pm.unesc x).isSome) : (Pm.unT x).toList.isEmpty = x.isEmpty := by
  obtain ⟨o, ho⟩ := Option.isSome_iff_exists.mp h
  rw [Pm.unT_some ho, ByteArray.toList_eq]
  cases o with
  | nil => rw [unesc_nil x ho]
  | cons a b =>
    cases x with
    | nil => simp [Pm.unesc] at ho
    | cons => rfl
theorem split_ne (l : List UInt8) : ∃ x xs, Lib.split l [47] = x :: xs := by
  rcases Pm.behind_cases 47 l with h | ⟨r, h⟩
  · exact ⟨_, _, Pm.split_none h⟩
  · exact ⟨_, _, Pm.split_some h⟩
theorem joinL_cons (a b : List UInt8) (r : List (List UInt8)) : joinL (a :: b :: r) = a ++ 47 :: joinL (b :: r) := by simp [joinL]
theorem join_split : ∀ (n : Nat) (l : List UInt8), l.length ≤ n → joinL (Lib.split l [47]) = l
  | n, l, hn => by
    rcases Pm.behind_cases 47 l with h | ⟨r, h⟩
    · rw [Pm.split_none h]; simp [joinL]
    · have h1 := Pm.ahead_behind 47 l
      rw [h] at h1
      have h2 := congrArg List.length h1
      rw [List.length_append, List.length_cons] at h2
      match n, hn with
      | 0, hn => omega
      | n + 1, hn =>
        have ih := join_split n r (by omega)
        rw [Pm.split_some h]
        obtain ⟨x, xs, hx⟩ := split_ne r
        rw [hx] at ih ⊢
        rw [joinL_cons, ih, h1]
theorem match_has : ∀ (ts : List (List UInt8)) (l : List UInt8) (acc : List Prm), restLast ts → (Pm.unesc l).isSome →
    matchB (ts.map pcB) l true acc = (hasL ts (Lib.split l [47])).map (fun m => acc ++ m)
  | [], l, acc, _, _ => by
    obtain ⟨x, xs, hx⟩ := split_ne l
    rw [hx]; rfl
  | t :: r, l, acc, hr, hu => by
    rw [List.map_cons, matchB, if_neg (by simp)]
    unfold rawOf leftOf moreOf
    have hp1 : (pcB t).1 = Pm.pieceK t := rfl
    have hp2 : (pcB t).2 = ⟨(Pm.pieceT t).toArray⟩ := rfl
    rw [hp1, hp2]
    by_cases h2 : Pm.pieceK t = 2
    · have htk : tk (Pm.pieceK t) ⟨(Pm.pieceT t).toArray⟩ (Pm.unT l) = true := by unfold tk; rw [h2]; rfl
      have hn : Pm.pieceK t ≠ 0 := by omega
      rw [if_pos h2, htk, if_pos rfl, if_pos h2, if_pos h2, if_neg hn, hr.1 h2]
      obtain ⟨x, xs, hx⟩ := split_ne l
      have hj := join_split _ l (Nat.le_refl _)
      rw [hx] at hj ⊢
      rw [hasL, if_pos h2, hj]; rfl
    · rw [if_neg h2, if_neg h2, if_neg h2]
      have key : ∀ (x : List UInt8) (xs : List (List UInt8)), (Pm.unesc x).isSome → Pm.ahead 47 l = x → Lib.split l [47] = x :: xs →
          (∀ acc', matchB (r.map pcB) ((Pm.behind 47 l).drop 1) (!(Pm.behind 47 l).isEmpty) acc' = (hasL r xs).map (fun m => acc' ++ m)) →
          (if tk (Pm.pieceK t) ⟨(Pm.pieceT t).toArray⟩ (Pm.unT (Pm.ahead 47 l)) = true then matchB (r.map pcB) ((Pm.behind 47 l).drop 1) (!(Pm.behind 47 l).isEmpty) (if Pm.pieceK t = 0 then acc else acc ++ [(⟨(Pm.pieceT t).toArray⟩, Pm.unT (Pm.ahead 47 l))]) else none) = (hasL (t :: r) (Lib.split l [47])).map (fun m => acc ++ m) := by
        intro x xs hx ha hs hi
        rw [ha, hs, hi, hasL, if_neg h2]
        unfold tk
        by_cases h0 : Pm.pieceK t = 0
        · rw [if_pos h0, if_pos h0, pieceT_fix h0, ByteArray.toList_eq, ByteArray.toList_eq]
          cases hm : hasL r xs with
          | none => simp
          | some more =>
            by_cases he : (Pm.unT x).data.toList = t
            · simp [he, h0]
            · simp [he, h0]
        · have h1 : Pm.pieceK t = 1 := by rcases kind_cases t with h | h | h <;> omega
          rw [if_neg h0, if_pos h1, if_neg h0, unT_empty hx]
          cases hm : hasL r xs with
          | none => simp
          | some more =>
            cases x with
            | nil => simp [h0]
            | cons a b => simp [h0]
      rcases Pm.behind_cases 47 l with h | ⟨b, h⟩
      · have ha : Pm.ahead 47 l = l := by
          have := Pm.ahead_behind 47 l
          rw [h, List.append_nil] at this; exact this
        refine key l [] hu ha (Pm.split_none h) (fun acc' => ?_)
        rw [h]
        cases r with
        | nil => simp [matchB, hasL]
        | cons a b => simp [matchB, hasL]
      · have h1 := Pm.ahead_behind 47 l
        rw [h] at h1
        obtain ⟨o, ho⟩ := Option.isSome_iff_exists.mp hu
        rw [← h1] at ho
        obtain ⟨u1, u2⟩ := unesc_cut _ _ _ _ (Nat.le_refl _) ho
        refine key _ _ u1 rfl (Pm.split_some h) (fun acc' => ?_)
        rw [h]
        exact match_has r b acc' hr.2 u2
end Go.Proofs.YtnohadlihgjppaaDoor

/- Plain mathematics of patterns, third part: two patterns have a path in common just if their pieces meet one by one. -/
namespace Go.Proofs.YtnohadlihgjppaaDoor

def tkL (p s : List UInt8) : Bool := if Pm.pieceK p = 0 then p == s else ((Pm.pieceK p == 2) || !s.isEmpty)
def fits (x y t : List UInt8) : Bool := (tkL x t && tkL y t) && (Pm.pieceK t == 0)
def fnd (x y : List UInt8) : Option (List UInt8) := if fits x y x = true then some x else if fits x y y = true then some y else if fits x y [120] = true then some [120] else none
def xAt (A : List (List UInt8)) (i : Nat) : List UInt8 := if i < A.length then A.getD i [] else A.getD (A.length - 1) []
def cmn (A B : List (List UInt8)) : Nat → Option (List (List UInt8))
  | 0 => some []
  | k + 1 => match cmn A B k with
    | none => none
    | some l => match fnd (xAt A k) (xAt B k) with
      | none => none
      | some c => some (l ++ [c])
def flatP (cs : List (List UInt8)) : List UInt8 := cs.flatMap (fun c => 47 :: c)
def cmnB (A B : List (List UInt8)) : Bool := match cmn A B (max A.length B.length) with
  | none => false
  | some cs => (hasL A (pcs (flatP cs))).isSome && (hasL B (pcs (flatP cs))).isSome
/- the pieces of a pattern: those that are fixed have right bytes; a rest is the last one -/
def pieces (A : List (List UInt8)) : Prop := restLast A ∧ ∀ t ∈ A, Pm.pieceK t = 0 → Pm.allP Pm.fixB t = true
/- a text that stands for itself, with no slash -/
def clean (c : List UInt8) : Prop := Pm.unT c = ⟨c.toArray⟩ ∧ Pm.behind 47 c = []

theorem getD_at (l : List (List UInt8)) (d : List UInt8) (i : Nat) (h : i < l.length) : l.getD i d = l[i] := by
  rw [List.getD_eq_getElem?_getD, List.getElem?_eq_getElem h]; rfl
theorem fix_not (c : UInt8) (h : Pm.fixB c = true) : c ≠ 37 ∧ c ≠ 47 := by
  constructor <;> (rintro rfl; revert h; decide)
theorem clean_fix : ∀ (c : List UInt8), Pm.allP Pm.fixB c = true → clean c
  | [], _ => ⟨by simp [Pm.unT, Pm.unesc], by simp [Pm.behind]⟩
  | a :: r, h => by
    unfold Pm.allP at h
    rw [List.all_cons, Bool.and_eq_true] at h
    obtain ⟨h1, h2⟩ := fix_not a h.1
    have hu : ∀ l : List UInt8, Pm.allP Pm.fixB l = true → Pm.unesc l = some l := by
      intro l
      induction l with
      | nil => intro _; simp [Pm.unesc]
      | cons b l ih =>
        intro hl
        unfold Pm.allP at hl
        rw [List.all_cons, Bool.and_eq_true] at hl
        rw [Pm.unesc_plain _ _ (fix_not b hl.1).1, ih hl.2]; rfl
    refine ⟨Pm.unT_some (hu _ (by unfold Pm.allP; rw [List.all_cons, h.1, h.2]; rfl)), ?_⟩
    unfold Pm.behind
    rw [List.dropWhile_cons_of_pos (by simpa using h2)]
    exact (clean_fix r h.2).2
theorem fits_cases {x y c : List UInt8} (h : fnd x y = some c) : fits x y c = true ∧ (c = x ∨ c = y ∨ c = [120]) := by
  unfold fnd at h
  split at h
  · rename_i h1; cases h; exact ⟨h1, Or.inl rfl⟩
  · split at h
    · rename_i h1; cases h; exact ⟨h1, Or.inr (Or.inl rfl)⟩
    · split at h
      · rename_i h1; cases h; exact ⟨h1, Or.inr (Or.inr rfl)⟩
      · cases h
theorem xAt_mem {A : List (List UInt8)} (h : A ≠ []) (i : Nat) : xAt A i ∈ A := by
  have hl : 0 < A.length := List.length_pos_iff.mpr h
  unfold xAt
  split
  · rename_i hi; rw [getD_at _ _ _ hi]; exact List.getElem_mem hi
  · rw [getD_at _ _ _ (by omega)]; exact List.getElem_mem _
theorem fnd_clean {A B : List (List UInt8)} (ha : A ≠ []) (hb : B ≠ []) (hA : pieces A) (hB : pieces B) {i : Nat} {c : List UInt8} (h : fnd (xAt A i) (xAt B i) = some c) : clean c := by
  obtain ⟨h1, h2⟩ := fits_cases h
  have hk : Pm.pieceK c = 0 := by
    unfold fits at h1
    rw [Bool.and_eq_true] at h1
    simpa using h1.2
  apply clean_fix
  rcases h2 with rfl | rfl | rfl
  · exact hA.2 _ (xAt_mem ha i) hk
  · exact hB.2 _ (xAt_mem hb i) hk
  · decide +kernel
theorem cmn_clean {A B : List (List UInt8)} (ha : A ≠ []) (hb : B ≠ []) (hA : pieces A) (hB : pieces B) : ∀ (k : Nat) (cs : List (List UInt8)), cmn A B k = some cs → cs.length = k ∧ ∀ c ∈ cs, clean c
  | 0, cs, h => by rw [cmn] at h; cases h; simp
  | k + 1, cs, h => by
    rw [cmn] at h
    cases hc : cmn A B k with
    | none => rw [hc] at h; cases h
    | some l =>
      rw [hc] at h
      simp only at h
      cases hf : fnd (xAt A k) (xAt B k) with
      | none => rw [hf] at h; cases h
      | some c =>
        rw [hf] at h; simp only at h; cases h
        obtain ⟨i1, i2⟩ := cmn_clean ha hb hA hB k l hc
        refine ⟨by simp [i1], fun c' hc' => ?_⟩
        rcases List.mem_append.mp hc' with h | h
        · exact i2 _ h
        · rw [List.mem_singleton.mp h]; exact fnd_clean ha hb hA hB hf
theorem ahead_clean {c r : List UInt8} (h : Pm.behind 47 c = []) : Pm.ahead 47 (c ++ 47 :: r) = c ∧ Pm.behind 47 (c ++ 47 :: r) = 47 :: r := by
  induction c with
  | nil => simp [Pm.ahead, Pm.behind]
  | cons a c ih =>
    have ha : a ≠ 47 := by
      rintro rfl; simp [Pm.behind] at h
    have h' : Pm.behind 47 c = [] := by
      unfold Pm.behind at h ⊢
      rw [List.dropWhile_cons_of_pos (by simpa using ha)] at h; exact h
    obtain ⟨i1, i2⟩ := ih h'
    unfold Pm.ahead Pm.behind at *
    rw [List.cons_append, List.takeWhile_cons_of_pos (by simpa using ha), List.dropWhile_cons_of_pos (by simpa using ha), i1, i2]
    exact ⟨rfl, rfl⟩
theorem pcs_flat : ∀ (cs : List (List UInt8)), (∀ c ∈ cs, clean c) → pcs (flatP cs) = cs
  | [], _ => rfl
  | c :: r, h => by
    have hc := (h c (by simp)).2
    have hr := pcs_flat r (fun x hx => h x (by simp [hx]))
    have he : flatP (c :: r) = 47 :: (c ++ flatP r) := by simp [flatP]
    rw [he, pcs_step (by simp), List.drop_one, List.tail_cons]
    cases r with
    | nil =>
      have e : flatP [] = [] := rfl
      have ha : Pm.ahead 47 c = c := by
        have := Pm.ahead_behind 47 c
        rw [hc, List.append_nil] at this; exact this
      rw [e, List.append_nil, ha, hc]; rfl
    | cons b r =>
      have e : flatP (b :: r) = 47 :: (b ++ flatP r) := by simp [flatP]
      rw [e] at hr ⊢
      obtain ⟨h1, h2⟩ := ahead_clean (r := b ++ flatP r) hc
      rw [h1, h2, hr]

/- whoever both have a path meet -/
def full (c : List UInt8) : Prop := (Pm.unT c).data.toList = [] → c = []
theorem clean_full {c : List UInt8} (h : clean c) : full c := fun h' => by rw [h.1] at h'; exact h'
theorem meet_had : ∀ (A B cs : List (List UInt8)), (∀ c ∈ cs, full c) → (hasL A cs).isSome → (hasL B cs).isSome → ovl (A.map pcB) (B.map pcB) = true
  | [], [], _, _, _, _ => rfl
  | [], b :: B, [], _, _, h => by simp [hasL] at h
  | [], b :: B, c :: cs, _, h, _ => by simp [hasL] at h
  | a :: A, [], [], _, h, _ => by simp [hasL] at h
  | a :: A, [], c :: cs, _, _, h => by simp [hasL] at h
  | a :: A, b :: B, [], _, h, _ => by simp [hasL] at h
  | a :: A, b :: B, c :: cs, hc, h1, h2 => by
    rw [List.map_cons, List.map_cons, ovl]
    have ea : (pcB a).1 = Pm.pieceK a := rfl
    have eb : (pcB b).1 = Pm.pieceK b := rfl
    rw [ea, eb]
    by_cases hr : Pm.pieceK a = 2 ∨ Pm.pieceK b = 2
    · rw [if_pos hr]
    · rw [if_neg hr]
      have na : Pm.pieceK a ≠ 2 := fun h => hr (Or.inl h)
      have nb : Pm.pieceK b ≠ 2 := fun h => hr (Or.inr h)
      rw [hasL, if_neg na] at h1
      rw [hasL, if_neg nb] at h2
      cases e1 : hasL A cs with
      | none => rw [e1] at h1; cases h1
      | some m1 =>
        cases e2 : hasL B cs with
        | none => rw [e2] at h2; cases h2
        | some m2 =>
          rw [e1] at h1; rw [e2] at h2
          simp only at h1 h2
          have ih := meet_had A B cs (fun x hx => hc x (by simp [hx])) (by rw [e1]; rfl) (by rw [e2]; rfl)
          have hu : c ≠ [] → (Pm.unT c).data.toList ≠ [] := fun h h' => h (hc c (by simp) h')
          rw [ih]
          have hm : mt (pcB a) (pcB b) = true := by
            unfold mt tk
            rw [ea, eb]
            have ta : (pcB a).2 = ⟨(Pm.pieceT a).toArray⟩ := rfl
            have tb : (pcB b).2 = ⟨(Pm.pieceT b).toArray⟩ := rfl
            rw [ta, tb, ByteArray.toList_eq, ByteArray.toList_eq]
            by_cases ka : Pm.pieceK a = 0
            · rw [if_pos ka] at h1 ⊢
              have hca : (Pm.unT c).data.toList = a := by
                split at h1
                · assumption
                · cases h1
              rw [hca] at h2 hu
              rw [pieceT_fix ka]
              by_cases kb : Pm.pieceK b = 0
              · rw [if_pos kb] at h2 ⊢
                rw [pieceT_fix kb]
                split at h2
                · rename_i h; rw [h]; simp
                · cases h2
              · have kb1 : Pm.pieceK b = 1 := by rcases kind_cases b with h | h | h <;> omega
                rw [if_neg kb] at h2 ⊢
                rw [if_pos kb1]
                have hcn : c ≠ [] := by rintro rfl; simp at h2
                have := hu hcn
                cases a with
                | nil => exact absurd rfl this
                | cons => rfl
            · have ka1 : Pm.pieceK a = 1 := by rcases kind_cases a with h | h | h <;> omega
              rw [if_neg ka] at h1 ⊢
              by_cases kb : Pm.pieceK b = 0
              · rw [if_pos kb] at h2
                rw [kb, pieceT_fix kb, if_neg ka, if_pos ka1]
                have hcb : (Pm.unT c).data.toList = b := by
                  split at h2
                  · assumption
                  · cases h2
                rw [hcb] at hu
                have hcn : c ≠ [] := by rintro rfl; simp at h1
                have := hu hcn
                cases b with
                | nil => exact absurd rfl this
                | cons => rfl
              · have kb1 : Pm.pieceK b = 1 := by rcases kind_cases b with h | h | h <;> omega
                rw [kb1]; rfl
          rw [if_pos hm]

/- what a piece is told by, where a rest or nothing stands against it -/
def self (y : List UInt8) : List UInt8 := if Pm.pieceK y = 0 then y else [120]
theorem kind_x : Pm.pieceK [120] = 0 := by decide
theorem self_kind (y : List UInt8) : Pm.pieceK (self y) = 0 := by
  unfold self; split
  · assumption
  · exact kind_x
theorem tk_self (y : List UInt8) : tkL y (self y) = true := by
  unfold tkL self
  split
  · simp
  · simp
theorem fnd_rest {p y : List UInt8} (h : Pm.pieceK p = 2) : fnd p y = some (self y) ∧ fnd y p = some (self y) := by
  have hp : ∀ t, tkL p t = true := fun t => by unfold tkL; rw [if_neg (by omega), h]; rfl
  have f1 : ∀ t, fits p y t = (tkL y t && (Pm.pieceK t == 0)) := fun t => by unfold fits; rw [hp, Bool.true_and]
  have f2 : ∀ t, fits y p t = (tkL y t && (Pm.pieceK t == 0)) := fun t => by unfold fits; rw [hp, Bool.and_true]
  have kp : (Pm.pieceK p == 0) = false := by rw [h]; rfl
  unfold fnd
  rw [f1, f1, f1, f2, f2, f2, kp, Bool.and_false]
  by_cases ky : Pm.pieceK y = 0
  · have t1 : tkL y y = true := by have := tk_self y; unfold self at this; rwa [if_pos ky] at this
    have e : self y = y := by unfold self; rw [if_pos ky]
    rw [t1, ky, e]; simp
  · have e : self y = [120] := by unfold self; rw [if_neg ky]
    have t1 : tkL y [120] = true := by rw [← e]; exact tk_self y
    have kk : (Pm.pieceK y == 0) = false := by rw [beq_eq_false_iff_ne]; exact ky
    rw [t1, kk, kind_x, e]; simp
theorem had_self : ∀ (B : List (List UInt8)), pieces B → (∀ c ∈ B.map self, clean c) → (hasL B (B.map self)).isSome
  | [], _, _ => rfl
  | b :: B, h, hc => by
    rw [List.map_cons, hasL]
    by_cases h2 : Pm.pieceK b = 2
    · rw [if_pos h2]; rfl
    · rw [if_neg h2]
      have ih := had_self B ⟨h.1.2, fun t ht => h.2 t (by simp [ht])⟩ (fun c hx => hc c (by rw [List.map_cons]; simp only [List.mem_cons]; exact Or.inr hx))
      obtain ⟨m, hm⟩ := Option.isSome_iff_exists.mp ih
      rw [hm]
      simp only
      have hu : (Pm.unT (self b)).data.toList = self b := by rw [(hc (self b) (by simp)).1]
      rw [hu]
      unfold self
      by_cases h0 : Pm.pieceK b = 0
      · rw [if_pos h0, if_pos h0, if_pos rfl]; rfl
      · rw [if_neg h0, if_neg h0]; simp
theorem self_clean {B : List (List UInt8)} (h : pieces B) : ∀ c ∈ B.map self, clean c := fun c hc => by
  obtain ⟨y, hy, rfl⟩ := List.mem_map.mp hc
  apply clean_fix
  unfold self
  split
  · rename_i hk; exact h.2 y hy hk
  · decide +kernel
theorem xAt_succ {a : List UInt8} {A : List (List UInt8)} (h : A ≠ []) (i : Nat) : xAt (a :: A) (i + 1) = xAt A i := by
  have hl : 0 < A.length := List.length_pos_iff.mpr h
  unfold xAt
  by_cases hi : i < A.length
  · rw [if_pos (by simpa using hi), if_pos hi, List.getD_cons_succ]
  · rw [if_neg (by simpa using hi), if_neg hi, List.length_cons]
    rw [show A.length + 1 - 1 = (A.length - 1) + 1 from by omega, List.getD_cons_succ]
theorem xAt_one (a : List UInt8) (i : Nat) : xAt [a] i = a := by
  unfold xAt
  split
  · rename_i h; obtain rfl : i = 0 := by simpa using h
    rfl
  · rfl
theorem xAt_self (B : List (List UInt8)) (i : Nat) (h : i < B.length) : xAt B i = B[i] := by
  unfold xAt; rw [if_pos h, getD_at _ _ _ h]
/- who meet have a path in common -/
theorem had_meet : ∀ (A B : List (List UInt8)), A ≠ [] → B ≠ [] → pieces A → pieces B → ovl (A.map pcB) (B.map pcB) = true →
    ∃ cs : List (List UInt8), cs.length = max A.length B.length ∧ (∀ i (h : i < cs.length), fnd (xAt A i) (xAt B i) = some cs[i]) ∧ (hasL A cs).isSome ∧ (hasL B cs).isSome
  | [], _, h, _, _, _, _ => absurd rfl h
  | _ :: _, [], _, h, _, _, _ => absurd rfl h
  | a :: A, b :: B, _, _, hA, hB, ho => by
    by_cases ra : Pm.pieceK a = 2
    · obtain rfl := hA.1.1 ra
      refine ⟨(b :: B).map self, by simp, fun i hi => ?_, ?_, had_self _ hB (self_clean hB)⟩
      · rw [xAt_one, List.getElem_map, xAt_self _ _ (by simpa using hi)]; exact (fnd_rest ra).1
      · rw [List.map_cons, hasL, if_pos ra]; rfl
    · by_cases rb : Pm.pieceK b = 2
      · obtain rfl := hB.1.1 rb
        refine ⟨(a :: A).map self, by simp, fun i hi => ?_, had_self _ hA (self_clean hA), ?_⟩
        · rw [xAt_one, List.getElem_map, xAt_self _ _ (by simpa using hi)]; exact (fnd_rest rb).2
        · rw [List.map_cons, hasL, if_pos rb]; rfl
      · rw [List.map_cons, List.map_cons, ovl] at ho
        have ea : (pcB a).1 = Pm.pieceK a := rfl
        have eb : (pcB b).1 = Pm.pieceK b := rfl
        rw [ea, eb, if_neg (by rintro (h | h) <;> contradiction)] at ho
        split at ho
        · rename_i hm
          have hc : ∃ c, fnd a b = some c ∧ clean c ∧ (if Pm.pieceK a = 0 then c = a else c ≠ []) ∧ (if Pm.pieceK b = 0 then c = b else c ≠ []) := by
            unfold mt tk at hm
            rw [ea, eb] at hm
            have ta : (pcB a).2 = ⟨(Pm.pieceT a).toArray⟩ := rfl
            have tb : (pcB b).2 = ⟨(Pm.pieceT b).toArray⟩ := rfl
            rw [ta, tb, ByteArray.toList_eq, ByteArray.toList_eq] at hm
            unfold fnd fits tkL
            by_cases ka : Pm.pieceK a = 0
            · rw [if_pos ka] at hm
              rw [pieceT_fix ka] at hm
              have ca := clean_fix a (hA.2 a (by simp) ka)
              by_cases kb : Pm.pieceK b = 0
              · rw [if_pos kb, pieceT_fix kb] at hm
                have hab : a = b := by simpa using hm
                subst hab
                exact ⟨a, by simp [ka], ca, by simp [ka], by simp [ka]⟩
              · have kb1 : Pm.pieceK b = 1 := by rcases kind_cases b with h | h | h <;> omega
                rw [if_neg kb, if_pos kb1] at hm
                have hae : a ≠ [] := by rintro rfl; simp at hm
                exact ⟨a, by simp [ka, kb1, hae], ca, by simp [ka], by simp [kb1, hae]⟩
            · have ka1 : Pm.pieceK a = 1 := by rcases kind_cases a with h | h | h <;> omega
              rw [if_neg ka] at hm
              by_cases kb : Pm.pieceK b = 0
              · rw [kb, pieceT_fix kb, if_neg ka, if_pos ka1] at hm
                have hbe : b ≠ [] := by rintro rfl; simp at hm
                have cb := clean_fix b (hB.2 b (by simp) kb)
                exact ⟨b, by simp [ka1, kb, hbe], cb, by simp [ka1, hbe], by simp [kb]⟩
              · have kb1 : Pm.pieceK b = 1 := by rcases kind_cases b with h | h | h <;> omega
                exact ⟨[120], by simp [ka1, kb1, kind_x], clean_fix _ (by decide +kernel), by simp [ka1], by simp [kb1]⟩
          obtain ⟨c, hf, hcl, c1, c2⟩ := hc
          have hu : (Pm.unT c).data.toList = c := by rw [hcl.1]
          have step : ∀ (t : List UInt8) (T cs : List (List UInt8)), Pm.pieceK t ≠ 2 → (if Pm.pieceK t = 0 then c = t else c ≠ []) → (hasL T cs).isSome → (hasL (t :: T) (c :: cs)).isSome := by
            intro t T cs h2 hc hs
            obtain ⟨m, hm⟩ := Option.isSome_iff_exists.mp hs
            rw [hasL, if_neg h2, hm]
            simp only [hu]
            by_cases h0 : Pm.pieceK t = 0
            · rw [if_pos h0] at hc ⊢; rw [if_pos hc]; rfl
            · rw [if_neg h0] at hc ⊢; rw [if_neg hc]; rfl
          cases A with
          | nil =>
            cases B with
            | nil =>
              refine ⟨[c], rfl, fun i hi => ?_, step _ _ _ ra c1 rfl, step _ _ _ rb c2 rfl⟩
              obtain rfl : i = 0 := by simpa using hi
              rw [xAt_one, xAt_one]; exact hf
            | cons b' B => simp [ovl] at ho
          | cons a' A =>
            cases B with
            | nil => simp [ovl] at ho
            | cons b' B =>
              obtain ⟨cs, l1, l2, l3, l4⟩ := had_meet (a' :: A) (b' :: B) (by simp) (by simp) ⟨hA.1.2, fun t ht => hA.2 t (by simp only [List.mem_cons] at ht ⊢; exact Or.inr ht)⟩ ⟨hB.1.2, fun t ht => hB.2 t (by simp only [List.mem_cons] at ht ⊢; exact Or.inr ht)⟩ ho
              refine ⟨c :: cs, by simp only [List.length_cons] at l1 ⊢; omega, fun i hi => ?_, step _ _ _ ra c1 l3, step _ _ _ rb c2 l4⟩
              match i, hi with
              | 0, _ => exact hf
              | i + 1, hi =>
                rw [xAt_succ (by simp), xAt_succ (by simp), List.getElem_cons_succ]
                exact l2 i (by simpa using hi)
        · cases ho
theorem cmn_of (A B : List (List UInt8)) (cs : List (List UInt8)) (h : ∀ i (h : i < cs.length), fnd (xAt A i) (xAt B i) = some cs[i]) : ∀ k, k ≤ cs.length → cmn A B k = some (cs.take k)
  | 0, _ => by rw [cmn, List.take_zero]
  | k + 1, hk => by
    rw [cmn, cmn_of A B cs h k (by omega)]
    simp only
    rw [h k (by omega)]
    simp only
    rw [List.take_add_one, List.getElem?_eq_getElem (by omega)]; rfl
theorem common_meet {A B : List (List UInt8)} (ha : A ≠ []) (hb : B ≠ []) (hA : pieces A) (hB : pieces B) : cmnB A B = ovl (A.map pcB) (B.map pcB) := by
  rw [Bool.eq_iff_iff]
  constructor
  · intro h
    unfold cmnB at h
    cases hc : cmn A B (max A.length B.length) with
    | none => rw [hc] at h; cases h
    | some cs =>
      rw [hc] at h
      obtain ⟨_, h2⟩ := cmn_clean ha hb hA hB _ _ hc
      simp only [pcs_flat cs h2, Bool.and_eq_true] at h
      exact meet_had A B cs (fun c hc => clean_full (h2 c hc)) h.1 h.2
  · intro h
    obtain ⟨cs, l1, l2, l3, l4⟩ := had_meet A B ha hb hA hB h
    have hc := cmn_of A B cs l2 cs.length (Nat.le_refl _)
    rw [List.take_length, l1] at hc
    obtain ⟨_, h2⟩ := cmn_clean ha hb hA hB _ _ hc
    unfold cmnB
    rw [hc]
    simp only
    rw [pcs_flat cs h2, l3, l4]; rfl
end Go.Proofs.YtnohadlihgjppaaDoor
