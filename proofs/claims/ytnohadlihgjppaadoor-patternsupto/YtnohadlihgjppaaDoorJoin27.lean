/- Texts that follow one another, joined. -/
import Derived.Test.YtnohadlihgjppaaDoorJoin26
/- Plain mathematics of patterns, fourth part: the path that is put together of two patterns' pieces. -/
namespace Go.Proofs.YtnohadlihgjppaaDoor

def shC (x y : List UInt8) : List UInt8 := if Pm.pieceK x = 0 then x else if Pm.pieceK y = 0 then y else [120]
def atL (A : List (List UInt8)) (i : Nat) : List UInt8 := if i < A.length then A.getD i [] else if Pm.pieceK (A.getD (A.length - 1) []) = 2 then A.getD (A.length - 1) [] else [45]
def shL (A B : List (List UInt8)) (n : Nat) : List (List UInt8) := (List.range n).map (fun i => shC (atL A i) (atL B i))
theorem fnd_sh {x y c : List UInt8} (h : fnd x y = some c) : c = shC x y := by
  obtain ⟨h1, h2⟩ := fits_cases h
  unfold fits at h1
  simp only [Bool.and_eq_true, beq_iff_eq] at h1
  obtain ⟨⟨t1, t2⟩, hk⟩ := h1
  unfold shC
  by_cases kx : Pm.pieceK x = 0
  · rw [if_pos kx]
    unfold tkL at t1
    rw [if_pos kx] at t1
    exact (by simpa using t1 : x = c).symm
  · rw [if_neg kx]
    by_cases ky : Pm.pieceK y = 0
    · rw [if_pos ky]
      unfold tkL at t2
      rw [if_pos ky] at t2
      exact (by simpa using t2 : y = c).symm
    · rw [if_neg ky]
      rcases h2 with rfl | rfl | rfl
      · exact absurd hk kx
      · exact absurd hk ky
      · rfl
theorem last_cons (a b : List UInt8) (A : List (List UInt8)) : (a :: b :: A).getD ((a :: b :: A).length - 1) [] = (b :: A).getD ((b :: A).length - 1) [] := by
  simp only [List.length_cons, Nat.add_sub_cancel]
  rw [List.getD_cons_succ]
theorem ovl_short : ∀ (A B : List (List UInt8)), A ≠ [] → restLast A → restLast B → ovl (A.map pcB) (B.map pcB) = true → A.length < B.length → Pm.pieceK (A.getD (A.length - 1) []) = 2
  | [], _, h, _, _, _, _ => absurd rfl h
  | _ :: _, [], _, _, _, _, hl => absurd hl (by simp)
  | a :: A, b :: B, _, hA, hB, ho, hl => by
    by_cases ra : Pm.pieceK a = 2
    · obtain rfl := hA.1 ra
      exact ra
    · have rb : Pm.pieceK b ≠ 2 := fun h => by
        have := hB.1 h
        rw [this] at hl; simp at hl
      rw [List.map_cons, List.map_cons, ovl] at ho
      have n1 : ¬ ((pcB a).1 = 2 ∨ (pcB b).1 = 2) := fun h => h.elim ra rb
      rw [if_neg n1] at ho
      split at ho
      · cases A with
        | nil =>
          cases B with
          | nil => simp at hl
          | cons b' B => simp [ovl] at ho
        | cons a' A =>
          rw [last_cons]
          exact ovl_short (a' :: A) B (by simp) hA.2 hB.2 ho (by simp only [List.length_cons] at hl ⊢; omega)
      · cases ho
theorem ovl_symm : ∀ (A B : List (List UInt8)), ovl (A.map pcB) (B.map pcB) = ovl (B.map pcB) (A.map pcB)
  | [], [] => rfl
  | [], b :: B => rfl
  | a :: A, [] => rfl
  | a :: A, b :: B => by
    rw [List.map_cons, List.map_cons, ovl, ovl]
    have ea : (pcB a).1 = Pm.pieceK a := rfl
    have eb : (pcB b).1 = Pm.pieceK b := rfl
    rw [ea, eb]
    by_cases ra : Pm.pieceK a = 2
    · rw [if_pos (Or.inl ra), if_pos (Or.inr ra)]
    · by_cases rb : Pm.pieceK b = 2
      · rw [if_pos (Or.inr rb), if_pos (Or.inl rb)]
      · have hm : mt (pcB a) (pcB b) = mt (pcB b) (pcB a) := by
          unfold mt tk
          rw [ea, eb]
          have ta : (pcB a).2 = ⟨(Pm.pieceT a).toArray⟩ := rfl
          have tb : (pcB b).2 = ⟨(Pm.pieceT b).toArray⟩ := rfl
          rw [ta, tb, ByteArray.toList_eq, ByteArray.toList_eq]
          rcases kind_cases a with ka | ka | ka
          · rcases kind_cases b with kb | kb | kb
            · simp only [ka, kb]
              simp only [if_true]
              rw [Bool.eq_iff_iff, beq_iff_eq, beq_iff_eq]; exact ⟨Eq.symm, Eq.symm⟩
            · simp [ka, kb]
            · exact absurd kb rb
          · rcases kind_cases b with kb | kb | kb
            · simp [ka, kb]
            · simp [ka, kb]
            · exact absurd kb rb
          · exact absurd ka ra
        have n1 : ¬ (Pm.pieceK a = 2 ∨ Pm.pieceK b = 2) := fun h => h.elim ra rb
        have n2 : ¬ (Pm.pieceK b = 2 ∨ Pm.pieceK a = 2) := fun h => h.elim rb ra
        rw [if_neg n1, if_neg n2, hm, ovl_symm A B]
theorem ovl_self : ∀ (A : List (List UInt8)), ovl (A.map pcB) (A.map pcB) = true
  | [] => rfl
  | a :: A => by
    rw [List.map_cons, ovl]
    split
    · rfl
    · rename_i h
      have ea : (pcB a).1 = Pm.pieceK a := rfl
      have hm : mt (pcB a) (pcB a) = true := by
        unfold mt tk
        rw [ea]
        rcases kind_cases a with ka | ka | ka
        · simp [ka]
        · simp [ka]
        · exact absurd (Or.inl ka) h
      rw [if_pos hm]; exact ovl_self A
theorem xAt_atL {A B : List (List UInt8)} (ha : A ≠ []) (hA : pieces A) (hB : pieces B) (ho : ovl (A.map pcB) (B.map pcB) = true) (i : Nat) (hi : i < max A.length B.length) : atL A i = xAt A i := by
  unfold atL xAt
  by_cases h : i < A.length
  · rw [if_pos h, if_pos h]
  · rw [if_neg h, if_neg h, if_pos (ovl_short A B ha hA.1 hB.1 ho (by omega))]
/- the path that two patterns have if they have one at all -/
theorem sh_clean {A B : List (List UInt8)} (ha : A ≠ []) (hb : B ≠ []) (hA : pieces A) (hB : pieces B) (n : Nat) : ∀ c ∈ shL A B n, clean c := fun c hc => by
  unfold shL at hc
  obtain ⟨i, _, rfl⟩ := List.mem_map.mp hc
  apply clean_fix
  have key : ∀ (T : List (List UInt8)), T ≠ [] → pieces T → Pm.pieceK (atL T i) = 0 → Pm.allP Pm.fixB (atL T i) = true := fun T hT hp hk => by
    have hl : 0 < T.length := List.length_pos_iff.mpr hT
    unfold atL at hk ⊢
    split
    · rename_i h
      rw [if_pos h] at hk
      rw [getD_at _ _ _ h] at hk ⊢
      exact hp.2 _ (List.getElem_mem h) hk
    · rename_i h
      rw [if_neg h] at hk
      split
      · rename_i h2
        rw [if_pos h2] at hk; omega
      · decide +kernel
  unfold shC
  split
  · rename_i h; exact key A ha hA h
  · split
    · rename_i h; exact key B hb hB h
    · decide +kernel
theorem sh_had {A B : List (List UInt8)} (ha : A ≠ []) (hb : B ≠ []) (hA : pieces A) (hB : pieces B) :
    ((hasL A (shL A B (max A.length B.length))).isSome && (hasL B (shL A B (max A.length B.length))).isSome) = ovl (A.map pcB) (B.map pcB) := by
  rw [Bool.eq_iff_iff, Bool.and_eq_true]
  constructor
  · rintro ⟨h1, h2⟩
    exact meet_had A B _ (fun c hc => clean_full (sh_clean ha hb hA hB _ c hc)) h1 h2
  · intro ho
    obtain ⟨cs, l1, l2, l3, l4⟩ := had_meet A B ha hb hA hB ho
    have e : cs = shL A B (max A.length B.length) := by
      apply List.ext_getElem
      · unfold shL; rw [List.length_map, List.length_range, l1]
      · intro i h1 h2
        have hf := fnd_sh (l2 i h1)
        rw [l1] at h1
        have hg : (shL A B (max A.length B.length))[i] = shC (atL A i) (atL B i) := by simp [shL]
        rw [hg, xAt_atL ha hA hB ho i h1, xAt_atL hb hB hA (by rw [← ovl_symm]; exact ho) i (by rw [Nat.max_comm]; exact h1)]
        exact hf
    rw [← e]; exact ⟨l3, l4⟩
theorem unesc_flat : ∀ (cs : List (List UInt8)), (∀ c ∈ cs, Pm.allP Pm.fixB c = true) → Pm.unesc (flatP cs) = some (flatP cs) := by
  have key : ∀ (l : List UInt8), (∀ c ∈ l, c ≠ 37) → Pm.unesc l = some l := by
    intro l
    induction l with
    | nil => intro _; simp [Pm.unesc]
    | cons b l ih =>
      intro h
      rw [Pm.unesc_plain _ _ (h b (by simp)), ih (fun c hc => h c (by simp [hc]))]; rfl
  intro cs h
  apply key
  intro c hc
  unfold flatP at hc
  obtain ⟨x, hx, hcx⟩ := List.mem_flatMap.mp hc
  rcases List.mem_cons.mp hcx with rfl | hcx
  · decide
  · have := h x hx
    unfold Pm.allP at this
    exact (fix_not c (List.all_eq_true.mp this c hcx)).1
end Go.Proofs.YtnohadlihgjppaaDoor

/- Plain mathematics of patterns, fifth part: the patterns that are made of numbers are patterns. -/
namespace Go.Proofs.YtnohadlihgjppaaDoor

theorem clean_of (c : List UInt8) (h : ∀ x ∈ c, x ≠ 37 ∧ x ≠ 47) : clean c := by
  constructor
  · apply Pm.unT_some
    induction c with
    | nil => simp [Pm.unesc]
    | cons b l ih => rw [Pm.unesc_plain _ _ (h b (by simp)).1, ih (fun x hx => h x (by simp [hx]))]; rfl
  · unfold Pm.behind
    induction c with
    | nil => rfl
    | cons b l ih => rw [List.dropWhile_cons_of_pos (by simpa using (h b (by simp)).2), ih (fun x hx => h x (by simp [hx]))]
def digU (i : Nat) : UInt8 := (48 + i).toUInt8
def pcAt (i : Nat) (c : List UInt8) : Prop := c = [97] ∨ c = [98] ∨ c = [58, 112, digU i] ∨ c = [97, 46, 98] ∨ c = [42, 114] ∨ c = [58, 113, digU i] ∨ c = []
structure Made (cs : List (List UInt8)) : Prop where
  any : cs ≠ []
  few : cs.length ≤ 8
  each : ∀ i (h : i < cs.length), pcAt i cs[i]
  last : ∀ i (h : i < cs.length), cs[i] = [42, 114] → i + 1 = cs.length
theorem digU_facts (i : Nat) (h : i < 8) : digU i ≠ 37 ∧ digU i ≠ 47 ∧ Pm.nameB (digU i) = true := by
  match i, h with
  | 0, _ => decide
  | 1, _ => decide
  | 2, _ => decide
  | 3, _ => decide
  | 4, _ => decide
  | 5, _ => decide
  | 6, _ => decide
  | 7, _ => decide
  | n + 8, h => omega
theorem digU_inj {i j : Nat} (hi : i < 8) (hj : j < 8) (h : digU i = digU j) : i = j := by
  have := congrArg UInt8.toNat h
  unfold digU at this
  simp [Nat.toUInt8] at this
  omega
theorem at_clean {i : Nat} (hi : i < 8) {c : List UInt8} (h : pcAt i c) : clean c := by
  obtain ⟨d1, d2, _⟩ := digU_facts i hi
  apply clean_of
  rcases h with rfl | rfl | rfl | rfl | rfl | rfl | rfl <;> intro x hx <;> simp only [List.mem_cons, List.not_mem_nil, or_false] at hx
  · subst hx; decide
  · subst hx; decide
  · rcases hx with rfl | rfl | rfl
    · decide
    · decide
    · exact ⟨d1, d2⟩
  · rcases hx with rfl | rfl | rfl <;> decide
  · rcases hx with rfl | rfl <;> decide
  · rcases hx with rfl | rfl | rfl
    · decide
    · decide
    · exact ⟨d1, d2⟩
theorem at_kind {i : Nat} {c : List UInt8} (h : pcAt i c) : (Pm.pieceK c = 0 ∧ Pm.allP Pm.fixB c = true) ∨ (Pm.pieceK c = 1 ∧ (Pm.pieceT c = [112, digU i] ∨ Pm.pieceT c = [113, digU i])) ∨ (Pm.pieceK c = 2 ∧ Pm.pieceT c = [114] ∧ c = [42, 114]) := by
  rcases h with rfl | rfl | rfl | rfl | rfl | rfl | rfl
  · left; decide
  · left; decide
  · right; left; exact ⟨rfl, Or.inl rfl⟩
  · left; decide
  · right; right; exact ⟨rfl, rfl, rfl⟩
  · right; left; exact ⟨rfl, Or.inr rfl⟩
  · left; decide
theorem at_len {i : Nat} {c : List UInt8} (h : pcAt i c) : c.length ≤ 3 := by
  rcases h with rfl | rfl | rfl | rfl | rfl | rfl | rfl <;> simp
theorem flat_len : ∀ (cs : List (List UInt8)), (∀ c ∈ cs, c.length ≤ 3) → (flatP cs).length ≤ 4 * cs.length
  | [], _ => by simp [flatP]
  | c :: r, h => by
    have h1 := h c (by simp)
    have h2 := flat_len r (fun x hx => h x (by simp [hx]))
    have he : flatP (c :: r) = 47 :: (c ++ flatP r) := by simp [flatP]
    rw [he, List.length_cons, List.length_append, List.length_cons]; omega
theorem Made.each' {cs : List (List UInt8)} (h : Made cs) : ∀ c ∈ cs, ∃ i, i < 8 ∧ pcAt i c := fun c hc => by
  obtain ⟨i, hi, rfl⟩ := List.getElem_of_mem hc
  exact ⟨i, by have := h.few; omega, h.each i hi⟩
theorem Made.pcsEq {cs : List (List UInt8)} (h : Made cs) : pcs (flatP cs) = cs := pcs_flat cs (fun c hc => by
  obtain ⟨i, hi, h2⟩ := h.each' c hc
  exact at_clean hi h2)
theorem Made.rest {cs : List (List UInt8)} (h : Made cs) : restLast cs := by
  have hl : ∀ i (h : i < cs.length), Pm.pieceK cs[i] = 2 → i + 1 = cs.length := fun i hi hk => by
    rcases at_kind (h.each i hi) with h1 | h1 | h1
    · omega
    · omega
    · exact h.last i hi h1.2.2
  have key : ∀ (l : List (List UInt8)), (∀ i (hi : i < l.length), Pm.pieceK l[i] = 2 → i + 1 = l.length) → restLast l := by
    intro l
    induction l with
    | nil => intro _; trivial
    | cons a l ih =>
      intro h
      refine ⟨fun h2 => ?_, ih (fun i hi hk => ?_)⟩
      · have := h 0 (by simp) h2
        have : l.length = 0 := by simpa using this.symm
        exact List.eq_nil_of_length_eq_zero this
      · have := h (i + 1) (by simpa using hi) (by simpa using hk)
        simpa using this
  exact key cs hl
theorem Made.good2 {cs : List (List UInt8)} (h : Made cs) : pieces cs := ⟨h.rest, fun t ht hk => by
  obtain ⟨i, _, h2⟩ := h.each' t ht
  rcases at_kind h2 with h1 | h1 | h1
  · exact h1.2
  · omega
  · omega⟩
theorem Made.names {cs : List (List UInt8)} (h : Made cs) (i j : Nat) (hi : i < cs.length) (hj : j < i) (ki : Pm.pieceK cs[i] ≠ 0) (kj : Pm.pieceK cs[j] ≠ 0) : Pm.pieceT cs[j] ≠ Pm.pieceT cs[i] := fun he => by
  have hf := h.few
  rcases at_kind (h.each j (by omega)) with h1 | h1 | h1
  · exact kj h1.1
  · rcases at_kind (h.each i hi) with h2 | h2 | h2
    · exact ki h2.1
    · have : digU j = digU i := by
        rcases h1.2 with e1 | e1 <;> rcases h2.2 with e2 | e2 <;> rw [e1, e2] at he <;> simp at he <;> exact he
      have := digU_inj (by omega) (by omega) this
      omega
    · rcases h1.2 with e1 | e1 <;> rw [e1, h2.2.1] at he <;> simp at he
  · have := h.last j (by omega) h1.2.2
    omega
theorem Made.good {cs : List (List UInt8)} (h : Made cs) : patternOf (flatP cs) = some (cs.map pcB) := by
  have ht : (cs.map (fun l => (⟨l.toArray⟩ : ByteArray))).map (·.data.toList) = pcs (flatP cs) := by
    rw [h.pcsEq, List.map_map]; exact (List.map_congr_left (fun _ _ => rfl)).trans (List.map_id _)
  have hg : GoodP (flatP cs) (cs.map (fun l => (⟨l.toArray⟩ : ByteArray))) := by
    refine ⟨?_, ?_, fun i hi => ?_⟩
    · have := flat_len cs (fun c hc => by obtain ⟨i, _, h2⟩ := h.each' c hc; exact at_len h2)
      have := h.few; omega
    · cases cs with
      | nil => exact absurd rfl h.any
      | cons c r => simp [flatP, Lib.hasPrefix, List.isPrefixOf]
    · have hi' : i < cs.length := by simpa using hi
      have hf := h.few
      unfold okP
      rw [List.getElem_map]
      have e0 : (⟨(cs[i]).toArray⟩ : ByteArray).data.toList = cs[i] := rfl
      rw [e0]
      rcases at_kind (h.each i hi') with h1 | h1 | h1
      · rw [if_pos h1.1, fix_all]; exact h1.2
      all_goals
        have k0 : Pm.pieceK cs[i] ≠ 0 := by omega
        rw [if_neg k0, Bool.and_eq_true]
        constructor
        · unfold okN
          rw [nameOf_list (s := ⟨(cs[i]).toArray⟩) k0, name_all, ByteArray.toList_eq, nameOf_list (s := ⟨(cs[i]).toArray⟩) k0, e0]
          obtain ⟨_, _, d3⟩ := digU_facts i (by omega)
          first
          | (rcases h1.2 with e | e <;> rw [e, h1.1] <;> simp [Pm.allP, d3] <;> decide)
          | (rw [h1.2.1, h1.1, List.length_map, h.last i hi' h1.2.2]; simp [Pm.allP]; decide)
        · rw [List.all_eq_true]
          intro o ho
          obtain ⟨j, hj, rfl⟩ := List.getElem_of_mem ho
          rw [List.length_take] at hj
          have hj2 : j < i := by omega
          rw [List.getElem_take, List.getElem_map]
          rw [ByteArray.toList_eq, ByteArray.toList_eq, nameOf_list (s := ⟨(cs[i]).toArray⟩) k0, e0]
          have e1 : (⟨(cs[j]).toArray⟩ : ByteArray).data.toList = cs[j] := rfl
          by_cases kj : Pm.pieceK cs[j] = 0
          · rw [nameOf_fix (s := ⟨(cs[j]).toArray⟩) kj]
            first
            | (rcases h1.2 with e | e <;> rw [e] <;> rfl)
            | (rw [h1.2.1]; rfl)
          · rw [nameOf_list (s := ⟨(cs[j]).toArray⟩) kj, e1]
            have := h.names i j hi' hj2 k0 kj
            simpa using this
  have := patternOf_good ht hg
  rw [h.pcsEq] at this; exact this
end Go.Proofs.YtnohadlihgjppaaDoor
