/- Texts that follow one another, joined. -/
import Derived.Test.YtbiggccolpchcaaGreatDoorJoin25
/- Plain mathematics of patterns, fifth part: the patterns that are made of numbers are patterns. -/
namespace Go.Proofs.YtbiggccolpchcaaGreatDoor

theorem clean_of (c : List UInt8) (h : ∀ x ∈ c, x ≠ 37 ∧ x ≠ 47) : clean c := by
  constructor
  · apply Pm.unT_some
    induction c with
    | nil => simp [Pm.unesc]
    | cons b l ih => rw [Pm.unesc_plain _ _ (h b (by simp)).1, ih (fun x hx => h x (by simp [hx]))]; rfl
  · unfold Pm.behind
    induction c with
    | nil => rfl
    | cons b l ih => rw [List.dropWhile_cons_of_pos (by simpa using (h b (by simp)).2), ih (fun x hx => h x (by simp [hx]))]
def digU (i : Nat) : UInt8 := (48 + i).toUInt8
def pcAt (i : Nat) (c : List UInt8) : Prop := c = [97] ∨ c = [98] ∨ c = [58, 112, digU i] ∨ c = [97, 46, 98] ∨ c = [42, 114] ∨ c = [58, 113, digU i] ∨ c = []
structure Made (cs : List (List UInt8)) : Prop where
  any : cs ≠ []
  few : cs.length ≤ 8
  each : ∀ i (h : i < cs.length), pcAt i cs[i]
  last : ∀ i (h : i < cs.length), cs[i] = [42, 114] → i + 1 = cs.length
theorem digU_facts (i : Nat) (h : i < 8) : digU i ≠ 37 ∧ digU i ≠ 47 ∧ Pm.nameB (digU i) = true := by
  match i, h with
  | 0, _ => decide
  | 1, _ => decide
  | 2, _ => decide
  | 3, _ => decide
  | 4, _ => decide
  | 5, _ => decide
  | 6, _ => decide
  | 7, _ => decide
  | n + 8, h => omega
theorem digU_inj {i j : Nat} (hi : i < 8) (hj : j < 8) (h : digU i = digU j) : i = j := by
  have := congrArg UInt8.toNat h
  unfold digU at this
  simp [Nat.toUInt8] at this
  omega
theorem at_clean {i : Nat} (hi : i < 8) {c : List UInt8} (h : pcAt i c) : clean c := by
  obtain ⟨d1, d2, _⟩ := digU_facts i hi
  apply clean_of
  rcases h with rfl | rfl | rfl | rfl | rfl | rfl | rfl <;> intro x hx <;> simp only [List.mem_cons, List.not_mem_nil, or_false] at hx
  · subst hx; decide
  · subst hx; decide
  · rcases hx with rfl | rfl | rfl
    · decide
    · decide
    · exact ⟨d1, d2⟩
  · rcases hx with rfl | rfl | rfl <;> decide
  · rcases hx with rfl | rfl <;> decide
  · rcases hx with rfl | rfl | rfl
    · decide
    · decide
    · exact ⟨d1, d2⟩
theorem at_kind {i : Nat} {c : List UInt8} (h : pcAt i c) : (Pm.pieceK c = 0 ∧ Pm.allP Pm.fixB c = true) ∨ (Pm.pieceK c = 1 ∧ (Pm.pieceT c = [112, digU i] ∨ Pm.pieceT c = [113, digU i])) ∨ (Pm.pieceK c = 2 ∧ Pm.pieceT c = [114] ∧ c = [42, 114]) := by
  rcases h with rfl | rfl | rfl | rfl | rfl | rfl | rfl
  · left; decide
  · left; decide
  · right; left; exact ⟨rfl, Or.inl rfl⟩
  · left; decide
  · right; right; exact ⟨rfl, rfl, rfl⟩
  · right; left; exact ⟨rfl, Or.inr rfl⟩
  · left; decide
theorem at_len {i : Nat} {c : List UInt8} (h : pcAt i c) : c.length ≤ 3 := by
  rcases h with rfl | rfl | rfl | rfl | rfl | rfl | rfl <;> simp
theorem flat_len : ∀ (cs : List (List UInt8)), (∀ c ∈ cs, c.length ≤ 3) → (flatP cs).length ≤ 4 * cs.length
  | [], _ => by simp [flatP]
  | c :: r, h => by
    have h1 := h c (by simp)
    have h2 := flat_len r (fun x hx => h x (by simp [hx]))
    have he : flatP (c :: r) = 47 :: (c ++ flatP r) := by simp [flatP]
    rw [he, List.length_cons, List.length_append, List.length_cons]; omega
theorem Made.each' {cs : List (List UInt8)} (h : Made cs) : ∀ c ∈ cs, ∃ i, i < 8 ∧ pcAt i c := fun c hc => by
  obtain ⟨i, hi, rfl⟩ := List.getElem_of_mem hc
  exact ⟨i, by have := h.few; omega, h.each i hi⟩
theorem Made.pcsEq {cs : List (List UInt8)} (h : Made cs) : pcs (flatP cs) = cs := pcs_flat cs (fun c hc => by
  obtain ⟨i, hi, h2⟩ := h.each' c hc
  exact at_clean hi h2)
theorem Made.rest {cs : List (List UInt8)} (h : Made cs) : restLast cs := by
  have hl : ∀ i (h : i < cs.length), Pm.pieceK cs[i] = 2 → i + 1 = cs.length := fun i hi hk => by
    rcases at_kind (h.each i hi) with h1 | h1 | h1
    · omega
    · omega
    · exact h.last i hi h1.2.2
  have key : ∀ (l : List (List UInt8)), (∀ i (hi : i < l.length), Pm.pieceK l[i] = 2 → i + 1 = l.length) → restLast l := by
    intro l
    induction l with
    | nil => intro _; trivial
    | cons a l ih =>
      intro h
      refine ⟨fun h2 => ?_, ih (fun i hi hk => ?_)⟩
      · have := h 0 (by simp) h2
        have : l.length = 0 := by simpa using this.symm
        exact List.eq_nil_of_length_eq_zero this
      · have := h (i + 1) (by simpa using hi) (by simpa using hk)
        simpa using this
  exact key cs hl
theorem Made.good2 {cs : List (List UInt8)} (h : Made cs) : pieces cs := ⟨h.rest, fun t ht hk => by
  obtain ⟨i, _, h2⟩ := h.each' t ht
  rcases at_kind h2 with h1 | h1 | h1
  · exact h1.2
  · omega
  · omega⟩
theorem Made.names {cs : List (List UInt8)} (h : Made cs) (i j : Nat) (hi : i < cs.length) (hj : j < i) (ki : Pm.pieceK cs[i] ≠ 0) (kj : Pm.pieceK cs[j] ≠ 0) : Pm.pieceT cs[j] ≠ Pm.pieceT cs[i] := fun he => by
  have hf := h.few
  rcases at_kind (h.each j (by omega)) with h1 | h1 | h1
  · exact kj h1.1
  · rcases at_kind (h.each i hi) with h2 | h2 | h2
    · exact ki h2.1
    · have : digU j = digU i := by
        rcases h1.2 with e1 | e1 <;> rcases h2.2 with e2 | e2 <;> rw [e1, e2] at he <;> simp at he <;> exact he
      have := digU_inj (by omega) (by omega) this
      omega
    · rcases h1.2 with e1 | e1 <;> rw [e1, h2.2.1] at he <;> simp at he
  · have := h.last j (by omega) h1.2.2
    omega
theorem Made.good {cs : List (List UInt8)} (h : Made cs) : patternOf (flatP cs) = some (cs.map pcB) := by
  have ht : (cs.map (fun l => (⟨l.toArray⟩ : ByteArray))).map (·.data.toList) = pcs (flatP cs) := by
    rw [h.pcsEq, List.map_map]; exact (List.map_congr_left (fun _ _ => rfl)).trans (List.map_id _)
  have hg : GoodP (flatP cs) (cs.map (fun l => (⟨l.toArray⟩ : ByteArray))) := by
    refine ⟨?_, ?_, fun i hi => ?_⟩
    · have := flat_len cs (fun c hc => by obtain ⟨i, _, h2⟩ := h.each' c hc; exact at_len h2)
      have := h.few; omega
    · cases cs with
      | nil => exact absurd rfl h.any
      | cons c r => simp [flatP, Lib.hasPrefix, List.isPrefixOf]
    · have hi' : i < cs.length := by simpa using hi
      have hf := h.few
      unfold okP
      rw [List.getElem_map]
      have e0 : (⟨(cs[i]).toArray⟩ : ByteArray).data.toList = cs[i] := rfl
      rw [e0]
      rcases at_kind (h.each i hi') with h1 | h1 | h1
      · rw [if_pos h1.1, fix_all]; exact h1.2
      all_goals
        have k0 : Pm.pieceK cs[i] ≠ 0 := by omega
        rw [if_neg k0, Bool.and_eq_true]
        constructor
        · unfold okN
          rw [nameOf_list (s := ⟨(cs[i]).toArray⟩) k0, name_all, ByteArray.toList_eq, nameOf_list (s := ⟨(cs[i]).toArray⟩) k0, e0]
          obtain ⟨_, _, d3⟩ := digU_facts i (by omega)
          first
          | (rcases h1.2 with e | e <;> rw [e, h1.1] <;> simp [Pm.allP, d3] <;> decide)
          | (rw [h1.2.1, h1.1, List.length_map, h.last i hi' h1.2.2]; simp [Pm.allP]; decide)
        · rw [List.all_eq_true]
          intro o ho
          obtain ⟨j, hj, rfl⟩ := List.getElem_of_mem ho
          rw [List.length_take] at hj
          have hj2 : j < i := by omega
          rw [List.getElem_take, List.getElem_map]
          rw [ByteArray.toList_eq, ByteArray.toList_eq, nameOf_list (s := ⟨(cs[i]).toArray⟩) k0, e0]
          have e1 : (⟨(cs[j]).toArray⟩ : ByteArray).data.toList = cs[j] := rfl
          by_cases kj : Pm.pieceK cs[j] = 0
          · rw [nameOf_fix (s := ⟨(cs[j]).toArray⟩) kj]
            first
            | (rcases h1.2 with e | e <;> rw [e] <;> rfl)
            | (rw [h1.2.1]; rfl)
          · rw [nameOf_list (s := ⟨(cs[j]).toArray⟩) kj, e1]
            have := h.names i j hi' hj2 k0 kj
            simpa using this
  have := patternOf_good ht hg
  rw [h.pcsEq] at this; exact this
end Go.Proofs.YtbiggccolpchcaaGreatDoor

/- Plain mathematics of patterns, sixth part: of patterns that do not meet, one at most has a path. -/
namespace Go.Proofs.YtbiggccolpchcaaGreatDoor

theorem unesc_pieces : ∀ (n : Nat) (l : List UInt8), l.length ≤ n → (Pm.unesc l).isSome → ∀ c ∈ Lib.split l [47], (Pm.unesc c).isSome
  | n, l, hn, hu => by
    rcases Pm.behind_cases 47 l with h | ⟨r, h⟩
    · rw [Pm.split_none h]; intro c hc; rw [List.mem_singleton.mp hc]; exact hu
    · have h1 := Pm.ahead_behind 47 l
      rw [h] at h1
      have h2 := congrArg List.length h1
      rw [List.length_append, List.length_cons] at h2
      obtain ⟨o, ho⟩ := Option.isSome_iff_exists.mp hu
      rw [← h1] at ho
      obtain ⟨u1, u2⟩ := unesc_cut _ _ _ _ (Nat.le_refl _) ho
      rw [Pm.split_some h]
      match n, hn with
      | 0, hn => omega
      | n + 1, hn =>
        intro c hc
        rcases List.mem_cons.mp hc with rfl | hc
        · exact u1
        · exact unesc_pieces n r (by omega) u2 c hc
theorem isPath_cons {l : List UInt8} (h : Pm.isPath l = true) : ∃ r, l = 47 :: r ∧ (Pm.unesc r).isSome ∧ pcs l = Lib.split r [47] := by
  unfold Pm.isPath at h
  rw [Bool.and_eq_true] at h
  obtain ⟨h1, h2⟩ := h
  cases l with
  | nil => simp [Lib.hasPrefix] at h2
  | cons c s =>
    have hc : c = 47 := by
      unfold Lib.hasPrefix at h2
      exact (by simpa [List.isPrefixOf] using h2 : 47 = c).symm
    subst hc
    obtain ⟨o, ho⟩ := Option.isSome_iff_exists.mp h1
    refine ⟨s, rfl, (unesc_cut 0 [] s o (Nat.le_refl _) ho).2, ?_⟩
    unfold pcs; rw [if_neg (by simp)]; rfl
theorem path_full {l : List UInt8} (h : Pm.isPath l = true) : ∀ c ∈ pcs l, full c := fun c hc => by
  obtain ⟨r, rfl, hu, hp⟩ := isPath_cons h
  rw [hp] at hc
  have := unesc_pieces _ r (Nat.le_refl _) hu c hc
  intro h'
  have he := unT_empty this
  rw [ByteArray.toList_eq, h'] at he
  cases c with
  | nil => rfl
  | cons => cases he
/- what a pattern with these pieces makes of a path -/
def hs (A : List (List UInt8)) (l : List UInt8) : Option (List Prm) := hasL A (pcs l)
theorem match_hs {A : List (List UInt8)} {l : List UInt8} (hA : restLast A) (h : Pm.isPath l = true) : matchB (A.map pcB) (l.drop 1) true [] = hs A l := by
  obtain ⟨r, rfl, hu, hp⟩ := isPath_cons h
  rw [List.drop_one, List.tail_cons, match_has _ _ _ hA hu]
  unfold hs
  rw [hp]
  cases hasL A (Lib.split r [47]) <;> rfl
theorem one_has {A B : List (List UInt8)} {l : List UInt8} (h : Pm.isPath l = true) (h1 : (hs A l).isSome) (h2 : (hs B l).isSome) : ovl (A.map pcB) (B.map pcB) = true :=
  meet_had A B _ (path_full h) h1 h2
theorem isPath_flat {cs : List (List UInt8)} (hn : cs ≠ []) (h : ∀ c ∈ cs, Pm.allP Pm.fixB c = true) : Pm.isPath (flatP cs) = true := by
  unfold Pm.isPath
  rw [unesc_flat cs h]
  cases cs with
  | nil => exact absurd rfl hn
  | cons c r => simp [flatP, Lib.hasPrefix, List.isPrefixOf]
end Go.Proofs.YtbiggccolpchcaaGreatDoor

/- The reference's has, by induction over a pattern's pieces; nothing old in memory turns. -/
namespace Go.Proofs.YtbiggccolpchcaaGreatDoor
open Go.RowKit

theorem hasL_len : ∀ (A B : List (List UInt8)) (ps : List Prm), hasL A B = some ps → ps.length ≤ A.length
  | [], [], ps, h => by rw [hasL] at h; cases h; simp
  | [], _ :: _, ps, h => by rw [hasL] at h; cases h
  | _ :: _, [], ps, h => by rw [hasL] at h; cases h
  | t :: r, x :: xs, ps, h => by
    rw [hasL] at h
    split at h
    · cases h; simp
    · cases hm : hasL r xs with
      | none => rw [hm] at h; cases h
      | some more =>
        rw [hm] at h
        simp only at h
        have := hasL_len r xs more hm
        split at h
        · split at h
          · cases h; simp; omega
          · cases h
        · split at h
          · cases h
          · cases h; simp; omega
theorem join_tail (a : List UInt8) (r : List (List UInt8)) : a.length ≤ (joinL (a :: r)).length ∧ (joinL r).length ≤ (joinL (a :: r)).length := by
  cases r with
  | nil => simp [joinL]
  | cons b r => rw [joinL_cons, List.length_append, List.length_cons]; omega
theorem StO.tail {t : ByteArray} {ts : List ByteArray} {g o : Nat} {w : World} (h : StO (t :: ts) (some ⟨g, o, none⟩) w) : StO ts (some ⟨g, o + 1, none⟩) w := fun i hi => by
  obtain ⟨g', o', h1, h2, h3⟩ := h (i + 1) (by simpa using hi)
  simp only [Option.some.injEq, Addr.mk.injEq, and_true] at h1
  obtain ⟨rfl, rfl⟩ := h1
  exact ⟨g, o + 1, rfl, h2, by rw [show o + 1 + i = o + (i + 1) from by omega]; simpa using h3⟩
theorem StO.head {t : ByteArray} {ts : List ByteArray} {a : Option Addr} {w : World} (h : StO (t :: ts) a w) : ∃ g o, a = some ⟨g, o, none⟩ ∧ g < w.heap.size ∧ w.cell? ⟨g, o, none⟩ = some (.string t) := by
  obtain ⟨g, o, h1, h2, h3⟩ := h 0 (by simp)
  exact ⟨g, o, h1, h2, by simpa using h3⟩
theorem StO.of_owns {w : World} {B : Nat} {e : TypeId} {v : Value} {ts : List ByteArray} (h : w.ownsRow B e 1 v ts.length (ts.map Value.string)) : ∃ a c, v = .slice a ts.length c ∧ ts.length ≤ c ∧ StO ts a w := by
  obtain ⟨h1, h2⟩ := h
  rcases h2 with ⟨h2, h3⟩ | ⟨g, cap, cur, hv, hB, hg, hc, hm, hsz, ht⟩
  · refine ⟨none, 0, by rw [h3]; exact h2, by omega, fun i hi => absurd hi (by omega)⟩
  · refine ⟨some ⟨g, 0, none⟩, cap, hv, hc, fun i hi => ⟨g, 0, rfl, ?_, ?_⟩⟩
    · rcases Nat.lt_or_ge g w.heap.size with h' | h'
      · exact h'
      · simp [Array.getElem?_eq_none h'] at hg
    · rw [Lib.cell_of_heap hg]
      have h3 : (cur.toList.take (ts.length * 1))[i]? = some (.string ts[i]) := by rw [ht]; simp [hi]
      rw [List.getElem?_take] at h3
      split at h3
      · simpa using h3
      · cases h3
def HaPost (PO : Option (List Prm)) (B : Nat) (r : Ending) (w' : World) : Prop :=
  ∃ v, r = .returned (.tuple #[v, .bool PO.isSome]) ∧ ∀ ps, PO = some ps → w'.ownsRow B 129 2 v ps.length (prCells ps)

set_option maxHeartbeats 400000 in
theorem rhas_none (a b : Option Addr) (ca cb n : Nat) (w : World) (hn : 0 < n) (hl : n ≤ 4398046511104) :
    Calls Tryz.prog 162 #[.slice a 0 ca, .slice b n cb] w fun r w' => r = .returned (.tuple #[.slice none 0 0, .bool false]) ∧ w' = w := by
  have h1 : ((0 : Int) == (n : Int)) = false := by rw [beq_eq_false_iff_ne]; omega
  go_enter Tryz.func162, Tryz.ntmps162
  go_wp2
  go_ret2
  exact ⟨rfl, rfl⟩
set_option maxHeartbeats 400000 in
theorem rhas_short (a b : Option Addr) (ca cb n : Nat) (w : World) (hn : 0 < n) (hl : n ≤ 4398046511104) :
    Calls Tryz.prog 162 #[.slice a n ca, .slice b 0 cb] w fun r w' => r = .returned (.tuple #[.slice none 0 0, .bool false]) ∧ w' = w := by
  have h1 : ((n : Int) == 0) = false := by rw [beq_eq_false_iff_ne]; omega
  go_enter Tryz.func162, Tryz.ntmps162
  go_wp2
  go_ret2
  exact ⟨rfl, rfl⟩
set_option maxHeartbeats 400000 in
theorem rhas_both (a b : Option Addr) (ca cb : Nat) (w : World) :
    Calls Tryz.prog 162 #[.slice a 0 ca, .slice b 0 cb] w fun r w' => r = .returned (.tuple #[.slice none 0 0, .bool true]) ∧ w' = w := by
  go_enter Tryz.func162, Tryz.ntmps162
  go_wp2
  go_ret2
  exact ⟨rfl, rfl⟩
end Go.Proofs.YtbiggccolpchcaaGreatDoor
