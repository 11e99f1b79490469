/- Texts that follow one another, joined. -/
import Derived.Test.YtpilfanbfpbldaaGreatDoorJoin27
/- Plain mathematics of patterns, first part: the program's reading of a pattern is the reference's. -/
namespace Go.Proofs.YtpilfanbfpbldaaGreatDoor

theorem fix_al (c : UInt8) : Pm.inB alF c = Pm.fixB c := by
  have := Pm.all256 (p := fun c => Pm.inB alF c == Pm.fixB c) (by decide +kernel) c
  simpa using this
theorem name_al (c : UInt8) : Pm.inB alN.data.toList c = Pm.nameB c := by
  have := Pm.all256 (p := fun c => Pm.inB alN.data.toList c == Pm.nameB c) (by decide +kernel) c
  simpa using this
theorem fix_all (l : List UInt8) : Pm.allP (Pm.inB alF) l = Pm.allP Pm.fixB l := by
  unfold Pm.allP; congr 1; funext c; exact fix_al c
theorem name_all (l : List UInt8) : Pm.allP (Pm.inB alN.data.toList) l = Pm.allP Pm.nameB l := by
  unfold Pm.allP; congr 1; funext c; exact name_al c
theorem pieceT_not {l : List UInt8} (h : Pm.pieceK l ≠ 0) : Pm.pieceT l = l.drop 1 := by
  unfold Pm.pieceK at h; unfold Pm.pieceT
  split
  · rfl
  · rename_i h1; rw [if_neg h1] at h; split
    · rfl
    · rename_i h2; rw [if_neg h2] at h; exact absurd rfl h
theorem nameOf_fix {s : ByteArray} (h : Pm.pieceK s.data.toList = 0) : nameOf s = ⟨#[]⟩ := by unfold nameOf; rw [if_pos h]
theorem nameOf_not {s : ByteArray} (h : Pm.pieceK s.data.toList ≠ 0) : nameOf s = ⟨(Pm.pieceT s.data.toList).toArray⟩ := by
  unfold nameOf; rw [if_neg h, pieceT_not h]
  have : (s.extract 1 s.size).data.toList = s.data.toList.drop 1 := by rw [Lib.extract_data, List.take_of_length_le (by simp)]
  rw [← this]
theorem nameOf_list {s : ByteArray} (h : Pm.pieceK s.data.toList ≠ 0) : (nameOf s).data.toList = Pm.pieceT s.data.toList := by rw [nameOf_not h]

theorem patOk_okP (ts : List ByteArray) (k : Nat) (hk : k < ts.length) :
    patOk ts[k].data.toList (decide (k + 1 = ts.length)) ((ts.take k).map (fun t => pcB t.data.toList)) = okP ts ts[k] k := by
  generalize ts[k] = t
  unfold patOk okP
  generalize decide (k + 1 = ts.length) = lst
  by_cases h0 : Pm.pieceK t.data.toList = 0
  · have h1 : ((ts.take k).map (fun t => pcB t.data.toList)).any (nameEq · (pcB t.data.toList)) = false := by
      rw [List.any_eq_false]; intro p _; unfold nameEq pcB; simp [h0]
    rw [if_pos h0, h1, fix_all, h0]
    unfold Pm.pieceOk; rw [if_pos h0]; simp
  · rw [if_neg h0]
    unfold Pm.pieceOk okN Pm.isName
    rw [if_neg h0, nameOf_list h0, name_all, ByteArray.toList_eq, nameOf_list h0]
    cases he : (Pm.pieceT t.data.toList).isEmpty
    · have h1 : ((ts.take k).map (fun t => pcB t.data.toList)).any (nameEq · (pcB t.data.toList)) = !((ts.take k).all (fun o => !((nameOf o).toList == Pm.pieceT t.data.toList))) := by
        rw [List.any_map, List.not_all_eq_any_not]
        congr 1; funext o
        simp only [Function.comp, Bool.not_not]
        unfold nameEq pcB
        simp only
        have h2 : (Pm.pieceK t.data.toList != 0) = true := by simpa using h0
        rw [h2, Bool.true_and, ByteArray.toList_eq, ByteArray.toList_eq, ByteArray.toList_eq]
        by_cases h3 : Pm.pieceK o.data.toList = 0
        · rw [nameOf_fix h3, h3]
          cases hp : Pm.pieceT t.data.toList with
          | nil => rw [hp] at he; simp at he
          | cons a b => rfl
        · rw [nameOf_list h3]; simp [h3]
      rw [h1, Bool.not_not]
      generalize ((ts.take k).all (fun o => !((nameOf o).toList == Pm.pieceT t.data.toList))) = A
      generalize Pm.allP Pm.nameB (Pm.pieceT t.data.toList) = B
      generalize (Pm.pieceK t.data.toList == 2) = C
      cases A <;> cases B <;> cases C <;> cases lst <;> rfl
    · simp
theorem patB_ok (ts : List ByteArray) : ∀ (n k : Nat), n + k = ts.length →
    ((∀ i, k ≤ i → ∀ h : i < ts.length, okP ts ts[i] i = true) → patB ((ts.drop k).map (·.data.toList)) ((ts.take k).map (fun t => pcB t.data.toList)) = some (ts.map (fun t => pcB t.data.toList))) ∧
    ((¬ ∀ i, k ≤ i → ∀ h : i < ts.length, okP ts ts[i] i = true) → patB ((ts.drop k).map (·.data.toList)) ((ts.take k).map (fun t => pcB t.data.toList)) = none)
  | 0, k, hn => by
    have hk : k = ts.length := by omega
    subst hk
    refine ⟨fun _ => ?_, fun h => absurd (fun i h1 h2 => absurd h2 (by omega)) h⟩
    rw [List.drop_length, List.take_length]; rfl
  | n + 1, k, hn => by
    have hk : k < ts.length := by omega
    obtain ⟨i1, i2⟩ := patB_ok ts n (k + 1) (by omega)
    have hd : ts.drop k = ts[k] :: ts.drop (k + 1) := (List.getElem_cons_drop hk).symm
    have hl : ((ts.drop (k + 1)).map (·.data.toList)).isEmpty = decide (k + 1 = ts.length) := by
      rw [Bool.eq_iff_iff, List.isEmpty_iff, List.map_eq_nil_iff, List.drop_eq_nil_iff, decide_eq_true_iff]; omega
    have ht : (ts.take k).map (fun t => pcB t.data.toList) ++ [pcB ts[k].data.toList] = (ts.take (k + 1)).map (fun t => pcB t.data.toList) := by
      rw [List.take_add_one, List.getElem?_eq_getElem hk, List.map_append]; rfl
    rw [hd, List.map_cons, patB, hl, patOk_okP ts k hk, ht]
    cases hok : okP ts ts[k] k
    · refine ⟨fun h => ?_, fun _ => by simp⟩
      rw [h k (Nat.le_refl _) hk] at hok; cases hok
    · rw [if_pos rfl]
      refine ⟨fun h => i1 (fun i hi => h i (by omega)), fun h => i2 (fun h' => h (fun i hi hl => ?_))⟩
      rcases Nat.lt_or_ge k i with h3 | h3
      · exact h' i h3 hl
      · obtain rfl : i = k := by omega
        exact hok
/- a pattern, as the reference says it -/
def GoodP (s : List UInt8) (ts : List ByteArray) : Prop := s.length ≤ 64 ∧ Lib.hasPrefix s [47] = true ∧ ∀ i (h : i < ts.length), okP ts ts[i] i = true
theorem patternOf_good {s : List UInt8} {ts : List ByteArray} (ht : ts.map (·.data.toList) = pcs s) (h : GoodP s ts) : patternOf s = some ((pcs s).map pcB) := by
  obtain ⟨h1, h2, h3⟩ := h
  have hne : s ≠ [] := by rintro rfl; simp [Lib.hasPrefix] at h2
  have := (patB_ok ts ts.length 0 (by omega)).1 (fun i _ h => h3 i h)
  unfold patternOf
  rw [if_pos ⟨h1, h2⟩]
  rw [List.drop_zero, ht, List.take_zero] at this
  have e : pcs s = Lib.split (s.drop 1) [47] := by unfold pcs; rw [if_neg hne]
  rw [← e, show ([] : List (Int × ByteArray)) = ([] : List ByteArray).map (fun t => pcB t.data.toList) from rfl, this, ← ht, List.map_map]; rfl
theorem patternOf_bad {s : List UInt8} {ts : List ByteArray} (ht : ts.map (·.data.toList) = pcs s) (h : ¬ GoodP s ts) : patternOf s = none := by
  unfold patternOf
  by_cases h1 : s.length ≤ 64 ∧ Lib.hasPrefix s [47] = true
  · rw [if_pos h1]
    have hne : s ≠ [] := by rintro rfl; simp [Lib.hasPrefix] at h1
    have e : pcs s = Lib.split (s.drop 1) [47] := by unfold pcs; rw [if_neg hne]
    have := (patB_ok ts ts.length 0 (by omega)).2 (fun h' => h ⟨h1.1, h1.2, fun i hi => h' i (Nat.zero_le _) hi⟩)
    rw [List.drop_zero, ht, List.take_zero] at this
    rw [← e]; exact this
  · rw [if_neg h1]
theorem good_rest {ts : List ByteArray} (h : ∀ i (h : i < ts.length), okP ts ts[i] i = true) : ∀ i (hi : i < ts.length), Pm.pieceK ts[i].data.toList = 2 → i + 1 = ts.length := fun i hi hk => by
  have := h i hi
  unfold okP at this
  rw [if_neg (by omega), hk] at this
  unfold okN at this
  simp only [Bool.and_eq_true] at this
  simpa using this.1.2
theorem good_fix {ts : List ByteArray} (h : ∀ i (h : i < ts.length), okP ts ts[i] i = true) : ∀ i (hi : i < ts.length), Pm.pieceK ts[i].data.toList = 0 → Pm.allP Pm.fixB ts[i].data.toList = true := fun i hi hk => by
  have := h i hi
  unfold okP at this
  rw [if_pos hk, fix_all] at this
  exact this
end Go.Proofs.YtpilfanbfpbldaaGreatDoor

/- Plain mathematics of patterns, second part: what a pattern's names stand for in a path. -/
namespace Go.Proofs.YtpilfanbfpbldaaGreatDoor

def hasL : List (List UInt8) → List (List UInt8) → Option (List Prm)
  | [], [] => some []
  | [], _ :: _ => none
  | _ :: _, [] => none
  | t :: r, x :: xs => if Pm.pieceK t = 2 then some [(⟨(Pm.pieceT t).toArray⟩, Pm.unT (joinL (x :: xs)))]
    else match hasL r xs with
      | none => none
      | some more => if Pm.pieceK t = 0 then (if (Pm.unT x).data.toList = t then some more else none) else if x = [] then none else some ((⟨(Pm.pieceT t).toArray⟩, Pm.unT x) :: more)
/- a rest is the last piece alone -/
def restLast : List (List UInt8) → Prop
  | [] => True
  | t :: r => (Pm.pieceK t = 2 → r = []) ∧ restLast r

end Go.Proofs.YtpilfanbfpbldaaGreatDoor

/- Plain mathematics of patterns, third part: two patterns have a path in common just if their pieces meet one by one. -/
namespace Go.Proofs.YtpilfanbfpbldaaGreatDoor

/- the pieces of a pattern: those that are fixed have right bytes; a rest is the last one -/
def pieces (A : List (List UInt8)) : Prop := restLast A ∧ ∀ t ∈ A, Pm.pieceK t = 0 → Pm.allP Pm.fixB t = true
/- a text that stands for itself, with no slash -/
/- whoever both have a path meet -/
def full (c : List UInt8) : Prop := (Pm.unT c).data.toList = [] → c = []
/- what a piece is told by, where a rest or nothing stands against it -/
/- who meet have a path in common -/
end Go.Proofs.YtpilfanbfpbldaaGreatDoor

/- Plain mathematics of patterns, fourth part: the path that is put together of two patterns' pieces. -/
namespace Go.Proofs.YtpilfanbfpbldaaGreatDoor

/- the path that two patterns have if they have one at all -/
end Go.Proofs.YtpilfanbfpbldaaGreatDoor
