/- Texts that follow one another, joined. -/
import Derived.Test.YtnohadlihgjppaaDoorJoin27
/- Plain mathematics of patterns, sixth part: of patterns that do not meet, one at most has a path. -/
namespace Go.Proofs.YtnohadlihgjppaaDoor

theorem unesc_pieces : ∀ (n : Nat) (l : List UInt8), l.length ≤ n → (Pm.unesc l).isSome → ∀ c ∈ Lib.split l [47], (Pm.unesc c).isSome
  | n, l, hn, hu => by
    rcases Pm.behind_cases 47 l with h | ⟨r, h⟩
    · rw [Pm.split_none h]; intro c hc; rw [List.mem_singleton.mp hc]; exact hu
    · have h1 := Pm.ahead_behind 47 l
      rw [h] at h1
      have h2 := congrArg List.length h1
      rw [List.length_append, List.length_cons] at h2
      obtain ⟨o, ho⟩ := Option.isSome_iff_exists.mp hu
      rw [← h1] at ho
      obtain ⟨u1, u2⟩ := unesc_cut _ _ _ _ (Nat.le_refl _) ho
      rw [Pm.split_some h]
      match n, hn with
      | 0, hn => omega
      | n + 1, hn =>
        intro c hc
        rcases List.mem_cons.mp hc with rfl | hc
        · exact u1
        · exact unesc_pieces n r (by omega) u2 c hc
theorem isPath_cons {l : List UInt8} (h : Pm.isPath l = true) : ∃ r, l = 47 :: r ∧ (Pm.unesc r).isSome ∧ pcs l = Lib.split r [47] := by
  unfold Pm.isPath at h
  rw [Bool.and_eq_true] at h
  obtain ⟨h1, h2⟩ := h
  cases l with
  | nil => simp [Lib.hasPrefix] at h2
  | cons c s =>
    have hc : c = 47 := by
      unfold Lib.hasPrefix at h2
      exact (by simpa [List.isPrefixOf] using h2 : 47 = c).symm
    subst hc
    obtain ⟨o, ho⟩ := Option.isSome_iff_exists.mp h1
    refine ⟨s, rfl, (unesc_cut 0 [] s o (Nat.le_refl _) ho).2, ?_⟩
    unfold pcs; rw [if_neg (by simp)]; rfl
theorem path_full {l : List UInt8} (h : Pm.isPath l = true) : ∀ c ∈ pcs l, full c := fun c hc => by
  obtain ⟨r, rfl, hu, hp⟩ := isPath_cons h
  rw [hp] at hc
  have := unesc_pieces _ r (Nat.le_refl _) hu c hc
  intro h'
  have he := unT_empty this
  rw [ByteArray.toList_eq, h'] at he
  cases c with
  | nil => rfl
  | cons => cases he
/- what a pattern with these pieces makes of a path -/
def hs (A : List (List UInt8)) (l : List UInt8) : Option (List Prm) := hasL A (pcs l)
theorem match_hs {A : List (List UInt8)} {l : List UInt8} (hA : restLast A) (h : Pm.isPath l = true) : matchB (A.map pcB) (l.drop 1) true [] = hs A l := by
  obtain ⟨r, rfl, hu, hp⟩ := isPath_cons h
  rw [List.drop_one, List.tail_cons, match_has _ _ _ hA hu]
  unfold hs
  rw [hp]
  cases hasL A (Lib.split r [47]) <;> rfl
theorem one_has {A B : List (List UInt8)} {l : List UInt8} (h : Pm.isPath l = true) (h1 : (hs A l).isSome) (h2 : (hs B l).isSome) : ovl (A.map pcB) (B.map pcB) = true :=
  meet_had A B _ (path_full h) h1 h2
theorem isPath_flat {cs : List (List UInt8)} (hn : cs ≠ []) (h : ∀ c ∈ cs, Pm.allP Pm.fixB c = true) : Pm.isPath (flatP cs) = true := by
  unfold Pm.isPath
  rw [unesc_flat cs h]
  cases cs with
  | nil => exact absurd rfl hn
  | cons c r => simp [flatP, Lib.hasPrefix, List.isPrefixOf]
end Go.Proofs.YtnohadlihgjppaaDoor

/- The reference's has, by induction over a pattern's pieces; nothing old in memory turns. -/
namespace Go.Proofs.YtnohadlihgjppaaDoor
open Go.RowKit

theorem hasL_len : ∀ (A B : List (List UInt8)) (ps : List Prm), hasL A B = some ps → ps.length ≤ A.length
  | [], [], ps, h => by rw [hasL] at h; cases h; simp
  | [], _ :: _, ps, h => by rw [hasL] at h; cases h
  | _ :: _, [], ps, h => by rw [hasL] at h; cases h
  | t :: r, x :: xs, ps, h => by
    rw [hasL] at h
    split at h
    · cases h; simp
    · cases hm : hasL r xs with
      | none => rw [hm] at h; cases h
      | some more =>
        rw [hm] at h
        simp only at h
        have := hasL_len r xs more hm
        split at h
        · split at h
          · cases h; simp; omega
          · cases h
        · split at h
          · cases h
          · cases h; simp; omega
theorem join_tail (a : List UInt8) (r : List (List UInt8)) : a.length ≤ (joinL (a :: r)).length ∧ (joinL r).length ≤ (joinL (a :: r)).length := by
  cases r with
  | nil => simp [joinL]
  | cons b r => rw [joinL_cons, List.length_append, List.length_cons]; omega
theorem StO.tail {t : ByteArray} {ts : List ByteArray} {g o : Nat} {w : World} (h : StO (t :: ts) (some ⟨g, o, none⟩) w) : StO ts (some ⟨g, o + 1, none⟩) w := fun i hi => by
  obtain ⟨g', o', h1, h2, h3⟩ := h (i + 1) (by simpa using hi)
  simp only [Option.some.injEq, Addr.mk.injEq, and_true] at h1
  obtain ⟨rfl, rfl⟩ := h1
  exact ⟨g, o + 1, rfl, h2, by rw [show o + 1 + i = o + (i + 1) from by omega]; simpa using h3⟩
theorem StO.head {t : ByteArray} {ts : List ByteArray} {a : Option Addr} {w : World} (h : StO (t :: ts) a w) : ∃ g o, a = some ⟨g, o, none⟩ ∧ g < w.heap.size ∧ w.cell? ⟨g, o, none⟩ = some (.string t) := by
  obtain ⟨g, o, h1, h2, h3⟩ := h 0 (by simp)
  exact ⟨g, o, h1, h2, by simpa using h3⟩
theorem StO.of_owns {w : World} {B : Nat} {e : TypeId} {v : Value} {ts : List ByteArray} (h : w.ownsRow B e 1 v ts.length (ts.map Value.string)) : ∃ a c, v = .slice a ts.length c ∧ ts.length ≤ c ∧ StO ts a w := by
  obtain ⟨h1, h2⟩ := h
  rcases h2 with ⟨h2, h3⟩ | ⟨g, cap, cur, hv, hB, hg, hc, hm, hsz, ht⟩
  · refine ⟨none, 0, by rw [h3]; exact h2, by omega, fun i hi => absurd hi (by omega)⟩
  · refine ⟨some ⟨g, 0, none⟩, cap, hv, hc, fun i hi => ⟨g, 0, rfl, ?_, ?_⟩⟩
    · rcases Nat.lt_or_ge g w.heap.size with h' | h'
      · exact h'
      · simp [Array.getElem?_eq_none h'] at hg
    · rw [Lib.cell_of_heap hg]
      have h3 : (cur.toList.take (ts.length * 1))[i]? = some (.string ts[i]) := by rw [ht]; simp [hi]
      rw [List.getElem?_take] at h3
      split at h3
      · simpa using h3
      · cases h3
def HaPost (PO : Option (List Prm)) (B : Nat) (r : Ending) (w' : World) : Prop :=
  ∃ v, r = .returned (.tuple #[v, .bool PO.isSome]) ∧ ∀ ps, PO = some ps → w'.ownsRow B 71 2 v ps.length (prCells ps)

set_option maxHeartbeats 400000 in
theorem rhas_none (a b : Option Addr) (ca cb n : Nat) (w : World) (hn : 0 < n) (hl : n ≤ 4398046511104) :
    Calls Tryd.prog 58 #[.slice a 0 ca, .slice b n cb] w fun r w' => r = .returned (.tuple #[.slice none 0 0, .bool false]) ∧ w' = w := by
  have h1 : ((0 : Int) == (n : Int)) = false := by rw [beq_eq_false_iff_ne]; omega
  go_enter Tryd.func58, Tryd.ntmps58
  go_wp2
  go_ret2
  exact ⟨rfl, rfl⟩
set_option maxHeartbeats 400000 in
theorem rhas_short (a b : Option Addr) (ca cb n : Nat) (w : World) (hn : 0 < n) (hl : n ≤ 4398046511104) :
    Calls Tryd.prog 58 #[.slice a n ca, .slice b 0 cb] w fun r w' => r = .returned (.tuple #[.slice none 0 0, .bool false]) ∧ w' = w := by
  have h1 : ((n : Int) == 0) = false := by rw [beq_eq_false_iff_ne]; omega
  go_enter Tryd.func58, Tryd.ntmps58
  go_wp2
  go_ret2
  exact ⟨rfl, rfl⟩
set_option maxHeartbeats 400000 in
theorem rhas_both (a b : Option Addr) (ca cb : Nat) (w : World) :
    Calls Tryd.prog 58 #[.slice a 0 ca, .slice b 0 cb] w fun r w' => r = .returned (.tuple #[.slice none 0 0, .bool true]) ∧ w' = w := by
  go_enter Tryd.func58, Tryd.ntmps58
  go_wp2
  go_ret2
  exact ⟨rfl, rfl⟩
end Go.Proofs.YtnohadlihgjppaaDoor
