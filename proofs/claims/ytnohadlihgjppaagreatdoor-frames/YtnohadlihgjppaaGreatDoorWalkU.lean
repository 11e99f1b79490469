/- RightLimits; what the fields of a head are, in memory and in number. -/
import Derived.Test.YtnohadlihgjppaaGreatDoorPlainH
namespace Go.Proofs.YtnohadlihgjppaaGreatDoor
open Go.RowKit

theorem rightLimits_any (hd bd : Int) (w : World) :
    Calls Tryz.prog 36 #[.agg #[.int .i64 hd, .int .i64 bd]] w fun e w' => e = .returned (.bool (decide (32 ≤ hd ∧ hd ≤ 500 ∧ 0 ≤ bd ∧ bd ≤ 200))) ∧ Below w.heap.size w w' := by
  go_enter Tryz.func36, Tryz.ntmps36
  go_wp2
  all_goals
    go_ret
    refine ⟨?_, (Below.refl _ _).alloc (Nat.le_refl _) _⟩
    try congr 2
    try simp
    try simp [*]
    try (intros; omega)

theorem fldsOf_len (fs : List Pm.Fld) : (fldsOf fs).length = fs.length := by unfold fldsOf; simp
theorem flat_get : ∀ (fs : List Pm.Fld) (i : Nat) (h : i < (fldsOf fs).length), (flat fs)[i * 2]? = some (.string (fldsOf fs)[i].1) ∧ (flat fs)[i * 2 + 1]? = some (.string (fldsOf fs)[i].2)
  | [], i, h => absurd h (by simp [fldsOf])
  | f :: fs, 0, h => by simp [flat, fldsOf]
  | f :: fs, i + 1, h => by
    have := flat_get fs i (by simpa [fldsOf] using h)
    have e : flat (f :: fs) = (.string ⟨f.1.toArray⟩) :: (.string ⟨f.2.toArray⟩) :: flat fs := by simp [flat]
    rw [e, show (i + 1) * 2 = i * 2 + 1 + 1 from by omega, List.getElem?_cons_succ, List.getElem?_cons_succ, show i * 2 + 1 + 1 + 1 = (i * 2 + 1) + 1 + 1 from by omega, List.getElem?_cons_succ, List.getElem?_cons_succ]
    simpa [fldsOf] using this
theorem flat_at {w : World} {B : Nat} {e : TypeId} {v : Value} {fs : List Pm.Fld} (h : w.ownsRow B e 2 v fs.length (flat fs)) : ∃ a cap, v = .slice a (fldsOf fs).length cap ∧ FlAt (fldsOf fs) a w := by
  obtain ⟨h1, h2⟩ := h
  rcases h2 with ⟨h2, h3⟩ | ⟨g, cap, cur, hv, hB, hg, hc, hm, hsz, ht⟩
  · refine ⟨none, 0, ?_, fun i hi => ?_⟩
    · rw [fldsOf_len, h3]; exact h2
    · rw [fldsOf_len] at hi; omega
  · refine ⟨some ⟨g, 0, none⟩, cap, ?_, fun i hi => ⟨g, rfl, ?_, ?_, ?_⟩⟩
    · rw [fldsOf_len]; exact hv
    · exact (Array.getElem?_eq_some_iff.1 hg).1
    · rw [Lib.cell_of_heap hg]
      have := (flat_get fs i hi).1
      rw [← ht, List.getElem?_take_of_lt (by rw [fldsOf_len] at hi; omega)] at this
      simpa using this
    · rw [Lib.cell_of_heap hg]
      have := (flat_get fs i hi).2
      rw [← ht, List.getElem?_take_of_lt (by rw [fldsOf_len] at hi; omega)] at this
      simpa using this
theorem headS_flds (f : Nat) : ∀ (first : Bool) (l : List UInt8) (lim : Nat) (m tg : List UInt8) (fs : List Pm.Fld) (u : Nat), (Pm.headS f first l lim m tg fs u).1 = 0 → (Pm.headS f first l lim m tg fs u).2.2.2.1.length ≤ fs.length + lim ∧ ∀ x ∈ (Pm.headS f first l lim m tg fs u).2.2.2.1, x ∈ fs ∨ x.1.length + x.2.length ≤ lim := by
  induction f with
  | zero => intro first l lim m tg fs u h; exact absurd (show (2 : Int) = 0 from h) (by decide)
  | succ f ih =>
    intro first l lim m tg fs u h
    rw [headS_succ] at h ⊢
    by_cases h2 : (Pm.lineS l lim 5).1 ≠ 0
    · rw [if_pos h2] at h; exact absurd h h2
    · have hk := Pm.lineS_ok (l := l) (lim := lim) (long := 5) (by decide) (by omega)
      rw [if_neg h2] at h ⊢
      by_cases h3 : first = true
      · rw [if_pos h3] at h ⊢
        by_cases h4 : (Pm.firstS (Pm.lineS l lim 5).2.1).1 ≠ 0
        · rw [if_pos h4] at h; exact absurd h h4
        · rw [if_neg h4] at h ⊢
          obtain ⟨i1, i2⟩ := ih _ _ _ _ _ _ _ h
          refine ⟨by omega, fun x hx => ?_⟩
          rcases i2 x hx with h5 | h5
          · exact .inl h5
          · exact .inr (by omega)
      · rw [if_neg h3] at h ⊢
        by_cases h4 : (Pm.lineS l lim 5).2.1 = []
        · rw [if_pos h4]
          exact ⟨Nat.le_add_right _ _, fun x hx => .inl hx⟩
        · rw [if_neg h4] at h ⊢
          cases h5 : Pm.fieldS (Pm.lineS l lim 5).2.1 with
          | none => rw [h5] at h; exact absurd (show (3 : Int) = 0 from h) (by decide)
          | some f' =>
            rw [h5] at h
            have hle := field_le (n := f'.1) (v := f'.2) h5
            obtain ⟨i1, i2⟩ := ih _ _ _ _ _ _ _ h
            simp only
            rw [List.length_append, List.length_singleton] at i1
            refine ⟨by omega, fun x hx => ?_⟩
            rcases i2 x hx with h6 | h6
            · rw [List.mem_append, List.mem_singleton] at h6
              rcases h6 with h6 | h6
              · exact .inl h6
              · subst h6; exact .inr (by omega)
            · exact .inr (by omega)

end Go.Proofs.YtnohadlihgjppaaGreatDoor
