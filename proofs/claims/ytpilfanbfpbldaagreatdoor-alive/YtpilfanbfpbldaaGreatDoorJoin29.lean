/- Texts that follow one another, joined. -/
import Derived.Test.YtpilfanbfpbldaaGreatDoorJoin28
import Derived.Deep.AppendLies
import Derived.Laws.OwnMore
import Derived.Deep.Upon
/- Plain mathematics of patterns, fifth part: the patterns that are made of numbers are patterns. -/
namespace Go.Proofs.YtpilfanbfpbldaaGreatDoor

def digU (i : Nat) : UInt8 := (48 + i).toUInt8
def pcAt (i : Nat) (c : List UInt8) : Prop := c = [97] ∨ c = [98] ∨ c = [58, 112, digU i] ∨ c = [97, 46, 98] ∨ c = [42, 114] ∨ c = [58, 113, digU i] ∨ c = []
structure Made (cs : List (List UInt8)) : Prop where
  any : cs ≠ []
  few : cs.length ≤ 8
  each : ∀ i (h : i < cs.length), pcAt i cs[i]
  last : ∀ i (h : i < cs.length), cs[i] = [42, 114] → i + 1 = cs.length
theorem digU_inj {i j : Nat} (hi : i < 8) (hj : j < 8) (h : digU i = digU j) : i = j := by
  have := congrArg UInt8.toNat h
  unfold digU at this
  simp [Nat.toUInt8] at this
  omega
theorem at_kind {i : Nat} {c : List UInt8} (h : pcAt i c) : (Pm.pieceK c = 0 ∧ Pm.allP Pm.fixB c = true) ∨ (Pm.pieceK c = 1 ∧ (Pm.pieceT c = [112, digU i] ∨ Pm.pieceT c = [113, digU i])) ∨ (Pm.pieceK c = 2 ∧ Pm.pieceT c = [114] ∧ c = [42, 114]) := by
  rcases h with rfl | rfl | rfl | rfl | rfl | rfl | rfl
  · left; decide
  · left; decide
  · right; left; exact ⟨rfl, Or.inl rfl⟩
  · left; decide
  · right; right; exact ⟨rfl, rfl, rfl⟩
  · right; left; exact ⟨rfl, Or.inr rfl⟩
  · left; decide
theorem Made.rest {cs : List (List UInt8)} (h : Made cs) : restLast cs := by
  have hl : ∀ i (h : i < cs.length), Pm.pieceK cs[i] = 2 → i + 1 = cs.length := fun i hi hk => by
    rcases at_kind (h.each i hi) with h1 | h1 | h1
    · omega
    · omega
    · exact h.last i hi h1.2.2
  have key : ∀ (l : List (List UInt8)), (∀ i (hi : i < l.length), Pm.pieceK l[i] = 2 → i + 1 = l.length) → restLast l := by
    intro l
    induction l with
    | nil => intro _; trivial
    | cons a l ih =>
      intro h
      refine ⟨fun h2 => ?_, ih (fun i hi hk => ?_)⟩
      · have := h 0 (by simp) h2
        have : l.length = 0 := by simpa using this.symm
        exact List.eq_nil_of_length_eq_zero this
      · have := h (i + 1) (by simpa using hi) (by simpa using hk)
        simpa using this
  exact key cs hl
theorem Made.names {cs : List (List UInt8)} (h : Made cs) (i j : Nat) (hi : i < cs.length) (hj : j < i) (ki : Pm.pieceK cs[i] ≠ 0) (kj : Pm.pieceK cs[j] ≠ 0) : Pm.pieceT cs[j] ≠ Pm.pieceT cs[i] := fun he => by
  have hf := h.few
  rcases at_kind (h.each j (by omega)) with h1 | h1 | h1
  · exact kj h1.1
  · rcases at_kind (h.each i hi) with h2 | h2 | h2
    · exact ki h2.1
    · have : digU j = digU i := by
        rcases h1.2 with e1 | e1 <;> rcases h2.2 with e2 | e2 <;> rw [e1, e2] at he <;> simp at he <;> exact he
      have := digU_inj (by omega) (by omega) this
      omega
    · rcases h1.2 with e1 | e1 <;> rw [e1, h2.2.1] at he <;> simp at he
  · have := h.last j (by omega) h1.2.2
    omega
end Go.Proofs.YtpilfanbfpbldaaGreatDoor

/- Plain mathematics of patterns, sixth part: of patterns that do not meet, one at most has a path. -/
namespace Go.Proofs.YtpilfanbfpbldaaGreatDoor

/- what a pattern with these pieces makes of a path -/
def hs (A : List (List UInt8)) (l : List UInt8) : Option (List Prm) := hasL A (pcs l)
end Go.Proofs.YtpilfanbfpbldaaGreatDoor

/- The reference's has, by induction over a pattern's pieces; nothing old in memory turns. -/
namespace Go.Proofs.YtpilfanbfpbldaaGreatDoor
open Go.RowKit

theorem StO.head {t : ByteArray} {ts : List ByteArray} {a : Option Addr} {w : World} (h : StO (t :: ts) a w) : ∃ g o, a = some ⟨g, o, none⟩ ∧ g < w.heap.size ∧ w.cell? ⟨g, o, none⟩ = some (.string t) := by
  obtain ⟨g, o, h1, h2, h3⟩ := h 0 (by simp)
  exact ⟨g, o, h1, h2, by simpa using h3⟩
theorem StO.of_owns {w : World} {B : Nat} {e : TypeId} {v : Value} {ts : List ByteArray} (h : w.ownsRow B e 1 v ts.length (ts.map Value.string)) : ∃ a c, v = .slice a ts.length c ∧ ts.length ≤ c ∧ StO ts a w := by
  obtain ⟨h1, h2⟩ := h
  rcases h2 with ⟨h2, h3⟩ | ⟨g, cap, cur, hv, hB, hg, hc, hm, hsz, ht⟩
  · refine ⟨none, 0, by rw [h3]; exact h2, by omega, fun i hi => absurd hi (by omega)⟩
  · refine ⟨some ⟨g, 0, none⟩, cap, hv, hc, fun i hi => ⟨g, 0, rfl, ?_, ?_⟩⟩
    · rcases Nat.lt_or_ge g w.heap.size with h' | h'
      · exact h'
      · simp [Array.getElem?_eq_none h'] at hg
    · rw [Lib.cell_of_heap hg]
      have h3 : (cur.toList.take (ts.length * 1))[i]? = some (.string ts[i]) := by rw [ht]; simp [hi]
      rw [List.getElem?_take] at h3
      split at h3
      · simpa using h3
      · cases h3
end Go.Proofs.YtpilfanbfpbldaaGreatDoor

/- The reference's has, by induction over a pattern's pieces; nothing old in memory turns. -/
namespace Go.Proofs.YtpilfanbfpbldaaGreatDoor
open Go.RowKit

section
variable {P : Program} (w : World)
end

end Go.Proofs.YtpilfanbfpbldaaGreatDoor
