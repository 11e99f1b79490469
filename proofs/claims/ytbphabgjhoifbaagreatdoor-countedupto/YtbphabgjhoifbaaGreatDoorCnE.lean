/- Plain mathematics: numbers read, lines of names and values. -/
import Derived.Test.YtbphabgjhoifbaaGreatDoorJoin26
namespace Go.Proofs.YtbphabgjhoifbaaGreatDoor
open Go.RowKit

theorem dval_ten : ∀ d : Nat, d < 10 → Pm.dval (digC d) = d := by decide
theorem digC_cr : ∀ d : Nat, d < 10 → digC d ≠ 13 := by decide
theorem ten_read (u : Nat) : Pm.digsB 10 (natT 10 u) = true ∧ Pm.numv 10 (natT 10 u) = u ∧ 1 ≤ (natT 10 u).length ∧ (13 : UInt8) ∉ natT 10 u := by
  induction u using Nat.strongRecOn with
  | _ u ih =>
    by_cases h : u < 10
    · rw [natT_small h]
      have := dval_ten u h
      refine ⟨?_, ?_, by simp, ?_⟩
      · simp [Pm.digsB, this]; omega
      · simp [Pm.numv, this]
      · intro q; rw [List.mem_singleton] at q; exact digC_cr u h q.symm
    · rw [natT_big (by omega) h]
      obtain ⟨h1, h2, h3, h4⟩ := ih (u / 10) (by omega)
      have hm : u % 10 < 10 := Nat.mod_lt _ (by omega)
      have hd := dval_ten (u % 10) hm
      refine ⟨?_, ?_, by simp, ?_⟩
      · rw [Pm.digsB_snoc, h1, hd]; simp; omega
      · rw [Pm.numv_snoc, h2, hd]; omega
      · intro q
        rcases List.mem_append.1 q with q | q
        · exact h4 q
        · rw [List.mem_singleton] at q; exact digC_cr _ hm q.symm
theorem ten_len : ∀ (k u : Nat), u < 10 ^ (k + 1) → (natT 10 u).length ≤ k + 1
  | 0, u, h => by rw [natT_small (by simpa using h)]; simp
  | k + 1, u, h => by
    by_cases hu : u < 10
    · rw [natT_small hu]; simp
    · rw [natT_big (by omega) hu, List.length_append]
      have h1 : u / 10 < 10 ^ (k + 1) := by
        rw [Nat.div_lt_iff_lt_mul (by omega)]
        rw [Nat.pow_succ] at h
        exact h
      have := ten_len k (u / 10) h1
      simp only [List.length_cons, List.length_nil]; omega
theorem ten_nine (u : Nat) (h : u ≤ 999999999) : (natT 10 u).length ≤ 9 := ten_len 8 u (Nat.lt_of_le_of_lt h (by decide))
theorem ten_three (u : Nat) (h0 : 100 ≤ u) (h1 : u ≤ 999) : (natT 10 u).length = 3 := by
  rw [natT_big (by omega) (by omega), natT_big (b := 10) (u := u / 10) (by omega) (by omega), natT_small (by omega)]
  rfl
theorem num_ten (n : Nat) : numT 10 (n : Int) = natT 10 n := by unfold numT; rw [if_neg (by omega)]; rfl
abbrev Hf := List UInt8 × List UInt8
def hdNv (hs : List Hf) : List UInt8 := hs.flatMap fun p => fldL p.1 p.2
theorem hdNv_cons (p : Hf) (r : List Hf) : hdNv (p :: r) = fldL p.1 p.2 ++ hdNv r := by unfold hdNv; rw [List.flatMap_cons]
structure HdOk (p : Hf) : Prop where
  n : p.1 ≠ []
  c : (58 : UInt8) ∉ p.1
  r : (13 : UInt8) ∉ p.1
  v : (13 : UInt8) ∉ p.2
  d : p.1 = cLen → Pm.digsB 10 p.2 = true ∧ 1 ≤ p.2.length ∧ p.2.length ≤ 9
def runH : Int → List Hf → Option Int
  | n, [] => some n
  | n, p :: r => if p.1 = cLen then (if 0 ≤ n then none else runH (Pm.numv 10 p.2) r) else runH n r
theorem run_past : ∀ (P : List Hf) (Q : List Hf) (n : Int), (∀ p ∈ P, p.1 ≠ cLen) → runH n (P ++ Q) = runH n Q
  | [], _, _, _ => rfl
  | p :: r, Q, n, h => by
    rw [List.cons_append, runH, if_neg (h p (by simp))]
    exact run_past r Q n (fun q hq => h q (by simp [hq]))
end Go.Proofs.YtbphabgjhoifbaaGreatDoor
