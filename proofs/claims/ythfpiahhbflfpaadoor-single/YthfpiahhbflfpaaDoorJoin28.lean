/- Texts that follow one another, joined. -/
import Derived.Test.YthfpiahhbflfpaaDoorJoin27
import Derived.Test.YthfpiahhbflfpaaDoorJoin00
import Derived.Lib.ItoaNum
/- Plain mathematics of patterns, sixth part: of patterns that do not meet, one at most has a path. -/
namespace Go.Proofs.YthfpiahhbflfpaaDoor

theorem unesc_pieces : ∀ (n : Nat) (l : List UInt8), l.length ≤ n → (Pm.unesc l).isSome → ∀ c ∈ Lib.split l [47], (Pm.unesc c).isSome
  | n, l, hn, hu => by
    rcases Pm.behind_cases 47 l with h | ⟨r, h⟩
    · rw [Pm.split_none h]; intro c hc; rw [List.mem_singleton.mp hc]; exact hu
    · have h1 := Pm.ahead_behind 47 l
      rw [h] at h1
      have h2 := congrArg List.length h1
      rw [List.length_append, List.length_cons] at h2
      obtain ⟨o, ho⟩ := Option.isSome_iff_exists.mp hu
      rw [← h1] at ho
      obtain ⟨u1, u2⟩ := unesc_cut _ _ _ _ (Nat.le_refl _) ho
      rw [Pm.split_some h]
      match n, hn with
      | 0, hn => omega
      | n + 1, hn =>
        intro c hc
        rcases List.mem_cons.mp hc with rfl | hc
        · exact u1
        · exact unesc_pieces n r (by omega) u2 c hc
theorem isPath_cons {l : List UInt8} (h : Pm.isPath l = true) : ∃ r, l = 47 :: r ∧ (Pm.unesc r).isSome ∧ pcs l = Lib.split r [47] := by
  unfold Pm.isPath at h
  rw [Bool.and_eq_true] at h
  obtain ⟨h1, h2⟩ := h
  cases l with
  | nil => simp [Lib.hasPrefix] at h2
  | cons c s =>
    have hc : c = 47 := by
      unfold Lib.hasPrefix at h2
      exact (by simpa [List.isPrefixOf] using h2 : 47 = c).symm
    subst hc
    obtain ⟨o, ho⟩ := Option.isSome_iff_exists.mp h1
    refine ⟨s, rfl, (unesc_cut 0 [] s o (Nat.le_refl _) ho).2, ?_⟩
    unfold pcs; rw [if_neg (by simp)]; rfl
theorem path_full {l : List UInt8} (h : Pm.isPath l = true) : ∀ c ∈ pcs l, full c := fun c hc => by
  obtain ⟨r, rfl, hu, hp⟩ := isPath_cons h
  rw [hp] at hc
  have := unesc_pieces _ r (Nat.le_refl _) hu c hc
  intro h'
  have he := unT_empty this
  rw [ByteArray.toList_eq, h'] at he
  cases c with
  | nil => rfl
  | cons => cases he
/- what a pattern with these pieces makes of a path -/
def hs (A : List (List UInt8)) (l : List UInt8) : Option (List Prm) := hasL A (pcs l)
theorem match_hs {A : List (List UInt8)} {l : List UInt8} (hA : restLast A) (h : Pm.isPath l = true) : matchB (A.map pcB) (l.drop 1) true [] = hs A l := by
  obtain ⟨r, rfl, hu, hp⟩ := isPath_cons h
  rw [List.drop_one, List.tail_cons, match_has _ _ _ hA hu]
  unfold hs
  rw [hp]
  cases hasL A (Lib.split r [47]) <;> rfl
theorem one_has {A B : List (List UInt8)} {l : List UInt8} (h : Pm.isPath l = true) (h1 : (hs A l).isSome) (h2 : (hs B l).isSome) : ovl (A.map pcB) (B.map pcB) = true :=
  meet_had A B _ (path_full h) h1 h2
theorem isPath_flat {cs : List (List UInt8)} (hn : cs ≠ []) (h : ∀ c ∈ cs, Pm.allP Pm.fixB c = true) : Pm.isPath (flatP cs) = true := by
  unfold Pm.isPath
  rw [unesc_flat cs h]
  cases cs with
  | nil => exact absurd rfl hn
  | cons c r => simp [flatP, Lib.hasPrefix, List.isPrefixOf]
end Go.Proofs.YthfpiahhbflfpaaDoor

/- Plain mathematics: a number in digits to a base, as the reference tells it; base ten is the library's. -/
namespace Go.Proofs.YthfpiahhbflfpaaDoor

def digC (d : Nat) : UInt8 := if d < 10 then UInt8.ofNat (48 + d) else UInt8.ofNat (87 + d)
def natTF (b : Nat) : Nat → Nat → List UInt8
  | 0, u => [digC u]
  | k + 1, u => if u < b ∨ b < 2 then [digC u] else natTF b k (u / b) ++ [digC (u % b)]
def natT (b u : Nat) : List UInt8 := natTF b u u
theorem natTF_up (b : Nat) : ∀ (k u j : Nat), u ≤ k → k ≤ j → natTF b j u = natTF b k u
  | 0, u, j, h, _ => by
    cases j with
    | zero => rfl
    | succ j =>
      unfold natTF
      split
      · rfl
      · exfalso; omega
  | k + 1, u, j, h, h2 => by
    cases j with
    | zero => exfalso; omega
    | succ j =>
      unfold natTF
      split
      · rfl
      · have hd : u / b < u := Nat.div_lt_self (by omega) (by omega)
        rw [natTF_up b k (u / b) j (by omega) (by omega)]
theorem natT_small {b u : Nat} (h : u < b) : natT b u = [digC u] := by
  unfold natT
  cases u with
  | zero => rfl
  | succ u => unfold natTF; rw [if_pos (Or.inl h)]
theorem natT_big {b u : Nat} (hb : 2 ≤ b) (h : ¬ u < b) : natT b u = natT b (u / b) ++ [digC (u % b)] := by
  unfold natT
  cases u with
  | zero => exfalso; omega
  | succ u =>
    have hd : (u + 1) / b < u + 1 := Nat.div_lt_self (by omega) (by omega)
    rw [natTF, if_neg (by omega), natTF_up b ((u + 1) / b) ((u + 1) / b) u (by omega) (by omega)]
def numT (b : Nat) (n : Int) : List UInt8 := if n < 0 then 45 :: natT b n.natAbs else natT b n.toNat
theorem natT_ten (u : Nat) : natT 10 u = Lib.decDigits u := by
  induction u using Nat.strongRecOn with
  | _ u ih =>
    by_cases h : u < 10
    · rw [natT_small h, Lib.decDigits, dif_pos h]; unfold digC; rw [if_pos h]
    · rw [natT_big (by omega) h, Lib.decDigits, dif_neg h, ih (u / 10) (by omega)]
      unfold digC; rw [if_pos (by omega)]
theorem numT_ten (n : Int) : numT 10 n = Lib.itoa n := by
  unfold numT Lib.itoa; rw [natT_ten, natT_ten]
theorem natT_len {b : Nat} (hb : 2 ≤ b) : ∀ (k u : Nat), u < 2 ^ (k + 1) → (natT b u).length ≤ k + 1
  | 0, u, h => by rw [natT_small (by simp at h; omega)]; simp
  | k + 1, u, h => by
    by_cases hu : u < b
    · rw [natT_small hu]; simp
    · rw [natT_big hb hu, List.length_append]
      have h1 : u / b < 2 ^ (k + 1) := by
        rw [Nat.div_lt_iff_lt_mul (by omega)]
        rw [Nat.pow_succ] at h
        exact Nat.lt_of_lt_of_le h (Nat.mul_le_mul_left _ hb)
      have := natT_len hb k (u / b) h1
      simp; omega
theorem natT_le {b u : Nat} (hb : 2 ≤ b) (h : u ≤ 9223372036854775808) : (natT b u).length ≤ 64 := natT_len hb 63 u (by omega)
theorem numT_le {b : Nat} {n : Int} (hb : 2 ≤ b) (h0 : -9223372036854775808 ≤ n) (h1 : n ≤ 9223372036854775807) : (numT b n).length ≤ 65 := by
  unfold numT
  split
  · have := natT_le (b := b) (u := n.natAbs) hb (by omega); simp; omega
  · have := natT_le (b := b) (u := n.toNat) hb (by omega); omega
end Go.Proofs.YthfpiahhbflfpaaDoor
