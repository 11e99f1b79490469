/- Plain mathematics: a number in digits to a base, as the reference tells it; base ten is the library's. -/
import Derived.Test.YtnohadlihgjppaaGreatDoorPlainB
import Derived.Lib.ItoaNum
namespace Go.Proofs.YtnohadlihgjppaaGreatDoor

def digC (d : Nat) : UInt8 := if d < 10 then UInt8.ofNat (48 + d) else UInt8.ofNat (87 + d)
def natTF (b : Nat) : Nat → Nat → List UInt8
  | 0, u => [digC u]
  | k + 1, u => if u < b ∨ b < 2 then [digC u] else natTF b k (u / b) ++ [digC (u % b)]
def natT (b u : Nat) : List UInt8 := natTF b u u
theorem natTF_up (b : Nat) : ∀ (k u j : Nat), u ≤ k → k ≤ j → natTF b j u = natTF b k u
  | 0, u, j, h, _ => by
    cases j with
    | zero => rfl
    | succ j =>
      unfold natTF
      split
      · rfl
      · exfalso; omega
  | k + 1, u, j, h, h2 => by
    cases j with
    | zero => exfalso; omega
    | succ j =>
      unfold natTF
      split
      · rfl
      · have hd : u / b < u := Nat.div_lt_self (by omega) (by omega)
        rw [natTF_up b k (u / b) j (by omega) (by omega)]
theorem natT_small {b u : Nat} (h : u < b) : natT b u = [digC u] := by
  unfold natT
  cases u with
  | zero => rfl
  | succ u => unfold natTF; rw [if_pos (Or.inl h)]
theorem natT_big {b u : Nat} (hb : 2 ≤ b) (h : ¬ u < b) : natT b u = natT b (u / b) ++ [digC (u % b)] := by
  unfold natT
  cases u with
  | zero => exfalso; omega
  | succ u =>
    have hd : (u + 1) / b < u + 1 := Nat.div_lt_self (by omega) (by omega)
    rw [natTF, if_neg (by omega), natTF_up b ((u + 1) / b) ((u + 1) / b) u (by omega) (by omega)]
def numT (b : Nat) (n : Int) : List UInt8 := if n < 0 then 45 :: natT b n.natAbs else natT b n.toNat
theorem natT_ten (u : Nat) : natT 10 u = Lib.decDigits u := by
  induction u using Nat.strongRecOn with
  | _ u ih =>
    by_cases h : u < 10
    · rw [natT_small h, Lib.decDigits, dif_pos h]; unfold digC; rw [if_pos h]
    · rw [natT_big (by omega) h, Lib.decDigits, dif_neg h, ih (u / 10) (by omega)]
      unfold digC; rw [if_pos (by omega)]
theorem numT_ten (n : Int) : numT 10 n = Lib.itoa n := by
  unfold numT Lib.itoa; rw [natT_ten, natT_ten]
theorem natT_len {b : Nat} (hb : 2 ≤ b) : ∀ (k u : Nat), u < 2 ^ (k + 1) → (natT b u).length ≤ k + 1
  | 0, u, h => by rw [natT_small (by simp at h; omega)]; simp
  | k + 1, u, h => by
    by_cases hu : u < b
    · rw [natT_small hu]; simp
    · rw [natT_big hb hu, List.length_append]
      have h1 : u / b < 2 ^ (k + 1) := by
        rw [Nat.div_lt_iff_lt_mul (by omega)]
        rw [Nat.pow_succ] at h
        exact Nat.lt_of_lt_of_le h (Nat.mul_le_mul_left _ hb)
      have := natT_len hb k (u / b) h1
      simp; omega
theorem natT_le {b u : Nat} (hb : 2 ≤ b) (h : u ≤ 9223372036854775808) : (natT b u).length ≤ 64 := natT_len hb 63 u (by omega)
theorem numT_le {b : Nat} {n : Int} (hb : 2 ≤ b) (h0 : -9223372036854775808 ≤ n) (h1 : n ≤ 9223372036854775807) : (numT b n).length ≤ 65 := by
  unfold numT
  split
  · have := natT_le (b := b) (u := n.natAbs) hb (by omega); simp; omega
  · have := natT_le (b := b) (u := n.toNat) hb (by omega); omega
end Go.Proofs.YtnohadlihgjppaaGreatDoor
