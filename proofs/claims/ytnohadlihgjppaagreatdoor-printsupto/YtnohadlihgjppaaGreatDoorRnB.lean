/- The reference's Number, at bases ten and sixteen; nothing old in memory turns. -/
import Derived.Test.YtnohadlihgjppaaGreatDoorRnA
import Derived.Test.YtnohadlihgjppaaGreatDoorWalkE
namespace Go.Proofs.YtnohadlihgjppaaGreatDoor
open Go.RowKit

def hexD : ByteArray := ⟨#[48, 49, 50, 51, 52, 53, 54, 55, 56, 57, 97, 98, 99, 100, 101, 102]⟩
theorem wrap64_nat {x : Nat} (h : x ≤ 9223372036854775807) : wrap64 (x : Int) = (x : Int) := by
  unfold wrap64; omega
theorem hexD_at : ∀ k : Nat, k < 16 → (hexD.extract k (k + 1)) = ⟨#[digC k]⟩ := by decide
theorem ret_strL {a : ByteArray} {l : List UInt8} (h : a.data.toList = l) : Ending.returned (.string a) = .returned (.string ⟨l.toArray⟩) := by
  congr 2; apply ByteArray.ext; rw [← h]
set_option maxHeartbeats 1000000 in
theorem rNumber_nat (b : Nat) (hb : 2 ≤ b) (hb2 : b ≤ 16) (n : Nat) : ∀ (w : World), n ≤ 9223372036854775807 →
    Calls Tryz.prog 35 #[.int .i64 n, .int .i64 b] w fun e w' => e = .returned (.string ⟨(natT b n).toArray⟩) ∧ Below w.heap.size w w' := by
  induction n using Nat.strongRecOn with
  | _ n ih =>
    intro w hn
    by_cases h : n < b
    · have HX := hid (hexD_at n (by omega))
      have HN := hid (natT_small h)
      unfold hexD at HX
      clear ih
      go_enter Tryz.func35, Tryz.ntmps35
      go_wp2
      go_ret
      refine ⟨ret_strL ?_, Below.refl _ _⟩
      rw [HN.out, HX.out]
    · have hle := Nat.div_le_self n b
      have IH := hid (fun W => ih (n / b) (Nat.div_lt_self (by omega) (by omega)) W (by omega))
      have HN := hid (natT_big hb h)
      have hlen := natT_le (b := b) (u := n / b) hb (by omega)
      have hm : n % b < 16 := Nat.lt_of_lt_of_le (Nat.mod_lt _ (by omega)) hb2
      have HX := hid (hexD_at (n % b) hm)
      have hq : wrap64 ((n : Int) / (b : Int)) = ((n / b : Nat) : Int) := by
        rw [← Int.natCast_ediv]; exact wrap64_nat (by omega)
      have hr : ((n : Int) % (b : Int)) = ((n % b : Nat) : Int) := by rw [Int.natCast_emod]
      unfold hexD at HX
      generalize n / b = q at *
      generalize n % b = r at *
      clear ih
      go_enter Tryz.func35, Tryz.ntmps35
      go_wp2_with fail
      refine (IH.out _).mono ?_
      rintro e w1 ⟨rfl, hb1⟩
      generalize hT : (⟨(natT b q).toArray⟩ : ByteArray) = T
      have hTd : T.data.toList = natT b q := by rw [← hT]
      have hTz : T.size ≤ 64 := by
        have : T.data.toList.length = T.size := by simp
        rw [hTd] at this; omega
      have HTD := hid hTd
      have hr3 : wrap64 ((r : Int) + 1) = (r : Int) + 1 := by unfold wrap64; omega
      clear IH hT hTd hlen hq
      go_wp2
      go_ret
      refine ⟨ret_strL ?_, hb1⟩
      rw [HN.out, ByteArray.data_append, Array.toList_append, HTD.out, HX.out]
theorem rNumber_pos (b : Nat) (hb : b = 10 ∨ b = 16) (n : Int) (h0 : 0 ≤ n) (h1 : n ≤ 9223372036854775807) (w : World) :
    Calls Tryz.prog 35 #[.int .i64 n, .int .i64 b] w fun e w' => e = .returned (.string ⟨(numT b n).toArray⟩) ∧ Below w.heap.size w w' := by
  have := rNumber_nat b (by omega) (by omega) n.toNat w (by omega)
  unfold numT
  rw [if_neg (by omega)]
  rw [show ((n.toNat : Nat) : Int) = n from by omega] at this
  exact this
set_option maxHeartbeats 1000000 in
theorem rNumber_neg (n : Int) (h0 : n < 0) (h1 : -9223372036854775808 < n) (w : World) :
    Calls Tryz.prog 35 #[.int .i64 n, .int .i64 10] w fun e w' => e = .returned (.string ⟨(numT 10 n).toArray⟩) ∧ Below w.heap.size w w' := by
  have HN : Hid (∀ W : World, Calls Tryz.prog 35 #[.int .i64 ((n.natAbs : Nat) : Int), .int .i64 10] W fun e w' => e = .returned (.string ⟨(natT 10 n.natAbs).toArray⟩) ∧ Below W.heap.size W w') := fun W => rNumber_nat 10 (by omega) (by omega) n.natAbs W (by omega)
  have hw : IntKind.i64.wrap (-n) = ((n.natAbs : Nat) : Int) := by simp [IntKind.wrap, IntKind.bits, IntKind.signed]; omega
  have hne : (n == ((n.natAbs : Nat) : Int)) = false := by rw [beq_eq_false_iff_ne]; omega
  have hlen := natT_le (b := 10) (u := n.natAbs) (by omega) (by omega)
  have HE : Hid (numT 10 n = 45 :: natT 10 n.natAbs) := by unfold Hid numT; rw [if_pos h0]
  generalize n.natAbs = m at *
  go_enter Tryz.func35, Tryz.ntmps35
  go_wp2_with fail
  refine (HN.out _).mono ?_
  rintro e w1 ⟨rfl, hb1⟩
  generalize hT : (⟨(natT 10 m).toArray⟩ : ByteArray) = T
  have hTd : T.data.toList = natT 10 m := by rw [← hT]
  have hTz : T.size ≤ 64 := by
    have : T.data.toList.length = T.size := by simp
    rw [hTd] at this; omega
  have HTD := hid hTd
  clear hT hTd hlen hw hne HN
  go_wp2
  go_ret
  refine ⟨ret_strL ?_, hb1⟩
  rw [HE.out, ByteArray.data_append, Array.toList_append, HTD.out]; rfl
theorem numT_step (u : Nat) (h : 1 ≤ u) : numT 10 (-((10 * u + 8 : Nat) : Int)) = numT 10 (-(u : Int)) ++ [56] := by
  unfold numT
  rw [if_pos (by omega), if_pos (by omega), Int.natAbs_neg, Int.natAbs_neg, Int.natAbs_natCast, Int.natAbs_natCast, natT_big (b := 10) (u := 10 * u + 8) (by omega) (by omega), show (10 * u + 8) / 10 = u from by omega, show (10 * u + 8) % 10 = 8 from by omega]
  rfl
theorem numT_min (n m : Int) (hn : n = -9223372036854775808) (hm : m = -922337203685477580) : numT 10 n = numT 10 m ++ [56] := by
  have := numT_step 922337203685477580 (by omega)
  rw [show (-((10 * 922337203685477580 + 8 : Nat) : Int)) = n from by omega, show (-((922337203685477580 : Nat) : Int)) = m from by omega] at this
  exact this
set_option maxHeartbeats 200000 in
theorem rNumber_min (n : Int) (hn : n = -9223372036854775808) (w : World) :
    Calls Tryz.prog 35 #[.int .i64 n, .int .i64 10] w fun e w' => e = .returned (.string ⟨(numT 10 n).toArray⟩) ∧ Below w.heap.size w w' := by
  obtain ⟨m, hm⟩ : ∃ m : Int, m = -922337203685477580 := ⟨_, rfl⟩
  have HN := hid (fun W => rNumber_neg m (by omega) (by omega) W)
  have HE := hid (numT_min n m hn hm)
  have hlen := numT_le (b := 10) (n := m) (by omega) (by omega) (by omega)
  generalize hT : (⟨(numT 10 m).toArray⟩ : ByteArray) = T at *
  have hTd : T.data.toList = numT 10 m := by rw [← hT]
  have hTz : T.size ≤ 65 := by
    have : T.data.toList.length = T.size := by simp
    rw [hTd] at this; omega
  have HTD := hid hTd
  have hw : IntKind.i64.wrap (-n) = n := by rw [hn]; rfl
  have h0 : n < 0 := by omega
  have hd : wrap64 (n.tdiv 10) = m := by rw [hn, hm]; decide +kernel
  have hr : wrap64 (-n.tmod 10) = 8 := by rw [hn]; decide +kernel
  clear hT hTd hlen hn hm
  go_enter Tryz.func35, Tryz.ntmps35
  go_wp2_with fail
  refine (HN.out _).mono ?_
  rintro e w1 ⟨rfl, hb1⟩
  clear HN
  go_wp2
  go_ret
  refine ⟨ret_strL ?_, hb1⟩
  rw [HE.out, ByteArray.data_append, Array.toList_append, HTD.out]; rfl
theorem rNumber_ten (n : Int) (h0 : -9223372036854775808 ≤ n) (h1 : n ≤ 9223372036854775807) (w : World) :
    Calls Tryz.prog 35 #[.int .i64 n, .int .i64 10] w fun e w' => e = .returned (.string ⟨(numT 10 n).toArray⟩) ∧ Below w.heap.size w w' := by
  by_cases h : 0 ≤ n
  · exact rNumber_pos 10 (.inl rfl) n h h1 w
  · by_cases h2 : n = -9223372036854775808
    · exact rNumber_min n h2 w
    · exact rNumber_neg n (by omega) (by omega) w
end Go.Proofs.YtnohadlihgjppaaGreatDoor
