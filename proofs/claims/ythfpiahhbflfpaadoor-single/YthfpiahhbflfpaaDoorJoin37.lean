/- Texts that follow one another, joined. -/
import Derived.Test.YthfpiahhbflfpaaDoorJoin36
import Derived.Test.YthfpiahhbflfpaaDoorJoin15
/- The walks of porterkeep's number and after; nothing old in memory turns. -/
namespace Go.Proofs.YthfpiahhbflfpaaDoor
open Go.RowKit

theorem dig_byte (d : Nat) (h : d < 10) : (strOfNums [48 + (d : Int)]).data.toList = [digC d] := by
  rw [strOf_one]; unfold digC; rw [if_pos h]
  congr 1
theorem conv_cell {g : Nat} {v : Int} {w : World} (h : w.cell? ⟨g, 0, none⟩ = some (.int .u8 v)) : (convert 55 9 (.slice (some ⟨g, 0, none⟩) 1 1)).run Tryd.prog w = .ok (.string (strOfNums [v])) w := by
  refine run_convert_bytes_arg w 55 5 Tryd.underlying55 Tryd.underlying5 g 0 1 1 [v] rfl ?_ 9 Tryd.underlying9
  intro i hi
  obtain rfl : i = 0 := by omega
  simpa using h
set_option maxRecDepth 100000 in
set_option maxHeartbeats 1000000 in
theorem number_any (n : Nat) : ∀ (w : World), n ≤ 1000000 →
    Calls Tryd.prog 15 #[.int .i64 n] w fun e w' => e = .returned (.string ⟨(natT 10 n).toArray⟩) ∧ Below w.heap.size w w' := by
  induction n using Nat.strongRecOn with
  | _ n ih =>
    intro w hn
    by_cases h : n < 10
    · have HN := hid (natT_small h)
      have HD := hid (dig_byte n h)
      have hcv := conv_one (48 + (n : Int))
      clear ih
      go_enter Tryd.func15, Tryd.ntmps15
      go_wp2
      go_ret
      refine ⟨ret_strL ?_, (Below.refl _ _).alloc (Nat.le_refl _) _⟩
      rw [HN.out, HD.out]
    · have hle := Nat.div_le_self n 10
      have IH := hid (fun W => ih (n / 10) (Nat.div_lt_self (by omega) (by omega)) W (by omega))
      have HN := hid (natT_big (b := 10) (by omega) h)
      have hlen := natT_le (b := 10) (u := n / 10) (by omega) (by omega)
      have hm : n % 10 < 10 := Nat.mod_lt _ (by omega)
      have HD := hid (dig_byte (n % 10) hm)
      have hq : wrap64 ((n : Int) / 10) = ((n / 10 : Nat) : Int) := by
        have : ((n : Int) / 10) = ((n / 10 : Nat) : Int) := by omega
        rw [this]; exact wrap64_nat (by omega)
      have hq2 : IntKind.i64.wrap ((n : Int) / 10) = ((n / 10 : Nat) : Int) := by simp [IntKind.wrap, IntKind.bits, IntKind.signed]; omega
      have hr : (n : Int).tmod 10 = ((n % 10 : Nat) : Int) := by rw [Int.tmod_eq_emod_of_nonneg (by omega)]; omega
      have hw1 : IntKind.i64.wrap (48 + ((n % 10 : Nat) : Int)) = 48 + ((n % 10 : Nat) : Int) := by simp [IntKind.wrap, IntKind.bits, IntKind.signed]; omega
      have hw2 : IntKind.u8.wrap (48 + ((n % 10 : Nat) : Int)) = 48 + ((n % 10 : Nat) : Int) := by simp [IntKind.wrap, IntKind.bits, IntKind.signed]; omega
      have hcv := conv_one (48 + ((n % 10 : Nat) : Int))
      have hcz := strOf_size (48 + ((n % 10 : Nat) : Int))
      generalize n / 10 = q at *
      generalize n % 10 = r at *
      clear ih
      generalize hT : (⟨(natT 10 q).toArray⟩ : ByteArray) = T at *
      have hTd : T.data.toList = natT 10 q := by rw [← hT]
      have hTz : T.size ≤ 64 := by
        have : T.data.toList.length = T.size := by simp
        rw [hTd] at this; omega
      have HTD := hid hTd
      clear hT hTd hlen
      have hcA : (w.alloc (.cells #[.int .u8 (48 + (r : Int))] 5)).drew.cell? ⟨w.heap.size, 0, none⟩ = some (.int .u8 (48 + (r : Int))) := by simp
      have hcvA := conv_cell hcA
      go_enter Tryd.func15, Tryd.ntmps15
      go_wp2_with fail
      go_region_with (first
        | (go_at_call 15; refine (IH.out _).mono ?_; rintro e w1 ⟨rfl, hb1⟩; have hcell := cell_later hb1 hcA; have hcv1 := conv_cell hcell)
        | (go_at_call 15; refine (IH.out _).mono ?_; rintro e w1 ⟨rfl, hb1⟩))
      all_goals
        go_wp2
        go_ret
        refine ⟨ret_strL ?_, ?_⟩
        · rw [HN.out, ByteArray.data_append, Array.toList_append, HTD.out, HD.out]
        · first
            | exact bel_of ((Below.refl w.heap.size w).alloc (Nat.le_refl _) _).drew hb1
            | exact (bel_of (Below.refl w.heap.size w).drew hb1).alloc (bel_of (Below.refl w.heap.size w).drew hb1).size _
theorem after_at (s : ByteArray) (x r : List UInt8) (hs : s.data.toList = x ++ 10 :: r) (hx : ∀ c ∈ x, c ≠ 10) : s.size = x.length + 1 + r.length ∧ (∀ k (h : k < s.size), k < x.length → ¬ (s[k].toNat : Int) = 10) ∧ (∀ (h : x.length < s.size), (s[x.length].toNat : Int) = 10) ∧ (s.extract 0 (x.length + 1)).data.toList = x ++ [10] ∧ (s.extract (x.length + 1) s.size).data.toList = r := by
  have hz := size_of hs
  have hl : s.size = x.length + 1 + r.length := by rw [hz]; simp; omega
  have hg : ∀ k (h : k < s.size), s[k] = (x ++ 10 :: r)[k]'(by simp; omega) := fun k h => by
    have h1 : s.data.toList[k]'(by simpa using h) = s[k] := rfl
    rw [← h1]; congr 1
  refine ⟨hl, fun k h hk => ?_, fun h => ?_, ?_, ?_⟩
  · rw [hg k h, List.getElem_append_left hk]
    intro h2
    exact hx _ (List.getElem_mem hk) (UInt8.toNat_inj.1 (by show _ = 10; omega))
  · rw [hg _ h, List.getElem_append_right (Nat.le_refl _)]; simp
  · rw [Lib.extract_data, hs]; simp [List.take_append, List.take_of_length_le]
  · rw [Lib.extract_data, hs, List.take_of_length_le (by simp; omega)]; simp [List.drop_append]
end Go.Proofs.YthfpiahhbflfpaaDoor

/- The law's own small help: pick and bounded. -/
namespace Go.Proofs.YthfpiahhbflfpaaDoor
open Go.RowKit

def pickS (c n : Int) : Int := (if c < 0 then -(c + 1) else c) % n

set_option maxHeartbeats 1000000 in
theorem pick_any (c n : Int) (w : World) (h1 : -9223372036854775808 ≤ c) (h2 : c ≤ 9223372036854775807) (hn : 0 < n) (hn2 : n ≤ 9223372036854775807) :
    Calls Tryd.prog 14 #[.int .i64 c, .int .i64 n] w fun e w' => e = .returned (.int .i64 (pickS c n)) ∧ w' = w := by
  unfold pickS
  by_cases hc : c < 0
  · rw [if_pos hc]
    have w1 : IntKind.i64.wrap (c + 1) = c + 1 := by simp [IntKind.wrap, IntKind.bits, IntKind.signed]; omega
    have w2 : IntKind.i64.wrap (-(c + 1)) = -(c + 1) := by simp [IntKind.wrap, IntKind.bits, IntKind.signed]; omega
    have hz : ¬ n = 0 := by omega
    go_enter Tryd.func14, Tryd.ntmps14
    go_wp2
    go_ret
    refine ⟨?_, rfl⟩
    rw [show -(c + 1).tmod n = -(c + 1) % n from by rw [← Int.neg_tmod, Int.tmod_eq_emod_of_nonneg (by omega)]]
    rfl
  · rw [if_neg hc]
    have hz : ¬ n = 0 := by omega
    go_enter Tryd.func14, Tryd.ntmps14
    go_wp2
    go_ret
    exact ⟨rfl, rfl⟩
theorem pickS_bd (c n : Int) (hn : 0 < n) : 0 ≤ pickS c n ∧ pickS c n < n := ⟨Int.emod_nonneg _ (by omega), Int.emod_lt_of_pos _ hn⟩
end Go.Proofs.YthfpiahhbflfpaaDoor
