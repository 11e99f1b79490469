/- Texts that follow one another, joined. -/
import Derived.Test.YtaekbmfcnkpelaaGreatDoorJoin23
/- The walks of porterkeep's number and after; nothing old in memory turns. -/
namespace Go.Proofs.YtaekbmfcnkpelaaGreatDoor
open Go.RowKit

theorem dig_byte (d : Nat) (h : d < 10) : (strOfNums [48 + (d : Int)]).data.toList = [digC d] := by
  rw [strOf_one]; unfold digC; rw [if_pos h]
  congr 1
theorem conv_cell {g : Nat} {v : Int} {w : World} (h : w.cell? ⟨g, 0, none⟩ = some (.int .u8 v)) : (convert 45 9 (.slice (some ⟨g, 0, none⟩) 1 1)).run Tryz.prog w = .ok (.string (strOfNums [v])) w := by
  refine run_convert_bytes_arg w 45 5 Tryz.underlying45 Tryz.underlying5 g 0 1 1 [v] rfl ?_ 9 Tryz.underlying9
  intro i hi
  obtain rfl : i = 0 := by omega
  simpa using h
set_option maxRecDepth 100000 in
set_option maxHeartbeats 1000000 in
theorem number_any (n : Nat) : ∀ (w : World), n ≤ 1000000 →
    Calls Tryz.prog 7 #[.int .i64 n] w fun e w' => e = .returned (.string ⟨(natT 10 n).toArray⟩) ∧ Below w.heap.size w w' := by
  induction n using Nat.strongRecOn with
  | _ n ih =>
    intro w hn
    by_cases h : n < 10
    · have HN := hid (natT_small h)
      have HD := hid (dig_byte n h)
      have hcv := conv_one (48 + (n : Int))
      clear ih
      go_enter Tryz.func7, Tryz.ntmps7
      go_wp2
      go_ret
      refine ⟨ret_strL ?_, (Below.refl _ _).alloc (Nat.le_refl _) _⟩
      rw [HN.out, HD.out]
    · have hle := Nat.div_le_self n 10
      have IH := hid (fun W => ih (n / 10) (Nat.div_lt_self (by omega) (by omega)) W (by omega))
      have HN := hid (natT_big (b := 10) (by omega) h)
      have hlen := natT_le (b := 10) (u := n / 10) (by omega) (by omega)
      have hm : n % 10 < 10 := Nat.mod_lt _ (by omega)
      have HD := hid (dig_byte (n % 10) hm)
      have hq : wrap64 ((n : Int) / 10) = ((n / 10 : Nat) : Int) := by
        have : ((n : Int) / 10) = ((n / 10 : Nat) : Int) := by omega
        rw [this]; exact wrap64_nat (by omega)
      have hq2 : IntKind.i64.wrap ((n : Int) / 10) = ((n / 10 : Nat) : Int) := by simp [IntKind.wrap, IntKind.bits, IntKind.signed]; omega
      have hr : (n : Int).tmod 10 = ((n % 10 : Nat) : Int) := by rw [Int.tmod_eq_emod_of_nonneg (by omega)]; omega
      have hw1 : IntKind.i64.wrap (48 + ((n % 10 : Nat) : Int)) = 48 + ((n % 10 : Nat) : Int) := by simp [IntKind.wrap, IntKind.bits, IntKind.signed]; omega
      have hw2 : IntKind.u8.wrap (48 + ((n % 10 : Nat) : Int)) = 48 + ((n % 10 : Nat) : Int) := by simp [IntKind.wrap, IntKind.bits, IntKind.signed]; omega
      have hcv := conv_one (48 + ((n % 10 : Nat) : Int))
      have hcz := strOf_size (48 + ((n % 10 : Nat) : Int))
      generalize n / 10 = q at *
      generalize n % 10 = r at *
      clear ih
      generalize hT : (⟨(natT 10 q).toArray⟩ : ByteArray) = T at *
      have hTd : T.data.toList = natT 10 q := by rw [← hT]
      have hTz : T.size ≤ 64 := by
        have : T.data.toList.length = T.size := by simp
        rw [hTd] at this; omega
      have HTD := hid hTd
      clear hT hTd hlen
      have hcA : (w.alloc (.cells #[.int .u8 (48 + (r : Int))] 5)).drew.cell? ⟨w.heap.size, 0, none⟩ = some (.int .u8 (48 + (r : Int))) := by simp
      have hcvA := conv_cell hcA
      go_enter Tryz.func7, Tryz.ntmps7
      go_wp2_with fail
      go_region_with (first
        | (go_at_call 7; refine (IH.out _).mono ?_; rintro e w1 ⟨rfl, hb1⟩; have hcell := cell_later hb1 hcA; have hcv1 := conv_cell hcell)
        | (go_at_call 7; refine (IH.out _).mono ?_; rintro e w1 ⟨rfl, hb1⟩))
      all_goals
        go_wp2
        go_ret
        refine ⟨ret_strL ?_, ?_⟩
        · rw [HN.out, ByteArray.data_append, Array.toList_append, HTD.out, HD.out]
        · first
            | exact bel_of ((Below.refl w.heap.size w).alloc (Nat.le_refl _) _).drew hb1
            | exact (bel_of (Below.refl w.heap.size w).drew hb1).alloc (bel_of (Below.refl w.heap.size w).drew hb1).size _
theorem after_at (s : ByteArray) (x r : List UInt8) (hs : s.data.toList = x ++ 10 :: r) (hx : ∀ c ∈ x, c ≠ 10) : s.size = x.length + 1 + r.length ∧ (∀ k (h : k < s.size), k < x.length → ¬ (s[k].toNat : Int) = 10) ∧ (∀ (h : x.length < s.size), (s[x.length].toNat : Int) = 10) ∧ (s.extract 0 (x.length + 1)).data.toList = x ++ [10] ∧ (s.extract (x.length + 1) s.size).data.toList = r := by
  have hz := size_of hs
  have hl : s.size = x.length + 1 + r.length := by rw [hz]; simp; omega
  have hg : ∀ k (h : k < s.size), s[k] = (x ++ 10 :: r)[k]'(by simp; omega) := fun k h => by
    have h1 : s.data.toList[k]'(by simpa using h) = s[k] := rfl
    rw [← h1]; congr 1
  refine ⟨hl, fun k h hk => ?_, fun h => ?_, ?_, ?_⟩
  · rw [hg k h, List.getElem_append_left hk]
    intro h2
    exact hx _ (List.getElem_mem hk) (UInt8.toNat_inj.1 (by show _ = 10; omega))
  · rw [hg _ h, List.getElem_append_right (Nat.le_refl _)]; simp
  · rw [Lib.extract_data, hs]; simp [List.take_append, List.take_of_length_le]
  · rw [Lib.extract_data, hs, List.take_of_length_le (by simp; omega)]; simp [List.drop_append]
end Go.Proofs.YtaekbmfcnkpelaaGreatDoor

/- The walk of porterkeep's spoilt; nothing old in memory turns. -/
namespace Go.Proofs.YtaekbmfcnkpelaaGreatDoor
open Go.RowKit

def verB : List UInt8 := [77, 32, 47, 32, 72, 84, 84, 80, 47, 49, 46, 48, 13, 10]
def spoilO (x r : List UInt8) (how : Int) (n way : Nat) : List UInt8 := if way < 7 then x ++ 10 :: ((spoilX how n way).1 ++ r) else verB ++ (x ++ 10 :: r)
def spoilE (how : Int) (n way : Nat) : Int := if way < 7 then (spoilX how n way).2 else 7
theorem ret_sp {a b : List UInt8} {e f : Int} (h : a = b) (h' : e = f) : Ending.returned (.tuple #[.string ⟨a.toArray⟩, .int .i64 e]) = .returned (.tuple #[.string ⟨b.toArray⟩, .int .i64 f]) := by rw [h, h']
theorem g_cat (n : Nat) : ((⟨#[99, 111, 110, 116, 101, 110, 116, 45, 108, 101, 110, 103, 116, 104, 58, 32, 32]⟩ : ByteArray) ++ ⟨(natT 10 (n + 1)).toArray⟩ ++ ⟨#[32, 13, 10]⟩).data.toList = gLine n ++ [13, 10] := by
  unfold gLine; simp
end Go.Proofs.YtaekbmfcnkpelaaGreatDoor
