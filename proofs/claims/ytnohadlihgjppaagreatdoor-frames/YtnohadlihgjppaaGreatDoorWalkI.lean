/- The program's versions, names that are alike, fields and copies of texts: each call answers what the plain mathematics says; nothing old in memory turns. -/
import Derived.Test.YtnohadlihgjppaaGreatDoorWalkH
import Derived.Deep.RegionWith
namespace Go.Proofs.YtnohadlihgjppaaGreatDoor
open Go.RowKit

theorem ver_all {x y z : UInt8} (h1 : Pm.digB x = true) (h2 : (y.toNat : Int) = 46) : Pm.digB z = Pm.verTail [x, y, z] := by
  have hy : y = 46 := UInt8.toNat_inj.1 (by show y.toNat = 46; omega)
  simp [Pm.verTail, h1, hy]
theorem ver_no1 {x y z : UInt8} (h1 : ¬ Pm.digB x = true) : false = Pm.verTail [x, y, z] := by
  simp [Pm.verTail, h1]
theorem ver_no2 {x y z : UInt8} (h2 : ¬ (y.toNat : Int) = 46) : false = Pm.verTail [x, y, z] := by
  have hy : ¬ y = 46 := fun h => h2 (by rw [h]; rfl)
  simp [Pm.verTail, hy]

set_option maxHeartbeats 800000 in
theorem wIsVersion_any (s : ByteArray) (w : World) :
    Calls Tryz.prog 97 #[.string s] w fun e w' => e = .returned (.bool (Pm.isVersion s.data.toList)) ∧ w' = w := by
  cases h1 : Lib.hasPrefix s.data.toList [72, 84, 84, 80, 47]
  · have HV : Hid (Pm.isVersion s.data.toList = false) := by unfold Hid Pm.isVersion Pm.http; rw [h1]; rfl
    go_enter Tryz.func97, Tryz.ntmps97
    go_wp2_with (go_at_call 119; refine (Tryz.strings_CutPrefix _ _ _).mono ?_; rintro e w' ⟨rfl, rfl⟩)
    go_ret
    exact ⟨ret_bool HV.out.symm, rfl⟩
  · have HV : Hid (Pm.isVersion s.data.toList = Pm.verTail (Lib.trimPrefix s.data.toList [72, 84, 84, 80, 47])) := by unfold Hid Pm.isVersion Pm.http; rw [h1]; rfl
    go_enter Tryz.func97, Tryz.ntmps97
    go_wp2_with fail
    refine (Tryz.strings_CutPrefix _ _ _).mono ?_
    rintro e w' ⟨rfl, rfl⟩
    rw [show (⟨#[72, 84, 84, 80, 47]⟩ : ByteArray).data.toList = [72, 84, 84, 80, 47] from rfl, h1]
    clear h1
    generalize Lib.trimPrefix s.data.toList [72, 84, 84, 80, 47] = d at *
    by_cases hl : d.length = 3
    · match d, hl with
      | [x, y, z], _ =>
        go_wp2_with (go_at_call 120; refine (isDigit_any _ _).mono ?_; rintro e w2 ⟨rfl, rfl⟩)
        all_goals
          go_ret
          refine ⟨ret_bool ?_, rfl⟩
          rw [HV.out]
          first
            | exact ver_all (x := x) (y := y) (z := z) (by assumption) (by assumption)
            | exact ver_no1 (x := x) (y := y) (z := z) (by assumption)
            | exact ver_no2 (x := x) (y := y) (z := z) (by assumption)
    · have hl2 : (((⟨d.toArray⟩ : ByteArray).size : Int) == 3) = false := by
        rw [beq_eq_false_iff_ne]; intro h; exact hl (by have h' : ((d.toArray.size : Nat) : Int) = 3 := h; simp at h'; omega)
      have HF : Hid (Pm.verTail d = false) := by
        unfold Hid
        match d, hl with
        | [], _ => rfl
        | [_], _ => rfl
        | [_, _], _ => rfl
        | [_, _, _], h => exact absurd rfl h
        | _ :: _ :: _ :: _ :: _, _ => rfl
      clear hl
      generalize (⟨d.toArray⟩ : ByteArray) = dd at *
      go_wp2
      go_ret
      exact ⟨ret_bool (by rw [HV.out, HF.out]), rfl⟩

set_option maxHeartbeats 400000 in
theorem lower_any (c : UInt8) (w : World) :
    Calls Tryz.prog 90 #[.int .u8 c.toNat] w fun e w' => e = .returned (.int .u8 (Pm.low c).toNat) ∧ w' = w := by
  have h0 := c.toNat_lt
  have hl := Pm.low_nat c
  have HL : Hid ((Pm.low c).toNat = if 65 ≤ c.toNat ∧ c.toNat ≤ 90 then c.toNat + 32 else c.toNat) := hl
  clear hl
  rcases (show (c.toNat : Int) < 65 ∨ 90 < (c.toNat : Int) ∨ (65 ≤ (c.toNat : Int) ∧ (c.toNat : Int) ≤ 90) from by omega) with h | h | h
  · go_enter Tryz.func90, Tryz.ntmps90
    go_wp2
    go_ret
    exact ⟨ret_int (by rw [HL.out, if_neg (by omega)]), rfl⟩
  · go_enter Tryz.func90, Tryz.ntmps90
    go_wp2
    go_ret
    exact ⟨ret_int (by rw [HL.out, if_neg (by omega)]), rfl⟩
  · obtain ⟨h1, h2⟩ := h
    go_enter Tryz.func90, Tryz.ntmps90
    go_wp2
    go_ret
    exact ⟨ret_int (by rw [HL.out, if_pos (by omega)]; omega), rfl⟩

set_option maxHeartbeats 600000 in
theorem wAlike_any (a b : ByteArray) (w : World) (ha : a.size ≤ maxLen) :
    Calls Tryz.prog 68 #[.string a, .string b] w fun e w' => e = .returned (.bool (Pm.alike a.data.toList b.data.toList)) ∧ Below w.heap.size w w' := by
  have hla : a.data.toList.length = a.size := by simp
  have hlb : b.data.toList.length = b.size := by simp
  have HA : Hid (a.data.toList.length = a.size) := hla
  have HB : Hid (b.data.toList.length = b.size) := hlb
  clear hla hlb
  unfold maxLen at ha
  by_cases hl : a.size = b.size
  · have hl2 : ((a.size : Int) != (b.size : Int)) = false := by rw [hl]; simp
    have HE : Hid (a.size = b.size) := hl
    clear hl
    go_enter Tryz.func68, Tryz.ntmps68
    go_wp2
    go_loopw [5, 13] (fun _ i wr => ∃ k : Nat, k ≤ a.size ∧ i = .int .i64 k ∧ Hid ((a.data.toList.take k).map Pm.low = (b.data.toList.take k).map Pm.low) ∧ Below w.heap.size w wr) (fun _ i _ => a.size - (intOf i).toNat)
    case atStart => exact ⟨0, Nat.zero_le _, rfl, rfl, Below.refl _ _⟩
    case round =>
      obtain ⟨k, hk, rfl, H, hbw⟩ := hrel
      by_cases hlt : k < a.size
      · have hlt2 : k < b.size := by rw [← HE.out]; exact hlt
        go_wp2
        go_quiet ((go_at_call 90; exact Calls.quiet_of_same (lower_any _ _)))
        by_cases he : Pm.low a[k] = Pm.low b[k]
        · have h2 : (((Pm.low a[k]).toNat : Int) != ((Pm.low b[k]).toNat : Int)) = false := by rw [he]; simp
          have HS := (show Hid _ from Pm.mapLow_snoc hlt hlt2 he H.out)
          clear he
          go_wp2
          go_roundw
          case rel => exact ⟨k + 1, by omega, by go_num, HS, below_drewN hbw _⟩
          case measure => simp [intOf]; omega
        · have h2 : (((Pm.low a[k]).toNat : Int) != ((Pm.low b[k]).toNat : Int)) = true := by
            rw [bne_iff_ne]; intro h; exact he (UInt8.toNat_inj.1 (by omega))
          have HF := (show Hid _ from Pm.alike_at hlt hlt2 he)
          clear he
          go_wp2
          go_ret
          exact ⟨ret_bool HF.out.symm, below_drewN hbw _⟩
      · go_wp2
        go_ret
        exact ⟨ret_bool (Pm.take_eq_of (by rw [HA.out, HB.out]; exact HE.out) (by rw [HA.out]; omega) H.out).symm, hbw⟩
  · have hl2 : ((a.size : Int) != (b.size : Int)) = true := by rw [bne_iff_ne]; omega
    have HF : Hid (Pm.alike a.data.toList b.data.toList = false) := Pm.alike_ne (by rw [HA.out, HB.out]; exact hl)
    clear hl
    go_enter Tryz.func68, Tryz.ntmps68
    go_wp2
    go_ret
    exact ⟨ret_bool HF.out.symm, Below.refl _ _⟩
end Go.Proofs.YtnohadlihgjppaaGreatDoor
