/- Texts that follow one another, joined. -/
import Derived.Test.YtnohadlihgjppaaDoorJoin08
import Derived.Deep.RegionWith
/- The program's versions, names that are alike, fields and copies of texts: each call answers what the plain mathematics says; nothing old in memory turns. -/
namespace Go.Proofs.YtnohadlihgjppaaDoor
open Go.RowKit

theorem ver_all {x y z : UInt8} (h1 : Pm.digB x = true) (h2 : (y.toNat : Int) = 46) : Pm.digB z = Pm.verTail [x, y, z] := by
  have hy : y = 46 := UInt8.toNat_inj.1 (by show y.toNat = 46; omega)
  simp [Pm.verTail, h1, hy]
theorem ver_no1 {x y z : UInt8} (h1 : ¬ Pm.digB x = true) : false = Pm.verTail [x, y, z] := by
  simp [Pm.verTail, h1]
theorem ver_no2 {x y z : UInt8} (h2 : ¬ (y.toNat : Int) = 46) : false = Pm.verTail [x, y, z] := by
  have hy : ¬ y = 46 := fun h => h2 (by rw [h]; rfl)
  simp [Pm.verTail, hy]

set_option maxHeartbeats 800000 in
theorem wIsVersion_any (s : ByteArray) (w : World) :
    Calls Tryd.prog 95 #[.string s] w fun e w' => e = .returned (.bool (Pm.isVersion s.data.toList)) ∧ w' = w := by
  cases h1 : Lib.hasPrefix s.data.toList [72, 84, 84, 80, 47]
  · have HV : Hid (Pm.isVersion s.data.toList = false) := by unfold Hid Pm.isVersion Pm.http; rw [h1]; rfl
    go_enter Tryd.func95, Tryd.ntmps95
    go_wp2_with (go_at_call 104; refine (Tryd.strings_CutPrefix _ _ _).mono ?_; rintro e w' ⟨rfl, rfl⟩)
    go_ret
    exact ⟨ret_bool HV.out.symm, rfl⟩
  · have HV : Hid (Pm.isVersion s.data.toList = Pm.verTail (Lib.trimPrefix s.data.toList [72, 84, 84, 80, 47])) := by unfold Hid Pm.isVersion Pm.http; rw [h1]; rfl
    go_enter Tryd.func95, Tryd.ntmps95
    go_wp2_with fail
    refine (Tryd.strings_CutPrefix _ _ _).mono ?_
    rintro e w' ⟨rfl, rfl⟩
    rw [show (⟨#[72, 84, 84, 80, 47]⟩ : ByteArray).data.toList = [72, 84, 84, 80, 47] from rfl, h1]
    clear h1
    generalize Lib.trimPrefix s.data.toList [72, 84, 84, 80, 47] = d at *
    by_cases hl : d.length = 3
    · match d, hl with
      | [x, y, z], _ =>
        go_wp2_with (go_at_call 118; refine (isDigit_any _ _).mono ?_; rintro e w2 ⟨rfl, rfl⟩)
        all_goals
          go_ret
          refine ⟨ret_bool ?_, rfl⟩
          rw [HV.out]
          first
            | exact ver_all (x := x) (y := y) (z := z) (by assumption) (by assumption)
            | exact ver_no1 (x := x) (y := y) (z := z) (by assumption)
            | exact ver_no2 (x := x) (y := y) (z := z) (by assumption)
    · have hl2 : (((⟨d.toArray⟩ : ByteArray).size : Int) == 3) = false := by
        rw [beq_eq_false_iff_ne]; intro h; exact hl (by have h' : ((d.toArray.size : Nat) : Int) = 3 := h; simp at h'; omega)
      have HF : Hid (Pm.verTail d = false) := by
        unfold Hid
        match d, hl with
        | [], _ => rfl
        | [_], _ => rfl
        | [_, _], _ => rfl
        | [_, _, _], h => exact absurd rfl h
        | _ :: _ :: _ :: _ :: _, _ => rfl
      clear hl
      generalize (⟨d.toArray⟩ : ByteArray) = dd at *
      go_wp2
      go_ret
      exact ⟨ret_bool (by rw [HV.out, HF.out]), rfl⟩

set_option maxHeartbeats 400000 in
theorem lower_any (c : UInt8) (w : World) :
    Calls Tryd.prog 99 #[.int .u8 c.toNat] w fun e w' => e = .returned (.int .u8 (Pm.low c).toNat) ∧ w' = w := by
  have h0 := c.toNat_lt
  have hl := Pm.low_nat c
  have HL : Hid ((Pm.low c).toNat = if 65 ≤ c.toNat ∧ c.toNat ≤ 90 then c.toNat + 32 else c.toNat) := hl
  clear hl
  rcases (show (c.toNat : Int) < 65 ∨ 90 < (c.toNat : Int) ∨ (65 ≤ (c.toNat : Int) ∧ (c.toNat : Int) ≤ 90) from by omega) with h | h | h
  · go_enter Tryd.func99, Tryd.ntmps99
    go_wp2
    go_ret
    exact ⟨ret_int (by rw [HL.out, if_neg (by omega)]), rfl⟩
  · go_enter Tryd.func99, Tryd.ntmps99
    go_wp2
    go_ret
    exact ⟨ret_int (by rw [HL.out, if_neg (by omega)]), rfl⟩
  · obtain ⟨h1, h2⟩ := h
    go_enter Tryd.func99, Tryd.ntmps99
    go_wp2
    go_ret
    exact ⟨ret_int (by rw [HL.out, if_pos (by omega)]; omega), rfl⟩

set_option maxHeartbeats 600000 in
theorem wAlike_any (a b : ByteArray) (w : World) (ha : a.size ≤ maxLen) :
    Calls Tryd.prog 72 #[.string a, .string b] w fun e w' => e = .returned (.bool (Pm.alike a.data.toList b.data.toList)) ∧ Below w.heap.size w w' := by
  have hla : a.data.toList.length = a.size := by simp
  have hlb : b.data.toList.length = b.size := by simp
  have HA : Hid (a.data.toList.length = a.size) := hla
  have HB : Hid (b.data.toList.length = b.size) := hlb
  clear hla hlb
  unfold maxLen at ha
  by_cases hl : a.size = b.size
  · have hl2 : ((a.size : Int) != (b.size : Int)) = false := by rw [hl]; simp
    have HE : Hid (a.size = b.size) := hl
    clear hl
    go_enter Tryd.func72, Tryd.ntmps72
    go_wp2
    go_loopw [5, 13] (fun _ i wr => ∃ k : Nat, k ≤ a.size ∧ i = .int .i64 k ∧ Hid ((a.data.toList.take k).map Pm.low = (b.data.toList.take k).map Pm.low) ∧ Below w.heap.size w wr) (fun _ i _ => a.size - (intOf i).toNat)
    case atStart => exact ⟨0, Nat.zero_le _, rfl, rfl, Below.refl _ _⟩
    case round =>
      obtain ⟨k, hk, rfl, H, hbw⟩ := hrel
      by_cases hlt : k < a.size
      · have hlt2 : k < b.size := by rw [← HE.out]; exact hlt
        go_wp2
        go_quiet ((go_at_call 99; exact Calls.quiet_of_same (lower_any _ _)))
        by_cases he : Pm.low a[k] = Pm.low b[k]
        · have h2 : (((Pm.low a[k]).toNat : Int) != ((Pm.low b[k]).toNat : Int)) = false := by rw [he]; simp
          have HS := (show Hid _ from Pm.mapLow_snoc hlt hlt2 he H.out)
          clear he
          go_wp2
          go_roundw
          case rel => exact ⟨k + 1, by omega, by go_num, HS, below_drewN hbw _⟩
          case measure => simp [intOf]; omega
        · have h2 : (((Pm.low a[k]).toNat : Int) != ((Pm.low b[k]).toNat : Int)) = true := by
            rw [bne_iff_ne]; intro h; exact he (UInt8.toNat_inj.1 (by omega))
          have HF := (show Hid _ from Pm.alike_at hlt hlt2 he)
          clear he
          go_wp2
          go_ret
          exact ⟨ret_bool HF.out.symm, below_drewN hbw _⟩
      · go_wp2
        go_ret
        exact ⟨ret_bool (Pm.take_eq_of (by rw [HA.out, HB.out]; exact HE.out) (by rw [HA.out]; omega) H.out).symm, hbw⟩
  · have hl2 : ((a.size : Int) != (b.size : Int)) = true := by rw [bne_iff_ne]; omega
    have HF : Hid (Pm.alike a.data.toList b.data.toList = false) := Pm.alike_ne (by rw [HA.out, HB.out]; exact hl)
    clear hl
    go_enter Tryd.func72, Tryd.ntmps72
    go_wp2
    go_ret
    exact ⟨ret_bool HF.out.symm, Below.refl _ _⟩
end Go.Proofs.YtnohadlihgjppaaDoor

/- The program's fields and copies of texts: each call answers what the plain mathematics says; nothing old in memory turns. -/
namespace Go.Proofs.YtnohadlihgjppaaDoor
open Go.RowKit

set_option maxHeartbeats 400000 in
theorem clone_any (s : ByteArray) (w : World) (hs : s.size ≤ 281474976710656) :
    Calls Tryd.prog 76 #[.string s] w fun e w' => e = .returned (.string s) ∧ Below w.heap.size w w' := by
  go_enter Tryd.func76, Tryd.ntmps76
  go_wp2_with (go_at_call 101; refine (Tryd.stringslite_Clone _ _ hs).mono ?_; rintro e w1 ⟨rfl, hb1⟩)
  go_ret
  exact ⟨rfl, hb1⟩

theorem trim_any (s : ByteArray) (w : World) (hs : s.size ≤ maxLen) :
    Calls Tryd.prog 96 #[.string s, .string ⟨#[32, 9]⟩] w fun e w' => e = .returned (.string ⟨(Lib.trimS s.data.toList Pm.blanks).toArray⟩) ∧ Below w.heap.size w w' :=
  Tryd.strings_Trim_laid s ⟨#[32, 9]⟩ w (by unfold maxLen at hs; omega) (by decide) (ascii_of_all (by decide))

theorem bcell {W w1 : World} (hb : Below W.heap.size W w1) : (∀ b o, b < W.heap.size → w1.cell? ⟨b, o, none⟩ = W.cell? ⟨b, o, none⟩) ∧ (∀ b o, b < W.heap.size → w1.frozen? ⟨b, o, none⟩ = W.frozen? ⟨b, o, none⟩) :=
  ⟨fun b o h => hb.cell (p := ⟨b, o, none⟩) h, fun b o h => hb.frozen (p := ⟨b, o, none⟩) h⟩

theorem bel_of {w W w3 : World} (h1 : Below w.heap.size w W) (h3 : Below W.heap.size W w3) : Below w.heap.size w w3 := h1.trans (h3.mono h1.size)
theorem field_eq {n v : ByteArray} (h1 : Pm.isTok n.data.toList = true) (h2 : Pm.allP Pm.valB v.data.toList = true) :
    (Lib.trimS v.data.toList Pm.blanks == v.toList) = Pm.isField n.data.toList v.data.toList := by
  unfold Pm.isField Pm.isValue; rw [h1, h2, ByteArray.toList_eq]; rfl

set_option maxHeartbeats 800000 in
theorem wIsField_any (n v : ByteArray) (w : World) (hn : n.size ≤ maxLen) (hv : v.size ≤ maxLen) :
    Calls Tryd.prog 97 #[.agg #[.string n, .string v]] w fun e w' => e = .returned (.bool (Pm.isField n.data.toList v.data.toList)) ∧ Below w.heap.size w w' := by
  cases h1 : Pm.isTok n.data.toList
  · go_enter Tryd.func97, Tryd.ntmps97
    go_wp2
    go_quiet ((go_at_call 114; exact Calls.quiet_of_same (wIsToken_any _ _ hn)))
    go_wp2
    go_ret
    exact ⟨ret_bool (by unfold Pm.isField; rw [h1]; rfl), below_drewN ((Below.refl _ _).alloc (Nat.le_refl _) _) _⟩
  · cases h2 : Pm.allP Pm.valB v.data.toList
    · go_enter Tryd.func97, Tryd.ntmps97
      go_wp2
      go_quiet ((first | (go_at_call 114; exact Calls.quiet_of_same (wIsToken_any _ _ hn)) | (go_at_call 116; exact Calls.quiet_of_same (allVal_any _ _ hv))))
      go_wp2
      go_ret
      exact ⟨ret_bool (by unfold Pm.isField Pm.isValue; rw [h1, h2]; rfl), below_drewN ((Below.refl _ _).alloc (Nat.le_refl _) _) _⟩
    · go_enter Tryd.func97, Tryd.ntmps97
      go_wp2
      go_region_with (first | (go_at_call 114; refine (wIsToken_any _ _ hn).mono ?_; rintro e w1 ⟨rfl, rfl⟩) | (go_at_call 116; refine (allVal_any _ _ hv).mono ?_; rintro e w2 ⟨rfl, rfl⟩) | (go_at_call 96; refine (trim_any _ _ hv).mono ?_; rintro e w3 ⟨rfl, hb3⟩; obtain ⟨hc3, hf3⟩ := bcell hb3))
      all_goals
        go_wp2
        go_ret
        refine ⟨ret_bool ?_, bel_of ((Below.refl _ _).alloc (Nat.le_refl _) _).drew hb3⟩
        exact field_eq h1 h2
end Go.Proofs.YtnohadlihgjppaaDoor
