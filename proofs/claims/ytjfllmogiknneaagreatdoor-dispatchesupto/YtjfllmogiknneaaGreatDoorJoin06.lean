/- Texts that follow one another, joined. -/
import Derived.Test.YtjfllmogiknneaaGreatDoorJoin05
import Derived.Deep.RegionWith
/- The program's versions, names that are alike, fields and copies of texts: each call answers what the plain mathematics says; nothing old in memory turns. -/
namespace Go.Proofs.YtjfllmogiknneaaGreatDoor
open Go.RowKit

theorem ver_all {x y z : UInt8} (h1 : Pm.digB x = true) (h2 : (y.toNat : Int) = 46) : Pm.digB z = Pm.verTail [x, y, z] := by
  have hy : y = 46 := UInt8.toNat_inj.1 (by show y.toNat = 46; omega)
  simp [Pm.verTail, h1, hy]
theorem ver_no1 {x y z : UInt8} (h1 : ¬ Pm.digB x = true) : false = Pm.verTail [x, y, z] := by
  simp [Pm.verTail, h1]
theorem ver_no2 {x y z : UInt8} (h2 : ¬ (y.toNat : Int) = 46) : false = Pm.verTail [x, y, z] := by
  have hy : ¬ y = 46 := fun h => h2 (by rw [h]; rfl)
  simp [Pm.verTail, hy]

set_option maxHeartbeats 400000 in
theorem lower_any (c : UInt8) (w : World) :
    Calls Tryz.prog 115 #[.int .u8 c.toNat] w fun e w' => e = .returned (.int .u8 (Pm.low c).toNat) ∧ w' = w := by
  have h0 := c.toNat_lt
  have hl := Pm.low_nat c
  have HL : Hid ((Pm.low c).toNat = if 65 ≤ c.toNat ∧ c.toNat ≤ 90 then c.toNat + 32 else c.toNat) := hl
  clear hl
  rcases (show (c.toNat : Int) < 65 ∨ 90 < (c.toNat : Int) ∨ (65 ≤ (c.toNat : Int) ∧ (c.toNat : Int) ≤ 90) from by omega) with h | h | h
  · go_enter Tryz.func115, Tryz.ntmps115
    go_wp2
    go_ret
    exact ⟨ret_int (by rw [HL.out, if_neg (by omega)]), rfl⟩
  · go_enter Tryz.func115, Tryz.ntmps115
    go_wp2
    go_ret
    exact ⟨ret_int (by rw [HL.out, if_neg (by omega)]), rfl⟩
  · obtain ⟨h1, h2⟩ := h
    go_enter Tryz.func115, Tryz.ntmps115
    go_wp2
    go_ret
    exact ⟨ret_int (by rw [HL.out, if_pos (by omega)]; omega), rfl⟩

set_option maxHeartbeats 600000 in
theorem wAlike_any (a b : ByteArray) (w : World) (ha : a.size ≤ maxLen) :
    Calls Tryz.prog 91 #[.string a, .string b] w fun e w' => e = .returned (.bool (Pm.alike a.data.toList b.data.toList)) ∧ Below w.heap.size w w' := by
  have hla : a.data.toList.length = a.size := by simp
  have hlb : b.data.toList.length = b.size := by simp
  have HA : Hid (a.data.toList.length = a.size) := hla
  have HB : Hid (b.data.toList.length = b.size) := hlb
  clear hla hlb
  unfold maxLen at ha
  by_cases hl : a.size = b.size
  · have hl2 : ((a.size : Int) != (b.size : Int)) = false := by rw [hl]; simp
    have HE : Hid (a.size = b.size) := hl
    clear hl
    go_enter Tryz.func91, Tryz.ntmps91
    go_wp2
    go_loopw [5, 13] (fun _ i wr => ∃ k : Nat, k ≤ a.size ∧ i = .int .i64 k ∧ Hid ((a.data.toList.take k).map Pm.low = (b.data.toList.take k).map Pm.low) ∧ Below w.heap.size w wr) (fun _ i _ => a.size - (intOf i).toNat)
    case atStart => exact ⟨0, Nat.zero_le _, rfl, rfl, Below.refl _ _⟩
    case round =>
      obtain ⟨k, hk, rfl, H, hbw⟩ := hrel
      by_cases hlt : k < a.size
      · have hlt2 : k < b.size := by rw [← HE.out]; exact hlt
        go_wp2
        go_quiet ((go_at_call 115; exact Calls.quiet_of_same (lower_any _ _)))
        by_cases he : Pm.low a[k] = Pm.low b[k]
        · have h2 : (((Pm.low a[k]).toNat : Int) != ((Pm.low b[k]).toNat : Int)) = false := by rw [he]; simp
          have HS := (show Hid _ from Pm.mapLow_snoc hlt hlt2 he H.out)
          clear he
          go_wp2
          go_roundw
          case rel => exact ⟨k + 1, by omega, by go_num, HS, below_drewN hbw _⟩
          case measure => simp [intOf]; omega
        · have h2 : (((Pm.low a[k]).toNat : Int) != ((Pm.low b[k]).toNat : Int)) = true := by
            rw [bne_iff_ne]; intro h; exact he (UInt8.toNat_inj.1 (by omega))
          have HF := (show Hid _ from Pm.alike_at hlt hlt2 he)
          clear he
          go_wp2
          go_ret
          exact ⟨ret_bool HF.out.symm, below_drewN hbw _⟩
      · go_wp2
        go_ret
        exact ⟨ret_bool (Pm.take_eq_of (by rw [HA.out, HB.out]; exact HE.out) (by rw [HA.out]; omega) H.out).symm, hbw⟩
  · have hl2 : ((a.size : Int) != (b.size : Int)) = true := by rw [bne_iff_ne]; omega
    have HF : Hid (Pm.alike a.data.toList b.data.toList = false) := Pm.alike_ne (by rw [HA.out, HB.out]; exact hl)
    clear hl
    go_enter Tryz.func91, Tryz.ntmps91
    go_wp2
    go_ret
    exact ⟨ret_bool HF.out.symm, Below.refl _ _⟩
end Go.Proofs.YtjfllmogiknneaaGreatDoor

/- The program's fields and copies of texts: each call answers what the plain mathematics says; nothing old in memory turns. -/
namespace Go.Proofs.YtjfllmogiknneaaGreatDoor
open Go.RowKit

set_option maxHeartbeats 400000 in
theorem clone_any (s : ByteArray) (w : World) (hs : s.size ≤ 281474976710656) :
    Calls Tryz.prog 50 #[.string s] w fun e w' => e = .returned (.string s) ∧ Below w.heap.size w w' := by
  go_enter Tryz.func50, Tryz.ntmps50
  go_wp2_with (go_at_call 77; refine (Tryz.stringslite_Clone _ _ hs).mono ?_; rintro e w1 ⟨rfl, hb1⟩)
  go_ret
  exact ⟨rfl, hb1⟩

theorem bcell {W w1 : World} (hb : Below W.heap.size W w1) : (∀ b o, b < W.heap.size → w1.cell? ⟨b, o, none⟩ = W.cell? ⟨b, o, none⟩) ∧ (∀ b o, b < W.heap.size → w1.frozen? ⟨b, o, none⟩ = W.frozen? ⟨b, o, none⟩) :=
  ⟨fun b o h => hb.cell (p := ⟨b, o, none⟩) h, fun b o h => hb.frozen (p := ⟨b, o, none⟩) h⟩

theorem bel_of {w W w3 : World} (h1 : Below w.heap.size w W) (h3 : Below W.heap.size W w3) : Below w.heap.size w w3 := h1.trans (h3.mono h1.size)
theorem field_eq {n v : ByteArray} (h1 : Pm.isTok n.data.toList = true) (h2 : Pm.allP Pm.valB v.data.toList = true) :
    (Lib.trimS v.data.toList Pm.blanks == v.toList) = Pm.isField n.data.toList v.data.toList := by
  unfold Pm.isField Pm.isValue; rw [h1, h2, ByteArray.toList_eq]; rfl

end Go.Proofs.YtjfllmogiknneaaGreatDoor

/- ReadField tells the field that a line is; own copies a field: each answers what the plain mathematics says; nothing old in memory turns. -/
namespace Go.Proofs.YtjfllmogiknneaaGreatDoor
open Go.RowKit

theorem trim_le (l : List UInt8) : (Lib.trimS l Pm.blanks).length ≤ l.length := by
  unfold Lib.trimS Lib.trimLeftS Lib.trimRightS
  have h1 := (List.dropWhile_sublist (fun x => Pm.blanks.contains x) (l := l.reverse)).length_le
  have h2 := (List.dropWhile_sublist (fun x => Pm.blanks.contains x) (l := (l.reverse.dropWhile (fun x => Pm.blanks.contains x)).reverse)).length_le
  rw [List.length_reverse] at h1 h2
  omega

theorem cell_old {w : World} {o : Obj} {a : Addr} {v : Value} (h : w.cell? a = some v) : (w.alloc o).cell? a = some v := cell_later ((Below.refl _ _).alloc (Nat.le_refl _) _) h

def fldV (o : Option (List UInt8 × List UInt8)) : Value := match o with
  | some (n, v) => .agg #[.string ⟨n.toArray⟩, .string ⟨v.toArray⟩]
  | none => .agg #[.string ⟨#[]⟩, .string ⟨#[]⟩]

end Go.Proofs.YtjfllmogiknneaaGreatDoor
