/- The program's Unescape answers what the plain mathematics says, of every text of at most 2^47 bytes; nothing old in memory turns. -/
import Derived.Test.YtnohadlihgjppaaGreatDoorWalkE
namespace Go.Proofs.YtnohadlihgjppaaGreatDoor
open Go.RowKit

theorem wHex_two (t : ByteArray) (x y : UInt8) (w : World) (h : t.data.toList = [x, y]) :
    Calls Tryz.prog 100 #[.string t] w fun e w' => e = .returned (.tuple #[.int .i64 (Pm.numN 16 8 [x, y]), .int .i64 (Pm.numE 16 8 [x, y])]) ∧ w' = w := by
  have h1 := size_of h
  have h2 := wHex_any t w (by rw [h1]; show 2 ≤ maxLen; unfold maxLen; omega)
  rw [h] at h2
  exact h2
theorem cells_snoc (o : List UInt8) (c : UInt8) : Lib.byteCells o ++ [.int .u8 c.toNat] = Lib.byteCells (o ++ [c]) := by simp [Lib.byteCells]
theorem cells_snocI (o : List UInt8) (v : Int) (h0 : 0 ≤ v) (h1 : v ≤ 255) : Lib.byteCells o ++ [.int .u8 v] = Lib.byteCells (o ++ [v.toNat.toUInt8]) := by
  rw [← cells_snoc]
  have : ((v.toNat.toUInt8).toNat : Int) = v := by
    have h2 : v.toNat < 256 := by omega
    have h3 : (v.toNat.toUInt8).toNat = v.toNat := by simp [Nat.mod_eq_of_lt h2]
    rw [h3]; omega
  rw [this]
theorem cells_len (o : List UInt8) : (Lib.byteCells o).length = o.length := by simp [Lib.byteCells]

set_option maxHeartbeats 1000000 in
theorem wUnescape_any (s : ByteArray) (w : World) (hs : s.size ≤ 140737488355328) :
    Calls Tryz.prog 103 #[.string s] w fun e w' => e = .returned (.tuple #[.string (Pm.unT s.data.toList), .int .i64 (Pm.unE s.data.toList)]) ∧ Below w.heap.size w w' := by
  go_enter Tryz.func103, Tryz.ntmps103
  go_wp2
  go_loopw [5, 6, 7] (fun i _ _ wr => ∃ (k : Nat) (o : List UInt8), k ≤ s.size ∧ i = .int .i64 k ∧ o.length ≤ k ∧ Hid (Pm.Read s.data.toList o (s.data.toList.drop k)) ∧ Lib.IsBuilder 88 5 w.heap.size w.heap.size (Lib.byteCells o) wr ∧ Below w.heap.size w wr) (fun i _ _ _ => s.size - (intOf i).toNat)
  case atStart => exact ⟨0, [], Nat.zero_le _, rfl, Nat.le_refl _, Pm.Read.start _, Lib.fresh_isBuilder _ _ w, (Below.refl _ _).alloc (Nat.le_refl _) _⟩
  case round =>
    obtain ⟨k, o, hk, rfl, ho, H, hbu, hbw⟩ := hrel
    have hsz := hbw.size
    by_cases hlt : k < s.size
    · have HD := Pm.drop_at s k hlt
      have H1 : Hid (Pm.Read s.data.toList o (s[k] :: s.data.toList.drop (k + 1))) := by rw [← HD]; exact H.out
      clear HD H
      by_cases hc : s[k] = 37
      · have hc2 : ((s[k].toNat : Int) != 37) = false := by rw [hc]; rfl
        rw [hc] at H1
        clear hc
        by_cases h3 : (s.size : Int) - k < 3
        · have HF : Hid (Pm.unesc s.data.toList = none) := H1.out.short (by simp; omega)
          go_wp2
          go_ret2
          exact ⟨ret_strint (Pm.unT_none HF.out).symm (Pm.unE_none HF.out).symm, hbw⟩
        · have h4 : k + 2 < s.size := by omega
          have HE : Hid ((s.extract (k + 1) (k + 3)).data.toList = [s[k + 1], s[k + 2]]) := Pm.two_at s k h4
          have HD2 : Hid (s.data.toList.drop (k + 1) = s[k + 1] :: s[k + 2] :: s.data.toList.drop (k + 3)) := by
            unfold Hid; rw [Pm.drop_at s (k + 1) (by omega), Pm.drop_at s (k + 2) h4]
          have H2 : Hid (Pm.Read s.data.toList o (37 :: s[k + 1] :: s[k + 2] :: s.data.toList.drop (k + 3))) := by have := H1.out; rw [HD2.out] at this; exact this
          clear H1 HD2
          generalize s[k + 1] = x at *
          generalize s[k + 2] = y at *
          cases hd : Pm.digsB 16 [x, y]
          · have HF : Hid (Pm.unesc s.data.toList = none) := H2.out.bad hd
            have hv : Pm.numN 16 8 [x, y] = 0 := by unfold Pm.numN; rw [Pm.numOk_two 8 x y (by omega), hd]; rfl
            have hv2 : Pm.numE 16 8 [x, y] = 1 := by unfold Pm.numE; rw [Pm.numOk_two 8 x y (by omega), hd]; rfl
            clear hd
            go_wp2_with (go_at_call 100; refine (wHex_two _ x y _ HE.out).mono ?_; rintro e w2 ⟨rfl, rfl⟩)
            go_ret2
            exact ⟨ret_strint (Pm.unT_none HF.out).symm (Pm.unE_none HF.out).symm, hbw⟩
          · have H3 : Hid (Pm.Read s.data.toList (o ++ [(Pm.numv 16 [x, y]).toNat.toUInt8]) (s.data.toList.drop (k + 3))) := H2.out.esc hd
            have hv : Pm.numN 16 8 [x, y] = Pm.numv 16 [x, y] := by unfold Pm.numN; rw [Pm.numOk_two 8 x y (by omega), hd]; rfl
            have hv2 : Pm.numE 16 8 [x, y] = 0 := by unfold Pm.numE; rw [Pm.numOk_two 8 x y (by omega), hd]; rfl
            have hbd := Pm.numv_two x y hd
            clear hd H2
            generalize Pm.numv 16 [x, y] = v at *
            go_wp2_with (first | (go_at_call 100; refine (wHex_two _ x y _ HE.out).mono ?_; rintro e w2 ⟨rfl, rfl⟩) | (go_at_call 124; refine (Tryz.Builder_WriteByte _ _ _ _ _ hbu (by rw [cells_len]; omega) hsz).mono ?_; rintro e w2 ⟨rfl, hbu2, hbw2⟩))
            rw [cells_snocI o v hbd.1 hbd.2] at hbu2
            go_roundw
            case rel => exact ⟨k + 3, _, by omega, by go_num, by simp; omega, H3, .inr hbu2, hbw.trans hbw2⟩
            case measure => simp [intOf]; omega
      · have hc2 : ((s[k].toNat : Int) != 37) = true := by
          rw [bne_iff_ne]; intro h; exact hc (UInt8.toNat_inj.1 (by show s[k].toNat = 37; omega))
        have H3 : Hid (Pm.Read s.data.toList (o ++ [s[k]]) (s.data.toList.drop (k + 1))) := H1.out.plain hc
        clear hc H1
        go_wp2_with (go_at_call 124; refine (Tryz.Builder_WriteByte _ _ _ _ _ hbu (by rw [cells_len]; omega) hsz).mono ?_; rintro e w2 ⟨rfl, hbu2, hbw2⟩)
        rw [cells_snoc] at hbu2
        go_roundw
        case rel => exact ⟨k + 1, _, by omega, by go_num, by simp; omega, H3, .inr hbu2, hbw.trans hbw2⟩
        case measure => simp [intOf]; omega
    · have HF : Hid (Pm.unesc s.data.toList = some o) := by
        have := H.out
        rw [List.drop_eq_nil_of_le (by simp; omega)] at this
        exact this.done
      go_wp2_with (go_at_call 50; refine (Tryz.Builder_String_any _ _ _ _ hbu hsz).mono ?_; rintro e w2 ⟨rfl, hbw2⟩)
      go_ret2
      exact ⟨ret_strint (Pm.unT_some HF.out).symm (Pm.unE_some HF.out).symm, hbw.trans hbw2⟩

end Go.Proofs.YtnohadlihgjppaaGreatDoor
