/- oneNumber and framingOf answer what the plain mathematics says of the values; nothing old in memory turns. -/
import Derived.Test.YtnohadlihgjppaaGreatDoorPlainE
import Derived.Test.YtnohadlihgjppaaGreatDoorWalkN
namespace Go.Proofs.YtnohadlihgjppaaGreatDoor
open Go.RowKit

theorem ret_slot {a b c d : Int} (h : a = b) (h' : c = d) : Ending.returned (.tuple #[.int .i64 a, .int .i64 c]) = .returned (.tuple #[.int .i64 b, .int .i64 d]) := by rw [h, h']
def datas (l : List ByteArray) : List (List UInt8) := l.map (·.data.toList)

set_option maxHeartbeats 1000000 in
theorem oneNumber_any (l : List ByteArray) (a : Option Addr) (cap : Nat) (w : World) (hf : StAt l a w) (hl : l.length ≤ 1000000) (hsz : ∀ i (h : i < l.length), l[i].size ≤ maxLen) :
    Calls Tryz.prog 78 #[.slice a l.length cap] w fun e w' => e = .returned (.tuple #[.int .i64 (Pm.oneN (datas l)), .int .i64 (Pm.oneE (datas l))]) ∧ w' = w := by
  have HF : Hid (StAt l a w) := hf
  have HZ : Hid (∀ i (h : i < l.length), l[i].size ≤ maxLen) := hsz
  have hdl : (datas l).length = l.length := by simp [datas]
  have HD : Hid ((datas l).length = l.length) := hdl
  clear hf hsz hdl
  go_enter Tryz.func78, Tryz.ntmps78
  go_wp2
  go_loop [4, 5, 6, 7, 8, 11] (fun o _ _ _ _ i => ∃ k : Nat, k ≤ l.length ∧ i = .int .i64 k ∧ o = .int .i64 (Pm.onePre ((datas l).take k)) ∧ Hid (Pm.oneOk ((datas l).take k) = true)) (fun _ _ _ _ _ i => l.length - (intOf i).toNat)
  case atStart => exact ⟨0, Nat.zero_le _, rfl, rfl, rfl⟩
  case round =>
    obtain ⟨k, hk, rfl, rfl, H⟩ := hrel
    by_cases hlt : k < l.length
    · obtain ⟨g, rfl, _, hc1⟩ := HF.out k hlt
      have hsk := HZ.out k hlt
      have hkd : k < (datas l).length := by rw [HD.out]; exact hlt
      have hdk : (datas l)[k] = l[k].data.toList := by simp [datas]
      have HB1 := fun hn => Pm.oneOk_bad1 hkd (by rw [hdk]; exact hn)
      have HB2 := fun hp hn => Pm.oneOk_bad2 hkd hp (by rw [hdk]; exact hn)
      have HST := fun hn he => Pm.oneOk_step hkd H.out (by rw [hdk]; exact hn) (by rw [hdk]; exact he)
      rw [hdk] at HST
      have HALL : Hid ((Pm.numOk 10 9 l[k].data.toList = false → Pm.oneOk (datas l) = false) ∧ (0 < k → Pm.numv 10 l[k].data.toList ≠ Pm.onePre ((datas l).take k) → Pm.oneOk (datas l) = false) ∧ (Pm.numOk 10 9 l[k].data.toList = true → (k = 0 ∨ Pm.numv 10 l[k].data.toList = Pm.onePre ((datas l).take k)) → Pm.oneOk ((datas l).take (k + 1)) = true ∧ Pm.onePre ((datas l).take (k + 1)) = Pm.numv 10 l[k].data.toList)) := ⟨HB1, HB2, HST⟩
      clear HB1 HB2 HST hdk hkd
      obtain ⟨x, hx⟩ : ∃ x, x = l[k] := ⟨_, rfl⟩
      rw [← hx] at hc1 hsk HALL
      clear hx
      generalize Pm.onePre ((datas l).take k) = o at *
      cases hn : Pm.numOk 10 9 x.data.toList
      · have HF2 := (show Hid _ from HALL.out.1 hn)
        have hv : Pm.numE 10 9 x.data.toList = 1 := by unfold Pm.numE; rw [hn]; rfl
        clear hn
        go_wp2_with (go_at_call 99; refine (wDecimal_any _ _ hsk).mono ?_; rintro e w1 ⟨rfl, rfl⟩)
        go_ret2
        exact ⟨ret_slot (by unfold Pm.oneN; rw [HF2.out]; rfl) (by unfold Pm.oneE; rw [HF2.out]; rfl), rfl⟩
      · have hv : Pm.numE 10 9 x.data.toList = 0 := by unfold Pm.numE; rw [hn]; rfl
        have hv2 : Pm.numN 10 9 x.data.toList = Pm.numv 10 x.data.toList := by unfold Pm.numN; rw [hn]; rfl
        have HN : Hid (Pm.numOk 10 9 x.data.toList = true) := hn
        clear hn
        generalize Pm.numv 10 x.data.toList = nv at *
        by_cases hk0 : k = 0
        · subst hk0
          obtain ⟨s1, s2⟩ := HALL.out.2.2 HN.out (.inl rfl)
          have S1 := (show Hid _ from s1)
          have S2 := (show Hid _ from s2)
          clear s1 s2
          go_wp2_with (go_at_call 99; refine (wDecimal_any _ _ hsk).mono ?_; rintro e w1 ⟨rfl, rfl⟩)
          go_round
          case rel => exact ⟨1, by omega, rfl, by rw [S2.out], S1⟩
          case measure => simp [intOf]; omega
        · have hkp : (0 : Int) < (k : Int) := by omega
          by_cases he : nv = o
          · have he2 : (nv != o) = false := by rw [he]; simp
            obtain ⟨s1, s2⟩ := HALL.out.2.2 HN.out (.inr he)
            have S1 := (show Hid _ from s1)
            have S2 := (show Hid _ from s2)
            clear s1 s2 he
            go_wp2_with (go_at_call 99; refine (wDecimal_any _ _ hsk).mono ?_; rintro e w1 ⟨rfl, rfl⟩)
            go_round
            case rel => exact ⟨k + 1, by omega, by go_num, by rw [S2.out], S1⟩
            case measure => simp [intOf]; omega
          · have he2 : (nv != o) = true := by rw [bne_iff_ne]; exact he
            have HF2 := (show Hid _ from HALL.out.2.1 (by omega) he)
            clear he
            go_wp2_with (go_at_call 99; refine (wDecimal_any _ _ hsk).mono ?_; rintro e w1 ⟨rfl, rfl⟩)
            go_ret2
            exact ⟨ret_slot (by unfold Pm.oneN; rw [HF2.out]; rfl) (by unfold Pm.oneE; rw [HF2.out]; rfl), rfl⟩
    · have HT : Hid ((datas l).take k = datas l) := List.take_of_length_le (by rw [HD.out]; omega)
      rw [HT.out] at H
      go_wp2
      go_ret2
      exact ⟨ret_slot (by unfold Pm.oneN; rw [H.out, HT.out]; rfl) (by unfold Pm.oneE; rw [H.out]; rfl), rfl⟩
end Go.Proofs.YtnohadlihgjppaaGreatDoor
