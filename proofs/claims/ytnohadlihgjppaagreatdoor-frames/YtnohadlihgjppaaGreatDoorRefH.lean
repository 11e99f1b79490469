/- The reference's word of how a body is told: as the plain mathematics says of the fields; nothing old in memory turns. -/
import Derived.Test.YtnohadlihgjppaaGreatDoorRefG
namespace Go.Proofs.YtnohadlihgjppaaGreatDoor
open Go.RowKit

def bodyN (M : Int × Bool × Int) : Int := if M.1 ≠ 0 then 0 else if M.2.1 = true then -1 else M.2.2
theorem vals_alike {a b : List UInt8} (fs : List (ByteArray × ByteArray)) (h : a.map Pm.low = b.map Pm.low) : valsOf fs a = valsOf fs b := by
  unfold valsOf Pm.alike; rw [h]
theorem rvals_host (fs : List (ByteArray × ByteArray)) (a : Option Addr) (cap : Nat) (w : World) (hf : FlAt fs a w) (hl : fs.length ≤ 4398046511104) (hsz : ∀ i (h : i < fs.length), fs[i].1.size ≤ maxLen) :
    Calls Tryz.prog 41 #[.slice a fs.length cap, .string ⟨#[104, 111, 115, 116]⟩] w fun e w' => (∃ a' c', e = .returned (.slice a' (valsOf fs nHost).length c') ∧ StAt (valsOf fs nHost) a' w') ∧ Below w.heap.size w w' := by
  have h := rvalues_any fs a cap ⟨#[104, 111, 115, 116]⟩ w hf hl (by show 4 ≤ maxLen; unfold maxLen; omega) hsz
  rw [vals_alike fs (show (⟨#[104, 111, 115, 116]⟩ : ByteArray).data.toList.map Pm.low = nHost.map Pm.low from by decide +kernel)] at h
  exact h
theorem rvals_length (fs : List (ByteArray × ByteArray)) (a : Option Addr) (cap : Nat) (w : World) (hf : FlAt fs a w) (hl : fs.length ≤ 4398046511104) (hsz : ∀ i (h : i < fs.length), fs[i].1.size ≤ maxLen) :
    Calls Tryz.prog 41 #[.slice a fs.length cap, .string ⟨#[99, 111, 110, 116, 101, 110, 116, 45, 108, 101, 110, 103, 116, 104]⟩] w fun e w' => (∃ a' c', e = .returned (.slice a' (valsOf fs nLength).length c') ∧ StAt (valsOf fs nLength) a' w') ∧ Below w.heap.size w w' := by
  have h := rvalues_any fs a cap ⟨#[99, 111, 110, 116, 101, 110, 116, 45, 108, 101, 110, 103, 116, 104]⟩ w hf hl (by show 14 ≤ maxLen; unfold maxLen; omega) hsz
  rw [vals_alike fs (show (⟨#[99, 111, 110, 116, 101, 110, 116, 45, 108, 101, 110, 103, 116, 104]⟩ : ByteArray).data.toList.map Pm.low = nLength.map Pm.low from by decide +kernel)] at h
  exact h
theorem rvals_coding (fs : List (ByteArray × ByteArray)) (a : Option Addr) (cap : Nat) (w : World) (hf : FlAt fs a w) (hl : fs.length ≤ 4398046511104) (hsz : ∀ i (h : i < fs.length), fs[i].1.size ≤ maxLen) :
    Calls Tryz.prog 41 #[.slice a fs.length cap, .string ⟨#[116, 114, 97, 110, 115, 102, 101, 114, 45, 101, 110, 99, 111, 100, 105, 110, 103]⟩] w fun e w' => (∃ a' c', e = .returned (.slice a' (valsOf fs nCoding).length c') ∧ StAt (valsOf fs nCoding) a' w') ∧ Below w.heap.size w w' := by
  have h := rvalues_any fs a cap ⟨#[116, 114, 97, 110, 115, 102, 101, 114, 45, 101, 110, 99, 111, 100, 105, 110, 103]⟩ w hf hl (by show 17 ≤ maxLen; unfold maxLen; omega) hsz
  rw [vals_alike fs (show (⟨#[116, 114, 97, 110, 115, 102, 101, 114, 45, 101, 110, 99, 111, 100, 105, 110, 103]⟩ : ByteArray).data.toList.map Pm.low = nCoding.map Pm.low from by decide +kernel)] at h
  exact h
theorem ralike_chunked (c : ByteArray) (w : World) (hc : c.size ≤ maxLen) :
    Calls Tryz.prog 43 #[.string c, .string ⟨#[99, 104, 117, 110, 107, 101, 100]⟩] w fun e w' => e = .returned (.bool (Pm.alike c.data.toList nChunked)) ∧ w' = w := rAlike_any c ⟨#[99, 104, 117, 110, 107, 101, 100]⟩ w hc (by show 7 ≤ maxLen; unfold maxLen; omega)
theorem numM_ok {l : List UInt8} (h : Pm.numOk 10 9 l = true) : Pm.numM 10 9 l = Pm.numv 10 l ∧ 0 ≤ Pm.numv 10 l := by
  refine ⟨by unfold Pm.numM; rw [h]; rfl, ?_⟩
  simp only [Pm.numOk, Bool.and_eq_true, decide_eq_true_eq] at h
  exact (Pm.numv_bd 10 _ (by omega) (by omega) h.2 (by omega)).1
theorem numM_no {l : List UInt8} (h : Pm.numOk 10 9 l = false) : Pm.numM 10 9 l = -1 := by unfold Pm.numM; rw [h]; rfl
theorem one_first {l : List (List UInt8)} {k : Nat} (hk : 0 < k) (h0 : 0 < l.length) (h : Pm.oneOk (l.take k) = true) : Pm.numM 10 9 l[0] = Pm.onePre (l.take k) := by
  cases l with
  | nil => simp at h0
  | cons x r =>
    obtain ⟨k, rfl⟩ : ∃ j, k = j + 1 := ⟨k - 1, by omega⟩
    rw [List.take_succ_cons] at h ⊢
    have := List.all_eq_true.1 h x (by simp)
    simp only [Bool.and_eq_true] at this
    exact (numM_ok this.1).1

set_option maxRecDepth 100000 in
set_option maxHeartbeats 2000000 in
theorem rbody_any (fs : List (ByteArray × ByteArray)) (m t y : ByteArray) (a : Option Addr) (cap : Nat) (most : Int) (w : World) (hf : FlAt fs a w) (hl : fs.length ≤ 1000000) (hm0 : 0 ≤ most) (hz1 : ∀ f ∈ fs, f.1.size ≤ maxLen) (hz2 : ∀ f ∈ fs, f.2.size ≤ maxLen) :
    Calls Tryz.prog 26 #[.agg #[.string m, .string t, .slice a fs.length cap, .string y], .int .i64 most] w fun r w' => r = .returned (.tuple #[.int .i64 (bodyN (framOf fs most)), .int .i64 (framOf fs most).1]) ∧ Below w.heap.size w w' := by
  have hA := (Below.refl w.heap.size w).alloc (Nat.le_refl _) (.cells #[.string m, .string t, .slice a fs.length cap, .string y] 36)
  have hfA := hf.below hA
  have HZ1 : ∀ i (h : i < fs.length), fs[i].1.size ≤ maxLen := fun i h => hz1 _ (List.getElem_mem h)
  have HV1 := hid (fun W (hW : FlAt fs a W) => rvals_host fs a cap W hW (by omega) HZ1)
  have HV2 := hid (fun W (hW : FlAt fs a W) => rvals_coding fs a cap W hW (by omega) HZ1)
  have HV3 := hid (fun W (hW : FlAt fs a W) => rvals_length fs a cap W hW (by omega) HZ1)
  have HZL : Hid (∀ i (hi : i < (valsOf fs nLength).length), (valsOf fs nLength)[i].size ≤ maxLen) := vals_size hz2
  have HZC : Hid (∀ i (hi : i < (valsOf fs nCoding).length), (valsOf fs nCoding)[i].size ≤ maxLen) := vals_size hz2
  have hll := valsOf_le fs nLength
  have hlc := valsOf_le fs nCoding
  have hlh := valsOf_le fs nHost
  have HR : Hid (framOf fs most = framS (valsOf fs nHost).length (datas (valsOf fs nLength)) (datas (valsOf fs nCoding)) most) := rfl
  generalize framOf fs most = M at *
  generalize valsOf fs nLength = LB at *
  generalize valsOf fs nCoding = CB at *
  generalize (valsOf fs nHost).length = hn at *
  clear hz1 hz2 HZ1 hf
  go_enter Tryz.func26, Tryz.ntmps26
  go_wp2_with fail
  refine (HV1.out _ hfA).mono ?_
  rintro e w1 ⟨⟨a1, n1, rfl, hs1⟩, hb1⟩
  have k1 := cell_later hb1 (a := ⟨w.heap.size, 2, none⟩) (v := .slice a fs.length cap) (by simp)
  have hB1 := bel_of hA hb1
  have hf1 := hfA.below hb1
  clear HV1 hs1 hA hfA hb1
  go_wp2_with fail
  refine (HV2.out _ hf1).mono ?_
  rintro e w2 ⟨⟨a2, n2, rfl, hs2⟩, hb2⟩
  have k2 := cell_later hb2 k1
  have hB2 := bel_of hB1 hb2
  have hf2 := hf1.below hb2
  clear HV2 hB1 hf1 hb2 k1
  go_wp2_with fail
  refine (HV3.out _ hf2).mono ?_
  rintro e w3 ⟨⟨a3, n3, rfl, hs3⟩, hb3⟩
  have hB3 := bel_of hB2 hb3
  have hs2' := hs2.below hb3
  clear HV3 hB2 hf2 hb3 k2 hs2
  have hdl : (datas LB).length = LB.length := by simp [datas]
  have hdc : (datas CB).length = CB.length := by simp [datas]
  unfold framS at HR
  rw [hdl, hdc] at HR
  have HDL := hid hdl
  have HDC := hid hdc
  clear hdl hdc
  by_cases hh : hn = 1
  · subst hh
    rw [if_neg (by simp)] at HR
    by_cases hcl : 0 < CB.length ∧ 0 < LB.length
    · have HM : Hid (M = (3, false, 0)) := by unfold Hid; rw [HR.out, if_pos hcl]
      obtain ⟨hc1, hc2⟩ := hcl
      clear HR
      go_wp2
      go_ret2
      exact ⟨ret_slot (by rw [HM.out]; rfl) (by rw [HM.out]), hB3⟩
    · rw [if_neg hcl] at HR
      have hw : ¬ 0 < CB.length ∨ ¬ 0 < LB.length := by omega
      have key : ∀ W (hW : Below w3.heap.size w3 W), True := fun _ _ => trivial
      clear key
      by_cases hc0 : 0 < CB.length
      · have hl0 : ¬ 0 < LB.length := by omega
        have hle : LB = [] := List.eq_nil_of_length_eq_zero (by omega)
        subst hle
        obtain ⟨g, rfl, hg, hc⟩ := hs2' 0 hc0
        have hzc := HZC.out 0 hc0
        have hch : (datas CB).headD [] = CB[0].data.toList := by
          cases CB with
          | nil => simp at hc0
          | cons x r => rfl
        rw [hch] at HR
        generalize CB[0] = c0 at *
        have hsz : (([] : List ByteArray).length : Int) = 0 := rfl
        clear hcl hw hl0 HZC HZL hch hs3 hs2'
        cases hal : Pm.alike c0.data.toList nChunked
        · have HM : Hid (M = (6, false, 0)) := by
            unfold Hid; rw [HR.out, if_neg (by simp [datas, Pm.oneE, Pm.oneOk]), if_pos (by rw [hal]; simp; omega)]
          clear HR
          go_wp2_with fail
          go_loop [9, 10, 11] (fun i _ _ => i = .int .i64 0) (fun _ _ _ => 0)
          case atStart => rfl
          case round =>
            obtain rfl := hrel
            go_wp2_with (go_at_call 43; refine (ralike_chunked _ _ hzc).mono ?_; rw [hal]; rintro e w5 ⟨rfl, rfl⟩)
            all_goals
              go_ret2
              exact ⟨ret_slot (by rw [HM.out]; rfl) (by rw [HM.out]), hB3⟩
        · by_cases hc1 : 1 < CB.length
          focus
            have HM : Hid (M = (6, false, 0)) := by
              unfold Hid; rw [HR.out, if_neg (by simp [datas, Pm.oneE, Pm.oneOk]), if_pos (Or.inl hc1)]
          rotate_left
          focus
            have hce : CB.length = 1 := by omega
            have HM : Hid (M = (0, true, 0)) := by
              unfold Hid; rw [HR.out, if_neg (by simp [datas, Pm.oneE, Pm.oneOk]), if_neg (by rw [hal]; simp; omega), if_neg (by simp [datas, Pm.oneN, Pm.oneOk, Pm.onePre]; omega), hce]
              simp [datas, Pm.oneN, Pm.oneOk, Pm.onePre]
          all_goals
            clear HR
            go_wp2_with fail
            go_loop [9, 10, 11] (fun i _ _ => i = .int .i64 0) (fun _ _ _ => 0)
            case atStart => rfl
            case round =>
              obtain rfl := hrel
              go_wp2_with (go_at_call 43; refine (ralike_chunked _ _ hzc).mono ?_; rw [hal]; rintro e w5 ⟨rfl, rfl⟩)
              go_ret2
              exact ⟨ret_slot (by rw [HM.out]; rfl) (by rw [HM.out]), hB3⟩
      · have hce : CB = [] := List.eq_nil_of_length_eq_zero (by omega)
        subst hce
        clear hcl hw hc0 HZC HDC hs2' hlc
        have HR2 : Hid (M = if Pm.oneE (datas LB) ≠ 0 then (3, false, 0) else if most < Pm.oneN (datas LB) then (4, false, 0) else (0, false, Pm.oneN (datas LB))) := by
          unfold Hid; rw [HR.out]
          by_cases hx : Pm.oneE (datas LB) ≠ 0
          · rw [if_pos hx, if_pos hx]
          · rw [if_neg hx, if_neg hx, if_neg (by simp)]; rfl
        clear HR
        go_wp2_with fail
        go_loopw [9, 10, 11] (fun i _ _ wr => ∃ k : Nat, k ≤ LB.length ∧ i = .int .i64 k ∧ Hid (Pm.oneOk ((datas LB).take k) = true) ∧ Below w3.heap.size w3 wr) (fun i _ _ _ => LB.length - (intOf i).toNat)
        case atStart => exact ⟨0, Nat.zero_le _, rfl, rfl, Below.refl _ _⟩
        case round =>
          obtain ⟨k, hk, rfl, H, hbw⟩ := hrel
          have hB4 := bel_of hB3 hbw
          by_cases hlt : k < LB.length
          · obtain ⟨g, rfl, hg, hck⟩ := (hs3.below hbw) k hlt
            obtain ⟨g', hgg, hg', hc00⟩ := (hs3.below hbw) 0 (by omega)
            obtain rfl : g' = g := by simpa using hgg.symm
            have hzk := HZL.out k hlt
            have hz0 := HZL.out 0 (by omega)
            have hkd : k < (datas LB).length := by rw [HDL.out]; exact hlt
            have h0d : 0 < (datas LB).length := by omega
            have hdk : (datas LB)[k] = LB[k].data.toList := by simp [datas]
            have hd0 : (datas LB)[0] = LB[0].data.toList := by simp [datas]
            have B1 := hid (fun hn => Pm.oneOk_bad1 hkd (by rw [hdk]; exact hn))
            have B2 := hid (fun hp hn => Pm.oneOk_bad2 hkd hp (by rw [hdk]; exact hn))
            have ST := hid (fun hn he => (Pm.oneOk_step hkd H.out (by rw [hdk]; exact hn) (by rw [hdk]; exact he)).1)
            have F0 := hid (fun hp => one_first hp h0d H.out)
            rw [hd0] at F0
            have N1 := hid (fun W => rnumber_any LB[k] 10 9 W hzk (by omega) (by omega))
            have N2 := hid (fun W => rnumber_any LB[0] 10 9 W hz0 (by omega) (by omega))
            have BAD : Hid (Pm.oneOk (datas LB) = false → M = (3, false, 0)) := by
              intro h; rw [HR2.out]; unfold Pm.oneE; rw [h]; rfl
            go_wp2_with fail
            refine (N1.out _).mono ?_
            rintro e w5 ⟨rfl, hb5⟩
            have hc01 := cell_later hb5 hc00
            go_wp2_with fail
            refine (N2.out _).mono ?_
            rintro e w6 ⟨rfl, hb6⟩
            have hB6 := bel_of (bel_of hB4 hb5) hb6
            have hBW := bel_of (bel_of hbw hb5) hb6
            clear N1 N2 hb5 hb6 hck hc00 hc01 hB4 hbw
            cases hn : Pm.numOk 10 9 LB[k].data.toList
            · have HM := hid (BAD.out (B1.out hn))
              rw [numM_no hn]
              clear B1 B2 ST F0 BAD hn
              go_wp2
              go_ret2
              exact ⟨ret_slot (by rw [HM.out]; rfl) (by rw [HM.out]), hB6⟩
            · obtain ⟨e1, e2⟩ := numM_ok hn
              by_cases hk0 : k = 0
              · subst hk0
                have S1 := hid (ST.out hn (Or.inl rfl))
                rw [e1]
                generalize Pm.numv 10 LB[0].data.toList = nv at *
                clear B1 B2 ST F0 BAD hn e1
                go_wp2
                exact ⟨⟨1, by omega, rfl, S1, hBW⟩, by simp [intOf]; omega⟩
              · have f0 := F0.out (by omega)
                rw [e1, f0]
                by_cases he : Pm.numv 10 LB[k].data.toList = Pm.onePre ((datas LB).take k)
                · have S1 := hid (ST.out hn (Or.inr he))
                  rw [he] at e2 ⊢
                  generalize Pm.onePre ((datas LB).take k) = o at *
                  clear B1 B2 ST F0 BAD hn e1 he f0
                  go_wp2
                  exact ⟨⟨k + 1, by omega, by go_num, S1, hBW⟩, by simp [intOf]; omega⟩
                · have HM := hid (BAD.out (B2.out (by omega) he))
                  have he2 : (Pm.numv 10 LB[k].data.toList != Pm.onePre ((datas LB).take k)) = true := by rw [bne_iff_ne]; exact he
                  generalize Pm.onePre ((datas LB).take k) = o at *
                  generalize Pm.numv 10 LB[k].data.toList = nv at *
                  clear B1 B2 ST F0 BAD hn e1 he f0
                  go_wp2
                  go_ret2
                  exact ⟨ret_slot (by rw [HM.out]; rfl) (by rw [HM.out]), hB6⟩
          · have HT : Hid ((datas LB).take k = datas LB) := List.take_of_length_le (by rw [HDL.out]; omega)
            have hone := H.out
            rw [HT.out] at hone
            have HR3 : Hid (M = if most < Pm.oneN (datas LB) then (4, false, 0) else (0, false, Pm.oneN (datas LB))) := by
              unfold Hid; rw [HR2.out, if_neg (by unfold Pm.oneE; rw [hone]; simp)]
            by_cases hl0 : LB.length = 0
            · have hle : LB = [] := List.eq_nil_of_length_eq_zero hl0
              subst hle
              have HM : Hid (M = (0, false, 0)) := by
                unfold Hid; rw [HR3.out, if_neg (by simp [datas, Pm.oneN, Pm.oneOk, Pm.onePre]; omega)]; rfl
              clear HR2 HR3
              go_wp2
              go_ret2
              exact ⟨ret_slot (by rw [HM.out]; rfl) (by rw [HM.out]), hB4⟩
            · obtain ⟨g, rfl, hg, hc00⟩ := (hs3.below hbw) 0 (by omega)
              have hz0 := HZL.out 0 (by omega)
              have hd0 : (datas LB)[0]'(by rw [HDL.out]; omega) = LB[0].data.toList := by simp [datas]
              have hfo := one_first (l := datas LB) (k := (datas LB).length) (by rw [HDL.out]; omega) (by rw [HDL.out]; omega) (by rw [List.take_of_length_le (Nat.le_refl _)]; exact hone)
              rw [List.take_of_length_le (Nat.le_refl _), hd0] at hfo
              have hon : Pm.oneN (datas LB) = Pm.onePre (datas LB) := by unfold Pm.oneN; rw [hone]; rfl
              rw [hon, ← hfo] at HR3
              have N1 := hid (fun W => rnumber_any LB[0] 10 9 W hz0 (by omega) (by omega))
              have hl0' : ((LB.length : Int) == 0) = false := by rw [beq_eq_false_iff_ne]; omega
              clear HR2 hd0 hfo hon hone
              generalize Pm.numM 10 9 LB[0].data.toList = nn at *
              by_cases hmo : most < nn
              · have HM : Hid (M = (4, false, 0)) := by unfold Hid; rw [HR3.out, if_pos hmo]
                clear HR3
                go_wp2_with (go_at_call 42; refine (N1.out _).mono ?_; rintro e w5 ⟨rfl, hb5⟩)
                go_ret2
                exact ⟨ret_slot (by rw [HM.out]; rfl) (by rw [HM.out]), bel_of hB4 hb5⟩
              · have HM : Hid (M = (0, false, nn)) := by unfold Hid; rw [HR3.out, if_neg hmo]
                clear HR3
                go_wp2_with (go_at_call 42; refine (N1.out _).mono ?_; rintro e w5 ⟨rfl, hb5⟩)
                go_ret2
                exact ⟨ret_slot (by rw [HM.out]; rfl) (by rw [HM.out]), bel_of hB4 hb5⟩
  · have HM : Hid (M = (3, false, 0)) := by unfold Hid; rw [HR.out, if_pos hh]
    have hh2 : ((hn : Int) != 1) = true := by rw [bne_iff_ne]; omega
    clear HR
    go_wp2
    go_ret2
    exact ⟨ret_slot (by rw [HM.out]; rfl) (by rw [HM.out]), hB3⟩
end Go.Proofs.YtnohadlihgjppaaGreatDoor
