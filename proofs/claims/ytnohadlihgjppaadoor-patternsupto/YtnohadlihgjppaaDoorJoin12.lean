/- Texts that follow one another, joined. -/
import Derived.Test.YtnohadlihgjppaaDoorJoin02
import Derived.Test.YtnohadlihgjppaaDoorJoin11
/- oneNumber and framingOf answer what the plain mathematics says of the values; nothing old in memory turns. -/
namespace Go.Proofs.YtnohadlihgjppaaDoor
open Go.RowKit

theorem ret_slot {a b c d : Int} (h : a = b) (h' : c = d) : Ending.returned (.tuple #[.int .i64 a, .int .i64 c]) = .returned (.tuple #[.int .i64 b, .int .i64 d]) := by rw [h, h']
def datas (l : List ByteArray) : List (List UInt8) := l.map (·.data.toList)

set_option maxHeartbeats 1000000 in
theorem oneNumber_any (l : List ByteArray) (a : Option Addr) (cap : Nat) (w : World) (hf : StAt l a w) (hl : l.length ≤ 1000000) (hsz : ∀ i (h : i < l.length), l[i].size ≤ maxLen) :
    Calls Tryd.prog 71 #[.slice a l.length cap] w fun e w' => e = .returned (.tuple #[.int .i64 (Pm.oneN (datas l)), .int .i64 (Pm.oneE (datas l))]) ∧ w' = w := by
  have HF : Hid (StAt l a w) := hf
  have HZ : Hid (∀ i (h : i < l.length), l[i].size ≤ maxLen) := hsz
  have hdl : (datas l).length = l.length := by simp [datas]
  have HD : Hid ((datas l).length = l.length) := hdl
  clear hf hsz hdl
  go_enter Tryd.func71, Tryd.ntmps71
  go_wp2
  go_loop [4, 5, 6, 7, 8, 11] (fun o _ _ _ _ i => ∃ k : Nat, k ≤ l.length ∧ i = .int .i64 k ∧ o = .int .i64 (Pm.onePre ((datas l).take k)) ∧ Hid (Pm.oneOk ((datas l).take k) = true)) (fun _ _ _ _ _ i => l.length - (intOf i).toNat)
  case atStart => exact ⟨0, Nat.zero_le _, rfl, rfl, rfl⟩
  case round =>
    obtain ⟨k, hk, rfl, rfl, H⟩ := hrel
    by_cases hlt : k < l.length
    · obtain ⟨g, rfl, _, hc1⟩ := HF.out k hlt
      have hsk := HZ.out k hlt
      have hkd : k < (datas l).length := by rw [HD.out]; exact hlt
      have hdk : (datas l)[k] = l[k].data.toList := by simp [datas]
      have HB1 := fun hn => Pm.oneOk_bad1 hkd (by rw [hdk]; exact hn)
      have HB2 := fun hp hn => Pm.oneOk_bad2 hkd hp (by rw [hdk]; exact hn)
      have HST := fun hn he => Pm.oneOk_step hkd H.out (by rw [hdk]; exact hn) (by rw [hdk]; exact he)
      rw [hdk] at HST
      have HALL : Hid ((Pm.numOk 10 9 l[k].data.toList = false → Pm.oneOk (datas l) = false) ∧ (0 < k → Pm.numv 10 l[k].data.toList ≠ Pm.onePre ((datas l).take k) → Pm.oneOk (datas l) = false) ∧ (Pm.numOk 10 9 l[k].data.toList = true → (k = 0 ∨ Pm.numv 10 l[k].data.toList = Pm.onePre ((datas l).take k)) → Pm.oneOk ((datas l).take (k + 1)) = true ∧ Pm.onePre ((datas l).take (k + 1)) = Pm.numv 10 l[k].data.toList)) := ⟨HB1, HB2, HST⟩
      clear HB1 HB2 HST hdk hkd
      obtain ⟨x, hx⟩ : ∃ x, x = l[k] := ⟨_, rfl⟩
      rw [← hx] at hc1 hsk HALL
      clear hx
      generalize Pm.onePre ((datas l).take k) = o at *
      cases hn : Pm.numOk 10 9 x.data.toList
      · have HF2 := (show Hid _ from HALL.out.1 hn)
        have hv : Pm.numE 10 9 x.data.toList = 1 := by unfold Pm.numE; rw [hn]; rfl
        clear hn
        go_wp2_with (go_at_call 98; refine (wDecimal_any _ _ hsk).mono ?_; rintro e w1 ⟨rfl, rfl⟩)
        go_ret2
        exact ⟨ret_slot (by unfold Pm.oneN; rw [HF2.out]; rfl) (by unfold Pm.oneE; rw [HF2.out]; rfl), rfl⟩
      · have hv : Pm.numE 10 9 x.data.toList = 0 := by unfold Pm.numE; rw [hn]; rfl
        have hv2 : Pm.numN 10 9 x.data.toList = Pm.numv 10 x.data.toList := by unfold Pm.numN; rw [hn]; rfl
        have HN : Hid (Pm.numOk 10 9 x.data.toList = true) := hn
        clear hn
        generalize Pm.numv 10 x.data.toList = nv at *
        by_cases hk0 : k = 0
        · subst hk0
          obtain ⟨s1, s2⟩ := HALL.out.2.2 HN.out (.inl rfl)
          have S1 := (show Hid _ from s1)
          have S2 := (show Hid _ from s2)
          clear s1 s2
          go_wp2_with (go_at_call 98; refine (wDecimal_any _ _ hsk).mono ?_; rintro e w1 ⟨rfl, rfl⟩)
          go_round
          case rel => exact ⟨1, by omega, rfl, by rw [S2.out], S1⟩
          case measure => simp [intOf]; omega
        · have hkp : (0 : Int) < (k : Int) := by omega
          by_cases he : nv = o
          · have he2 : (nv != o) = false := by rw [he]; simp
            obtain ⟨s1, s2⟩ := HALL.out.2.2 HN.out (.inr he)
            have S1 := (show Hid _ from s1)
            have S2 := (show Hid _ from s2)
            clear s1 s2 he
            go_wp2_with (go_at_call 98; refine (wDecimal_any _ _ hsk).mono ?_; rintro e w1 ⟨rfl, rfl⟩)
            go_round
            case rel => exact ⟨k + 1, by omega, by go_num, by rw [S2.out], S1⟩
            case measure => simp [intOf]; omega
          · have he2 : (nv != o) = true := by rw [bne_iff_ne]; exact he
            have HF2 := (show Hid _ from HALL.out.2.1 (by omega) he)
            clear he
            go_wp2_with (go_at_call 98; refine (wDecimal_any _ _ hsk).mono ?_; rintro e w1 ⟨rfl, rfl⟩)
            go_ret2
            exact ⟨ret_slot (by unfold Pm.oneN; rw [HF2.out]; rfl) (by unfold Pm.oneE; rw [HF2.out]; rfl), rfl⟩
    · have HT : Hid ((datas l).take k = datas l) := List.take_of_length_le (by rw [HD.out]; omega)
      rw [HT.out] at H
      go_wp2
      go_ret2
      exact ⟨ret_slot (by unfold Pm.oneN; rw [H.out, HT.out]; rfl) (by unfold Pm.oneE; rw [H.out]; rfl), rfl⟩
end Go.Proofs.YtnohadlihgjppaaDoor

/- framingOf answers what the plain mathematics says of the fields; nothing old in memory turns. -/
namespace Go.Proofs.YtnohadlihgjppaaDoor
open Go.RowKit

def nHost : List UInt8 := [72, 111, 115, 116]
def nLength : List UInt8 := [67, 111, 110, 116, 101, 110, 116, 45, 76, 101, 110, 103, 116, 104]
def nCoding : List UInt8 := [84, 114, 97, 110, 115, 102, 101, 114, 45, 69, 110, 99, 111, 100, 105, 110, 103]
def nChunked : List UInt8 := [99, 104, 117, 110, 107, 101, 100]
/- the error; whether the body is told in chunks; its length -/
def framS (hosts : Nat) (lens cods : List (List UInt8)) (most : Int) : Int × Bool × Int :=
  if hosts ≠ 1 then (3, false, 0)
  else if 0 < cods.length ∧ 0 < lens.length then (3, false, 0)
  else if Pm.oneE lens ≠ 0 then (3, false, 0)
  else if 1 < cods.length ∨ (cods.length = 1 ∧ Pm.alike (cods.headD []) nChunked = false) then (6, false, 0)
  else if most < Pm.oneN lens then (4, false, 0)
  else (0, decide (cods.length = 1), Pm.oneN lens)
def framOf (fs : List (ByteArray × ByteArray)) (most : Int) : Int × Bool × Int :=
  framS (valsOf fs nHost).length (datas (valsOf fs nLength)) (datas (valsOf fs nCoding)) most

theorem vals_size {fs : List (ByteArray × ByteArray)} {name : List UInt8} (h : ∀ f ∈ fs, f.2.size ≤ maxLen) : ∀ i (hi : i < (valsOf fs name).length), (valsOf fs name)[i].size ≤ maxLen := by
  intro i hi
  have h1 := List.getElem_mem hi
  unfold valsOf at h1
  rw [List.mem_map] at h1
  obtain ⟨f, hf, he⟩ := h1
  have h2 := h f (List.mem_filter.1 hf).1
  unfold valsOf
  rw [← he]; exact h2

theorem values_nHost (fs : List (ByteArray × ByteArray)) (a : Option Addr) (cap : Nat) (w : World) (hf : FlAt fs a w) (hl : fs.length ≤ 1000000) (hsz : ∀ i (h : i < fs.length), fs[i].1.size ≤ maxLen) :
    Calls Tryd.prog 70 #[.slice a fs.length cap, .string ⟨#[72, 111, 115, 116]⟩] w fun e w' => (∃ a' c', e = .returned (.slice a' (valsOf fs nHost).length c') ∧ StAt (valsOf fs nHost) a' w') ∧ Below w.heap.size w w' := values_any fs a cap ⟨#[72, 111, 115, 116]⟩ w hf hl hsz
theorem values_nLength (fs : List (ByteArray × ByteArray)) (a : Option Addr) (cap : Nat) (w : World) (hf : FlAt fs a w) (hl : fs.length ≤ 1000000) (hsz : ∀ i (h : i < fs.length), fs[i].1.size ≤ maxLen) :
    Calls Tryd.prog 70 #[.slice a fs.length cap, .string ⟨#[67, 111, 110, 116, 101, 110, 116, 45, 76, 101, 110, 103, 116, 104]⟩] w fun e w' => (∃ a' c', e = .returned (.slice a' (valsOf fs nLength).length c') ∧ StAt (valsOf fs nLength) a' w') ∧ Below w.heap.size w w' := values_any fs a cap ⟨#[67, 111, 110, 116, 101, 110, 116, 45, 76, 101, 110, 103, 116, 104]⟩ w hf hl hsz
theorem values_nCoding (fs : List (ByteArray × ByteArray)) (a : Option Addr) (cap : Nat) (w : World) (hf : FlAt fs a w) (hl : fs.length ≤ 1000000) (hsz : ∀ i (h : i < fs.length), fs[i].1.size ≤ maxLen) :
    Calls Tryd.prog 70 #[.slice a fs.length cap, .string ⟨#[84, 114, 97, 110, 115, 102, 101, 114, 45, 69, 110, 99, 111, 100, 105, 110, 103]⟩] w fun e w' => (∃ a' c', e = .returned (.slice a' (valsOf fs nCoding).length c') ∧ StAt (valsOf fs nCoding) a' w') ∧ Below w.heap.size w w' := values_any fs a cap ⟨#[84, 114, 97, 110, 115, 102, 101, 114, 45, 69, 110, 99, 111, 100, 105, 110, 103]⟩ w hf hl hsz
theorem cell_keep {w w' : World} {a : Addr} {v : Value} (hb : Below w.heap.size w w') (h : w.cell? a = some v) : w'.cell? a = some v := cell_later hb h
theorem froz_keep {w w' : World} {a : Addr} {v : Value} (hb : Below w.heap.size w w') (h : w.cell? a = some v) (hf : w.frozen? a = false) : w'.frozen? a = false := by
  rw [hb.frozen (block_lt_of_cell h)]; exact hf

theorem alike_chunked (c : ByteArray) (w : World) (hc : c.size ≤ maxLen) :
    Calls Tryd.prog 72 #[.string c, .string ⟨#[99, 104, 117, 110, 107, 101, 100]⟩] w fun e w' => e = .returned (.bool (Pm.alike c.data.toList nChunked)) ∧ Below w.heap.size w w' := wAlike_any c ⟨#[99, 104, 117, 110, 107, 101, 100]⟩ w hc

set_option maxHeartbeats 2000000 in
theorem framingOf_any (fs : List (ByteArray × ByteArray)) (a : Option Addr) (cap : Nat) (most : Int) (w : World) (hf : FlAt fs a w) (hl : fs.length ≤ 1000000) (hz1 : ∀ f ∈ fs, f.1.size ≤ maxLen) (hz2 : ∀ f ∈ fs, f.2.size ≤ maxLen) :
    Calls Tryd.prog 46 #[.slice a fs.length cap, .int .i64 most] w fun e w' => e = .returned (.tuple #[.agg #[.bool (framOf fs most).2.1, .int .i64 (framOf fs most).2.2], .int .i64 (framOf fs most).1]) ∧ Below w.heap.size w w' := by
  have HF : Hid (FlAt fs a w) := hf
  have HZ1 : Hid (∀ i (h : i < fs.length), fs[i].1.size ≤ maxLen) := fun i h => hz1 _ (List.getElem_mem h)
  have HZL : Hid (∀ i (hi : i < (valsOf fs nLength).length), (valsOf fs nLength)[i].size ≤ maxLen) := vals_size hz2
  have HZC : Hid (∀ i (hi : i < (valsOf fs nCoding).length), (valsOf fs nCoding)[i].size ≤ maxLen) := vals_size hz2
  have hll := valsOf_le fs nLength
  have hlc := valsOf_le fs nCoding
  have hlh := valsOf_le fs nHost
  clear hf hz1 hz2
  have HR : Hid (framOf fs most = framS (valsOf fs nHost).length (datas (valsOf fs nLength)) (datas (valsOf fs nCoding)) most) := rfl
  go_enter Tryd.func46, Tryd.ntmps46
  go_wp2_with fail
  refine (values_nLength fs a cap _ (HF.out.below ((Below.refl _ _).alloc (Nat.le_refl _) _)) hl HZ1.out).mono ?_
  rintro e w1 ⟨⟨a1, c1, rfl, st1⟩, hb1⟩
  have q0 := cell_later hb1 (a := ⟨w.heap.size, 0, none⟩) (v := .bool false) (by simp)
  have q1 := cell_later hb1 (a := ⟨w.heap.size, 1, none⟩) (v := .int .i64 0) (by simp)
  have f0 : w1.frozen? ⟨w.heap.size, 0, none⟩ = false := by rw [hb1.frozen (by simp)]; simp
  have f1 : w1.frozen? ⟨w.heap.size, 1, none⟩ = false := by rw [hb1.frozen (by simp)]; simp
  have hB1 := bel_of ((Below.refl _ w).alloc (Nat.le_refl _) _) hb1
  clear hb1
  have ST1 : Hid (StAt (valsOf fs nLength) a1 w1) := st1
  clear st1
  go_wp2_with fail
  refine (values_nCoding fs a cap _ (HF.out.below hB1) hl HZ1.out).mono ?_
  rintro e w2 ⟨⟨a2, c2, rfl, st2⟩, hb2⟩
  have hB2 := bel_of hB1 hb2
  have ST1' : Hid (StAt (valsOf fs nLength) a1 w2) := ST1.out.below hb2
  have ST2 : Hid (StAt (valsOf fs nCoding) a2 w2) := st2
  have q0' := cell_keep hb2 q0
  have q1' := cell_keep hb2 q1
  have f0' := froz_keep hb2 q0 f0
  have f1' := froz_keep hb2 q1 f1
  clear st2 ST1 hB1 q0 q1 f0 f1 hb2
  go_wp2_with fail
  refine (values_nHost fs a cap _ (HF.out.below hB2) hl HZ1.out).mono ?_
  rintro e w3 ⟨⟨a3, c3, rfl, st3⟩, hb3⟩
  have hB3 := bel_of hB2 hb3
  have ST1 : Hid (StAt (valsOf fs nLength) a1 w3) := ST1'.out.below hb3
  have ST2' : Hid (StAt (valsOf fs nCoding) a2 w3) := ST2.out.below hb3
  have q0 := cell_keep hb3 q0'
  have q1 := cell_keep hb3 q1'
  have f0 := froz_keep hb3 q0' f0'
  have f1 := froz_keep hb3 q1' f1'
  clear st3 ST1' ST2 hB2 q0' q1' f0' f1' hb3 HF HZ1
  generalize (valsOf fs nHost).length = nh at *
  generalize valsOf fs nLength = L at *
  generalize valsOf fs nCoding = C at *
  by_cases hh : nh = 1
  · have hh2 : ((nh : Int) != 1) = false := by rw [hh]; rfl
    have HR2 : Hid (framOf fs most = framS 1 (datas L) (datas C) most) := by have := HR.out; rw [hh] at this; exact this
    clear hh HR
    have hdl : (datas L).length = L.length := by simp [datas]
    have hdc : (datas C).length = C.length := by simp [datas]
    by_cases hcl : 0 < C.length ∧ 0 < L.length
    · have HS : Hid (framOf fs most = (3, false, 0)) := by
        unfold Hid; rw [HR2.out]; unfold framS; rw [if_neg (by simp), if_pos (by rw [hdc, hdl]; exact hcl)]
      obtain ⟨h1, h2⟩ := hcl
      have h1' : (0 : Int) < (C.length : Int) := by omega
      have h2' : (0 : Int) < (L.length : Int) := by omega
      clear hdl hdc h1 h2
      go_wp2
      refine bodyPost_ret (v := .tuple #[.agg #[.bool false, .int .i64 0], .int .i64 3]) (by simp [results, Tryd.results46, go_sem, q0, q1]) rfl ⟨by rw [HS.out], (hB3.setCell (Nat.le_refl _) _).setCell (Nat.le_refl _) _⟩
    · have HR3 : Hid (framOf fs most = if Pm.oneE (datas L) ≠ 0 then (3, false, 0) else if 1 < (datas C).length ∨ ((datas C).length = 1 ∧ Pm.alike ((datas C).headD []) nChunked = false) then (6, false, 0) else if most < Pm.oneN (datas L) then (4, false, 0) else (0, decide ((datas C).length = 1), Pm.oneN (datas L))) := by
        unfold Hid; rw [HR2.out]; unfold framS; rw [if_neg (by simp), if_neg (by rw [hdc, hdl]; exact hcl)]
      clear hdl hdc HR2
      have key : Hid (Calls Tryd.prog 71 #[.slice a1 L.length c1] w3 fun e w' => e = .returned (.tuple #[.int .i64 (Pm.oneN (datas L)), .int .i64 (Pm.oneE (datas L))]) ∧ w' = w3) := oneNumber_any L a1 c1 w3 ST1.out (by omega) HZL.out
      rcases (show C.length = 0 ∨ (0 < C.length ∧ L.length = 0) from by omega) with hc0 | ⟨hc0, hl0⟩
      · obtain rfl : C = [] := List.eq_nil_of_length_eq_zero hc0
        clear hcl hc0 ST2' HZC hlc
        by_cases hE : Pm.oneE (datas L) = 0
        · rw [if_neg (by simp [hE]), if_neg (by simp [datas])] at HR3
          by_cases hm : most < Pm.oneN (datas L)
          · have HS : Hid (framOf fs most = (4, false, 0)) := by have := HR3.out; rw [if_pos hm] at this; exact this
            go_wp2_with fail
            refine key.out.mono ?_
            rintro e w4 ⟨rfl, rfl⟩
            go_wp2
            refine bodyPost_ret (v := .tuple #[.agg #[.bool false, .int .i64 0], .int .i64 4]) (by simp [results, Tryd.results46, go_sem, q0, q1]) rfl ⟨by rw [HS.out], (hB3.setCell (Nat.le_refl _) _).setCell (Nat.le_refl _) _⟩
          · have HS : Hid (framOf fs most = (0, false, Pm.oneN (datas L))) := by have := HR3.out; rw [if_neg hm] at this; exact this
            go_wp2_with fail
            refine key.out.mono ?_
            rintro e w4 ⟨rfl, rfl⟩
            go_wp2
            refine bodyPost_ret (v := .tuple #[.agg #[.bool false, .int .i64 (Pm.oneN (datas L))], .int .i64 0]) (by simp [results, Tryd.results46, go_sem, q0, q1]) rfl ⟨by rw [HS.out], (hB3.setCell (Nat.le_refl _) _).setCell (Nat.le_refl _) _⟩
        · have HS : Hid (framOf fs most = (3, false, 0)) := by have := HR3.out; rw [if_pos hE] at this; exact this
          have hE3 : Pm.oneE (datas L) = 3 := by
            unfold Pm.oneE at hE ⊢; split
            · rename_i h; rw [if_pos h] at hE; exact absurd rfl hE
            · rfl
          clear hE
          go_wp2_with fail
          refine key.out.mono ?_
          rintro e w4 ⟨rfl, rfl⟩
          go_wp2
          refine bodyPost_ret (v := .tuple #[.agg #[.bool false, .int .i64 0], .int .i64 3]) (by simp [results, Tryd.results46, go_sem, q0, q1]) rfl ⟨by rw [HS.out], (hB3.setCell (Nat.le_refl _) _).setCell (Nat.le_refl _) _⟩
      · obtain rfl : L = [] := List.eq_nil_of_length_eq_zero hl0
        clear hcl hl0 HZL hll ST1
        have hE : Pm.oneE (datas []) = 0 := rfl
        have hN : Pm.oneN (datas []) = 0 := rfl
        rw [hE, hN, if_neg (by simp)] at HR3
        match C, hc0 with
        | [c], _ =>
          obtain ⟨g, rfl, _, hc1⟩ := ST2'.out 0 (by simp)
          have hsc := HZC.out 0 (by simp)
          simp only [List.getElem_cons_zero] at hc1 hsc
          cases hal : Pm.alike c.data.toList nChunked
          · have HS : Hid (framOf fs most = (6, false, 0)) := by have := HR3.out; rw [if_pos (by simp [datas, hal])] at this; exact this
            go_wp2_with fail
            refine key.out.mono ?_
            rintro e w4 ⟨rfl, rfl⟩
            go_wp2_with fail
            refine (alike_chunked c _ hsc).mono ?_
            rintro e w5 ⟨rfl, hb5⟩
            rw [hal]
            have r0 := cell_keep hb5 q0
            have r1 := cell_keep hb5 q1
            have g0 := froz_keep hb5 q0 f0
            have g1 := froz_keep hb5 q1 f1
            have hB5 := bel_of hB3 hb5
            clear hb5
            go_wp2
            refine bodyPost_ret (v := .tuple #[.agg #[.bool false, .int .i64 0], .int .i64 6]) (by simp [results, Tryd.results46, go_sem, r0, r1]) rfl ⟨by rw [HS.out], (hB5.setCell (Nat.le_refl _) _).setCell (Nat.le_refl _) _⟩
          · rw [if_neg (by simp [datas, hal])] at HR3
            by_cases hm : most < 0
            · have HS : Hid (framOf fs most = (4, false, 0)) := by have := HR3.out; rw [if_pos hm] at this; exact this
              go_wp2_with fail
              refine key.out.mono ?_
              rintro e w4 ⟨rfl, rfl⟩
              go_wp2_with fail
              refine (alike_chunked c _ hsc).mono ?_
              rintro e w5 ⟨rfl, hb5⟩
              rw [hal]
              have r0 := cell_keep hb5 q0
              have r1 := cell_keep hb5 q1
              have g0 := froz_keep hb5 q0 f0
              have g1 := froz_keep hb5 q1 f1
              have hB5 := bel_of hB3 hb5
              clear hb5
              go_wp2
              refine bodyPost_ret (v := .tuple #[.agg #[.bool false, .int .i64 0], .int .i64 4]) (by simp [results, Tryd.results46, go_sem, r0, r1]) rfl ⟨by rw [HS.out], (hB5.setCell (Nat.le_refl _) _).setCell (Nat.le_refl _) _⟩
            · have HS : Hid (framOf fs most = (0, true, 0)) := by have := HR3.out; rw [if_neg hm] at this; exact this
              go_wp2_with fail
              refine key.out.mono ?_
              rintro e w4 ⟨rfl, rfl⟩
              go_wp2_with fail
              refine (alike_chunked c _ hsc).mono ?_
              rintro e w5 ⟨rfl, hb5⟩
              rw [hal]
              have r0 := cell_keep hb5 q0
              have r1 := cell_keep hb5 q1
              have g0 := froz_keep hb5 q0 f0
              have g1 := froz_keep hb5 q1 f1
              have hB5 := bel_of hB3 hb5
              clear hb5
              go_wp2
              refine bodyPost_ret (v := .tuple #[.agg #[.bool true, .int .i64 0], .int .i64 0]) (by simp [results, Tryd.results46, go_sem, r0, r1]) rfl ⟨by rw [HS.out], (hB5.setCell (Nat.le_refl _) _).setCell (Nat.le_refl _) _⟩
        | c :: d :: r, _ =>
          have HS : Hid (framOf fs most = (6, false, 0)) := by have := HR3.out; rw [if_pos (by simp [datas])] at this; exact this
          go_wp2_with fail
          refine key.out.mono ?_
          rintro e w4 ⟨rfl, rfl⟩
          go_wp2
          refine bodyPost_ret (v := .tuple #[.agg #[.bool false, .int .i64 0], .int .i64 6]) (by simp [results, Tryd.results46, go_sem, q0, q1]) rfl ⟨by rw [HS.out], (hB3.setCell (Nat.le_refl _) _).setCell (Nat.le_refl _) _⟩
  · have hh2 : ((nh : Int) != 1) = true := by rw [bne_iff_ne]; omega
    have HS : Hid (framOf fs most = (3, false, 0)) := by unfold Hid; rw [HR.out]; unfold framS; rw [if_pos hh]
    clear hh
    go_wp2
    refine bodyPost_ret (v := .tuple #[.agg #[.bool false, .int .i64 0], .int .i64 3]) (by simp [results, Tryd.results46, go_sem, q0, q1]) rfl ⟨by rw [HS.out], (hB3.setCell (Nat.le_refl _) _).setCell (Nat.le_refl _) _⟩
end Go.Proofs.YtnohadlihgjppaaDoor
