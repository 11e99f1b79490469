/- Texts that follow one another, joined. -/
import Derived.Test.YtpilfanbfpbldaaGreatDoorJoin07
import Derived.Test.YtpilfanbfpbldaaGreatDoorJoin05
import Derived.Deep.RegionLaw
import Derived.Deep.AppendLies
import Derived.WalkMore
import Derived.Deep.LoopGhost
/- framingOf answers what the plain mathematics says of the fields; nothing old in memory turns. -/
namespace Go.Proofs.YtpilfanbfpbldaaGreatDoor
open Go.RowKit

def nHost : List UInt8 := [72, 111, 115, 116]
def nLength : List UInt8 := [67, 111, 110, 116, 101, 110, 116, 45, 76, 101, 110, 103, 116, 104]
def nCoding : List UInt8 := [84, 114, 97, 110, 115, 102, 101, 114, 45, 69, 110, 99, 111, 100, 105, 110, 103]
def nChunked : List UInt8 := [99, 104, 117, 110, 107, 101, 100]
/- the error; whether the body is told in chunks; its length -/
def framS (hosts : Nat) (lens cods : List (List UInt8)) (most : Int) : Int × Bool × Int :=
  if hosts ≠ 1 then (3, false, 0)
  else if 0 < cods.length ∧ 0 < lens.length then (3, false, 0)
  else if Pm.oneE lens ≠ 0 then (3, false, 0)
  else if 1 < cods.length ∨ (cods.length = 1 ∧ Pm.alike (cods.headD []) nChunked = false) then (6, false, 0)
  else if most < Pm.oneN lens then (4, false, 0)
  else (0, decide (cods.length = 1), Pm.oneN lens)
def framOf (fs : List (ByteArray × ByteArray)) (most : Int) : Int × Bool × Int :=
  framS (valsOf fs nHost).length (datas (valsOf fs nLength)) (datas (valsOf fs nCoding)) most

theorem vals_size {fs : List (ByteArray × ByteArray)} {name : List UInt8} (h : ∀ f ∈ fs, f.2.size ≤ maxLen) : ∀ i (hi : i < (valsOf fs name).length), (valsOf fs name)[i].size ≤ maxLen := by
  intro i hi
  have h1 := List.getElem_mem hi
  unfold valsOf at h1
  rw [List.mem_map] at h1
  obtain ⟨f, hf, he⟩ := h1
  have h2 := h f (List.mem_filter.1 hf).1
  unfold valsOf
  rw [← he]; exact h2

theorem values_nHost (fs : List (ByteArray × ByteArray)) (a : Option Addr) (cap : Nat) (w : World) (hf : FlAt fs a w) (hl : fs.length ≤ 1000000) (hsz : ∀ i (h : i < fs.length), fs[i].1.size ≤ maxLen) :
    Calls Tryz.prog 83 #[.slice a fs.length cap, .string ⟨#[72, 111, 115, 116]⟩] w fun e w' => (∃ a' c', e = .returned (.slice a' (valsOf fs nHost).length c') ∧ StAt (valsOf fs nHost) a' w') ∧ Below w.heap.size w w' := values_any fs a cap ⟨#[72, 111, 115, 116]⟩ w hf hl hsz
theorem values_nLength (fs : List (ByteArray × ByteArray)) (a : Option Addr) (cap : Nat) (w : World) (hf : FlAt fs a w) (hl : fs.length ≤ 1000000) (hsz : ∀ i (h : i < fs.length), fs[i].1.size ≤ maxLen) :
    Calls Tryz.prog 83 #[.slice a fs.length cap, .string ⟨#[67, 111, 110, 116, 101, 110, 116, 45, 76, 101, 110, 103, 116, 104]⟩] w fun e w' => (∃ a' c', e = .returned (.slice a' (valsOf fs nLength).length c') ∧ StAt (valsOf fs nLength) a' w') ∧ Below w.heap.size w w' := values_any fs a cap ⟨#[67, 111, 110, 116, 101, 110, 116, 45, 76, 101, 110, 103, 116, 104]⟩ w hf hl hsz
theorem values_nCoding (fs : List (ByteArray × ByteArray)) (a : Option Addr) (cap : Nat) (w : World) (hf : FlAt fs a w) (hl : fs.length ≤ 1000000) (hsz : ∀ i (h : i < fs.length), fs[i].1.size ≤ maxLen) :
    Calls Tryz.prog 83 #[.slice a fs.length cap, .string ⟨#[84, 114, 97, 110, 115, 102, 101, 114, 45, 69, 110, 99, 111, 100, 105, 110, 103]⟩] w fun e w' => (∃ a' c', e = .returned (.slice a' (valsOf fs nCoding).length c') ∧ StAt (valsOf fs nCoding) a' w') ∧ Below w.heap.size w w' := values_any fs a cap ⟨#[84, 114, 97, 110, 115, 102, 101, 114, 45, 69, 110, 99, 111, 100, 105, 110, 103]⟩ w hf hl hsz
theorem cell_keep {w w' : World} {a : Addr} {v : Value} (hb : Below w.heap.size w w') (h : w.cell? a = some v) : w'.cell? a = some v := cell_later hb h
theorem froz_keep {w w' : World} {a : Addr} {v : Value} (hb : Below w.heap.size w w') (h : w.cell? a = some v) (hf : w.frozen? a = false) : w'.frozen? a = false := by
  rw [hb.frozen (block_lt_of_cell h)]; exact hf

theorem alike_chunked (c : ByteArray) (w : World) (hc : c.size ≤ maxLen) :
    Calls Tryz.prog 76 #[.string c, .string ⟨#[99, 104, 117, 110, 107, 101, 100]⟩] w fun e w' => e = .returned (.bool (Pm.alike c.data.toList nChunked)) ∧ Below w.heap.size w w' := wAlike_any c ⟨#[99, 104, 117, 110, 107, 101, 100]⟩ w hc

set_option maxHeartbeats 2000000 in
theorem framingOf_any (fs : List (ByteArray × ByteArray)) (a : Option Addr) (cap : Nat) (most : Int) (w : World) (hf : FlAt fs a w) (hl : fs.length ≤ 1000000) (hz1 : ∀ f ∈ fs, f.1.size ≤ maxLen) (hz2 : ∀ f ∈ fs, f.2.size ≤ maxLen) :
    Calls Tryz.prog 50 #[.slice a fs.length cap, .int .i64 most] w fun e w' => e = .returned (.tuple #[.agg #[.bool (framOf fs most).2.1, .int .i64 (framOf fs most).2.2], .int .i64 (framOf fs most).1]) ∧ Below w.heap.size w w' := by
  have HF : Hid (FlAt fs a w) := hf
  have HZ1 : Hid (∀ i (h : i < fs.length), fs[i].1.size ≤ maxLen) := fun i h => hz1 _ (List.getElem_mem h)
  have HZL : Hid (∀ i (hi : i < (valsOf fs nLength).length), (valsOf fs nLength)[i].size ≤ maxLen) := vals_size hz2
  have HZC : Hid (∀ i (hi : i < (valsOf fs nCoding).length), (valsOf fs nCoding)[i].size ≤ maxLen) := vals_size hz2
  have hll := valsOf_le fs nLength
  have hlc := valsOf_le fs nCoding
  have hlh := valsOf_le fs nHost
  clear hf hz1 hz2
  have HR : Hid (framOf fs most = framS (valsOf fs nHost).length (datas (valsOf fs nLength)) (datas (valsOf fs nCoding)) most) := rfl
  go_enter Tryz.func50, Tryz.ntmps50
  go_wp2_with fail
  refine (values_nLength fs a cap _ (HF.out.below ((Below.refl _ _).alloc (Nat.le_refl _) _)) hl HZ1.out).mono ?_
  rintro e w1 ⟨⟨a1, c1, rfl, st1⟩, hb1⟩
  have q0 := cell_later hb1 (a := ⟨w.heap.size, 0, none⟩) (v := .bool false) (by simp)
  have q1 := cell_later hb1 (a := ⟨w.heap.size, 1, none⟩) (v := .int .i64 0) (by simp)
  have f0 : w1.frozen? ⟨w.heap.size, 0, none⟩ = false := by rw [hb1.frozen (by simp)]; simp
  have f1 : w1.frozen? ⟨w.heap.size, 1, none⟩ = false := by rw [hb1.frozen (by simp)]; simp
  have hB1 := bel_of ((Below.refl _ w).alloc (Nat.le_refl _) _) hb1
  clear hb1
  have ST1 : Hid (StAt (valsOf fs nLength) a1 w1) := st1
  clear st1
  go_wp2_with fail
  refine (values_nCoding fs a cap _ (HF.out.below hB1) hl HZ1.out).mono ?_
  rintro e w2 ⟨⟨a2, c2, rfl, st2⟩, hb2⟩
  have hB2 := bel_of hB1 hb2
  have ST1' : Hid (StAt (valsOf fs nLength) a1 w2) := ST1.out.below hb2
  have ST2 : Hid (StAt (valsOf fs nCoding) a2 w2) := st2
  have q0' := cell_keep hb2 q0
  have q1' := cell_keep hb2 q1
  have f0' := froz_keep hb2 q0 f0
  have f1' := froz_keep hb2 q1 f1
  clear st2 ST1 hB1 q0 q1 f0 f1 hb2
  go_wp2_with fail
  refine (values_nHost fs a cap _ (HF.out.below hB2) hl HZ1.out).mono ?_
  rintro e w3 ⟨⟨a3, c3, rfl, st3⟩, hb3⟩
  have hB3 := bel_of hB2 hb3
  have ST1 : Hid (StAt (valsOf fs nLength) a1 w3) := ST1'.out.below hb3
  have ST2' : Hid (StAt (valsOf fs nCoding) a2 w3) := ST2.out.below hb3
  have q0 := cell_keep hb3 q0'
  have q1 := cell_keep hb3 q1'
  have f0 := froz_keep hb3 q0' f0'
  have f1 := froz_keep hb3 q1' f1'
  clear st3 ST1' ST2 hB2 q0' q1' f0' f1' hb3 HF HZ1
  generalize (valsOf fs nHost).length = nh at *
  generalize valsOf fs nLength = L at *
  generalize valsOf fs nCoding = C at *
  by_cases hh : nh = 1
  · have hh2 : ((nh : Int) != 1) = false := by rw [hh]; rfl
    have HR2 : Hid (framOf fs most = framS 1 (datas L) (datas C) most) := by have := HR.out; rw [hh] at this; exact this
    clear hh HR
    have hdl : (datas L).length = L.length := by simp [datas]
    have hdc : (datas C).length = C.length := by simp [datas]
    by_cases hcl : 0 < C.length ∧ 0 < L.length
    · have HS : Hid (framOf fs most = (3, false, 0)) := by
        unfold Hid; rw [HR2.out]; unfold framS; rw [if_neg (by simp), if_pos (by rw [hdc, hdl]; exact hcl)]
      obtain ⟨h1, h2⟩ := hcl
      have h1' : (0 : Int) < (C.length : Int) := by omega
      have h2' : (0 : Int) < (L.length : Int) := by omega
      clear hdl hdc h1 h2
      go_wp2
      refine bodyPost_ret (v := .tuple #[.agg #[.bool false, .int .i64 0], .int .i64 3]) (by simp [results, Tryz.results50, go_sem, q0, q1]) rfl ⟨by rw [HS.out], (hB3.setCell (Nat.le_refl _) _).setCell (Nat.le_refl _) _⟩
    · have HR3 : Hid (framOf fs most = if Pm.oneE (datas L) ≠ 0 then (3, false, 0) else if 1 < (datas C).length ∨ ((datas C).length = 1 ∧ Pm.alike ((datas C).headD []) nChunked = false) then (6, false, 0) else if most < Pm.oneN (datas L) then (4, false, 0) else (0, decide ((datas C).length = 1), Pm.oneN (datas L))) := by
        unfold Hid; rw [HR2.out]; unfold framS; rw [if_neg (by simp), if_neg (by rw [hdc, hdl]; exact hcl)]
      clear hdl hdc HR2
      have key : Hid (Calls Tryz.prog 84 #[.slice a1 L.length c1] w3 fun e w' => e = .returned (.tuple #[.int .i64 (Pm.oneN (datas L)), .int .i64 (Pm.oneE (datas L))]) ∧ w' = w3) := oneNumber_any L a1 c1 w3 ST1.out (by omega) HZL.out
      rcases (show C.length = 0 ∨ (0 < C.length ∧ L.length = 0) from by omega) with hc0 | ⟨hc0, hl0⟩
      · obtain rfl : C = [] := List.eq_nil_of_length_eq_zero hc0
        clear hcl hc0 ST2' HZC hlc
        by_cases hE : Pm.oneE (datas L) = 0
        · rw [if_neg (by simp [hE]), if_neg (by simp [datas])] at HR3
          by_cases hm : most < Pm.oneN (datas L)
          · have HS : Hid (framOf fs most = (4, false, 0)) := by have := HR3.out; rw [if_pos hm] at this; exact this
            go_wp2_with fail
            refine key.out.mono ?_
            rintro e w4 ⟨rfl, rfl⟩
            go_wp2
            refine bodyPost_ret (v := .tuple #[.agg #[.bool false, .int .i64 0], .int .i64 4]) (by simp [results, Tryz.results50, go_sem, q0, q1]) rfl ⟨by rw [HS.out], (hB3.setCell (Nat.le_refl _) _).setCell (Nat.le_refl _) _⟩
          · have HS : Hid (framOf fs most = (0, false, Pm.oneN (datas L))) := by have := HR3.out; rw [if_neg hm] at this; exact this
            go_wp2_with fail
            refine key.out.mono ?_
            rintro e w4 ⟨rfl, rfl⟩
            go_wp2
            refine bodyPost_ret (v := .tuple #[.agg #[.bool false, .int .i64 (Pm.oneN (datas L))], .int .i64 0]) (by simp [results, Tryz.results50, go_sem, q0, q1]) rfl ⟨by rw [HS.out], (hB3.setCell (Nat.le_refl _) _).setCell (Nat.le_refl _) _⟩
        · have HS : Hid (framOf fs most = (3, false, 0)) := by have := HR3.out; rw [if_pos hE] at this; exact this
          have hE3 : Pm.oneE (datas L) = 3 := by
            unfold Pm.oneE at hE ⊢; split
            · rename_i h; rw [if_pos h] at hE; exact absurd rfl hE
            · rfl
          clear hE
          go_wp2_with fail
          refine key.out.mono ?_
          rintro e w4 ⟨rfl, rfl⟩
          go_wp2
          refine bodyPost_ret (v := .tuple #[.agg #[.bool false, .int .i64 0], .int .i64 3]) (by simp [results, Tryz.results50, go_sem, q0, q1]) rfl ⟨by rw [HS.out], (hB3.setCell (Nat.le_refl _) _).setCell (Nat.le_refl _) _⟩
      · obtain rfl : L = [] := List.eq_nil_of_length_eq_zero hl0
        clear hcl hl0 HZL hll ST1
        have hE : Pm.oneE (datas []) = 0 := rfl
        have hN : Pm.oneN (datas []) = 0 := rfl
        rw [hE, hN, if_neg (by simp)] at HR3
        match C, hc0 with
        | [c], _ =>
          obtain ⟨g, rfl, _, hc1⟩ := ST2'.out 0 (by simp)
          have hsc := HZC.out 0 (by simp)
          simp only [List.getElem_cons_zero] at hc1 hsc
          cases hal : Pm.alike c.data.toList nChunked
          · have HS : Hid (framOf fs most = (6, false, 0)) := by have := HR3.out; rw [if_pos (by simp [datas, hal])] at this; exact this
            go_wp2_with fail
            refine key.out.mono ?_
            rintro e w4 ⟨rfl, rfl⟩
            go_wp2_with fail
            refine (alike_chunked c _ hsc).mono ?_
            rintro e w5 ⟨rfl, hb5⟩
            rw [hal]
            have r0 := cell_keep hb5 q0
            have r1 := cell_keep hb5 q1
            have g0 := froz_keep hb5 q0 f0
            have g1 := froz_keep hb5 q1 f1
            have hB5 := bel_of hB3 hb5
            clear hb5
            go_wp2
            refine bodyPost_ret (v := .tuple #[.agg #[.bool false, .int .i64 0], .int .i64 6]) (by simp [results, Tryz.results50, go_sem, r0, r1]) rfl ⟨by rw [HS.out], (hB5.setCell (Nat.le_refl _) _).setCell (Nat.le_refl _) _⟩
          · rw [if_neg (by simp [datas, hal])] at HR3
            by_cases hm : most < 0
            · have HS : Hid (framOf fs most = (4, false, 0)) := by have := HR3.out; rw [if_pos hm] at this; exact this
              go_wp2_with fail
              refine key.out.mono ?_
              rintro e w4 ⟨rfl, rfl⟩
              go_wp2_with fail
              refine (alike_chunked c _ hsc).mono ?_
              rintro e w5 ⟨rfl, hb5⟩
              rw [hal]
              have r0 := cell_keep hb5 q0
              have r1 := cell_keep hb5 q1
              have g0 := froz_keep hb5 q0 f0
              have g1 := froz_keep hb5 q1 f1
              have hB5 := bel_of hB3 hb5
              clear hb5
              go_wp2
              refine bodyPost_ret (v := .tuple #[.agg #[.bool false, .int .i64 0], .int .i64 4]) (by simp [results, Tryz.results50, go_sem, r0, r1]) rfl ⟨by rw [HS.out], (hB5.setCell (Nat.le_refl _) _).setCell (Nat.le_refl _) _⟩
            · have HS : Hid (framOf fs most = (0, true, 0)) := by have := HR3.out; rw [if_neg hm] at this; exact this
              go_wp2_with fail
              refine key.out.mono ?_
              rintro e w4 ⟨rfl, rfl⟩
              go_wp2_with fail
              refine (alike_chunked c _ hsc).mono ?_
              rintro e w5 ⟨rfl, hb5⟩
              rw [hal]
              have r0 := cell_keep hb5 q0
              have r1 := cell_keep hb5 q1
              have g0 := froz_keep hb5 q0 f0
              have g1 := froz_keep hb5 q1 f1
              have hB5 := bel_of hB3 hb5
              clear hb5
              go_wp2
              refine bodyPost_ret (v := .tuple #[.agg #[.bool true, .int .i64 0], .int .i64 0]) (by simp [results, Tryz.results50, go_sem, r0, r1]) rfl ⟨by rw [HS.out], (hB5.setCell (Nat.le_refl _) _).setCell (Nat.le_refl _) _⟩
        | c :: d :: r, _ =>
          have HS : Hid (framOf fs most = (6, false, 0)) := by have := HR3.out; rw [if_pos (by simp [datas])] at this; exact this
          go_wp2_with fail
          refine key.out.mono ?_
          rintro e w4 ⟨rfl, rfl⟩
          go_wp2
          refine bodyPost_ret (v := .tuple #[.agg #[.bool false, .int .i64 0], .int .i64 6]) (by simp [results, Tryz.results50, go_sem, q0, q1]) rfl ⟨by rw [HS.out], (hB3.setCell (Nat.le_refl _) _).setCell (Nat.le_refl _) _⟩
  · have hh2 : ((nh : Int) != 1) = true := by rw [bne_iff_ne]; omega
    have HS : Hid (framOf fs most = (3, false, 0)) := by unfold Hid; rw [HR.out]; unfold framS; rw [if_pos hh]
    clear hh
    go_wp2
    refine bodyPost_ret (v := .tuple #[.agg #[.bool false, .int .i64 0], .int .i64 3]) (by simp [results, Tryz.results50, go_sem, q0, q1]) rfl ⟨by rw [HS.out], (hB3.setCell (Nat.le_refl _) _).setCell (Nat.le_refl _) _⟩
end Go.Proofs.YtpilfanbfpbldaaGreatDoor

/- A reader's bytes, size and chunk: the error, what is read, the new place, as the plain mathematics says; no other block turns. -/
namespace Go.Proofs.YtpilfanbfpbldaaGreatDoor
open Go.RowKit

set_option maxHeartbeats 1000000 in
theorem bytes_short (b : Nat) (hd bd : Int) (s : ByteArray) (k n : Nat) (w : World) (hr : RdAt b hd bd s k w) (_hs : s.size ≤ maxLen) (hk : k ≤ s.size) (hn : s.size - k < n) (hn2 : n ≤ 4611686018427387904) :
    Calls Tryz.prog 52 #[.pointer (some ⟨b, 0, none⟩), .int .i64 n] w fun r w' =>
      r = .returned (.tuple #[.string ⟨#[]⟩, .int .i64 2]) ∧ RdAt b hd bd s k w' ∧ Kp b w w' := by
  obtain ⟨c0, c1, c2, c3⟩ := hr.cell
  have HR : Hid (RdAt b hd bd s k w) := hr
  clear hr
  unfold maxLen at _hs
  have hlt : (s.size : Int) - (k : Int) < (n : Int) := by omega
  go_enter Tryz.func52, Tryz.ntmps52
  go_wp2
  go_quiet (fail)
  go_wp2
  go_ret2
  exact ⟨rfl, HR.out.below (below_drewN (Below.refl _ _) _), Kp.of (below_drewN (Below.refl _ _) _)⟩

set_option maxHeartbeats 1000000 in
theorem bytes_full (b : Nat) (hd bd : Int) (s : ByteArray) (k n : Nat) (w : World) (hr : RdAt b hd bd s k w) (hs : s.size ≤ maxLen) (hk : k ≤ s.size) (hn : n ≤ s.size - k) (hn2 : n ≤ 281474976710656) :
    Calls Tryz.prog 52 #[.pointer (some ⟨b, 0, none⟩), .int .i64 n] w fun r w' =>
      r = .returned (.tuple #[.string (s.extract k (k + n)), .int .i64 0]) ∧ RdAt b hd bd s (k + n) w' ∧ Kp b w w' := by
  obtain ⟨c0, c1, c2, c3⟩ := hr.cell
  have cf := hr.free 3
  have HR : Hid (RdAt b hd bd s k w) := hr
  clear hr
  unfold maxLen at hs
  have hlt : ¬ (s.size : Int) - (k : Int) < (n : Int) := by omega
  go_enter Tryz.func52, Tryz.ntmps52
  go_wp2
  go_quiet (fail)
  go_wp2
  have HM : Hid (RdAt b hd bd s (k + n) ((w.drewN nq).setCell ⟨b, 3, none⟩ (.int .i64 ((k : Int) + (n : Int))))) := by
    have := (HR.out.below (below_drewN (Below.refl _ _) nq)).move (k + n)
    rw [show ((k + n : Nat) : Int) = (k : Int) + (n : Int) from by omega] at this
    exact this
  have HK : Hid (Kp b w ((w.drewN nq).setCell ⟨b, 3, none⟩ (.int .i64 ((k : Int) + (n : Int))))) := (Kp.of (below_drewN (Below.refl _ _) _)).trans (Kp.set b 3 _ _)
  clear c0 c1 c2 c3 cf HR
  generalize (w.drewN nq).setCell ⟨b, 3, none⟩ (.int .i64 ((k : Int) + (n : Int))) = W at *
  obtain ⟨_, _, c2, c3⟩ := HM.out.cell
  rw [show ((k + n : Nat) : Int) = (k : Int) + (n : Int) from by omega] at c3
  have hkn : (k : Int) + (n : Int) ≤ (s.size : Int) := by omega
  have hkn2 : k + n ≤ s.size := by omega
  have hw : IntKind.i64.wrap (k : Int) = (k : Int) := by simp [IntKind.wrap, IntKind.bits, IntKind.signed]; omega
  go_region_with (go_at_call 26; refine (clone_any _ _ ?_).mono ?_; (simp; omega); rintro e w1 ⟨rfl, hb1⟩)
  all_goals
    go_wp2
    go_ret2
    exact ⟨rfl, HM.out.below (bel_of (Below.refl _ _).drew hb1), HK.out.trans (Kp.of (bel_of (Below.refl _ _).drew hb1))⟩

def sizeN (l : List UInt8) : Int := if (Pm.lineS l 10 3).1 = 0 then Pm.numN 16 8 (Pm.lineS l 10 3).2.1 else 0
def sizeE (l : List UInt8) : Int := if (Pm.lineS l 10 3).1 = 0 then (if Pm.numE 16 8 (Pm.lineS l 10 3).2.1 = 0 then 0 else 3) else (Pm.lineS l 10 3).1

set_option maxHeartbeats 1000000 in
theorem size_any (b : Nat) (hd bd : Int) (s : ByteArray) (k : Nat) (w : World) (hr : RdAt b hd bd s k w) (hs : s.size ≤ 1152921504606846976) (hk : k ≤ s.size) (hx : (Pm.lineS (s.data.toList.drop k) 10 3).2.1.length ≤ maxLen) :
    Calls Tryz.prog 85 #[.pointer (some ⟨b, 0, none⟩)] w fun r w' =>
      r = .returned (.tuple #[.int .i64 (sizeN (s.data.toList.drop k)), .int .i64 (sizeE (s.data.toList.drop k))]) ∧
      RdAt b hd bd s (k + (Pm.lineS (s.data.toList.drop k) 10 3).2.2) w' ∧ Kp b w w' := by
  obtain ⟨c0, c1, c2, c3⟩ := hr.cell
  have HR : Hid (RdAt b hd bd s k w) := hr
  clear hr
  have hs2 : s.size ≤ maxLen := by unfold maxLen; omega
  go_enter Tryz.func85, Tryz.ntmps85
  go_wp2_with fail
  have hl := line_any b hd bd s k (k + 10) 3 w HR.out hs2 hk (by omega) (by omega)
  rw [show k + 10 - k = 10 from by omega, show ((k + 10 : Nat) : Int) = (k : Int) + 10 from by omega] at hl
  refine hl.mono ?_
  rintro e w1 ⟨rfl, hr1, hk1⟩
  clear hl
  have HX : Hid (RdAt b hd bd s (k + (Pm.lineS (s.data.toList.drop k) 10 3).2.2) w1) := hr1
  have hxs : (⟨(Pm.lineS (s.data.toList.drop k) 10 3).2.1.toArray⟩ : ByteArray).size ≤ maxLen := by simpa [ByteArray.size] using hx
  clear hr1 c0 c1 c2 c3
  have HN : Hid (sizeN (s.data.toList.drop k) = if (Pm.lineS (s.data.toList.drop k) 10 3).1 = 0 then Pm.numN 16 8 (Pm.lineS (s.data.toList.drop k) 10 3).2.1 else 0) := rfl
  have HE : Hid (sizeE (s.data.toList.drop k) = if (Pm.lineS (s.data.toList.drop k) 10 3).1 = 0 then (if Pm.numE 16 8 (Pm.lineS (s.data.toList.drop k) 10 3).2.1 = 0 then 0 else 3) else (Pm.lineS (s.data.toList.drop k) 10 3).1) := rfl
  have HX2 : Hid (Calls Tryz.prog 124 #[.string ⟨(Pm.lineS (s.data.toList.drop k) 10 3).2.1.toArray⟩] w1 fun e w' => e = .returned (.tuple #[.int .i64 (Pm.numN 16 8 (Pm.lineS (s.data.toList.drop k) 10 3).2.1), .int .i64 (Pm.numE 16 8 (Pm.lineS (s.data.toList.drop k) 10 3).2.1)]) ∧ w' = w1) := wHex_any _ _ hxs
  clear hxs hx
  by_cases h0 : (Pm.lineS (s.data.toList.drop k) 10 3).1 = 0
  · rw [if_pos h0] at HN HE
    by_cases hE : Pm.numE 16 8 (Pm.lineS (s.data.toList.drop k) 10 3).2.1 = 0
    · rw [if_pos hE] at HE
      go_wp2_with fail
      refine HX2.out.mono ?_
      rintro e w2 ⟨rfl, rfl⟩
      go_wp2
      go_ret2
      exact ⟨ret_two HN.out.symm HE.out.symm, HX.out, hk1⟩
    · rw [if_neg hE] at HE
      have hE1 : Pm.numE 16 8 (Pm.lineS (s.data.toList.drop k) 10 3).2.1 = 1 ∧ Pm.numN 16 8 (Pm.lineS (s.data.toList.drop k) 10 3).2.1 = 0 := by
        unfold Pm.numE at hE ⊢; unfold Pm.numN; split
        · rename_i h; rw [if_pos h] at hE; exact absurd rfl hE
        · exact ⟨rfl, rfl⟩
      rw [hE1.2] at HN
      obtain ⟨hE2, _⟩ := hE1
      clear hE
      go_wp2_with fail
      refine HX2.out.mono ?_
      rintro e w2 ⟨rfl, rfl⟩
      go_wp2
      go_ret2
      exact ⟨ret_two HN.out.symm HE.out.symm, HX.out, hk1⟩
  · rw [if_neg h0] at HN HE
    have hne : ((Pm.lineS (s.data.toList.drop k) 10 3).1 != 0) = true := by rw [bne_iff_ne]; exact h0
    clear h0
    go_wp2
    go_ret2
    exact ⟨ret_two HN.out.symm HE.out.symm, HX.out, hk1⟩

end Go.Proofs.YtpilfanbfpbldaaGreatDoor

/- A reader's chunk: the error, the bytes, the new place, as the plain mathematics says; no other block turns. -/
namespace Go.Proofs.YtpilfanbfpbldaaGreatDoor
open Go.RowKit


/- a chunk's bytes: the error, the bytes, how many are used up -/
def chunkS (l : List UInt8) (size : Nat) (room : Int) : Int × List UInt8 × Nat :=
  if room < size then (4, [], 0)
  else if l.length < size + 2 then (2, [], 0)
  else if Lib.hasSuffix (l.take (size + 2)) [13, 10] = true then (0, Lib.trimSuffix (l.take (size + 2)) [13, 10], size + 2)
  else (3, [], size + 2)

set_option maxHeartbeats 1000000 in
theorem chunk_any (b : Nat) (hd bd : Int) (s : ByteArray) (k n : Nat) (room : Int) (w : World) (hr : RdAt b hd bd s k w) (hs : s.size ≤ maxLen) (hk : k ≤ s.size) (hn : n ≤ 68719476736) :
    Calls Tryz.prog 86 #[.pointer (some ⟨b, 0, none⟩), .int .i64 n, .int .i64 room] w fun r w' =>
      r = .returned (.tuple #[.string ⟨(chunkS (s.data.toList.drop k) n room).2.1.toArray⟩, .int .i64 (chunkS (s.data.toList.drop k) n room).1]) ∧
      RdAt b hd bd s (k + (chunkS (s.data.toList.drop k) n room).2.2) w' ∧ Kp b w w' := by
  have HR : Hid (RdAt b hd bd s k w) := hr
  clear hr
  have hll : (s.data.toList.drop k).length = s.size - k := by simp
  by_cases h1 : room < n
  · have HS : Hid (chunkS (s.data.toList.drop k) n room = (4, [], 0)) := by unfold Hid chunkS; rw [if_pos h1]
    go_enter Tryz.func86, Tryz.ntmps86
    go_wp2
    go_ret2
    exact ⟨ret_strint (by rw [HS.out]) (by rw [HS.out]), by rw [HS.out]; exact HR.out, Kp.refl _ _⟩
  · by_cases h2 : s.size - k < n + 2
    · have HS : Hid (chunkS (s.data.toList.drop k) n room = (2, [], 0)) := by unfold Hid chunkS; rw [if_neg h1, if_pos (by rw [hll]; exact h2)]
      have hb := bytes_short b hd bd s k (n + 2) w HR.out hs hk h2 (by omega)
      rw [show ((n + 2 : Nat) : Int) = (n : Int) + 2 from by omega] at hb
      have HB := hid hb
      clear hb hll
      go_enter Tryz.func86, Tryz.ntmps86
      go_wp2_with fail
      refine HB.out.mono ?_
      rintro e w1 ⟨rfl, hr1, hk1⟩
      go_wp2
      go_ret2
      exact ⟨ret_strint (by rw [HS.out]) (by rw [HS.out]), by rw [HS.out]; exact hr1, hk1⟩
    · have hb := bytes_full b hd bd s k (n + 2) w HR.out hs hk (by omega) (by omega)
      rw [show ((n + 2 : Nat) : Int) = (n : Int) + 2 from by omega] at hb
      have HB := hid hb
      have hex : (s.extract k (k + (n + 2))).data.toList = (s.data.toList.drop k).take (n + 2) := by rw [Lib.extract_data, show k + (n + 2) - k = n + 2 from by omega]
      have hsx : (s.extract k (k + (n + 2))).size ≤ 9223372036854775807 := by unfold maxLen at hs; simp; omega
      clear hb
      cases h3 : Lib.hasSuffix ((s.data.toList.drop k).take (n + 2)) [13, 10]
      · have HS : Hid (chunkS (s.data.toList.drop k) n room = (3, [], n + 2)) := by unfold Hid chunkS; rw [if_neg h1, if_neg (by rw [hll]; exact h2), if_neg (by rw [h3]; decide)]
        have HQ : Hid (Lib.hasSuffix (s.extract k (k + (n + 2))).data.toList [13, 10] = false) := by unfold Hid; rw [hex]; exact h3
        clear hll hex h3
        go_enter Tryz.func86, Tryz.ntmps86
        go_wp2_with fail
        refine HB.out.mono ?_
        rintro e w1 ⟨rfl, hr1, hk1⟩
        go_wp2_with fail
        refine (Tryz.strings_CutSuffix _ _ _ hsx).mono ?_
        rintro e w2 ⟨rfl, rfl⟩
        rw [show (⟨#[13, 10]⟩ : ByteArray).data.toList = [13, 10] from rfl, HQ.out]
        go_wp2
        go_ret2
        exact ⟨ret_strint (by rw [HS.out]) (by rw [HS.out]), by rw [HS.out]; exact hr1, hk1⟩
      · have HS : Hid (chunkS (s.data.toList.drop k) n room = (0, Lib.trimSuffix ((s.data.toList.drop k).take (n + 2)) [13, 10], n + 2)) := by unfold Hid chunkS; rw [if_neg h1, if_neg (by rw [hll]; exact h2), if_pos h3]
        have HQ : Hid (Lib.hasSuffix (s.extract k (k + (n + 2))).data.toList [13, 10] = true) := by unfold Hid; rw [hex]; exact h3
        clear hll hex h3
        go_enter Tryz.func86, Tryz.ntmps86
        go_wp2_with fail
        refine HB.out.mono ?_
        rintro e w1 ⟨rfl, hr1, hk1⟩
        go_wp2_with fail
        refine (Tryz.strings_CutSuffix _ _ _ hsx).mono ?_
        rintro e w2 ⟨rfl, rfl⟩
        rw [show (⟨#[13, 10]⟩ : ByteArray).data.toList = [13, 10] from rfl, HQ.out]
        go_wp2
        go_ret2
        exact ⟨ret_strint (by rw [HS.out]) (by rw [HS.out]), by rw [HS.out]; exact hr1, hk1⟩
end Go.Proofs.YtpilfanbfpbldaaGreatDoor

/- A reader's head: the error, the method, the target, the fields and the new place, as the plain mathematics says; no other old block turns. -/
namespace Go.Proofs.YtpilfanbfpbldaaGreatDoor
open Go.RowKit

def flat (fs : List Pm.Fld) : List Value := fs.flatMap fun f => [.string ⟨f.1.toArray⟩, .string ⟨f.2.toArray⟩]
theorem flat_snoc (fs : List Pm.Fld) (f : Pm.Fld) : flat (fs ++ [f]) = flat fs ++ [.string ⟨f.1.toArray⟩, .string ⟨f.2.toArray⟩] := by simp [flat]
def RqB (g : Nat) (m t : List UInt8) (v : Value) (w : World) : Prop := w.heap[g]? = some (.cells #[.string ⟨m.toArray⟩, .string ⟨t.toArray⟩, v, .string ⟨#[]⟩] 84 (0, 0))
theorem Kp.block {b : Nat} {w w' : World} (h : Kp b w w') {j : Nat} {o : Obj} (hj : w.heap[j]? = some o) (hb : j ≠ b) : w'.heap[j]? = some o := by
  have hlt : j < w.heap.size := by
    rcases Nat.lt_or_ge j w.heap.size with h' | h'
    · exact h'
    · simp [Array.getElem?_eq_none h'] at hj
  rw [h.2.2.2.2 j hlt hb]; exact hj
theorem Kp.owns {b : Nat} {w w' : World} (h : Kp b w w') {B : Nat} {e : TypeId} {sz : Nat} {v : Value} {n : Nat} {xs : List Value} (ho : w.ownsRow B e sz v n xs) (hb : b < B) : w'.ownsRow B e sz v n xs := by
  obtain ⟨h1, h2⟩ := ho
  refine ⟨h1, ?_⟩
  rcases h2 with h2 | ⟨g, cap, cur, hv, hB, hg, h3⟩
  · exact .inl h2
  · exact .inr ⟨g, cap, cur, hv, hB, h.block hg (by omega), h3⟩
theorem owns_base {w : World} {B B' : Nat} {e : TypeId} {sz : Nat} {v : Value} {n : Nat} {xs : List Value} (ho : w.ownsRow B e sz v n xs) (hb : B' ≤ B) : w.ownsRow B' e sz v n xs := by
  obtain ⟨h1, h2⟩ := ho
  refine ⟨h1, ?_⟩
  rcases h2 with h2 | ⟨g, cap, cur, hv, hB, hg, h3⟩
  · exact .inl h2
  · exact .inr ⟨g, cap, cur, hv, by omega, hg, h3⟩
theorem Kp.cell {b : Nat} {w w' : World} (h : Kp b w w') {a : Addr} {v : Value} (hc : w.cell? a = some v) (hb : a.block ≠ b) : w'.cell? a = some v := by
  have := h.2.2.2.2 a.block (block_lt_of_cell hc) hb
  rw [World.cell?_of_block (w := w) this]; exact hc
theorem RqB.cells {g : Nat} {m t : List UInt8} {v : Value} {w : World} (h : RqB g m t v w) :
    w.cell? ⟨g, 0, none⟩ = some (.string ⟨m.toArray⟩) ∧ w.cell? ⟨g, 1, none⟩ = some (.string ⟨t.toArray⟩) ∧ w.cell? ⟨g, 2, none⟩ = some v ∧ w.cell? ⟨g, 3, none⟩ = some (.string ⟨#[]⟩) := by
  refine ⟨?_, ?_, ?_, ?_⟩ <;> (rw [Lib.cell_of_heap h]; rfl)
theorem RqB.free {g : Nat} {m t : List UInt8} {v : Value} {w : World} (h : RqB g m t v w) (j : Nat) : w.frozen? ⟨g, j, none⟩ = false := Lib.frozen_of_heap h j
theorem RqB.lt {g : Nat} {m t : List UInt8} {v : Value} {w : World} (h : RqB g m t v w) : g < w.heap.size := block_lt_of_cell h.cells.1
theorem RqB.below {g : Nat} {m t : List UInt8} {v : Value} {w w' : World} (h : RqB g m t v w) (hb : Below w.heap.size w w') : RqB g m t v w' := by
  have := hb.block g h.lt; unfold RqB at *; rw [this]; exact h
theorem RqB.kp {g b : Nat} {m t : List UInt8} {v : Value} {w w' : World} (h : RqB g m t v w) (hk : Kp b w w') (hb : g ≠ b) : RqB g m t v w' := hk.block h hb
theorem headS_succ (f : Nat) (first : Bool) (l : List UInt8) (lim : Nat) (m t : List UInt8) (fs : List Pm.Fld) (u : Nat) :
    Pm.headS (f + 1) first l lim m t fs u = if (Pm.lineS l lim 5).1 ≠ 0 then Pm.headBad (Pm.lineS l lim 5).1
    else if first = true then
      (if (Pm.firstS (Pm.lineS l lim 5).2.1).1 ≠ 0 then Pm.headBad (Pm.firstS (Pm.lineS l lim 5).2.1).1
       else Pm.headS f false (l.drop (Pm.lineS l lim 5).2.2) (lim - (Pm.lineS l lim 5).2.2) (Pm.firstS (Pm.lineS l lim 5).2.1).2.1 (Pm.firstS (Pm.lineS l lim 5).2.1).2.2 fs (u + (Pm.lineS l lim 5).2.2))
    else if (Pm.lineS l lim 5).2.1 = [] then (0, m, t, fs, u + (Pm.lineS l lim 5).2.2)
    else match Pm.fieldS (Pm.lineS l lim 5).2.1 with
      | none => Pm.headBad 3
      | some f' => Pm.headS f false (l.drop (Pm.lineS l lim 5).2.2) (lim - (Pm.lineS l lim 5).2.2) m t (fs ++ [f']) (u + (Pm.lineS l lim 5).2.2) := rfl
theorem RdAt.other {b : Nat} {hd bd : Int} {s : ByteArray} {k : Nat} {w : World} (h : RdAt b hd bd s k w) {g : Nat} (hg : b ≠ g) (o : Nat) (v : Value) : RdAt b hd bd s k (w.setCell ⟨g, o, none⟩ v) := by
  unfold RdAt at *; rw [heap_setCell_other w ⟨g, o, none⟩ b v hg]; exact h
theorem Kp.fresh {b : Nat} {w w1 : World} (h : Kp b w w1) {g : Nat} (hg : w.heap.size ≤ g) (o : Nat) (v : Value) : Kp b w (w1.setCell ⟨g, o, none⟩ v) :=
  ⟨by simpa [World.setCell] using h.1, by simpa [World.setCell] using h.2.1, by simpa [World.setCell] using h.2.2.1, by simpa using h.2.2.2.1, fun k hk hb => by rw [heap_setCell_other w1 ⟨g, o, none⟩ k v (by simp; omega)]; exact h.2.2.2.2 k hk hb⟩
theorem RqB.other {g' : Nat} {m t : List UInt8} {x : Value} {w : World} (h : RqB g' m t x w) {g : Nat} (hg : g' ≠ g) (o : Nat) (v : Value) : RqB g' m t x (w.setCell ⟨g, o, none⟩ v) := by
  unfold RqB at *; rw [heap_setCell_other w ⟨g, o, none⟩ g' v hg]; exact h
theorem RqB.set0 {g : Nat} {m t : List UInt8} {x : Value} {w : World} (h : RqB g m t x w) (m' : List UInt8) : RqB g m' t x (w.setCell ⟨g, 0, none⟩ (.string ⟨m'.toArray⟩)) := by
  unfold RqB at *; rw [heap_setCell_same w g 0 _ _ _ h]; rfl
theorem RqB.set1 {g : Nat} {m t : List UInt8} {x : Value} {w : World} (h : RqB g m t x w) (t' : List UInt8) : RqB g m t' x (w.setCell ⟨g, 1, none⟩ (.string ⟨t'.toArray⟩)) := by
  unfold RqB at *; rw [heap_setCell_same w g 1 _ _ _ h]; rfl
theorem RqB.set2 {g : Nat} {m t : List UInt8} {x : Value} {w : World} (h : RqB g m t x w) (x' : Value) : RqB g m t x' (w.setCell ⟨g, 2, none⟩ x') := by
  unfold RqB at *; rw [heap_setCell_same w g 2 _ _ _ h]; rfl
theorem owns_other {w : World} {B : Nat} {e : TypeId} {sz : Nat} {x : Value} {n : Nat} {xs : List Value} (ho : w.ownsRow B e sz x n xs) {g : Nat} (hg : g < B) (o : Nat) (v : Value) : (w.setCell ⟨g, o, none⟩ v).ownsRow B e sz x n xs := by
  obtain ⟨h1, h2⟩ := ho
  refine ⟨h1, ?_⟩
  rcases h2 with h2 | ⟨r, cap, cur, hv, hB, hr, h3⟩
  · exact .inl h2
  · exact .inr ⟨r, cap, cur, hv, hB, by rw [heap_setCell_other w ⟨g, o, none⟩ r v (by simp; omega)]; exact hr, h3⟩
theorem owns_form {w : World} {B : Nat} {e : TypeId} {sz : Nat} {v : Value} {n : Nat} {xs : List Value} (h : w.ownsRow B e sz v n xs) : ∃ a k c, v = .slice a k c := by
  rcases h.2 with ⟨rfl, _⟩ | ⟨g, cap, cur, rfl, _⟩
  · exact ⟨_, _, _, rfl⟩
  · exact ⟨_, _, _, rfl⟩
theorem field_le {l n v : List UInt8} (h : Pm.fieldS l = some (n, v)) : n.length + v.length ≤ l.length := by
  unfold Pm.fieldS at h
  split at h
  · simp only [Option.some.injEq, Prod.mk.injEq] at h
    have h1 := congrArg List.length (Pm.ahead_behind 58 l)
    rw [List.length_append] at h1
    have h2 := trim_le ((Pm.behind 58 l).drop 1)
    rw [List.length_drop] at h2
    rw [← h.1, ← h.2]; omega
  · cases h
theorem Tryz.info36 : (Tryz.prog.info? 134).map (fun i => (i.zero, i.size, i.bytes)) = some (some (.agg #[.string ⟨#[]⟩, .string ⟨#[]⟩]), 2, 32) := by kernel_rfl
theorem RqB.grown {g : Nat} {m t : List UInt8} {v : Value} {w w' : World} {row : Option Nat} (h : RqB g m t v w) (hg : w.grownBy w' row) (hne : row ≠ some g) : RqB g m t v w' := by
  have := hg.block g h.lt (fun h' => hne h'.symm)
  unfold RqB at *; rw [this]; exact h
theorem own_not {w : World} {B : Nat} {e : TypeId} {sz : Nat} {v : Value} {n : Nat} {xs : List Value} (h : w.ownsRow B e sz v n xs) {g : Nat} (hg : g < B) : v.ownBlock ≠ some g := fun h' => by
  have := own_ge h g h'; omega
theorem own_lt {w : World} {B : Nat} {e : TypeId} {sz : Nat} {v : Value} {n : Nat} {xs : List Value} (h : w.ownsRow B e sz v n xs) {g : Nat} (hg : w.heap.size ≤ g) : v.ownBlock ≠ some g := fun h' => by
  rcases h.2 with ⟨rfl, _⟩ | ⟨r, cap, cur, rfl, _, hr, _⟩
  · cases h'
  · simp [Value.ownBlock] at h'
    subst h'
    simp [Array.getElem?_eq_none hg] at hr
theorem cell_grown {w w' : World} {row : Option Nat} {a : Addr} {v : Value} (hg : w.grownBy w' row) (hc : w.cell? a = some v) (hne : row ≠ some a.block) : w'.cell? a = some v := by
  rw [World.cell?_of_block (w := w) (hg.block a.block (block_lt_of_cell hc) (fun h => hne h.symm))]; exact hc
theorem lt_after {w2 w3 : World} {o : Obj} {n : Nat} (h : n < w2.heap.size) (hb : Below (w2.alloc o).drew.heap.size (w2.alloc o).drew w3) : n < w3.heap.size := by
  have h1 := hb.size
  have h2 : (w2.alloc o).drew.heap.size = w2.heap.size + 1 := by simp
  omega
theorem RdAt.grown {b : Nat} {hd bd : Int} {s : ByteArray} {k : Nat} {w w' : World} {row : Option Nat} (h : RdAt b hd bd s k w) (hg : w.grownBy w' row) (hne : row ≠ some b) : RdAt b hd bd s k w' := by
  have := hg.block b h.lt (fun h' => hne h'.symm)
  unfold RdAt at *; rw [this]; exact h
theorem Kp.grown {b : Nat} {w w1 w' : World} {row : Option Nat} (h : Kp b w w1) (hg : w1.grownBy w' row) (hr : ∀ k, row = some k → w.heap.size ≤ k) : Kp b w w' :=
  ⟨hg.os.trans h.1, hg.tape.trans h.2.1, hg.output.trans h.2.2.1, Nat.le_trans h.2.2.2.1 hg.size, fun k hk hb => (hg.block k (Nat.lt_of_lt_of_le hk h.2.2.2.1) (fun h' => by have := hr k h'.symm; omega)).trans (h.2.2.2.2 k hk hb)⟩
/- what holds at each line of a head -/
structure HInv (w : World) (b hd : Nat) (bd : Int) (s : ByteArray) (k : Nat) (g j u : Nat) (m t : List UInt8) (fs : List Pm.Fld) (v : Value) (wr : World) : Prop where
  u1 : u ≤ hd
  g1 : hd - u + 1 ≤ g
  k1 : k + u ≤ s.size
  j1 : j ≤ u
  n1 : fs.length ≤ u
  eq : Pm.headS (hd + 1) true (s.data.toList.drop k) hd [] [] [] 0 = Pm.headS g (decide (j = 0)) (s.data.toList.drop (k + u)) (hd - u) m t fs u
  rd : RdAt b hd bd s (k + u) wr
  rb : RqB w.heap.size [] [] (.slice none 0 0) wr
  qb : RqB (w.heap.size + 1) m t v wr
  ow : wr.ownsRow (w.heap.size + 2) 134 2 v fs.length (flat fs)
  sz : w.heap.size + 2 ≤ wr.heap.size
  kp : Kp b w wr

set_option maxRecDepth 100000 in
set_option maxHeartbeats 2000000 in
theorem head_any (b : Nat) (hd : Nat) (bd : Int) (s : ByteArray) (k : Nat) (mx : Int) (w : World) (hr : RdAt b hd bd s k w) (hs : s.size ≤ 1152921504606846976) (hk : k ≤ s.size) (hh : hd ≤ 500) (hm : w.cell? ⟨1, 0, none⟩ = some (.int .i64 mx)) (hb : b ≠ 1) :
    Calls Tryz.prog 49 #[.pointer (some ⟨b, 0, none⟩)] w fun r w' =>
      (∃ v, r = .returned (.tuple #[.agg #[.string ⟨(Pm.headS (hd + 1) true (s.data.toList.drop k) hd [] [] [] 0).2.1.toArray⟩, .string ⟨(Pm.headS (hd + 1) true (s.data.toList.drop k) hd [] [] [] 0).2.2.1.toArray⟩, v, .string ⟨#[]⟩], .int .i64 (Pm.headS (hd + 1) true (s.data.toList.drop k) hd [] [] [] 0).1]) ∧ w'.ownsRow w.heap.size 134 2 v (Pm.headS (hd + 1) true (s.data.toList.drop k) hd [] [] [] 0).2.2.2.1.length (flat (Pm.headS (hd + 1) true (s.data.toList.drop k) hd [] [] [] 0).2.2.2.1)) ∧
      (∃ k', RdAt b hd bd s k' w' ∧ ((Pm.headS (hd + 1) true (s.data.toList.drop k) hd [] [] [] 0).1 = 0 → k' = k + (Pm.headS (hd + 1) true (s.data.toList.drop k) hd [] [] [] 0).2.2.2.2)) ∧ Kp b w w' := by
  obtain ⟨c0, c1, c2, c3⟩ := hr.cell
  obtain ⟨i0, hi, hz0, hz1, hz2⟩ := info_parts Tryz.info36
  have hbl := hr.lt
  have HR : Hid (RdAt b hd bd s k w) := hr
  have HM : Hid (w.cell? ⟨1, 0, none⟩ = some (.int .i64 mx)) := hm
  clear hr hm
  generalize hH : Pm.headS (hd + 1) true (s.data.toList.drop k) hd [] [] [] 0 = H
  have HH : Hid (Pm.headS (hd + 1) true (s.data.toList.drop k) hd [] [] [] 0 = H) := hH
  clear hH
  go_enter Tryz.func49, Tryz.ntmps49
  go_wp2
  go_step3
  go_wp2
  go_quiet (fail)
  go_wp2
  go_step3
  go_wp2
  go_loopg [6, 7, 8, 9, 10] (hd + 1) (fun g j _ _ _ _ wr => ∃ (jn u : Nat) (m t : List UInt8) (fs : List Pm.Fld) (v : Value), j = .int .i64 jn ∧ HInv w b hd bd s k g jn u m t fs v wr)
  case atStart =>
    refine ⟨0, 0, [], [], [], .slice none 0 0, rfl, ?_⟩
    have hB := ((below_drewN ((Below.refl _ w).alloc (Nat.le_refl _) (.cells #[.string ⟨#[]⟩, .string ⟨#[]⟩, .slice none 0 0, .string ⟨#[]⟩] 84)) nq).alloc (by simp) (.cells #[.string ⟨#[]⟩, .string ⟨#[]⟩, .slice none 0 0, .string ⟨#[]⟩] 84))
    refine { u1 := by omega, g1 := by omega, k1 := by omega, j1 := by omega, n1 := by simp, eq := rfl, rd := HR.out.below hB, rb := ?_, qb := ?_, ow := World.ownsRow_nil _ _ _ _, sz := by simp, kp := Kp.of hB }
    · unfold RqB
      rw [Below.heap_alloc _ _ _ (by simp)]
      exact heap_alloc_new w _
    · unfold RqB
      have := heap_alloc_new ((w.alloc (.cells #[.string ⟨#[]⟩, .string ⟨#[]⟩, .slice none 0 0, .string ⟨#[]⟩] 84)).drewN nq) (.cells #[.string ⟨#[]⟩, .string ⟨#[]⟩, .slice none 0 0, .string ⟨#[]⟩] 84)
      simpa using this
  case round =>
    obtain ⟨jn, u, m, t, fs, v, rfl, I⟩ := hrel
    obtain ⟨av, nv, cv, rfl⟩ := owns_form I.ow
    cases gk with
    | zero => exact absurd I.g1 (by omega)
    | succ f =>
      have hl := line_any b hd bd s (k + u) (k + hd) 5 wr I.rd (by unfold maxLen; omega) I.k1 (by have := I.u1; omega) (by omega)
      rw [show k + hd - (k + u) = hd - u from by omega, show ((k + hd : Nat) : Int) = (k : Int) + (hd : Int) from by omega] at hl
      have HL := hid hl
      clear hl
      have HE : Hid _ := HH.out.symm.trans (I.eq.trans (headS_succ f _ _ _ _ _ _ _))
      go_wp2_with fail
      refine HL.out.mono ?_
      rintro e w1 ⟨rfl, hr1, hk1⟩
      have rb1 := I.rb.kp hk1 (by omega)
      have qb1 := I.qb.kp hk1 (by omega)
      have ow1 := hk1.owns I.ow (by omega)
      have kp1 := I.kp.trans hk1
      have hls := fun h0 => Pm.lineS_ok (l := s.data.toList.drop (k + u)) (lim := hd - u) (long := 5) (by decide) h0
      have sz1 : w.heap.size + 2 ≤ w1.heap.size := Nat.le_trans I.sz hk1.2.2.2.1
      obtain ⟨x0, x1, x2, x3⟩ := rb1.cells
      have y0 := rb1.free 0
      have y1 := rb1.free 1
      have y2 := rb1.free 2
      have y3 := rb1.free 3
      have i1 := I.u1
      have i2 := I.g1
      have i3 := I.k1
      have i4 := I.j1
      have i5 := I.n1
      clear I HL c0 c1 c2 c3 hk1
      generalize Pm.lineS (s.data.toList.drop (k + u)) (hd - u) 5 = q at *
      by_cases h0 : q.1 = 0
      · obtain ⟨l1, l2, l3, l4⟩ := hls h0
        rw [if_neg (by simp [h0])] at HE
        have hqs : (⟨q.2.1.toArray⟩ : ByteArray).size ≤ 500 := by simp [ByteArray.size]; omega
        rw [List.length_drop, show s.data.toList.length = s.size from by simp] at l3
        clear hls
        by_cases hj : jn = 0
        · subst hj
          rw [if_pos (by simp)] at HE
          have HF := hid (firstLine_any ⟨q.2.1.toArray⟩ mx w1 (by omega) (kp1.cell HM.out (by show 1 ≠ b; omega)))
          have HD : Hid (s.data.toList.drop (k + u + q.2.2) = (s.data.toList.drop (k + u)).drop q.2.2) := by unfold Hid; rw [List.drop_drop]
          clear x0 x1 x2 x3 y0 y1 y2 y3
          go_wp2_with fail
          refine HF.out.mono ?_
          rintro e w2 ⟨rfl, hb2⟩
          clear HF
          have rb2 := rb1.below hb2
          have qb2 := qb1.below hb2
          have ow2 := owns_below ow1 hb2
          have kp2 := kp1.trans (Kp.of hb2)
          have rd2 := hr1.below hb2
          have sz2 : w.heap.size + 2 ≤ w2.heap.size := Nat.le_trans sz1 hb2.size
          obtain ⟨x0, x1, x2, x3⟩ := rb2.cells
          have y0 := rb2.free 0
          have y1 := rb2.free 1
          have y2 := rb2.free 2
          have y3 := rb2.free 3
          obtain ⟨z0, z1, z2, z3⟩ := qb2.cells
          have v0 := qb2.free 0
          have v1 := qb2.free 1
          clear hb2 rb1 qb1 ow1 kp1 hr1 sz1
          generalize Pm.firstS q.2.1 = p at *
          have hbr : b ≠ w.heap.size := by omega
          have hbq : b ≠ w.heap.size + 1 := by omega
          by_cases hp : p.1 = 0
          · rw [if_neg (by simp [hp])] at HE
            go_wp2
            go_roundg f
            case measure => omega
            case rel =>
              refine ⟨1, u + q.2.2, p.2.1, p.2.2, fs, .slice av nv cv, rfl, ?_⟩
              refine { u1 := by omega, g1 := by omega, k1 := by omega, j1 := by omega, n1 := by omega, eq := ?_, rd := ?_, rb := (rb2.other (by omega) 0 _).other (by omega) 1 _, qb := (qb2.set0 _).set1 _, ow := owns_other (owns_other ow2 (by omega) 0 _) (by omega) 1 _, sz := by simpa using sz2, kp := (kp2.fresh (by omega) 0 _).fresh (by omega) 1 _ }
              · rw [HH.out, HE.out, show k + (u + q.2.2) = k + u + q.2.2 from by omega, HD.out, show hd - (u + q.2.2) = hd - u - q.2.2 from by omega]; rfl
              · rw [show k + (u + q.2.2) = k + u + q.2.2 from by omega]; exact (rd2.other hbq 0 _).other hbq 1 _
          · rw [if_pos hp] at HE
            have hne : (p.1 != 0) = true := by rw [bne_iff_ne]; exact hp
            clear hp
            go_wp2
            try rw [Exit.noGoto_ret]
            refine bodyPost_ret (v := .tuple #[.agg #[.string ⟨#[]⟩, .string ⟨#[]⟩, .slice none 0 0, .string ⟨#[]⟩], .int .i64 p.1]) (by simp [results, Tryz.results49, go_sem, x0, x1, x2, x3]) rfl ?_
            rw [HE.out]
            exact ⟨⟨_, rfl, World.ownsRow_nil _ _ _ _⟩, ⟨_, (((((rd2.other hbq 0 _).other hbq 1 _).other hbr 0 _).other hbr 1 _).other hbr 2 _).other hbr 3 _, fun h => absurd h (by simpa [Pm.headBad] using hne)⟩, (((((kp2.fresh (by omega) 0 _).fresh (by omega) 1 _).fresh (Nat.le_refl _) 0 _).fresh (Nat.le_refl _) 1 _).fresh (Nat.le_refl _) 2 _).fresh (Nat.le_refl _) 3 _⟩
        · rw [if_neg (by simp [hj])] at HE
          have hj2 : ((jn : Int) == 0) = false := by rw [beq_eq_false_iff_ne]; omega
          have hbr : b ≠ w.heap.size := by omega
          have hbq : b ≠ w.heap.size + 1 := by omega
          by_cases hem : q.2.1 = []
          · rw [if_pos hem] at HE
            obtain ⟨z0, z1, z2, z3⟩ := qb1.cells
            rw [hem]
            go_wp2
            try rw [Exit.noGoto_ret]
            refine bodyPost_ret (v := .tuple #[.agg #[.string ⟨m.toArray⟩, .string ⟨t.toArray⟩, .slice av nv cv, .string ⟨#[]⟩], .int .i64 0]) (by simp [results, Tryz.results49, go_sem, x0, x1, x2, x3]) rfl ?_
            rw [HE.out]
            refine ⟨⟨_, rfl, owns_base (owns_other (owns_other (owns_other (owns_other ow1 (by omega) 0 _) (by omega) 1 _) (by omega) 2 _) (by omega) 3 _) (by omega)⟩, ⟨_, (((hr1.other hbr 0 _).other hbr 1 _).other hbr 2 _).other hbr 3 _, fun _ => by simp only; omega⟩, (((kp1.fresh (Nat.le_refl _) 0 _).fresh (Nat.le_refl _) 1 _).fresh (Nat.le_refl _) 2 _).fresh (Nat.le_refl _) 3 _⟩
          · rw [if_neg hem] at HE
            have hem2 : q.2.1.isEmpty = false := by rw [List.isEmpty_eq_false_iff]; exact hem
            have HF := hid (wReadField_any ⟨q.2.1.toArray⟩ w1 (by unfold maxLen; omega))
            rw [show (⟨q.2.1.toArray⟩ : ByteArray).data.toList = q.2.1 from rfl] at HF
            have HD : Hid (s.data.toList.drop (k + u + q.2.2) = (s.data.toList.drop (k + u)).drop q.2.2) := by unfold Hid; rw [List.drop_drop]
            have HFL : Hid (∀ n v, Pm.fieldS q.2.1 = some (n, v) → n.length ≤ 500 ∧ v.length ≤ 500) := fun n v h => by
              have := field_le h; omega
            clear x0 x1 x2 x3 y0 y1 y2 y3 hem hj
            cases hfd : Pm.fieldS q.2.1 with
            | none =>
              rw [hfd] at HE HF
              clear HFL
              go_wp2_with fail
              refine HF.out.mono ?_
              rintro e w2 ⟨rfl, hb2⟩
              clear HF
              have rb2 := rb1.below hb2
              have kp2 := kp1.trans (Kp.of hb2)
              have rd2 := hr1.below hb2
              obtain ⟨x0, x1, x2, x3⟩ := rb2.cells
              have y0 := rb2.free 0
              have y1 := rb2.free 1
              have y2 := rb2.free 2
              have y3 := rb2.free 3
              have sz2 : w.heap.size + 2 ≤ w2.heap.size := Nat.le_trans sz1 hb2.size
              have szA : w.heap.size < w2.heap.size := by omega
              unfold fldV
              clear hb2 rb1 qb1 ow1 kp1 hr1 hfd
              go_wp2
              try rw [Exit.noGoto_ret]
              refine bodyPost_ret (v := .tuple #[.agg #[.string ⟨#[]⟩, .string ⟨#[]⟩, .slice none 0 0, .string ⟨#[]⟩], .int .i64 3]) (by simp [results, Tryz.results49, go_sem, x0, x1, x2, x3, szA]) rfl ?_
              rw [HE.out]
              refine ⟨⟨_, rfl, World.ownsRow_nil _ _ _ _⟩, ⟨_, ((((rd2.other hbr 0 _).other hbr 1 _).other hbr 2 _).other hbr 3 _).below ((Below.refl _ _).alloc (Nat.le_refl _) _), fun h => absurd h (by decide)⟩, ((((kp2.fresh (Nat.le_refl _) 0 _).fresh (Nat.le_refl _) 1 _).fresh (Nat.le_refl _) 2 _).fresh (Nat.le_refl _) 3 _).trans (Kp.of ((Below.refl _ _).alloc (Nat.le_refl _) _))⟩
            | some fl =>
              obtain ⟨fn, fv⟩ := fl
              rw [hfd] at HE HF
              obtain ⟨e1, e2⟩ := HFL.out fn fv hfd
              have hn1 : (⟨fn.toArray⟩ : ByteArray).size ≤ 281474976710656 := by simp [ByteArray.size]; omega
              have hv1 : (⟨fv.toArray⟩ : ByteArray).size ≤ 281474976710656 := by simp [ByteArray.size]; omega
              clear HFL e1 e2
              go_wp2_with fail
              refine HF.out.mono ?_
              rintro e w2 ⟨rfl, hb2⟩
              clear HF
              have rb2 := rb1.below hb2
              have qb2 := qb1.below hb2
              have ow2 := owns_below ow1 hb2
              have kp2 := kp1.trans (Kp.of hb2)
              have rd2 := hr1.below hb2
              have sz2 : w.heap.size + 2 ≤ w2.heap.size := Nat.le_trans sz1 hb2.size
              have szA : w.heap.size < w2.heap.size := by omega
              have szB : w.heap.size + 1 < w2.heap.size := by omega
              obtain ⟨z0, z1, z2, z3⟩ := qb2.cells
              have v2 := qb2.free 2
              unfold fldV
              clear hb2 rb1 qb1 ow1 kp1 hr1 hfd sz1
              go_wp2
              go_region_law
                (first | (refine step_append_lies _ (by rfl) _ _ _ (by rfl) (w.heap.size + 2) 134 i0 _ 2 32 Tryz.underlying82 hi hz0 hz1 hz2 rfl (by omega) (.slice av nv cv) fs.length (flat fs) (by rfl) ((owns_below ((ow2.alloc _).drew) hb3).alloc _) ⟨w3.heap.size, 0, none⟩ 1 1 [.string ⟨fn.toArray⟩, .string ⟨fv.toArray⟩] (by rfl) (by rfl) (World.news_of_block (cs := #[.string ⟨fn.toArray⟩, .string ⟨fv.toArray⟩]) (t := 134) (fr := (0, 0)) (heap_alloc_new w3 _)) (by simp [Value.oneCell']) (by omega) (by unfold maxLen; omega) (by omega) (Nat.le_trans (show w.heap.size + 2 ≤ w3.heap.size from s3) (by simp)) (w3.heap.size + 1) (by simp) ?_; intro gg cap w4 hown4 hgrow hat hlt; have qb4 := ((((qb2.below ((Below.refl _ _).alloc (Nat.le_refl _) _)).below (Below.refl _ _).drew).below hb3).below ((Below.refl _ _).alloc (Nat.le_refl _) _)).grown hgrow (own_not ow2 (by omega)); obtain ⟨_, _, q42, _⟩ := qb4.cells; have q4f := qb4.free 2; have g0 := cell_grown hgrow (cell_old k0) (own_lt ow2 (Nat.le_refl _)); have g1 := cell_grown hgrow (cell_old k1) (own_lt ow2 (Nat.le_refl _))) | (go_simp; go_at_call 82; refine (own_any _ _ _ hn1 hv1).mono ?_; rintro e w3 ⟨rfl, hb3⟩; have s3 := lt_after szB hb3; have k0 := cell_later hb3 (a := ⟨w2.heap.size, 0, none⟩) (v := .string ⟨fn.toArray⟩) (by simp); have k1 := cell_later hb3 (a := ⟨w2.heap.size, 1, none⟩) (v := .string ⟨fv.toArray⟩) (by simp); have k2 := (((qb2.below ((Below.refl _ _).alloc (Nat.le_refl _) _)).below (Below.refl _ _).drew).below hb3).cells.2.2.1))
              all_goals
                go_wp2
                go_roundg f
                case measure => omega
                case rel =>
                  have hA := (Below.refl w2.heap.size w2).alloc (Nat.le_refl _) (.cells #[.string ⟨fn.toArray⟩, .string ⟨fv.toArray⟩] 134)
                  have hC := bel_of hA.drew hb3
                  have hE5 := bel_of hC ((Below.refl w3.heap.size w3).alloc (Nat.le_refl _) (.cells #[.string ⟨fn.toArray⟩, .string ⟨fv.toArray⟩] 134))
                  refine ⟨jn + 1, u + q.2.2, m, t, fs ++ [(fn, fv)], .slice (some ⟨gg, 0, none⟩) (fs.length + 1) cap, by go_num, ?_⟩
                  refine { u1 := by omega, g1 := by omega, k1 := by omega, j1 := by omega, n1 := by simp; omega, eq := ?_, rd := ?_, rb := ?_, qb := qb4.set2 _, ow := ?_, sz := ?_, kp := ?_ }
                  · rw [HH.out, HE.out, show k + (u + q.2.2) = k + u + q.2.2 from by omega, HD.out, show hd - (u + q.2.2) = hd - u - q.2.2 from by omega]; rfl
                  · rw [show k + (u + q.2.2) = k + u + q.2.2 from by omega]
                    exact ((rd2.below hE5).grown hgrow (own_not ow2 (by omega))).other hbq 2 _
                  · exact ((rb2.below hE5).grown hgrow (own_not ow2 (by omega))).other (by omega) 2 _
                  · rw [flat_snoc, List.length_append]
                    exact owns_other hown4 (by omega) 2 _
                  · have h1 := hgrow.size
                    have h2 : (w3.alloc (.cells #[.string ⟨fn.toArray⟩, .string ⟨fv.toArray⟩] 134)).heap.size = w3.heap.size + 1 := by simp
                    have h3 : (w4.setCell ⟨w.heap.size + 1, 2, none⟩ (.slice (some ⟨gg, 0, none⟩) (fs.length + 1) cap)).heap.size = w4.heap.size := by simp
                    omega
                  · exact ((kp2.trans (Kp.of hE5)).grown hgrow (fun r hr => by have := own_ge ow2 r hr; omega)).fresh (by omega) 2 _
      · rw [if_pos h0] at HE
        have hne : (q.1 != 0) = true := by rw [bne_iff_ne]; exact h0
        clear h0 hls
        go_wp2
        try rw [Exit.noGoto_ret]
        refine bodyPost_ret (v := .tuple #[.agg #[.string ⟨#[]⟩, .string ⟨#[]⟩, .slice none 0 0, .string ⟨#[]⟩], .int .i64 q.1]) (by simp [results, Tryz.results49, go_sem, x0, x1, x2, x3]) rfl ?_
        rw [HE.out]
        have hbr : b ≠ w.heap.size := by omega
        exact ⟨⟨_, rfl, World.ownsRow_nil _ _ _ _⟩, ⟨_, (((hr1.other hbr 0 _).other hbr 1 _).other hbr 2 _).other hbr 3 _, fun h => absurd h (by simpa [Pm.headBad] using hne)⟩, (((kp1.fresh (Nat.le_refl _) 0 _).fresh (Nat.le_refl _) 1 _).fresh (Nat.le_refl _) 2 _).fresh (Nat.le_refl _) 3 _⟩
end Go.Proofs.YtpilfanbfpbldaaGreatDoor
