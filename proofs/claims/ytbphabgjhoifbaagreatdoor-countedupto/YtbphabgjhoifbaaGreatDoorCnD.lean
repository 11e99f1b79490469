/- The statement's own answerAt: where an answer ends. -/
import Derived.Test.YtbphabgjhoifbaaGreatDoorCnC
import Derived.Test.YtbphabgjhoifbaaGreatDoorCnE
namespace Go.Proofs.YtbphabgjhoifbaaGreatDoor
open Go.RowKit

theorem HdOk.line {p : Hf} (h : HdOk p) : (13 : UInt8) ∉ p.1 ++ 58 :: 32 :: p.2 := fun q => by
  rcases List.mem_append.1 q with q | q
  · exact h.r q
  rcases List.mem_cons.1 q with q | q
  · exact absurd q (by decide)
  rcases List.mem_cons.1 q with q | q
  · exact absurd q (by decide)
  · exact h.v q
structure LfAt (l : ByteArray) (p : Hf) : Prop where
  z : l.size = p.1.length + (p.2.length + 2)
  no : ∀ m (h : m < l.size), m < p.1.length → (l[m].toNat : Int) ≠ 58
  co : ∀ m (h : m < l.size), m = p.1.length → (l[m].toNat : Int) = 58
  sp : ∀ m (h : m < l.size), m = p.1.length + 1 → (l[m].toNat : Int) = 32
  e1 : l.extract 0 p.1.length = ⟨p.1.toArray⟩
  e2 : l.extract (p.1.length + 2) l.size = ⟨p.2.toArray⟩
theorem lfAt_of {p : Hf} (h : HdOk p) : LfAt ⟨(p.1 ++ 58 :: 32 :: p.2).toArray⟩ p := by
  have hz : (ByteArray.mk (p.1 ++ 58 :: 32 :: p.2).toArray).size = p.1.length + (p.2.length + 2) := by
    show (p.1 ++ 58 :: 32 :: p.2).toArray.size = _; simp
  have hd : (ByteArray.mk (p.1 ++ 58 :: 32 :: p.2).toArray).data.toList = p.1 ++ 58 :: 32 :: p.2 := by simp
  refine ⟨hz, fun m hm h1 q => ?_, fun m hm h1 => ?_, fun m hm h1 => ?_, ?_, ?_⟩
  · have e := ba_get _ m hm
    rw [hd, List.getElem?_append_left h1] at e
    have q2 : (ByteArray.mk (p.1 ++ 58 :: 32 :: p.2).toArray)[m] = 58 := UInt8.toNat_inj.1 (by show _ = 58; omega)
    rw [q2] at e
    exact h.c (List.mem_of_getElem? e)
  · have e := ba_get _ m hm
    rw [hd, List.getElem?_append_right (by omega), show m - p.1.length = 0 by omega] at e
    simp only [List.getElem?_cons_zero, Option.some.injEq] at e
    rw [← e]; rfl
  · have e := ba_get _ m hm
    rw [hd, List.getElem?_append_right (by omega), show m - p.1.length = 1 by omega] at e
    simp only [List.getElem?_cons_succ, List.getElem?_cons_zero, Option.some.injEq] at e
    rw [← e]; rfl
  · apply ByteArray.ext
    rw [ByteArray.data_extract]
    apply Array.ext'
    rw [Array.toList_extract]
    simp
  · apply ByteArray.ext
    rw [ByteArray.data_extract]
    apply Array.ext'
    rw [Array.toList_extract, hd, hz]
    simp
    rw [show p.1.length + (p.2.length + 2) - (p.1.length + 2) = p.2.length by omega, List.take_length]
structure PfAt (l : ByteArray) (D : List UInt8) : Prop where
  z : 13 ≤ l.size
  e1 : l.extract 0 9 = ⟨#[72, 84, 84, 80, 47, 49, 46, 49, 32]⟩
  sp : ∀ h : 12 < l.size, (l[12].toNat : Int) = 32
  e2 : l.extract 9 12 = ⟨D.toArray⟩
  d : Pm.digsB 10 D = true
  n : D.length = 3
  v : 200 ≤ Pm.numv 10 D
set_option maxRecDepth 100000 in
set_option maxHeartbeats 3000000 in
theorem answerAt_any (s m : ByteArray) (A P D X : List UInt8) (hs : List Hf) (N : Nat) (w : World)
    (h : s.data.toList = A ++ (P ++ 13 :: 10 :: (hdNv hs ++ 13 :: 10 :: X))) (hP : (13 : UInt8) ∉ P) (hp : PfAt ⟨P.toArray⟩ D) (ok : ∀ p ∈ hs, HdOk p) (run : runH (-1) hs = some (N : Int)) (hN : m.data.toList = cHead ∨ N ≤ X.length) (hz : s.size ≤ 140737488355328) :
    Calls Tryz.prog 15 #[.string s, .int .i64 A.length, .string m] w fun e w' => e = .returned (.int .i64 (if m.data.toList = cHead then (s.size : Int) - X.length else (s.size : Int) - X.length + N)) ∧ w' = w := by
  have HL := hid (fun W => lineAt_any s A.length P W (lnAt_of h hP) (by omega))
  have HP := hid hp
  have hpz := hp.z
  have HD := hid (fun W => digits_any ⟨D.toArray⟩ W (by show 1 ≤ D.toArray.size; simp; have := hp.n; omega) (by show D.toArray.size ≤ 9; simp; have := hp.n; omega) (by simpa using hp.d))
  have hDl : (ByteArray.mk D.toArray).data.toList = D := by simp
  rw [hDl] at HD
  have hv := hp.v
  have HH := hid h
  have HOK := hid ok
  have HRUN := hid run
  have hl := congrArg List.length h
  simp only [List.length_append, List.length_cons] at hl
  have hsl : s.data.toList.length = s.size := by simp
  rw [hsl] at hl
  clear h hp ok run
  generalize hPL : (ByteArray.mk P.toArray) = pl at *
  have hpl : pl.size = P.length := by rw [← hPL]; show P.toArray.size = _; simp
  have e1 := HP.out.e1
  have e2 := HP.out.e2
  have e3 : ((pl[12].toNat : Int) != 32) = false := by rw [HP.out.sp]; rfl
  have v2 : ¬ Pm.numv 10 D < 200 := by omega
  generalize Pm.numv 10 D = dv at *
  generalize hRES : (if m.data.toList = cHead then (s.size : Int) - X.length else (s.size : Int) - X.length + N) = RES
  have HRES := hid hRES
  clear hRES hDl hPL
  go_enter Tryz.func15, Tryz.ntmps15
  go_wp2_with fail
  refine (HL.out _).mono ?_
  rintro e w' ⟨rfl, rfl⟩
  have hat : ¬ (((A.length + P.length + 2 : Nat) : Int) < 0) := by omega
  have hat2 : ¬ ((A.length : Int) + P.length + 2 < 0) := by omega
  have hp13 : ¬ ((pl.size : Int) < 13) := by omega
  go_wp2_with (go_at_call 31; refine (HD.out _).mono ?_; rintro e w' ⟨rfl, rfl⟩)
  go_loop [7, 8, 9, 10] (fun l at_ len i => ∃ (B : List UInt8) (Q : List Hf) (n : Int), at_ = .int .i64 B.length ∧ len = .int .i64 n ∧ Hid (s.data.toList = B ++ (hdNv Q ++ 13 :: 10 :: X)) ∧ Hid (∀ p ∈ Q, HdOk p) ∧ Hid (runH n Q = some (N : Int)) ∧ -1 ≤ n ∧ n ≤ 68719476736) (fun l at_ len i => s.size - (intOf at_).toNat)
  case atStart => exact ⟨A ++ P ++ [13, 10], hs, -1, by simp; omega, rfl, by unfold Hid; rw [HH.out]; simp, HOK.out, HRUN.out, by omega, by omega⟩
  case round =>
    obtain ⟨B, Q, n, rfl, rfl, HB, HQ, HR, hn0, hn1⟩ := hrel
    have hbl := congrArg List.length HB.out
    simp only [List.length_append, List.length_cons] at hbl
    rw [hsl] at hbl
    cases Q with
    | nil =>
      have HL2 := hid (fun W => lineAt_any s B.length [] W (lnAt_of (X := X) (by have := HB.out; simpa [hdNv] using this) (by simp)) (by omega))
      have hnN : n = N := by have := HR.out; simpa [runH] using this
      subst hnN
      have hb3 : s.size = B.length + (X.length + 2) := by simpa [hdNv] using hbl
      have q0 : ¬ ((N : Int) < 0) := by omega
      have q1 : ¬ ((s.size : Int) < (B.length : Int) + 2) := by omega
      have hml : m.toList = m.data.toList := ByteArray.toList_eq m
      by_cases hh : m.data.toList = cHead
      · have q2 : (!m.toList == [72, 69, 65, 68]) = false := by rw [hml, hh]; rfl
        have hres : (B.length : Int) + 2 = RES := by
          have := HRES.out
          rw [if_pos hh] at this
          omega
        have HRS := hid hres
        clear hl hbl hb3 hres hml hh hN HRES
        go_wp2_with fail
        refine (HL2.out _).mono ?_
        rintro e w' ⟨rfl, rfl⟩
        go_wp2_with fail
        go_ret
        exact ⟨ret_i HRS.out, rfl⟩
      · have q2 : (!m.toList == [72, 69, 65, 68]) = true := by
          rw [hml]
          cases q : (m.data.toList == [72, 69, 65, 68])
          · rfl
          · exact absurd (beq_iff_eq.1 q) hh
        have hNX : N ≤ X.length := by
          rcases hN with q | q
          · exact absurd q hh
          · exact q
        have q3 : ¬ ((s.size : Int) < (B.length : Int) + 2 + N) := by omega
        have hres : (B.length : Int) + 2 + N = RES := by
          have := HRES.out
          rw [if_neg hh] at this
          omega
        have HRS := hid hres
        clear hl hbl hb3 hres hml hh hN HRES
        go_wp2_with fail
        refine (HL2.out _).mono ?_
        rintro e w' ⟨rfl, rfl⟩
        go_wp2_with fail
        go_ret
        exact ⟨ret_i HRS.out, rfl⟩
    | cons p r =>
      have hpk := HQ.out p (by simp)
      have hsp : s.data.toList = B ++ ((p.1 ++ 58 :: 32 :: p.2) ++ 13 :: 10 :: (hdNv r ++ 13 :: 10 :: X)) := by
        rw [HB.out, hdNv_cons]; simp [fldL]
      have HL2 := hid (fun W => lineAt_any s B.length (p.1 ++ 58 :: 32 :: p.2) W (lnAt_of hsp hpk.line) (by omega))
      have HF := hid (lfAt_of hpk)
      have HNX : Hid (s.data.toList = (B ++ (p.1 ++ 58 :: 32 :: p.2) ++ [13, 10]) ++ (hdNv r ++ 13 :: 10 :: X)) := by unfold Hid; rw [hsp]; simp
      have hpn : 1 ≤ p.1.length := by
        rcases Nat.eq_zero_or_pos p.1.length with q | q
        · exact absurd (List.eq_nil_of_length_eq_zero q) hpk.n
        · exact q
      have hll : (p.1 ++ 58 :: 32 :: p.2).length = p.1.length + (p.2.length + 2) := by simp
      have hsz := congrArg List.length hsp
      rw [hsl, List.length_append, List.length_append] at hsz
      generalize p.1 ++ 58 :: 32 :: p.2 = L at *
      have HRL : Hid (∀ q ∈ r, HdOk q) := fun q hq => HQ.out q (List.mem_cons_of_mem _ hq)
      have hlz : (ByteArray.mk L.toArray).size = L.length := by show L.toArray.size = _; simp
      generalize hlb : (ByteArray.mk L.toArray) = lb at *
      have hle : lb.toList.isEmpty = false := by
        have h2 : lb.data.toList.length = lb.size := by simp
        rw [ByteArray.toList_eq]
        cases hq : lb.data.toList with
        | nil => rw [hq] at h2; simp at h2; omega
        | cons a r => rfl
      have q0 : ¬ ((B.length : Int) + L.length + 2 < 0) := by omega
      have hlb8 : lb.size ≤ 140737488355328 := by simp at hsz; omega
      have hlz2 : lb.size = p.1.length + (p.2.length + 2) := by omega
      have hbL : B.length + L.length + 2 ≤ s.size := by simp at hsz; omega
      have hB8 : s.size - (B.length + L.length + 2) < s.size - B.length := by omega
      have HLL := hid hll
      have HLZ := hid hlz2
      clear hl hbl hsz hlb hlz hll hlz2 hsp hN
      go_wp2_with fail
      refine (HL2.out _).mono ?_
      rintro e w' ⟨rfl, rfl⟩
      go_wp2_with fail
      go_loop [10] (fun i => ∃ k : Nat, k ≤ p.1.length ∧ i = .int .i64 k) (fun i => lb.size - (intOf i).toNat)
      case atStart => exact ⟨0, Nat.zero_le _, rfl⟩
      case round =>
        obtain ⟨k, hk, rfl⟩ := hrel
        have hz3 := HLZ.out
        have k1 : k < lb.size := by omega
        have k2 : (k : Int) < (lb.size : Int) := by omega
        by_cases hlt : k < p.1.length
        · have k3 : ((lb[k].toNat : Int) != 58) = true := by rw [bne_iff_ne]; exact HF.out.no k k1 hlt
          have k9 : (k : Int) + 1 ≤ 9223372036854775807 := by omega
          clear hz3
          go_wp2
          go_round
          case rel => exact ⟨k + 1, by omega, by go_num⟩
          case measure => simp [intOf]; omega
        · have he : k = p.1.length := by omega
          have k3 : ((lb[k].toNat : Int) != 58) = false := by rw [HF.out.co k k1 he]; rfl
          have k4 : k + 1 < lb.size := by omega
          have k4' : (k : Int) + 1 < (lb.size : Int) := by omega
          have k5 : ((lb[k + 1].toNat : Int) != 32) = false := by rw [HF.out.sp (k + 1) k4 (by omega)]; rfl
          have k6 : ¬ ((k : Int) < 1) := by omega
          have x1 := HF.out.e1
          have x2 := HF.out.e2
          rw [← he] at x1 x2
          have hpl2 : (lb.extract 0 k).toList = p.1 := by rw [x1, ByteArray.toList_eq]
          have hrun := HR.out
          rw [runH] at hrun
          have k8 : (k : Int) + 2 ≤ (lb.size : Int) := by omega
          clear x1
          by_cases hc : p.1 = cLen
          · rw [if_pos hc] at hrun
            have hnn : ¬ (0 : Int) ≤ n := fun q => by rw [if_pos q] at hrun; simp at hrun
            rw [if_neg hnn] at hrun
            have y1 : ((lb.extract 0 k).toList == [67, 111, 110, 116, 101, 110, 116, 45, 76, 101, 110, 103, 116, 104]) = true := by rw [hpl2, hc]; rfl
            obtain ⟨g1, g2, g3⟩ := hpk.d hc
            have HDG := hid (fun W => digits_any ⟨p.2.toArray⟩ W (by show 1 ≤ p.2.toArray.size; simpa using g2) (by show p.2.toArray.size ≤ 9; simpa using g3) (by simpa using g1))
            have hbd := Pm.numv_bd 10 p.2 (by omega) (by omega) g1 g3
            have hp2 : (ByteArray.mk p.2.toArray).data.toList = p.2 := by simp
            rw [hp2, ← x2] at HDG
            have HRUN2 := hid hrun
            have HEK := hid he
            generalize Pm.numv 10 p.2 = nv at *
            clear hrun hz3 hpl2 he hc hlt hp2 x2 HF HLZ hpk g1
            go_wp2_with fail
            refine (HDG.out _).mono ?_
            rintro e w' ⟨rfl, rfl⟩
            go_wp2_with fail
            go_round
            case rel => exact ⟨B ++ L ++ [13, 10], r, nv, by simp; omega, rfl, HNX, HRL, HRUN2, by omega, by omega⟩
            case measure => simp [intOf]; omega
          · rw [if_neg hc] at hrun
            have y1 : ((lb.extract 0 k).toList == [67, 111, 110, 116, 101, 110, 116, 45, 76, 101, 110, 103, 116, 104]) = false := by
              rw [hpl2]
              cases q : (p.1 == [67, 111, 110, 116, 101, 110, 116, 45, 76, 101, 110, 103, 116, 104])
              · rfl
              · exact absurd (beq_iff_eq.1 q) hc
            have HRUN2 := hid hrun
            clear hrun hz3 hpl2 he hc hlt x2 HF HLZ hpk
            go_wp2_with fail
            go_round
            case rel => exact ⟨B ++ L ++ [13, 10], r, n, by simp; omega, rfl, HNX, HRL, HRUN2, hn0, hn1⟩
            case measure => simp [intOf]; omega
end Go.Proofs.YtbphabgjhoifbaaGreatDoor
