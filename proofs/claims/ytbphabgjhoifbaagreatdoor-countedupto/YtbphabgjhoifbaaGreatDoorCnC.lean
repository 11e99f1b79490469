/- The statement's own reading of what goes out: a line, a number. -/
import Derived.Test.YtbphabgjhoifbaaGreatDoorJoin02
namespace Go.Proofs.YtbphabgjhoifbaaGreatDoor
open Go.RowKit

theorem ret_i {k : IntKind} {a b : Int} (h : a = b) : Ending.returned (.int k a) = .returned (.int k b) := by rw [h]
theorem ret_sn {s t : ByteArray} {a b : Int} (h : s = t) (h2 : a = b) : Ending.returned (.tuple #[.string s, .int .i64 a]) = .returned (.tuple #[.string t, .int .i64 b]) := by rw [h, h2]
structure LnAt (s : ByteArray) (a : Nat) (L : List UInt8) : Prop where
  fit : a + L.length + 2 ≤ s.size
  no : ∀ m (h : m < s.size), a ≤ m → m < a + L.length → (s[m].toNat : Int) ≠ 13
  cr : ∀ m (h : m < s.size), m = a + L.length → (s[m].toNat : Int) = 13
  lf : ∀ m (h : m < s.size), m = a + L.length + 1 → (s[m].toNat : Int) = 10
  ex : s.extract a (a + L.length) = ⟨L.toArray⟩
theorem ba_get (s : ByteArray) (m : Nat) (h : m < s.size) : s.data.toList[m]? = some s[m] := by
  rw [List.getElem?_eq_getElem (by simpa using h)]; rfl
theorem lnAt_of {s : ByteArray} {A L X : List UInt8} (h : s.data.toList = A ++ (L ++ 13 :: 10 :: X)) (hn : (13 : UInt8) ∉ L) : LnAt s A.length L := by
  have hz : s.size = A.length + (L.length + (X.length + 2)) := by
    have := congrArg List.length h
    simpa using this
  refine ⟨by omega, fun m hm h1 h2 => ?_, fun m hm h1 => ?_, fun m hm h1 => ?_, ?_⟩
  · have e := ba_get s m hm
    rw [h, List.getElem?_append_right h1, List.getElem?_append_left (by omega)] at e
    intro q
    have q2 : s[m] = 13 := UInt8.toNat_inj.1 (by show s[m].toNat = 13; omega)
    rw [q2] at e
    exact hn (List.mem_of_getElem? e)
  · have e := ba_get s m hm
    rw [h, List.getElem?_append_right (by omega), List.getElem?_append_right (by omega), show m - A.length - L.length = 0 by omega] at e
    simp only [List.getElem?_cons_zero, Option.some.injEq] at e
    rw [← e]; rfl
  · have e := ba_get s m hm
    rw [h, List.getElem?_append_right (by omega), List.getElem?_append_right (by omega), show m - A.length - L.length = 1 by omega] at e
    simp only [List.getElem?_cons_succ, List.getElem?_cons_zero, Option.some.injEq] at e
    rw [← e]; rfl
  · apply ByteArray.ext
    rw [ByteArray.data_extract]
    apply Array.ext'
    rw [Array.toList_extract, h]
    simp
set_option maxRecDepth 100000 in
set_option maxHeartbeats 4000000 in
theorem lineAt_any (s : ByteArray) (a : Nat) (L : List UInt8) (w : World) (h : LnAt s a L) (hs : s.size ≤ 4611686018427387904) :
    Calls Tryz.prog 30 #[.string s, .int .i64 a] w fun e w' => e = .returned (.tuple #[.string ⟨L.toArray⟩, .int .i64 ((a + L.length + 2 : Nat) : Int)]) ∧ w' = w := by
  have HF := hid h
  have hf := h.fit
  clear h
  go_enter Tryz.func30, Tryz.ntmps30
  go_wp2
  go_loop [6] (fun i => ∃ m : Nat, a ≤ m ∧ m ≤ a + L.length ∧ i = .int .i64 m) (fun i => s.size - (intOf i).toNat)
  case atStart => exact ⟨a, Nat.le_refl _, by omega, rfl⟩
  case round =>
    obtain ⟨m, hm0, hm1, rfl⟩ := hrel
    have hms : m < s.size := by omega
    have hms2 : (m : Int) + 1 < (s.size : Int) := by omega
    by_cases hlt : m < a + L.length
    · have h1 : ((s[m].toNat : Int) == 13) = false := by rw [beq_eq_false_iff_ne]; exact HF.out.no m hms hm0 hlt
      go_wp2
      go_round
      case rel => exact ⟨m + 1, by omega, by omega, by go_num⟩
      case measure => simp [intOf]; omega
    · have he : m = a + L.length := by omega
      have h1 : ((s[m].toNat : Int) == 13) = true := by rw [beq_iff_eq]; exact HF.out.cr m hms he
      have hm3 : m + 1 < s.size := by omega
      have h2 : ((s[m + 1].toNat : Int) == 10) = true := by rw [beq_iff_eq]; exact HF.out.lf (m + 1) hm3 (by omega)
      have hex := HF.out.ex
      rw [← he] at hex
      have ha0 : (a : Int) ≤ (m : Int) := by omega
      have hmz : (m : Int) ≤ (s.size : Int) := by omega
      have HE := hid he
      have HX := hid hex
      clear he hex
      go_wp2
      refine bodyPost_ret (results_tmp2 rfl _ _ _) rfl ?_
      have he := HE.out
      exact ⟨ret_sn HX.out (by omega), rfl⟩
theorem dval_dig {c : UInt8} (h : Pm.dval c < 10) : 48 ≤ c.toNat ∧ c.toNat ≤ 57 ∧ Pm.dval c = (c.toNat : Int) - 48 := by
  unfold Pm.dval at h ⊢
  split at h
  · rename_i q; rw [if_pos q]; exact ⟨q.1, q.2, rfl⟩
  split at h
  · rename_i q; omega
  split at h
  · rename_i q; omega
  · omega
theorem digs_take {l : List UInt8} (h : Pm.digsB 10 l = true) (k : Nat) : Pm.digsB 10 (l.take k) = true := by
  unfold Pm.digsB at *
  rw [List.all_eq_true] at *
  exact fun x hx => h x (List.mem_of_mem_take hx)
set_option maxRecDepth 100000 in
set_option maxHeartbeats 4000000 in
theorem digits_any (s : ByteArray) (w : World) (h1 : 1 ≤ s.size) (h9 : s.size ≤ 9) (hd : Pm.digsB 10 s.data.toList = true) :
    Calls Tryz.prog 31 #[.string s] w fun e w' => e = .returned (.int .i64 (Pm.numv 10 s.data.toList)) ∧ w' = w := by
  have HD := hid hd
  clear hd
  have he : s.toList.isEmpty = false := by
    have h2 : s.data.toList.length = s.size := by simp
    rw [ByteArray.toList_eq]
    cases hq : s.data.toList with
    | nil => rw [hq] at h2; simp at h2; omega
    | cons a r => rfl
  have h9' : ¬ (9 : Int) < (s.size : Int) := by omega
  go_enter Tryz.func31, Tryz.ntmps31
  go_wp2
  go_loop [3, 4] (fun n i => ∃ k : Nat, k ≤ s.size ∧ i = .int .i64 k ∧ n = .int .i64 (Pm.numv 10 (s.data.toList.take k))) (fun _ i => s.size - (intOf i).toNat)
  case atStart => exact ⟨0, Nat.zero_le _, rfl, rfl⟩
  case round =>
    obtain ⟨k, hk, rfl, rfl⟩ := hrel
    by_cases hlt : k < s.size
    · have hdt := digs_take HD.out k
      have hbd := Pm.numv_bd 10 (s.data.toList.take k) (by omega) (by omega) hdt (by simp; omega)
      have hdk : Pm.dval s[k] < 10 := by
        have := HD.out
        unfold Pm.digsB at this
        rw [List.all_eq_true] at this
        have := this s[k] (List.mem_of_getElem? (by rw [List.getElem?_eq_getElem (by simpa using hlt)]; rfl))
        simpa using this
      obtain ⟨d1, d2, d3⟩ := dval_dig hdk
      have HN : Hid (Pm.numv 10 (s.data.toList.take (k + 1)) = Pm.numv 10 (s.data.toList.take k) * 10 + Pm.dval s[k]) := by rw [Pm.take_snoc s k hlt, Pm.numv_snoc]; exact rfl
      have HDV := hid d3
      have e1 : ¬ (s[k].toNat : Int) < 48 := by omega
      have e2 : ¬ (57 : Int) < (s[k].toNat : Int) := by omega
      have e3 : IntKind.u8.wrap ((s[k].toNat : Int) - 48) = (s[k].toNat : Int) - 48 := by unfold IntKind.wrap; simp [IntKind.signed, IntKind.bits]; omega
      have e4 : (0 : Int) ≤ (s[k].toNat : Int) - 48 := by omega
      have e5 : (s[k].toNat : Int) - 48 ≤ 9 := by omega
      clear d3 hdk hdt
      generalize Pm.numv 10 (s.data.toList.take k) = N at *
      go_wp2
      go_round
      case rel => exact ⟨k + 1, by omega, by go_num, by rw [HN.out, HDV.out]⟩
      case measure => simp [intOf]; omega
    · go_wp2
      go_ret
      exact ⟨ret_i (by rw [List.take_of_length_le (by simp; omega)]), rfl⟩
end Go.Proofs.YtbphabgjhoifbaaGreatDoor
