/- Texts that follow one another, joined. -/
import Derived.Test.YtbiggccolpchcaaGreatDoorJoin05
import Derived.Deep.RegionWith
/- The program's versions, names that are alike, fields and copies of texts: each call answers what the plain mathematics says; nothing old in memory turns. -/
namespace Go.Proofs.YtbiggccolpchcaaGreatDoor
open Go.RowKit

theorem ver_all {x y z : UInt8} (h1 : Pm.digB x = true) (h2 : (y.toNat : Int) = 46) : Pm.digB z = Pm.verTail [x, y, z] := by
  have hy : y = 46 := UInt8.toNat_inj.1 (by show y.toNat = 46; omega)
  simp [Pm.verTail, h1, hy]
theorem ver_no1 {x y z : UInt8} (h1 : ¬ Pm.digB x = true) : false = Pm.verTail [x, y, z] := by
  simp [Pm.verTail, h1]
theorem ver_no2 {x y z : UInt8} (h2 : ¬ (y.toNat : Int) = 46) : false = Pm.verTail [x, y, z] := by
  have hy : ¬ y = 46 := fun h => h2 (by rw [h]; rfl)
  simp [Pm.verTail, hy]

set_option maxHeartbeats 800000 in
theorem wIsVersion_any (s : ByteArray) (w : World) :
    Calls Tryz.prog 336 #[.string s] w fun e w' => e = .returned (.bool (Pm.isVersion s.data.toList)) ∧ w' = w := by
  cases h1 : Lib.hasPrefix s.data.toList [72, 84, 84, 80, 47]
  · have HV : Hid (Pm.isVersion s.data.toList = false) := by unfold Hid Pm.isVersion Pm.http; rw [h1]; rfl
    go_enter Tryz.func336, Tryz.ntmps336
    go_wp2_with (go_at_call 269; refine (Tryz.strings_CutPrefix _ _ _).mono ?_; rintro e w' ⟨rfl, rfl⟩)
    go_ret
    exact ⟨ret_bool HV.out.symm, rfl⟩
  · have HV : Hid (Pm.isVersion s.data.toList = Pm.verTail (Lib.trimPrefix s.data.toList [72, 84, 84, 80, 47])) := by unfold Hid Pm.isVersion Pm.http; rw [h1]; rfl
    go_enter Tryz.func336, Tryz.ntmps336
    go_wp2_with fail
    refine (Tryz.strings_CutPrefix _ _ _).mono ?_
    rintro e w' ⟨rfl, rfl⟩
    rw [show (⟨#[72, 84, 84, 80, 47]⟩ : ByteArray).data.toList = [72, 84, 84, 80, 47] from rfl, h1]
    clear h1
    generalize Lib.trimPrefix s.data.toList [72, 84, 84, 80, 47] = d at *
    by_cases hl : d.length = 3
    · match d, hl with
      | [x, y, z], _ =>
        go_wp2_with (go_at_call 236; refine (isDigit_any _ _).mono ?_; rintro e w2 ⟨rfl, rfl⟩)
        all_goals
          go_ret
          refine ⟨ret_bool ?_, rfl⟩
          rw [HV.out]
          first
            | exact ver_all (x := x) (y := y) (z := z) (by assumption) (by assumption)
            | exact ver_no1 (x := x) (y := y) (z := z) (by assumption)
            | exact ver_no2 (x := x) (y := y) (z := z) (by assumption)
    · have hl2 : (((⟨d.toArray⟩ : ByteArray).size : Int) == 3) = false := by
        rw [beq_eq_false_iff_ne]; intro h; exact hl (by have h' : ((d.toArray.size : Nat) : Int) = 3 := h; simp at h'; omega)
      have HF : Hid (Pm.verTail d = false) := by
        unfold Hid
        match d, hl with
        | [], _ => rfl
        | [_], _ => rfl
        | [_, _], _ => rfl
        | [_, _, _], h => exact absurd rfl h
        | _ :: _ :: _ :: _ :: _, _ => rfl
      clear hl
      generalize (⟨d.toArray⟩ : ByteArray) = dd at *
      go_wp2
      go_ret
      exact ⟨ret_bool (by rw [HV.out, HF.out]), rfl⟩

set_option maxHeartbeats 400000 in
theorem lower_any (c : UInt8) (w : World) :
    Calls Tryz.prog 303 #[.int .u8 c.toNat] w fun e w' => e = .returned (.int .u8 (Pm.low c).toNat) ∧ w' = w := by
  have h0 := c.toNat_lt
  have hl := Pm.low_nat c
  have HL : Hid ((Pm.low c).toNat = if 65 ≤ c.toNat ∧ c.toNat ≤ 90 then c.toNat + 32 else c.toNat) := hl
  clear hl
  rcases (show (c.toNat : Int) < 65 ∨ 90 < (c.toNat : Int) ∨ (65 ≤ (c.toNat : Int) ∧ (c.toNat : Int) ≤ 90) from by omega) with h | h | h
  · go_enter Tryz.func303, Tryz.ntmps303
    go_wp2
    go_ret
    exact ⟨ret_int (by rw [HL.out, if_neg (by omega)]), rfl⟩
  · go_enter Tryz.func303, Tryz.ntmps303
    go_wp2
    go_ret
    exact ⟨ret_int (by rw [HL.out, if_neg (by omega)]), rfl⟩
  · obtain ⟨h1, h2⟩ := h
    go_enter Tryz.func303, Tryz.ntmps303
    go_wp2
    go_ret
    exact ⟨ret_int (by rw [HL.out, if_pos (by omega)]; omega), rfl⟩

set_option maxHeartbeats 600000 in
theorem wAlike_any (a b : ByteArray) (w : World) (ha : a.size ≤ maxLen) :
    Calls Tryz.prog 246 #[.string a, .string b] w fun e w' => e = .returned (.bool (Pm.alike a.data.toList b.data.toList)) ∧ Below w.heap.size w w' := by
  have hla : a.data.toList.length = a.size := by simp
  have hlb : b.data.toList.length = b.size := by simp
  have HA : Hid (a.data.toList.length = a.size) := hla
  have HB : Hid (b.data.toList.length = b.size) := hlb
  clear hla hlb
  unfold maxLen at ha
  by_cases hl : a.size = b.size
  · have hl2 : ((a.size : Int) != (b.size : Int)) = false := by rw [hl]; simp
    have HE : Hid (a.size = b.size) := hl
    clear hl
    go_enter Tryz.func246, Tryz.ntmps246
    go_wp2
    go_loopw [5, 13] (fun _ i wr => ∃ k : Nat, k ≤ a.size ∧ i = .int .i64 k ∧ Hid ((a.data.toList.take k).map Pm.low = (b.data.toList.take k).map Pm.low) ∧ Below w.heap.size w wr) (fun _ i _ => a.size - (intOf i).toNat)
    case atStart => exact ⟨0, Nat.zero_le _, rfl, rfl, Below.refl _ _⟩
    case round =>
      obtain ⟨k, hk, rfl, H, hbw⟩ := hrel
      by_cases hlt : k < a.size
      · have hlt2 : k < b.size := by rw [← HE.out]; exact hlt
        go_wp2
        go_quiet ((go_at_call 303; exact Calls.quiet_of_same (lower_any _ _)))
        by_cases he : Pm.low a[k] = Pm.low b[k]
        · have h2 : (((Pm.low a[k]).toNat : Int) != ((Pm.low b[k]).toNat : Int)) = false := by rw [he]; simp
          have HS := (show Hid _ from Pm.mapLow_snoc hlt hlt2 he H.out)
          clear he
          go_wp2
          go_roundw
          case rel => exact ⟨k + 1, by omega, by go_num, HS, below_drewN hbw _⟩
          case measure => simp [intOf]; omega
        · have h2 : (((Pm.low a[k]).toNat : Int) != ((Pm.low b[k]).toNat : Int)) = true := by
            rw [bne_iff_ne]; intro h; exact he (UInt8.toNat_inj.1 (by omega))
          have HF := (show Hid _ from Pm.alike_at hlt hlt2 he)
          clear he
          go_wp2
          go_ret
          exact ⟨ret_bool HF.out.symm, below_drewN hbw _⟩
      · go_wp2
        go_ret
        exact ⟨ret_bool (Pm.take_eq_of (by rw [HA.out, HB.out]; exact HE.out) (by rw [HA.out]; omega) H.out).symm, hbw⟩
  · have hl2 : ((a.size : Int) != (b.size : Int)) = true := by rw [bne_iff_ne]; omega
    have HF : Hid (Pm.alike a.data.toList b.data.toList = false) := Pm.alike_ne (by rw [HA.out, HB.out]; exact hl)
    clear hl
    go_enter Tryz.func246, Tryz.ntmps246
    go_wp2
    go_ret
    exact ⟨ret_bool HF.out.symm, Below.refl _ _⟩
end Go.Proofs.YtbiggccolpchcaaGreatDoor

/- The program's fields and copies of texts: each call answers what the plain mathematics says; nothing old in memory turns. -/
namespace Go.Proofs.YtbiggccolpchcaaGreatDoor
open Go.RowKit

set_option maxHeartbeats 400000 in
theorem clone_any (s : ByteArray) (w : World) (hs : s.size ≤ 281474976710656) :
    Calls Tryz.prog 154 #[.string s] w fun e w' => e = .returned (.string s) ∧ Below w.heap.size w w' := by
  go_enter Tryz.func154, Tryz.ntmps154
  go_wp2_with (go_at_call 224; refine (Tryz.stringslite_Clone _ _ hs).mono ?_; rintro e w1 ⟨rfl, hb1⟩)
  go_ret
  exact ⟨rfl, hb1⟩

theorem trim_any (s : ByteArray) (w : World) (hs : s.size ≤ maxLen) :
    Calls Tryz.prog 302 #[.string s, .string ⟨#[32, 9]⟩] w fun e w' => e = .returned (.string ⟨(Lib.trimS s.data.toList Pm.blanks).toArray⟩) ∧ Below w.heap.size w w' :=
  Tryz.strings_Trim_laid s ⟨#[32, 9]⟩ w (by unfold maxLen at hs; omega) (by decide) (ascii_of_all (by decide))

theorem bcell {W w1 : World} (hb : Below W.heap.size W w1) : (∀ b o, b < W.heap.size → w1.cell? ⟨b, o, none⟩ = W.cell? ⟨b, o, none⟩) ∧ (∀ b o, b < W.heap.size → w1.frozen? ⟨b, o, none⟩ = W.frozen? ⟨b, o, none⟩) :=
  ⟨fun b o h => hb.cell (p := ⟨b, o, none⟩) h, fun b o h => hb.frozen (p := ⟨b, o, none⟩) h⟩

theorem bel_of {w W w3 : World} (h1 : Below w.heap.size w W) (h3 : Below W.heap.size W w3) : Below w.heap.size w w3 := h1.trans (h3.mono h1.size)
theorem field_eq {n v : ByteArray} (h1 : Pm.isTok n.data.toList = true) (h2 : Pm.allP Pm.valB v.data.toList = true) :
    (Lib.trimS v.data.toList Pm.blanks == v.toList) = Pm.isField n.data.toList v.data.toList := by
  unfold Pm.isField Pm.isValue; rw [h1, h2, ByteArray.toList_eq]; rfl

set_option maxHeartbeats 800000 in
theorem wIsField_any (n v : ByteArray) (w : World) (hn : n.size ≤ maxLen) (hv : v.size ≤ maxLen) :
    Calls Tryz.prog 245 #[.agg #[.string n, .string v]] w fun e w' => e = .returned (.bool (Pm.isField n.data.toList v.data.toList)) ∧ Below w.heap.size w w' := by
  cases h1 : Pm.isTok n.data.toList
  · go_enter Tryz.func245, Tryz.ntmps245
    go_wp2
    go_quiet ((go_at_call 127; exact Calls.quiet_of_same (wIsToken_any _ _ hn)))
    go_wp2
    go_ret
    exact ⟨ret_bool (by unfold Pm.isField; rw [h1]; rfl), below_drewN ((Below.refl _ _).alloc (Nat.le_refl _) _) _⟩
  · cases h2 : Pm.allP Pm.valB v.data.toList
    · go_enter Tryz.func245, Tryz.ntmps245
      go_wp2
      go_quiet ((first | (go_at_call 127; exact Calls.quiet_of_same (wIsToken_any _ _ hn)) | (go_at_call 176; exact Calls.quiet_of_same (allVal_any _ _ hv))))
      go_wp2
      go_ret
      exact ⟨ret_bool (by unfold Pm.isField Pm.isValue; rw [h1, h2]; rfl), below_drewN ((Below.refl _ _).alloc (Nat.le_refl _) _) _⟩
    · go_enter Tryz.func245, Tryz.ntmps245
      go_wp2
      go_region_with (first | (go_at_call 127; refine (wIsToken_any _ _ hn).mono ?_; rintro e w1 ⟨rfl, rfl⟩) | (go_at_call 176; refine (allVal_any _ _ hv).mono ?_; rintro e w2 ⟨rfl, rfl⟩) | (go_at_call 302; refine (trim_any _ _ hv).mono ?_; rintro e w3 ⟨rfl, hb3⟩; obtain ⟨hc3, hf3⟩ := bcell hb3))
      all_goals
        go_wp2
        go_ret
        refine ⟨ret_bool ?_, bel_of ((Below.refl _ _).alloc (Nat.le_refl _) _).drew hb3⟩
        exact field_eq h1 h2
end Go.Proofs.YtbiggccolpchcaaGreatDoor

/- ReadField tells the field that a line is; own copies a field: each answers what the plain mathematics says; nothing old in memory turns. -/
namespace Go.Proofs.YtbiggccolpchcaaGreatDoor
open Go.RowKit

theorem trim_le (l : List UInt8) : (Lib.trimS l Pm.blanks).length ≤ l.length := by
  unfold Lib.trimS Lib.trimLeftS Lib.trimRightS
  have h1 := (List.dropWhile_sublist (fun x => Pm.blanks.contains x) (l := l.reverse)).length_le
  have h2 := (List.dropWhile_sublist (fun x => Pm.blanks.contains x) (l := (l.reverse.dropWhile (fun x => Pm.blanks.contains x)).reverse)).length_le
  rw [List.length_reverse] at h1 h2
  omega

theorem cell_old {w : World} {o : Obj} {a : Addr} {v : Value} (h : w.cell? a = some v) : (w.alloc o).cell? a = some v := cell_later ((Below.refl _ _).alloc (Nat.le_refl _) _) h

def fldV (o : Option (List UInt8 × List UInt8)) : Value := match o with
  | some (n, v) => .agg #[.string ⟨n.toArray⟩, .string ⟨v.toArray⟩]
  | none => .agg #[.string ⟨#[]⟩, .string ⟨#[]⟩]

set_option maxHeartbeats 800000 in
theorem wReadField_any (s : ByteArray) (w : World) (hs : s.size ≤ maxLen) :
    Calls Tryz.prog 296 #[.string s] w fun e w' => e = .returned (.tuple #[fldV (Pm.fieldS s.data.toList), .bool (Pm.fieldS s.data.toList).isSome]) ∧ Below w.heap.size w w' := by
  go_enter Tryz.func296, Tryz.ntmps296
  go_wp2_with fail
  refine (cut1_any s 58 _ hs).mono ?_
  rintro e w1 ⟨⟨a, b, rfl, ha, hb⟩, nd, rfl⟩
  have has : a.size ≤ maxLen := by
    have h3 := congrArg List.length (Pm.ahead_behind 58 s.data.toList)
    rw [List.length_append, ← ha] at h3
    simp at h3; omega
  have hbs : b.size ≤ maxLen := by
    have h3 := congrArg List.length (Pm.ahead_behind 58 s.data.toList)
    have h4 := size_of hb
    rw [List.length_append] at h3
    simp at h3 h4; omega
  have hts : (⟨(Lib.trimS b.data.toList Pm.blanks).toArray⟩ : ByteArray).size ≤ maxLen := by
    have h3 := trim_le b.data.toList
    have h4 : b.data.toList.length = b.size := by simp
    have h5 : (⟨(Lib.trimS b.data.toList Pm.blanks).toArray⟩ : ByteArray).size = (Lib.trimS b.data.toList Pm.blanks).length := by simp [ByteArray.size]
    omega
  have HF : Hid (Pm.fieldS s.data.toList = if (!(Pm.behind 58 s.data.toList).isEmpty && Pm.isField a.data.toList (Lib.trimS b.data.toList Pm.blanks)) = true then some (a.data.toList, Lib.trimS b.data.toList Pm.blanks) else none) := by
    unfold Hid Pm.fieldS; rw [ha, hb]
  clear ha hb
  cases hf : (Pm.behind 58 s.data.toList).isEmpty
  all_goals
    rw [hf] at HF
    clear hf
  · cases hi : Pm.isField a.data.toList (Lib.trimS b.data.toList Pm.blanks)
    all_goals
      rw [hi] at HF
      go_wp2_with fail
      refine (trim_any _ _ hbs).mono ?_
      rintro e w2 ⟨rfl, hb2⟩
      have hB2 := bel_of (below_drewN ((Below.refl _ w).alloc (Nat.le_refl _) _) _) hb2
      have q0 := cell_later hb2 (a := ⟨w.heap.size, 0, none⟩) (v := .string ⟨#[]⟩) (by simp)
      have q1 := cell_later hb2 (a := ⟨w.heap.size, 1, none⟩) (v := .string ⟨#[]⟩) (by simp)
      obtain ⟨hc2, hf2⟩ := bcell hb2
      have hz2 : w.heap.size < w2.heap.size := by have := hb2.size; simp at this; omega
      clear hb2
      go_wp2_with fail
      refine (wIsField_any _ _ _ has hts).mono ?_
      rintro e w3 ⟨rfl, hb3⟩
      rw [show (⟨(Lib.trimS b.data.toList Pm.blanks).toArray⟩ : ByteArray).data.toList = Lib.trimS b.data.toList Pm.blanks from rfl, hi]
      clear hi
      have hB3 := bel_of (hB2.alloc (Nat.le_of_lt hz2) _) hb3
      have r0 := cell_later hb3 (a := ⟨w.heap.size, 0, none⟩) (cell_old q0)
      have r1 := cell_later hb3 (a := ⟨w.heap.size, 1, none⟩) (cell_old q1)
      obtain ⟨hc3, hf3⟩ := bcell hb3
      have hz3 : w2.heap.size < w3.heap.size := by have := hb3.size; simp at this; omega
      clear hb3 hB2
      go_wp2
    · refine bodyPost_ret (v := .tuple #[.agg #[.string ⟨#[]⟩, .string ⟨#[]⟩], .bool false]) (by simp [results, Tryz.results296, go_sem, r0, r1]) rfl ⟨by rw [HF.out]; rfl, (hB3.setCell (Nat.le_refl _) _).setCell (Nat.le_refl _) _⟩
    · refine bodyPost_ret (v := .tuple #[.agg #[.string a, .string ⟨(Lib.trimS b.data.toList Pm.blanks).toArray⟩], .bool true]) (by simp [results, Tryz.results296, go_sem, r0, r1]) rfl ⟨by rw [HF.out]; simp [fldV], (hB3.setCell (Nat.le_refl _) _).setCell (Nat.le_refl _) _⟩
  · go_wp2_with fail
    refine (trim_any _ _ hbs).mono ?_
    rintro e w2 ⟨rfl, hb2⟩
    have hB2 := bel_of (below_drewN ((Below.refl _ w).alloc (Nat.le_refl _) _) _) hb2
    have q0 := cell_later hb2 (a := ⟨w.heap.size, 0, none⟩) (v := .string ⟨#[]⟩) (by simp)
    have q1 := cell_later hb2 (a := ⟨w.heap.size, 1, none⟩) (v := .string ⟨#[]⟩) (by simp)
    obtain ⟨hc2, hf2⟩ := bcell hb2
    have hz2 : w.heap.size < w2.heap.size := by have := hb2.size; simp at this; omega
    clear hb2
    go_wp2
    refine bodyPost_ret (v := .tuple #[.agg #[.string ⟨#[]⟩, .string ⟨#[]⟩], .bool false]) (by simp [results, Tryz.results296, go_sem, q0, q1, hz2]) rfl ⟨by rw [HF.out]; rfl, ((hB2.setCell (Nat.le_refl _) _).setCell (Nat.le_refl _) _).alloc (by simp; omega) _⟩

set_option maxHeartbeats 800000 in
theorem own_any (n v : ByteArray) (w : World) (hn : n.size ≤ 281474976710656) (hv : v.size ≤ 281474976710656) :
    Calls Tryz.prog 262 #[.agg #[.string n, .string v]] w fun e w' => e = .returned (.agg #[.string n, .string v]) ∧ Below w.heap.size w w' := by
  go_enter Tryz.func262, Tryz.ntmps262
  go_wp2
  go_region_with (first | (go_at_call_of 154 (Value.string n); refine (clone_any _ _ hn).mono ?_; rintro e w1 ⟨rfl, hb1⟩; obtain ⟨hc1, hf1⟩ := bcell hb1; have q0 := cell_later hb1 (a := ⟨w.heap.size + 1, 0, none⟩) (v := .string ⟨#[]⟩) (by simp); have q1 := cell_later hb1 (a := ⟨w.heap.size + 1, 1, none⟩) (v := .string ⟨#[]⟩) (by simp); have hz1 : w.heap.size + 1 < w1.heap.size := by (have := hb1.size; (try simp at this); omega)) | (go_at_call_of 154 (Value.string v); refine (clone_any _ _ hv).mono ?_; rintro e w2 ⟨rfl, hb2⟩; obtain ⟨hc2, hf2⟩ := bcell hb2; have r0 := cell_later hb2 q0; have r1 := cell_later hb2 q1; have hz2 : w.heap.size + 1 < w2.heap.size := by (have := hb2.size; (try simp at this); omega)))
  all_goals
    go_wp2
    refine bodyPost_ret (v := .agg #[.string n, .string v]) (by simp [results, Tryz.results262, go_sem, r0, r1]) rfl ⟨rfl, ?_⟩
    exact ((bel_of (bel_of (((Below.refl _ w).alloc (Nat.le_refl _) _).alloc (by simp) _).drew hb1) hb2).setCell (by simp) _).setCell (by simp) _
end Go.Proofs.YtbiggccolpchcaaGreatDoor
