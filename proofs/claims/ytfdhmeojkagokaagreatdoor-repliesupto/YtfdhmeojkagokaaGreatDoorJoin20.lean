/- Texts that follow one another, joined. -/
import Derived.Test.YtfdhmeojkagokaaGreatDoorJoin19
import Derived.Test.YtfdhmeojkagokaaGreatDoorJoin06
import Derived.Test.YtfdhmeojkagokaaGreatDoorJoin00
import Derived.Test.YtfdhmeojkagokaaGreatDoorJoin03
/- The reference's Render: the same bytes; nothing old in memory turns. -/
namespace Go.Proofs.YtfdhmeojkagokaaGreatDoor
open Go.RowKit

end Go.Proofs.YtfdhmeojkagokaaGreatDoor

/- Plain mathematics: a request told as bytes. -/
namespace Go.Proofs.YtfdhmeojkagokaaGreatDoor

/- sizes of chunks -/
def sizesOk : List Int → Int → Bool
  | [], n => n == 0
  | s :: r, n => if s < 1 ∨ n < s then false else sizesOk r (n - s)
theorem sizesOk_iff : ∀ (l : List Int) (n : Int), 0 ≤ n → (sizesOk l n = true ↔ (∀ s ∈ l, 1 ≤ s) ∧ l.sum = n)
  | [], n, _ => by
    unfold sizesOk
    simp only [beq_iff_eq, List.not_mem_nil, false_implies, implies_true, true_and, List.sum_nil]
    exact ⟨Eq.symm, Eq.symm⟩
  | s :: r, n, hn => by
    rw [sizesOk, List.sum_cons]
    have pos : ∀ (l : List Int), (∀ s ∈ l, 1 ≤ s) → 0 ≤ l.sum := by
      intro l
      induction l with
      | nil => intro _; simp
      | cons a l ih =>
        intro h
        have h1 := h a (by simp)
        have h2 := ih (fun x hx => h x (by simp [hx]))
        rw [List.sum_cons]; omega
    by_cases hs : s < 1 ∨ n < s
    · rw [if_pos hs]
      refine ⟨fun h => Bool.noConfusion h, fun ⟨h1, h2⟩ => ?_⟩
      have h3 := h1 s (by simp)
      have h4 := pos r (fun x hx => h1 x (by simp [hx]))
      omega
    · rw [if_neg hs, sizesOk_iff r (n - s) (by omega)]
      constructor
      · rintro ⟨h1, h2⟩
        refine ⟨fun x hx => ?_, by omega⟩
        rcases List.mem_cons.mp hx with rfl | hx
        · omega
        · exact h1 x hx
      · rintro ⟨h1, h2⟩
        exact ⟨fun x hx => h1 x (by simp [hx]), by omega⟩
theorem sum_pos : ∀ (l : List Int), (∀ s ∈ l, 1 ≤ s) → 0 ≤ l.sum
  | [], _ => by simp
  | a :: l, h => by
    have h1 := h a (by simp)
    have h2 := sum_pos l (fun x hx => h x (by simp [hx]))
    rw [List.sum_cons]; omega
/- the chunks of a body -/
def endC : List UInt8 := [48, 13, 10, 13, 10]
def chL : List Int → List UInt8 → List UInt8
  | [], _ => endC
  | s :: r, b => numT 16 s ++ [13, 10] ++ b.take s.toNat ++ [13, 10] ++ chL r (b.drop s.toNat)
end Go.Proofs.YtfdhmeojkagokaaGreatDoor

/- The reference's small forms: methods, paths, targets, values, names that are alike: each call answers what the plain mathematics says; nothing old in memory turns. -/
namespace Go.Proofs.YtfdhmeojkagokaaGreatDoor
open Go.RowKit

set_option maxHeartbeats 400000 in
theorem madeG_any (s al : ByteArray) (w : World) (hs : s.size ≤ maxLen) (hal : al.size ≤ maxLen) :
    Calls Tryz.prog 118 #[.string s, .string al] w fun e w' => e = .returned (.bool (Pm.allP (Pm.inB al.data.toList) s.data.toList)) ∧ w' = w := by
  unfold maxLen at hs
  go_enter Tryz.func118, Tryz.ntmps118
  go_wp2
  go_loop [5, 6] (fun i _ => ∃ k : Nat, k ≤ s.size ∧ i = .int .i64 k ∧ Hid (Pm.allP (Pm.inB al.data.toList) (s.data.toList.take k) = true)) (fun i _ => s.size - (intOf i).toNat)
  case atStart => exact ⟨0, Nat.zero_le _, rfl, rfl⟩
  case round =>
    obtain ⟨k, hk, rfl, H⟩ := hrel
    by_cases hlt : k < s.size
    · have HS : Hid (Pm.allP (Pm.inB al.data.toList) (s.data.toList.take (k + 1)) = (Pm.allP (Pm.inB al.data.toList) (s.data.toList.take k) && decide (0 ≤ Lib.indexByte al.data.toList s[k]))) := by rw [Pm.take_snoc s k hlt, Pm.allP_snoc]; exact rfl
      by_cases hb : Lib.indexByte al.data.toList s[k] < 0
      · go_wp2_with (go_at_call 119; refine (rAt_any _ _ _ hal).mono ?_; rintro e w' ⟨rfl, rfl⟩)
        have h1 := HS.out
        rw [decide_eq_false (by omega), Bool.and_false] at h1
        go_ret
        exact ⟨ret_bool (Pm.allP_take h1).symm, rfl⟩
      · go_wp2_with (go_at_call 119; refine (rAt_any _ _ _ hal).mono ?_; rintro e w' ⟨rfl, rfl⟩)
        go_round
        case rel => exact ⟨k + 1, by omega, by go_num, by unfold Hid; rw [HS.out, decide_eq_true (by omega), H.out]; rfl⟩
        case measure => simp [intOf]; omega
    · go_wp2
      go_ret
      refine ⟨ret_bool ?_, rfl⟩
      have h1 := H.out
      rw [List.take_of_length_le (by simp; omega)] at h1
      exact h1.symm

set_option maxHeartbeats 400000 in
theorem rIsMethod_any (s : ByteArray) (w : World) (hs : s.size ≤ maxLen) :
    Calls Tryz.prog 46 #[.string s] w fun e w' => e = .returned (.bool (Pm.isMethod s.data.toList)) ∧ w' = w := by
  have HL : Hid (s.data.toList.length = s.size) := by show s.data.toList.length = s.size; simp
  have hs2 := hs
  unfold maxLen at hs2
  cases h : Pm.isTok s.data.toList
  · go_enter Tryz.func46, Tryz.ntmps46
    go_wp2_with (go_at_call 79; refine (rIsToken_any _ _ hs).mono ?_; rintro e w' ⟨rfl, rfl⟩)
    go_ret
    exact ⟨ret_bool (by unfold Pm.isMethod; rw [h, Bool.and_false]), rfl⟩
  · go_enter Tryz.func46, Tryz.ntmps46
    go_wp2_with (go_at_call 79; refine (rIsToken_any _ _ hs).mono ?_; rintro e w' ⟨rfl, rfl⟩)
    go_ret
    exact ⟨ret_bool (by unfold Pm.isMethod; rw [h, Bool.and_true, HL.out]; simp; omega), rfl⟩

theorem hasP_none {s : ByteArray} (h : ¬ 0 < s.size) : Lib.hasPrefix s.data.toList [47] = false := by
  obtain ⟨⟨l⟩⟩ := s
  cases l with
  | nil => rfl
  | cons a r => exact absurd (by simp [ByteArray.size]) h
theorem hasP_at {s : ByteArray} (h : 0 < s.size) : Lib.hasPrefix s.data.toList [47] = ((s[0].toNat : Int) == 47) := by
  obtain ⟨⟨l⟩⟩ := s
  cases l with
  | nil => exact absurd h (by simp [ByteArray.size])
  | cons a r =>
    show ([47] : List UInt8).isPrefixOf (a :: r) = ((a.toNat : Int) == 47)
    have h2 : ([47] : List UInt8).isPrefixOf (a :: r) = (47 == a) := by simp [List.isPrefixOf]
    rw [h2]
    have := Pm.all256 (p := fun a => ((47 : UInt8) == a) == ((a.toNat : Int) == 47)) (by decide +kernel) a
    simpa using this

set_option maxHeartbeats 400000 in
theorem rIsPath_any (s : ByteArray) (w : World) (hs : s.size ≤ maxLen) :
    Calls Tryz.prog 81 #[.string s] w fun e w' => e = .returned (.bool (Pm.isPath s.data.toList)) ∧ Below w.heap.size w w' := by
  have HT : Hid (Pm.isPath s.data.toList = (decide (Pm.unE s.data.toList = 0) && Lib.hasPrefix s.data.toList [47])) := by
    unfold Hid Pm.isPath; rw [Pm.unE_iff]
  go_enter Tryz.func81, Tryz.ntmps81
  go_wp2_with fail
  refine (rUnescape_any _ _ hs).mono ?_
  rintro e w2 ⟨rfl, hb2⟩
  unfold maxLen at hs
  by_cases h : Pm.unE s.data.toList = 0
  · rw [decide_eq_true h, Bool.true_and] at HT
    rw [h]
    by_cases h0 : 0 < s.size
    · have HP := hid (hasP_at h0)
      go_wp2
      go_ret
      exact ⟨ret_bool (by rw [HT.out, HP.out]), hb2⟩
    · have HP := hid (hasP_none h0)
      go_wp2
      go_ret
      exact ⟨ret_bool (by rw [HT.out, HP.out]), hb2⟩
  · rw [decide_eq_false h, Bool.false_and] at HT
    have h3 : (Pm.unE s.data.toList == 0) = false := by rw [beq_eq_false_iff_ne]; exact h
    go_wp2
    go_ret
    exact ⟨ret_bool HT.out.symm, hb2⟩

set_option maxHeartbeats 600000 in
theorem rIsTarget_any (s : ByteArray) (w : World) (hs : s.size ≤ maxLen) :
    Calls Tryz.prog 47 #[.string s] w fun e w' => e = .returned (.bool (Pm.isTarget s.data.toList)) ∧ Below w.heap.size w w' := by
  have HT : Hid (Pm.isTarget s.data.toList = (Pm.isPath (Pm.ahead 63 s.data.toList) && Pm.allP Pm.tgtB s.data.toList)) := Pm.isTarget_path _
  have HS0 : Hid (s.size ≤ maxLen) := hs
  unfold maxLen at hs
  go_enter Tryz.func47, Tryz.ntmps47
  go_wp2_with fail
  go_loop [3] (fun i => ∃ k : Nat, k ≤ s.size ∧ i = .int .i64 k ∧ Hid (Pm.allP Pm.tgtB (s.data.toList.take k) = true)) (fun i => s.size - (intOf i).toNat)
  case atStart => exact ⟨0, Nat.zero_le _, rfl, rfl⟩
  case round =>
    obtain ⟨k, hk, rfl, H⟩ := hrel
    by_cases hlt : k < s.size
    · have HS : Hid (Pm.allP Pm.tgtB (s.data.toList.take (k + 1)) = (Pm.allP Pm.tgtB (s.data.toList.take k) && Pm.tgtB s[k])) := by rw [Pm.take_snoc s k hlt, Pm.allP_snoc]; exact rfl
      have hc0 := s[k].toNat_lt
      have bad : Pm.tgtB s[k] = false → Pm.isTarget s.data.toList = false := by
        intro hb
        have h1 := HS.out
        rw [hb, Bool.and_false] at h1
        rw [HT.out, Pm.allP_take h1, Bool.and_false]
      have BAD := hid bad
      clear bad
      rcases (show (s[k].toNat : Int) < 33 ∨ (s[k].toNat : Int) = 35 ∨ 126 < (s[k].toNat : Int) ∨ (33 ≤ (s[k].toNat : Int) ∧ (s[k].toNat : Int) ≤ 126 ∧ ¬ (s[k].toNat : Int) = 35) from by omega) with h | h | h | h
      · have HB := hid (show Pm.tgtB s[k] = false by simp [Pm.tgtB]; omega)
        go_wp2
        go_ret
        exact ⟨ret_bool (BAD.out HB.out).symm, Below.refl _ _⟩
      · have HB := hid (show Pm.tgtB s[k] = false by simp [Pm.tgtB]; omega)
        have h1 : ((s[k].toNat : Int) == 35) = true := by rw [beq_iff_eq]; exact h
        go_wp2
        go_ret
        exact ⟨ret_bool (BAD.out HB.out).symm, Below.refl _ _⟩
      · have HB := hid (show Pm.tgtB s[k] = false by simp [Pm.tgtB]; omega)
        go_wp2
        go_ret
        exact ⟨ret_bool (BAD.out HB.out).symm, Below.refl _ _⟩
      · obtain ⟨h2, h3, h4⟩ := h
        have HB := hid (show Pm.tgtB s[k] = true by simp [Pm.tgtB]; omega)
        have h1 : ((s[k].toNat : Int) == 35) = false := by rw [beq_eq_false_iff_ne]; exact h4
        clear h4
        go_wp2
        go_round
        case rel => exact ⟨k + 1, by omega, by go_num, by unfold Hid; rw [HS.out, HB.out, H.out]; exact rfl⟩
        case measure => simp [intOf]; omega
    · have HA : Hid (Pm.allP Pm.tgtB s.data.toList = true) := by
        have h1 := H.out
        rw [List.take_of_length_le (by simp; omega)] at h1
        exact h1
      go_wp2_with fail
      refine (rAhead_any s 63 _ HS0.out).mono ?_
      rintro e w1 ⟨⟨a, b, rfl, ha, hb⟩, hb1⟩
      have has : a.size ≤ maxLen := by
        have h3 := congrArg List.length (Pm.ahead_behind 63 s.data.toList)
        rw [List.length_append, ← ha] at h3
        have h4 := HS0.out
        simp at h3; omega
      have HR := HT.out
      rw [← ha, HA.out, Bool.and_true] at HR
      have HR2 := hid HR
      clear HR ha hb
      go_wp2_with (go_at_call 81; refine (rIsPath_any _ _ has).mono ?_; rintro e w2 ⟨rfl, hb2⟩)
      go_ret
      exact ⟨ret_bool HR2.out.symm, hb1.trans (hb2.mono hb1.size)⟩

set_option maxHeartbeats 400000 in
theorem rAlike_any (a b : ByteArray) (w : World) (ha : a.size ≤ maxLen) (hb : b.size ≤ maxLen) :
    Calls Tryz.prog 92 #[.string a, .string b] w fun e w' => e = .returned (.bool (Pm.alike a.data.toList b.data.toList)) ∧ w' = w := by
  go_enter Tryz.func92, Tryz.ntmps92
  go_wp2_with fail
  refine (rSmall_any a _ ha).mono ?_
  rintro e w' ⟨⟨o, rfl, ho⟩, rfl⟩
  go_wp2_with fail
  refine (rSmall_any b _ hb).mono ?_
  rintro e w' ⟨⟨p, rfl, hp⟩, rfl⟩
  have HO := hid ho
  have HP := hid hp
  clear ho hp
  go_wp2
  go_ret
  refine ⟨ret_bool ?_, rfl⟩
  unfold Pm.alike
  rw [ByteArray.toList_eq, ByteArray.toList_eq, HO.out, HP.out, Pm.map_small, Pm.map_small]
end Go.Proofs.YtfdhmeojkagokaaGreatDoor

/- The reference's Printable, of fields that lie anywhere in a block; nothing old in memory turns. -/
namespace Go.Proofs.YtfdhmeojkagokaaGreatDoor
open Go.RowKit

theorem valsA (fs : List Pr2) {a b : List UInt8} (h : a.map Pm.low = b.map Pm.low) : valsOf fs a = valsOf fs b := by
  unfold valsOf Pm.alike; rw [h]
set_option maxRecDepth 100000 in
set_option maxHeartbeats 1000000 in
theorem rvaluesO_any (fs : List Pr2) (a : Option Addr) (cap : Nat) (name : ByteArray) (w : World) (hf : FoAt fs a w) (hl : fs.length ≤ 1000000000) (hn : name.size ≤ maxLen) (hsz : ∀ i (h : i < fs.length), fs[i].1.size ≤ maxLen) :
    Calls Tryz.prog 91 #[.slice a fs.length cap, .string name] w fun e w' => (∃ a' c', e = .returned (.slice a' (valsOf fs name.data.toList).length c') ∧ StAt (valsOf fs name.data.toList) a' w') ∧ Below w.heap.size w w' := by
  obtain ⟨i0, hi, hz0, hz1, hz2⟩ := info_parts Tryz.info9
  have HF : Hid (FoAt fs a w) := hf
  have HZ : Hid (∀ i (h : i < fs.length), fs[i].1.size ≤ maxLen) := hsz
  clear hf hsz
  go_enter Tryz.func91, Tryz.ntmps91
  go_wp2
  go_loopw [5, 6, 7] (fun v i _ wr => ∃ k : Nat, k ≤ fs.length ∧ i = .int .i64 k ∧ wr.ownsRow w.heap.size 9 1 v (valsOf (fs.take k) name.data.toList).length ((valsOf (fs.take k) name.data.toList).map Value.string) ∧ Below w.heap.size w wr) (fun _ i _ _ => fs.length - (intOf i).toNat)
  case atStart => exact ⟨0, Nat.zero_le _, rfl, World.ownsRow_nil _ _ _ _, Below.refl _ _⟩
  case round =>
    obtain ⟨k, hk, rfl, hown, hbw⟩ := hrel
    by_cases hlt : k < fs.length
    · obtain ⟨g, o, rfl, hg, hc1, hc2⟩ := (HF.out.below hbw) k hlt
      have hsk := HZ.out k hlt
      have HV : Hid ((Pm.alike fs[k].1.data.toList name.data.toList = true → valsOf (fs.take (k + 1)) name.data.toList = valsOf (fs.take k) name.data.toList ++ [fs[k].2]) ∧ (Pm.alike fs[k].1.data.toList name.data.toList = false → valsOf (fs.take (k + 1)) name.data.toList = valsOf (fs.take k) name.data.toList)) := ⟨valsOf_yes hlt, valsOf_no hlt⟩
      have hvl := valsOf_le (fs.take k) name.data.toList
      rw [List.length_take] at hvl
      obtain ⟨f, hfk⟩ : ∃ f, f = fs[k] := ⟨_, rfl⟩
      rw [← hfk] at hc1 hc2 hsk HV
      clear hfk
      obtain ⟨nm, vl⟩ := f
      simp only at hc1 hc2 hsk HV
      cases hal : Pm.alike nm.data.toList name.data.toList
      · have HE := (show Hid _ from HV.out.2 hal)
        go_wp2_with (go_at_call 92; refine (rAlike_any _ _ _ hsk hn).mono ?_; rintro e w1 ⟨rfl, rfl⟩)
        exact ⟨⟨k + 1, by omega, by go_num, by rw [HE.out]; exact hown, hbw⟩, by simp [intOf]; omega⟩
      · have HE := (show Hid _ from HV.out.1 hal)
        go_wp2_with fail
        refine (rAlike_any _ _ _ hsk hn).mono ?_
        rintro e w1 ⟨rfl, hw1⟩
        rw [hal, hw1]
        have hbs := hbw.size
        clear hw1 w1 hal hc1 hsk
        go_wp2_with (at_builtin; refine wpList_append_own _ rfl _ _ 75 rfl w.heap.size 9 i0 (.string ⟨#[]⟩) 1 16 Tryz.underlying75 hi hz0 hz1 hz2 rfl (by decide) _ _ _ rfl (hown.alloc _) ⟨wr.heap.size, 0, none⟩ 1 1 [.string vl] rfl rfl ?c1 ?c2 ?c3 ?c4 ?c5 ?_)
        case c1 =>
          intro j u hj
          match j, hj with
          | 0, hj => simp at hj; subst hj; simp [Addr.add]
        case c2 => intro u hu; simp at hu; subst hu; rfl
        case c3 => unfold maxLen; omega
        case c4 => omega
        case c5 => have := hbw.size; simp; omega
        intro v' w2 hown' hgrow _
        have hb3 : Below w.heap.size w w2 := (hbw.alloc hbw.size _).grown hgrow (by have := hbw.size; simp; omega) (own_ge hown)
        clear hgrow
        go_wp2
        refine ⟨⟨k + 1, by omega, by go_num, ?_, hb3⟩, by simp [intOf]; omega⟩
        rw [HE.out, List.length_append, List.map_append]
        exact hown'
    · have HT : Hid (fs.take k = fs) := List.take_of_length_le (by omega)
      rw [HT.out] at hown
      obtain ⟨a', c', rfl, hst⟩ := StAt.of_owns hown
      go_wp2
      go_ret
      exact ⟨⟨a', c', rfl, hst⟩, hbw⟩
end Go.Proofs.YtfdhmeojkagokaaGreatDoor
