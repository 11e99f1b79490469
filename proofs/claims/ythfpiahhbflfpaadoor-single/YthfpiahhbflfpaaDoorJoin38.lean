/- Texts that follow one another, joined. -/
import Derived.Test.YthfpiahhbflfpaaDoorJoin33
import Derived.Test.YthfpiahhbflfpaaDoorJoin37
import Derived.Test.YthfpiahhbflfpaaDoorJoin34
/- The walks of porterkeep's patternOf and pathOf; nothing old in memory turns. -/
namespace Go.Proofs.YthfpiahhbflfpaaDoor
open Go.RowKit

theorem ba_snoc {S T : ByteArray} {a c : List UInt8} (h : S.data.toList = a) (h2 : T.data.toList = c) : (S ++ T).data.toList = a ++ c := by
  rw [ByteArray.data_append, Array.toList_append, h, h2]
theorem num_dig (k : Nat) (h : k < 8) : natT 10 k = [digU k] := by
  rw [natT_small (by omega)]; unfold digC digU; rw [if_pos (by omega)]
theorem pick_nat (z : Int) : ∃ p : Nat, p < 7 ∧ pickS z 7 = p ∧ (pickN z 7).toNat = p := by
  obtain ⟨h1, h2⟩ := pickS_bd z 7 (by omega)
  refine ⟨(pickS z 7).toNat, by omega, by omega, rfl⟩
abbrev Zbd (zs : List Int) : Prop := ∀ i (h : i < zs.length), -9223372036854775808 ≤ zs[i] ∧ zs[i] ≤ 9223372036854775807
theorem empty_of {S : ByteArray} {l : List UInt8} (h : S.data.toList = l) : S.toList.isEmpty = l.isEmpty := by rw [ByteArray.toList_eq, h]
theorem flat_ne {cs : List (List UInt8)} (h : cs ≠ []) : (flatP cs).isEmpty = false := by
  cases cs with
  | nil => exact absurd rfl h
  | cons c r => simp [flatP]
set_option maxRecDepth 100000 in
set_option maxHeartbeats 8000000 in
theorem patternOf_walk (zs : List Int) (b : Option Addr) (cb : Nat) (w : World) (hzo : ZoAt zs b w) (hl : zs.length ≤ maxLen) (hzb : Zbd zs) :
    Calls Tryd.prog 6 #[.slice b zs.length cb] w fun e w' => e = .returned (.string ⟨(flatP (patP zs)).toArray⟩) ∧ Below w.heap.size w w' := by
  unfold maxLen at hl
  have HO := hid hzo
  have HZ := hid hzb
  clear hzo hzb
  go_enter Tryd.func6, Tryd.ntmps6
  go_wp2
  go_loopw [3, 4, 5] (fun s i _ wr => ∃ (k : Nat) (S : ByteArray), k ≤ zs.length ∧ k ≤ 8 ∧ i = .int .i64 k ∧ s = .string S ∧ S.size ≤ 4 * k ∧ Hid (S.data.toList = flatP (patCs zs k)) ∧ Below w.heap.size w wr) (fun _ i _ _ => 8 - (intOf i).toNat)
  case atStart => exact ⟨0, ⟨#[]⟩, Nat.zero_le _, Nat.zero_le _, rfl, rfl, Nat.le_refl _, rfl, Below.refl _ _⟩
  case round =>
    obtain ⟨k, S, hk, hk8, rfl, rfl, hsz, HS, hbw⟩ := hrel
    by_cases hlt : k < zs.length ∧ k < 8
    · obtain ⟨hl1, hl2⟩ := hlt
      obtain ⟨g, o, rfl, hg, hc1⟩ := (HO.out.below hbw) k hl1
      obtain ⟨z1, z2⟩ := HZ.out k hl1
      obtain ⟨p, hp7, hp1, hp2⟩ := pick_nat zs[k]
      have HPK := hid (fun W => pick_any zs[k] 7 W z1 z2 (by omega) (by omega))
      rw [hp1] at HPK
      have HN := hid (patCs_next zs k hl1)
      rw [hp2] at HN
      have HNU := hid (fun W => number_any k W (by omega))
      have hnd := num_dig k hl2
      have hD : (⟨(natT 10 k).toArray⟩ : ByteArray).size = 1 := by rw [hnd]; rfl
      have HD : Hid ((⟨(natT 10 k).toArray⟩ : ByteArray).data.toList = [digU k]) := hnd
      have hB := hbw.size
      generalize (⟨(natT 10 k).toArray⟩ : ByteArray) = D at *
      generalize zs[k] = z at *
      clear hp1 hp2 z1 z2 hnd
      have H0 : Hid (∀ (R : ByteArray), R.data.toList = S.data.toList ++ 47 :: pcOf (lastAt zs k) k p → R.size ≤ 4 * (k + 1) ∧ Hid (R.data.toList = flatP (patCs zs (k + 1)))) := fun R hR => by
        have h1 : R.data.toList = flatP (patCs zs (k + 1)) := by rw [hR, HS.out, HN.out, flatP_snoc]
        have h2 := patCs_size zs (k + 1)
        rw [← h1] at h2
        exact ⟨by simpa using h2, h1⟩
      have hL : (((k : Int) == 7) = true ∧ lastAt zs k = true) ∨ (((k : Int) == 7) = false ∧ ((k : Int) == (zs.length : Int) - 1) = true ∧ lastAt zs k = true) ∨ (((k : Int) == 7) = false ∧ ((k : Int) == (zs.length : Int) - 1) = false ∧ lastAt zs k = false) := by
        unfold lastAt
        by_cases h7 : k = 7
        · exact .inl ⟨by rw [beq_iff_eq]; omega, by simp [h7]⟩
        · have i7 : ((k : Int) == 7) = false := by rw [beq_eq_false_iff_ne]; omega
          by_cases h8 : k + 1 = zs.length
          · exact .inr (.inl ⟨i7, by rw [beq_iff_eq]; omega, by simp [h8]⟩)
          · exact .inr (.inr ⟨i7, by rw [beq_eq_false_iff_ne]; omega, by simp [h7, h8]⟩)
      generalize lastAt zs k = L at *
      clear HN HS HZ
      have hpc : p = 0 ∨ p = 1 ∨ p = 2 ∨ p = 3 ∨ p = 4 ∨ p = 5 ∨ p = 6 := by omega
      rcases hL with ⟨i7, rfl⟩ | ⟨i7, i8, rfl⟩ | ⟨i7, i8, rfl⟩
      all_goals
        rcases hpc with rfl | rfl | rfl | rfl | rfl | rfl | rfl
        all_goals
          go_wp2_with fail
          refine (HPK.out _).mono ?_
          rintro e w1 ⟨rfl, hw1⟩
          subst hw1
          go_wp2_with (go_at_call 15; refine (HNU.out _).mono ?_; rintro e w2 ⟨rfl, hb2⟩)
          refine ⟨⟨k + 1, _, by omega, by omega, by go_num, rfl, (H0.out _ ?_).1, (H0.out _ ?_).2, ?_⟩, by simp [intOf]; omega⟩
          · simp [pcOf, HD.out]
          · simp [pcOf, HD.out]
          · first | exact hbw | exact bel_of hbw hb2
    · have hend : (¬ (k : Int) < (zs.length : Int)) ∨ ((k : Int) < (zs.length : Int) ∧ ¬ (k : Int) < 8) := by omega
      have hcs : patP zs = if zs = [] then [[]] else patCs zs k := by
        unfold patP
        by_cases hz : zs = []
        · rw [if_pos hz, if_pos hz]
        · rw [if_neg hz, if_neg hz, show min zs.length 8 = k from by omega]
      by_cases hz : zs = []
      · have HR : Hid (patP zs = [[]]) := by unfold Hid; rw [hcs, if_pos hz]
        have hk0 : k = 0 := by rw [hz] at hk; simpa using hk
        have hse : S.toList.isEmpty = true := by rw [empty_of HS.out, hk0]; rfl
        clear hcs hz hk0
        rcases hend with hend | ⟨hend, hend2⟩
        all_goals
          go_wp2
          go_ret
          exact ⟨ret_strL (a := ⟨#[47]⟩) (by rw [HR.out]; rfl), hbw⟩
      · have HR : Hid (patP zs = patCs zs k) := by unfold Hid; rw [hcs, if_neg hz]
        have hl0 : 0 < zs.length := List.length_pos_iff.mpr hz
        have hse : S.toList.isEmpty = false := by
          rw [empty_of HS.out]
          exact flat_ne (fun e => by have := congrArg List.length e; rw [patCs_len, List.length_nil] at this; omega)
        clear hcs
        rcases hend with hend | ⟨hend, hend2⟩
        all_goals
          go_wp2
          go_ret
          exact ⟨ret_strL (by rw [HR.out]; exact HS.out), hbw⟩
set_option maxRecDepth 100000 in
set_option maxHeartbeats 8000000 in
theorem pathOf_walk (zs : List Int) (b : Option Addr) (cb : Nat) (w : World) (hzo : ZoAt zs b w) (hl : zs.length ≤ maxLen) (hzb : Zbd zs) :
    Calls Tryd.prog 10 #[.slice b zs.length cb] w fun e w' => e = .returned (.string ⟨(pathL zs).toArray⟩) ∧ Below w.heap.size w w' := by
  unfold maxLen at hl
  have HO := hid hzo
  have HZ := hid hzb
  clear hzo hzb
  go_enter Tryd.func10, Tryd.ntmps10
  go_wp2
  go_loopw [3, 4] (fun s i wr => ∃ (k : Nat) (S : ByteArray), k ≤ zs.length ∧ k ≤ 10 ∧ i = .int .i64 k ∧ s = .string S ∧ S.size ≤ 8 * k ∧ Hid (S.data.toList = flatP (ptCs zs k)) ∧ Below w.heap.size w wr) (fun _ i _ => 10 - (intOf i).toNat)
  case atStart => exact ⟨0, ⟨#[]⟩, Nat.zero_le _, Nat.zero_le _, rfl, rfl, Nat.le_refl _, rfl, Below.refl _ _⟩
  case round =>
    obtain ⟨k, S, hk, hk8, rfl, rfl, hsz, HS, hbw⟩ := hrel
    by_cases hlt : k < zs.length ∧ k < 10
    · obtain ⟨hl1, hl2⟩ := hlt
      obtain ⟨g, o, rfl, hg, hc1⟩ := (HO.out.below hbw) k hl1
      obtain ⟨z1, z2⟩ := HZ.out k hl1
      obtain ⟨p, hp7, hp1, hp2⟩ := pick_nat zs[k]
      have HPK := hid (fun W => pick_any zs[k] 7 W z1 z2 (by omega) (by omega))
      rw [hp1] at HPK
      have HN := hid (ptCs_next zs k hl1)
      rw [hp2] at HN
      have hB := hbw.size
      generalize zs[k] = z at *
      clear hp1 hp2 z1 z2
      have H0 : Hid (∀ (R : ByteArray), R.data.toList = S.data.toList ++ 47 :: ptOf p → R.size ≤ 8 * (k + 1) ∧ Hid (R.data.toList = flatP (ptCs zs (k + 1)))) := fun R hR => by
        have h1 : R.data.toList = flatP (ptCs zs (k + 1)) := by rw [hR, HS.out, HN.out, flatP_snoc]
        have h2 := ptCs_size zs (k + 1)
        rw [← h1] at h2
        exact ⟨by simpa using h2, h1⟩
      clear HN HS HZ
      have hpc : p = 0 ∨ p = 1 ∨ p = 2 ∨ p = 3 ∨ p = 4 ∨ p = 5 ∨ p = 6 := by omega
      rcases hpc with rfl | rfl | rfl | rfl | rfl | rfl | rfl
      all_goals
        go_wp2_with fail
        refine (HPK.out _).mono ?_
        rintro e w1 ⟨rfl, hw1⟩
        subst hw1
        go_wp2
        refine ⟨⟨k + 1, _, by omega, by omega, by go_num, rfl, (H0.out _ ?_).1, (H0.out _ ?_).2, hbw⟩, by simp [intOf]; omega⟩
        · simp [ptOf]
        · simp [ptOf]
    · have hend : (¬ (k : Int) < (zs.length : Int)) ∨ ((k : Int) < (zs.length : Int) ∧ ¬ (k : Int) < 10) := by omega
      have hcs : pathL zs = if zs = [] then [47] else flatP (ptCs zs k) := by
        unfold pathL
        by_cases hz : zs = []
        · rw [if_pos hz, if_pos hz]
        · rw [if_neg hz, if_neg hz, show min zs.length 10 = k from by omega]
      by_cases hz : zs = []
      · have HR : Hid (pathL zs = [47]) := by unfold Hid; rw [hcs, if_pos hz]
        have hk0 : k = 0 := by rw [hz] at hk; simpa using hk
        have hse : S.toList.isEmpty = true := by rw [empty_of HS.out, hk0]; rfl
        clear hcs hz hk0
        rcases hend with hend | ⟨hend, hend2⟩
        all_goals
          go_wp2
          go_ret
          exact ⟨ret_strL (a := ⟨#[47]⟩) (by rw [HR.out]), hbw⟩
      · have HR : Hid (pathL zs = flatP (ptCs zs k)) := by unfold Hid; rw [hcs, if_neg hz]
        have hl0 : 0 < zs.length := List.length_pos_iff.mpr hz
        have hse : S.toList.isEmpty = false := by
          rw [empty_of HS.out]
          exact flat_ne (fun e => by have := congrArg List.length e; unfold ptCs at this; rw [List.length_map, List.length_range, List.length_nil] at this; omega)
        clear hcs
        rcases hend with hend | ⟨hend, hend2⟩
        all_goals
          go_wp2
          go_ret
          exact ⟨ret_strL (by rw [HR.out]; exact HS.out), hbw⟩
end Go.Proofs.YthfpiahhbflfpaaDoor

/- The walks of porterkeep's pieces, at, open and shared; nothing old in memory turns. -/
namespace Go.Proofs.YthfpiahhbflfpaaDoor
open Go.RowKit

theorem flatP_cons (c : List UInt8) (r : List (List UInt8)) : flatP (c :: r) = 47 :: (c ++ flatP r) := by simp [flatP]
theorem flatP_split (cs : List (List UInt8)) (k : Nat) (h : k < cs.length) : flatP cs = flatP (cs.take k) ++ ((47 :: cs[k]) ++ flatP (cs.drop (k + 1))) := by
  conv => lhs; rw [← List.take_append_drop k cs, List.drop_eq_getElem_cons h]
  unfold flatP; rw [List.flatMap_append, List.flatMap_cons]
theorem clean_no {c : List UInt8} (h : Pm.behind 47 c = []) : ∀ x ∈ c, x ≠ 47 := by
  induction c with
  | nil => intro x hx; cases hx
  | cons a l ih =>
    unfold Pm.behind at h
    by_cases ha : (a != 47) = true
    · rw [List.dropWhile_cons_of_pos (p := (· != 47)) ha] at h
      intro x hx
      rcases List.mem_cons.mp hx with rfl | hx
      · simpa using ha
      · exact ih h x hx
    · rw [List.dropWhile_cons_of_neg (p := (· != 47)) ha] at h; cases h
theorem pieces_at (s : ByteArray) (cs : List (List UInt8)) (hs : s.data.toList = flatP cs) (hc : ∀ c ∈ cs, Pm.behind 47 c = []) (k : Nat) (h : k < cs.length) (f : Nat) (hf : f = (flatP (cs.take k)).length + 1) :
    f + cs[k].length ≤ s.size ∧ (∀ i (h3 : i < s.size), f ≤ i → i < f + cs[k].length → ¬ (s[i].toNat : Int) = 47) ∧ (k + 1 = cs.length → f + cs[k].length = s.size) ∧ (k + 1 < cs.length → f + cs[k].length < s.size ∧ ∀ (h3 : f + cs[k].length < s.size), (s[f + cs[k].length].toNat : Int) = 47) ∧ (s.extract f (f + cs[k].length)).data.toList = cs[k] ∧ (flatP (cs.take (k + 1))).length + 1 = f + cs[k].length + 1 := by
  have e := flatP_split cs k h
  rw [← hs] at e
  have hno := clean_no (hc cs[k] (List.getElem_mem h))
  have hz : s.data.toList.length = s.size := by simp
  have hlen : s.size = f + cs[k].length + (flatP (cs.drop (k + 1))).length := by
    rw [← hz, e]; simp only [List.length_append, List.length_cons]; omega
  have e2 : s.data.toList = (flatP (cs.take k) ++ [47]) ++ (cs[k] ++ flatP (cs.drop (k + 1))) := by rw [e]; simp
  have hfl : (flatP (cs.take k) ++ [47]).length = f := by rw [List.length_append, hf]; rfl
  have hg : ∀ i (h3 : i < s.size), s[i] = s.data.toList[i]'(by simpa using h3) := fun i h3 => rfl
  have hl2 : (flatP (cs.take (k + 1))).length + 1 = f + cs[k].length + 1 := by
    rw [List.take_succ_eq_append_getElem h, flatP_snoc, List.length_append, List.length_cons]; omega
  generalize hA : flatP (cs.take k) ++ [47] = A at *
  generalize cs[k] = c at *
  refine ⟨by omega, fun i h3 h4 h5 => ?_, fun hk => ?_, fun hk => ⟨?_, fun h3 => ?_⟩, ?_, ?_⟩
  · have : s[i] = c[i - f]'(by omega) := by
      rw [hg]
      simp only [e2]
      rw [List.getElem_append_right (by omega), List.getElem_append_left (by omega)]
      congr 1; omega
    rw [this]
    intro h6
    exact hno _ (List.getElem_mem _) (UInt8.toNat_inj.1 (show (c[i - f]'(by omega)).toNat = (47 : UInt8).toNat from (by have h47 : (47 : UInt8).toNat = 47 := rfl; rw [h47]; omega)))
  · rw [List.drop_eq_nil_of_le (by omega)] at hlen
    have : (flatP ([] : List (List UInt8))).length = 0 := rfl
    omega
  · rw [List.drop_eq_getElem_cons hk] at hlen
    rw [flatP_cons, List.length_cons] at hlen
    omega
  · have h6 : s[f + c.length] = 47 := by
      rw [hg]
      simp only [e2]
      rw [List.getElem_append_right (by omega), List.getElem_append_right (by omega)]
      have e3 : flatP (cs.drop (k + 1)) = 47 :: (cs[k + 1] ++ flatP (cs.drop (k + 1 + 1))) := by rw [List.drop_eq_getElem_cons hk, flatP_cons]
      simp only [e3]
      have e4 : f + c.length - A.length - c.length = 0 := by omega
      simp only [e4]; rfl
    rw [h6]; rfl
  · rw [Lib.extract_data, e2, show f + c.length - f = c.length from by omega, ← hfl, List.drop_left, List.take_left]
  · exact hl2
theorem st_map (cs : List (List UInt8)) (k : Nat) (h : k < cs.length) : (cs.take (k + 1)).map (fun c => Value.string ⟨c.toArray⟩) = (cs.take k).map (fun c => Value.string ⟨c.toArray⟩) ++ [.string ⟨cs[k].toArray⟩] := by
  rw [List.take_succ_eq_append_getElem h, List.map_append]; rfl
def bas (cs : List (List UInt8)) : List ByteArray := cs.map fun c => ⟨c.toArray⟩
theorem bas_len (cs : List (List UInt8)) : (bas cs).length = cs.length := by unfold bas; simp
theorem bas_map (cs : List (List UInt8)) : (bas cs).map Value.string = cs.map (fun c => Value.string ⟨c.toArray⟩) := by unfold bas; rw [List.map_map]; rfl
theorem bas_get (cs : List (List UInt8)) (i : Nat) (h : i < (bas cs).length) : (bas cs)[i].data.toList = cs[i]'(by rw [← bas_len]; exact h) := by
  simp [bas]
set_option maxRecDepth 100000 in
set_option maxHeartbeats 2000000 in
theorem pieces_walk (cs : List (List UInt8)) (w : World) (hne : cs ≠ []) (hc : ∀ c ∈ cs, Pm.behind 47 c = []) (hz : (flatP cs).length ≤ 1000000) :
    Calls Tryd.prog 16 #[.string ⟨(flatP cs).toArray⟩] w fun e w' => (∃ v, e = .returned v ∧ w'.ownsRow w.heap.size 9 1 v cs.length ((bas cs).map Value.string)) ∧ Below w.heap.size w w' := by
  obtain ⟨i0, hi, hz0, hz1, hz2⟩ := info_parts Tryd.info9
  have hlen : 0 < cs.length := List.length_pos_iff.mpr hne
  generalize hs : (⟨(flatP cs).toArray⟩ : ByteArray) = s
  have hsl : s.data.toList = flatP cs := by rw [← hs]
  have hss : s.size ≤ 1000000 := by have := size_of hsl; omega
  have HP := hid (fun k h => pieces_at s cs hsl hc k h)
  have hs1 : 1 ≤ s.size := by
    have := (HP.out 0 hlen 1 (by simp [flatP])).1
    omega
  have HB := hid (bas_map cs)
  have hcl : cs.length ≤ s.size := by
    have := size_of hsl
    rw [this]
    clear hs hsl HP HB hc hne hz hss hs1 this hlen
    induction cs with
    | nil => simp
    | cons c r ih => rw [flatP_cons, List.length_cons, List.length_cons, List.length_append]; omega
  clear hs hsl hc hne hz
  go_enter Tryd.func16, Tryd.ntmps16
  go_wp2
  go_loopw [3, 4, 5] (fun v fr i wr => ∃ (k f n : Nat), k ≤ cs.length ∧ f = (flatP (cs.take k)).length + 1 ∧ f ≤ n ∧ fr = .int .i64 f ∧ i = .int .i64 n ∧ Hid ((k = cs.length → n = s.size + 1) ∧ (∀ (h : k < cs.length), n ≤ f + cs[k].length)) ∧ wr.ownsRow w.heap.size 9 1 v k ((cs.take k).map (fun c => Value.string ⟨c.toArray⟩)) ∧ Below w.heap.size w wr) (fun _ _ i _ => s.size + 1 - (intOf i).toNat)
  case atStart => exact ⟨0, 1, 1, Nat.zero_le _, by simp [flatP], Nat.le_refl _, rfl, rfl, ⟨fun h => by omega, fun h => by omega⟩, World.ownsRow_nil _ _ _ _, Below.refl _ _⟩
  case round =>
    obtain ⟨k, f, n, hk, hf, hfn, rfl, rfl, HN, hown, hbw⟩ := hrel
    obtain ⟨hn1, hn2⟩ := HN.out
    by_cases hlt : k < cs.length
    · obtain ⟨p1, p2, p3, p4, p5, p6⟩ := HP.out k hlt f hf
      have hnk := hn2 hlt
      have HM := hid (st_map cs k hlt)
      have P5 := hid p5
      have hbs := hbw.size
      generalize hck : cs[k] = c at *
      by_cases hin : n < f + c.length
      · have hns : n < s.size := by omega
        have hb := p2 n hns hfn hin
        have hb2 : ((s[n].toNat : Int) == 47) = false := beq_eq_false_iff_ne.2 hb
        have hb3 : ((n : Int) == (s.size : Int)) = false := by rw [beq_eq_false_iff_ne]; omega
        clear hb p1 p2 p3 p4 p5 p6 hn1 hn2
        go_wp2
        refine ⟨⟨k, f, n + 1, hk, hf, by omega, rfl, by go_num, ⟨fun h => by omega, fun h => by rw [hck]; omega⟩, hown, hbw⟩, by simp [intOf]; omega⟩
      · obtain rfl : n = f + c.length := by omega
        have hcond : (((f + c.length : Nat) : Int) == (s.size : Int)) = true ∨ (f + c.length < s.size ∧ (((f + c.length : Nat) : Int) == (s.size : Int)) = false ∧ ∀ (h3 : f + c.length < s.size), ((s[f + c.length].toNat : Int) == 47) = true) := by
          by_cases hlast : k + 1 = cs.length
          · exact .inl (by rw [beq_iff_eq]; have := p3 hlast; omega)
          · obtain ⟨q1, q2⟩ := p4 (by omega)
            exact .inr ⟨q1, by rw [beq_eq_false_iff_ne]; omega, fun h3 => by rw [beq_iff_eq]; exact q2 h3⟩
        have HL : Hid (k + 1 = cs.length → f + c.length = s.size) := p3
        have hfs : f + c.length ≤ s.size := p1
        have hf1 : 1 ≤ f := by omega
        have HFF : Hid ((flatP (cs.take (k + 1))).length + 1 = f + c.length + 1) := p6
        have hex := bytes_of P5.out
        clear p1 p2 p3 p4 p5 p6 hn1 hn2 hin HN hf hck
        obtain ⟨m, hm⟩ : ∃ m, m = f + c.length := ⟨_, rfl⟩
        rw [← hm] at hcond hex hfs HFF HL
        have hfm : f ≤ m := by omega
        simp only [← hm] at hnk ⊢
        clear hm hnk hfn
        rcases hcond with hb | ⟨hb, hb2, hbx⟩
        · obtain rfl : m = s.size := by rw [beq_iff_eq] at hb; omega
          clear hb
          go_wp2_with (at_builtin; refine wpList_append_own _ rfl _ _ 26 rfl w.heap.size 9 i0 (.string ⟨#[]⟩) 1 16 Tryd.underlying26 hi hz0 hz1 hz2 rfl (by decide) _ _ _ rfl (hown.alloc _) ⟨wr.heap.size, 0, none⟩ 1 1 [.string ⟨c.toArray⟩] rfl rfl ?c1 ?c2 ?c3 ?c4 ?c5 ?_)
          case c2 => first | rfl | (intro u hu; simp at hu; subst hu; rfl)
          case c3 => unfold maxLen; omega
          case c4 => omega
          case c5 => have := hbw.size; simp; omega
          intro v' w2 hown' hgrow _
          have hb3 : Below w.heap.size w w2 := (hbw.alloc hbw.size _).grown hgrow (by have := hbw.size; simp; omega) (own_ge hown)
          clear hgrow
          go_wp2
          refine ⟨⟨k + 1, s.size + 1, s.size + 1, by omega, HFF.out.symm, Nat.le_refl _, by go_num, by go_num, ⟨fun _ => rfl, fun h => Nat.le_add_right _ _⟩, ?_, hb3⟩, by simp [intOf] <;> omega⟩
          rw [HM.out]
          first | exact hown' | (rw [List.map_take]; exact hown')
        · have hbe : (s[m].toNat : Int) = 47 := by have := hbx hb; rw [beq_iff_eq] at this; exact this
          have hnm : ¬ m = s.size := by omega
          have hnm2 : ¬ (m : Int) = (s.size : Int) := by omega
          clear hbx
          go_wp2_with (at_builtin; refine wpList_append_own _ rfl _ _ 26 rfl w.heap.size 9 i0 (.string ⟨#[]⟩) 1 16 Tryd.underlying26 hi hz0 hz1 hz2 rfl (by decide) _ _ _ rfl (hown.alloc _) ⟨wr.heap.size, 0, none⟩ 1 1 [.string ⟨c.toArray⟩] rfl rfl ?c1 ?c2 ?c3 ?c4 ?c5 ?_)
          case c2 => first | rfl | (intro u hu; simp at hu; subst hu; rfl)
          case c3 => unfold maxLen; omega
          case c4 => omega
          case c5 => have := hbw.size; simp; omega
          intro v' w2 hown' hgrow _
          have hb3 : Below w.heap.size w w2 := (hbw.alloc hbw.size _).grown hgrow (by have := hbw.size; simp; omega) (own_ge hown)
          clear hgrow
          go_wp2
          refine ⟨⟨k + 1, m + 1, m + 1, by omega, HFF.out.symm, Nat.le_refl _, by go_num, by go_num, ⟨fun h => by have := HL.out h; omega, fun h => Nat.le_add_right _ _⟩, ?_, hb3⟩, by simp [intOf] <;> omega⟩
          rw [HM.out]
          first | exact hown' | (rw [List.map_take]; exact hown')
    · have hke : k = cs.length := by omega
      have hn := hn1 hke
      have hown2 : wr.ownsRow w.heap.size 9 1 u3 cs.length ((bas cs).map Value.string) := by
        rw [HB.out]
        rw [hke, List.take_length] at hown
        exact hown
      have hgt : ¬ ((n : Int) ≤ (s.size : Int)) := by omega
      clear hown hn1 hn2 HN hf
      go_wp2
      go_ret
      exact ⟨⟨_, rfl, hown2⟩, hbw⟩
end Go.Proofs.YthfpiahhbflfpaaDoor
