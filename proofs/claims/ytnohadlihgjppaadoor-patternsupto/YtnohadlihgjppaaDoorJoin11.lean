/- Texts that follow one another, joined. -/
import Derived.Test.YtnohadlihgjppaaDoorJoin10
/- The first line of a head: the error, the method, the target, as the plain mathematics says; nothing old in memory turns. -/
namespace Go.Proofs.YtnohadlihgjppaaDoor
open Go.RowKit

theorem ret_first {k : IntKind} {a b c d : ByteArray} {x y : Int} (h : a = b) (h' : c = d) (hx : x = y) : Ending.returned (.tuple #[.string a, .string c, .int k x]) = .returned (.tuple #[.string b, .string d, .int k y]) := by rw [h, h', hx]

set_option maxHeartbeats 1000000 in
theorem firstLine_any (s : ByteArray) (m : Int) (w : World) (hs : s.size < 4294967281) (hm : w.cell? ⟨1, 0, none⟩ = some (.int .i64 m)) :
    Calls Tryd.prog 67 #[.string s] w fun e w' => e = .returned (.tuple #[.string ⟨(Pm.firstS s.data.toList).2.1.toArray⟩, .string ⟨(Pm.firstS s.data.toList).2.2.toArray⟩, .int .i64 (Pm.firstS s.data.toList).1]) ∧ Below w.heap.size w w' := by
  have hl := Pm.partsB_length s
  have hle : ∀ x, x ∈ Pm.partsB s → x.size ≤ s.size := fun x h => Pm.partsB_le h
  by_cases h3 : (Pm.partsB s).length = 3
  · obtain ⟨a, b, c, hp⟩ : ∃ a b c, Pm.partsB s = [a, b, c] := by
      match hq : Pm.partsB s, h3 with
      | [a, b, c], _ => exact ⟨a, b, c, rfl⟩
    have HF : Hid _ := Pm.firstS_three hp
    have ha := hle a (by rw [hp]; simp)
    have hb := hle b (by rw [hp]; simp)
    have hc := hle c (by rw [hp]; simp)
    have hcnt : Lib.countB s ⟨#[32]⟩ = 2 := by omega
    clear hle h3 hl
    go_enter Tryd.func67, Tryd.ntmps67
    go_wp2_with fail
    refine (Tryd.strings_Split _ _ m _ hs hm (by decide)).mono ?_
    rintro e w1 ⟨rfl, hw1⟩
    rw [hcnt, show Lib.splitB ⟨#[32]⟩ 0 2 s = [a, b, c] from by rw [← hcnt]; exact hp] at hw1
    rw [hcnt]
    subst hw1
    clear hp hcnt
    have hma : a.size ≤ maxLen := by unfold maxLen; omega
    have hmb : b.size ≤ 140737488355328 := by omega
    have hka : a.size ≤ 281474976710656 := by omega
    have hkb : b.size ≤ 281474976710656 := by omega
    clear ha hb hc
    cases h1 : Pm.isMethod a.data.toList
    · rw [h1, Bool.false_and, if_neg (by decide)] at HF
      go_wp2_with (go_at_call 93; refine (wIsMethod_any _ _ hma).mono ?_; rintro e w2 ⟨rfl, rfl⟩)
      go_ret3
      exact ⟨ret_first (by rw [HF.out]) (by rw [HF.out]) (by rw [HF.out]), (Below.refl _ _).alloc (Nat.le_refl _) _⟩
    · rw [h1, Bool.true_and] at HF
      cases h2 : Pm.isTarget b.data.toList
      · rw [h2, Bool.false_and, if_neg (by decide)] at HF
        go_wp2_with (first | (go_at_call 93; refine (wIsMethod_any _ _ hma).mono ?_; rintro e w2 ⟨rfl, rfl⟩) | (go_at_call 94; refine (wIsTarget_any _ _ hmb).mono ?_; rintro e w3 ⟨rfl, hb3⟩))
        go_ret3
        exact ⟨ret_first (by rw [HF.out]) (by rw [HF.out]) (by rw [HF.out]), bel_of ((Below.refl _ _).alloc (Nat.le_refl _) _) hb3⟩
      · rw [h2, Bool.true_and] at HF
        cases h4 : Pm.isVersion c.data.toList
        · rw [h4, if_neg (by decide)] at HF
          go_wp2_with (first | (go_at_call 93; refine (wIsMethod_any _ _ hma).mono ?_; rintro e w2 ⟨rfl, rfl⟩) | (go_at_call 94; refine (wIsTarget_any _ _ hmb).mono ?_; rintro e w3 ⟨rfl, hb3⟩; obtain ⟨hc3, hf3⟩ := bcell hb3; have p0 := cell_later hb3 (a := ⟨w.heap.size, 0, none⟩) (v := .string a) (by simp); have p1 := cell_later hb3 (a := ⟨w.heap.size, 1, none⟩) (v := .string b) (by simp); have hz3 : w.heap.size < w3.heap.size := by (have := hb3.size; (try simp at this); omega)) | (go_at_call 95; refine (wIsVersion_any _ _).mono ?_; rintro e w4 ⟨rfl, rfl⟩))
          go_ret3
          exact ⟨ret_first (by rw [HF.out]) (by rw [HF.out]) (by rw [HF.out]), bel_of ((Below.refl _ _).alloc (Nat.le_refl _) _) hb3⟩
        · rw [h4, if_pos rfl] at HF
          by_cases h5 : c.data.toList = Pm.http11
          · rw [if_pos h5] at HF
            have h6 : (c.toList == [72, 84, 84, 80, 47, 49, 46, 49]) = true := by rw [ByteArray.toList_eq, h5]; rfl
            clear h5
            go_wp2_with (first | (go_at_call 93; refine (wIsMethod_any _ _ hma).mono ?_; rintro e w2 ⟨rfl, rfl⟩) | (go_at_call 94; refine (wIsTarget_any _ _ hmb).mono ?_; rintro e w3 ⟨rfl, hb3⟩; obtain ⟨hc3, hf3⟩ := bcell hb3; have p0 := cell_later hb3 (a := ⟨w.heap.size, 0, none⟩) (v := .string a) (by simp); have p1 := cell_later hb3 (a := ⟨w.heap.size, 1, none⟩) (v := .string b) (by simp); have hz3 : w.heap.size < w3.heap.size := by (have := hb3.size; (try simp at this); omega)) | (go_at_call 95; refine (wIsVersion_any _ _).mono ?_; rintro e w4 ⟨rfl, rfl⟩))
            go_region_with (first | (go_at_call_of 76 (Value.string a); refine (clone_any _ _ hka).mono ?_; rintro e w5 ⟨rfl, hb5⟩; have r1 := cell_later hb5 p1) | (go_at_call_of 76 (Value.string b); refine (clone_any _ _ hkb).mono ?_; rintro e w6 ⟨rfl, hb6⟩))
            all_goals
              go_wp2
              go_ret3
              exact ⟨ret_first (by rw [HF.out]) (by rw [HF.out]) (by rw [HF.out]), bel_of (bel_of (bel_of ((Below.refl _ _).alloc (Nat.le_refl _) _) hb3).drew hb5) hb6⟩
          · rw [if_neg h5] at HF
            have h6 : (c.toList == [72, 84, 84, 80, 47, 49, 46, 49]) = false := by
              rw [ByteArray.toList_eq, beq_eq_false_iff_ne]; exact h5
            clear h5
            go_wp2_with (first | (go_at_call 93; refine (wIsMethod_any _ _ hma).mono ?_; rintro e w2 ⟨rfl, rfl⟩) | (go_at_call 94; refine (wIsTarget_any _ _ hmb).mono ?_; rintro e w3 ⟨rfl, hb3⟩; obtain ⟨hc3, hf3⟩ := bcell hb3; have p0 := cell_later hb3 (a := ⟨w.heap.size, 0, none⟩) (v := .string a) (by simp); have p1 := cell_later hb3 (a := ⟨w.heap.size, 1, none⟩) (v := .string b) (by simp); have hz3 : w.heap.size < w3.heap.size := by (have := hb3.size; (try simp at this); omega)) | (go_at_call 95; refine (wIsVersion_any _ _).mono ?_; rintro e w4 ⟨rfl, rfl⟩))
            go_ret3
            exact ⟨ret_first (by rw [HF.out]) (by rw [HF.out]) (by rw [HF.out]), bel_of ((Below.refl _ _).alloc (Nat.le_refl _) _) hb3⟩
  · have HF : Hid _ := Pm.firstS_len h3
    have hne : ((Lib.countB s ⟨#[32]⟩ : Int) + 1 != 3) = true := by rw [bne_iff_ne]; omega
    clear hle h3 hl
    go_enter Tryd.func67, Tryd.ntmps67
    go_wp2_with (go_at_call 78; refine (Tryd.strings_Split _ _ m _ hs hm (by decide)).mono ?_; rintro e w1 ⟨rfl, rfl⟩)
    go_ret3
    exact ⟨ret_first (by rw [HF.out]) (by rw [HF.out]) (by rw [HF.out]), (Below.refl _ _).alloc (Nat.le_refl _) _⟩
end Go.Proofs.YtnohadlihgjppaaDoor

/- Values: the values of the fields whose names are alike a name, in new memory; nothing old in memory turns. -/
namespace Go.Proofs.YtnohadlihgjppaaDoor
open Go.RowKit

/- fields that lie one behind the other from the head of block g; a list of texts that lies somewhere below the heap's end -/
def FlAt (fs : List (ByteArray × ByteArray)) (a : Option Addr) (w : World) : Prop :=
  ∀ i (h : i < fs.length), ∃ g, a = some ⟨g, 0, none⟩ ∧ g < w.heap.size ∧ w.cell? ⟨g, i * 2, none⟩ = some (.string fs[i].1) ∧ w.cell? ⟨g, i * 2 + 1, none⟩ = some (.string fs[i].2)
def StAt (l : List ByteArray) (a : Option Addr) (w : World) : Prop :=
  ∀ i (h : i < l.length), ∃ g, a = some ⟨g, 0, none⟩ ∧ g < w.heap.size ∧ w.cell? ⟨g, i, none⟩ = some (.string l[i])
theorem FlAt.below {fs : List (ByteArray × ByteArray)} {a : Option Addr} {w w' : World} (h : FlAt fs a w) (hb : Below w.heap.size w w') : FlAt fs a w' := fun i hi => by
  obtain ⟨g, h1, h2, h3, h4⟩ := h i hi
  exact ⟨g, h1, Nat.lt_of_lt_of_le h2 hb.size, cell_later hb h3, cell_later hb h4⟩
theorem StAt.below {l : List ByteArray} {a : Option Addr} {w w' : World} (h : StAt l a w) (hb : Below w.heap.size w w') : StAt l a w' := fun i hi => by
  obtain ⟨g, h1, h2, h3⟩ := h i hi
  exact ⟨g, h1, Nat.lt_of_lt_of_le h2 hb.size, cell_later hb h3⟩
def valsOf (fs : List (ByteArray × ByteArray)) (name : List UInt8) : List ByteArray := (fs.filter fun f => Pm.alike f.1.data.toList name).map (·.2)
theorem valsOf_le (fs : List (ByteArray × ByteArray)) (name : List UInt8) : (valsOf fs name).length ≤ fs.length := by
  unfold valsOf; rw [List.length_map]; exact List.length_filter_le _ _
theorem valsOf_yes {fs : List (ByteArray × ByteArray)} {name : List UInt8} {k : Nat} (h : k < fs.length) (ha : Pm.alike fs[k].1.data.toList name = true) : valsOf (fs.take (k + 1)) name = valsOf (fs.take k) name ++ [fs[k].2] := by
  unfold valsOf; rw [List.take_succ_eq_append_getElem h, List.filter_append, List.map_append]; simp [ha]
theorem valsOf_no {fs : List (ByteArray × ByteArray)} {name : List UInt8} {k : Nat} (h : k < fs.length) (ha : Pm.alike fs[k].1.data.toList name = false) : valsOf (fs.take (k + 1)) name = valsOf (fs.take k) name := by
  unfold valsOf; rw [List.take_succ_eq_append_getElem h, List.filter_append, List.map_append]; simp [ha]
theorem StAt.of_owns {w : World} {B : Nat} {e : TypeId} {v : Value} {n : Nat} {l : List ByteArray} (h : w.ownsRow B e 1 v n (l.map Value.string)) : ∃ a cap, v = .slice a l.length cap ∧ StAt l a w := by
  obtain ⟨h1, h2⟩ := h
  simp at h1
  rcases h2 with ⟨rfl, hn⟩ | ⟨g, cap, cur, rfl, _, hg, _, _, _, hc⟩
  · have hl : l = [] := List.eq_nil_of_length_eq_zero (by omega)
    subst hl
    exact ⟨none, 0, rfl, fun i hi => absurd hi (by simp)⟩
  · refine ⟨some ⟨g, 0, none⟩, cap, by rw [h1], fun i hi => ⟨g, rfl, ?_, ?_⟩⟩
    · rcases Nat.lt_or_ge g w.heap.size with h' | h'
      · exact h'
      · simp [Array.getElem?_eq_none h'] at hg
    · rw [Lib.cell_of_heap hg]
      have h3 : (cur.toList.take (n * 1))[i]? = some (.string l[i]) := by rw [hc]; simp [hi]
      rw [List.getElem?_take] at h3
      split at h3
      · simpa using h3
      · cases h3

theorem own_ge {w : World} {B : Nat} {e : TypeId} {sz : Nat} {v : Value} {n : Nat} {xs : List Value} (h : w.ownsRow B e sz v n xs) : ∀ k, v.ownBlock = some k → B ≤ k := by
  intro k hk
  rcases h.2 with ⟨rfl, _⟩ | ⟨g, cap, cur, rfl, hB, _⟩
  · cases hk
  · simp [Value.ownBlock] at hk; omega
theorem owns_below {w w' : World} {B : Nat} {e : TypeId} {sz : Nat} {v : Value} {n : Nat} {xs : List Value} (h : w.ownsRow B e sz v n xs) (hb : Below w.heap.size w w') : w'.ownsRow B e sz v n xs := by
  obtain ⟨h1, h2⟩ := h
  refine ⟨h1, ?_⟩
  rcases h2 with h2 | ⟨g, cap, cur, hv, hB, hg, h3⟩
  · exact .inl h2
  · refine .inr ⟨g, cap, cur, hv, hB, ?_, h3⟩
    have hlt : g < w.heap.size := by
      rcases Nat.lt_or_ge g w.heap.size with h' | h'
      · exact h'
      · simp [Array.getElem?_eq_none h'] at hg
    rw [hb.block g hlt]; exact hg

theorem Tryd.info9 : (Tryd.prog.info? 9).map (fun i => (i.zero, i.size, i.bytes)) = some (some (.string ⟨#[]⟩), 1, 16) := by kernel_rfl

set_option maxRecDepth 100000 in
set_option maxHeartbeats 1000000 in
theorem values_any (fs : List (ByteArray × ByteArray)) (a : Option Addr) (cap : Nat) (name : ByteArray) (w : World) (hf : FlAt fs a w) (hl : fs.length ≤ 1000000) (hsz : ∀ i (h : i < fs.length), fs[i].1.size ≤ maxLen) :
    Calls Tryd.prog 70 #[.slice a fs.length cap, .string name] w fun e w' => (∃ a' c', e = .returned (.slice a' (valsOf fs name.data.toList).length c') ∧ StAt (valsOf fs name.data.toList) a' w') ∧ Below w.heap.size w w' := by
  obtain ⟨i0, hi, hz0, hz1, hz2⟩ := info_parts Tryd.info9
  have HF : Hid (FlAt fs a w) := hf
  have HZ : Hid (∀ i (h : i < fs.length), fs[i].1.size ≤ maxLen) := hsz
  clear hf hsz
  go_enter Tryd.func70, Tryd.ntmps70
  go_wp2
  go_loopw [5, 7, 10] (fun v _ i wr => ∃ k : Nat, k ≤ fs.length ∧ i = .int .i64 k ∧ wr.ownsRow w.heap.size 9 1 v (valsOf (fs.take k) name.data.toList).length ((valsOf (fs.take k) name.data.toList).map Value.string) ∧ Below w.heap.size w wr) (fun _ _ i _ => fs.length - (intOf i).toNat)
  case atStart => exact ⟨0, Nat.zero_le _, rfl, World.ownsRow_nil _ _ _ _, Below.refl _ _⟩
  case round =>
    obtain ⟨k, hk, rfl, hown, hbw⟩ := hrel
    by_cases hlt : k < fs.length
    · obtain ⟨g, rfl, hg, hc1, hc2⟩ := (HF.out.below hbw) k hlt
      have hsk := HZ.out k hlt
      have HV : Hid ((Pm.alike fs[k].1.data.toList name.data.toList = true → valsOf (fs.take (k + 1)) name.data.toList = valsOf (fs.take k) name.data.toList ++ [fs[k].2]) ∧ (Pm.alike fs[k].1.data.toList name.data.toList = false → valsOf (fs.take (k + 1)) name.data.toList = valsOf (fs.take k) name.data.toList)) := ⟨valsOf_yes hlt, valsOf_no hlt⟩
      have hvl := valsOf_le (fs.take k) name.data.toList
      rw [List.length_take] at hvl
      obtain ⟨f, hfk⟩ : ∃ f, f = fs[k] := ⟨_, rfl⟩
      rw [← hfk] at hc1 hc2 hsk HV
      clear hfk
      obtain ⟨nm, vl⟩ := f
      simp only at hc1 hc2 hsk HV
      cases hal : Pm.alike nm.data.toList name.data.toList
      · have HE := (show Hid _ from HV.out.2 hal)
        go_wp2_with (go_at_call 72; refine (wAlike_any _ _ _ hsk).mono ?_; rintro e w1 ⟨rfl, hb1⟩)
        have hb2 := bel_of ((Below.refl _ wr).alloc (Nat.le_refl _) _) hb1
        exact ⟨⟨k + 1, by omega, by go_num, by rw [HE.out]; exact owns_below hown hb2, hbw.trans (hb2.mono hbw.size)⟩, by simp [intOf]; omega⟩
      · have HE := (show Hid _ from HV.out.1 hal)
        go_wp2_with fail
        refine (wAlike_any _ _ _ hsk).mono ?_
        rintro e w1 ⟨rfl, hb1⟩
        rw [hal]
        have hb2 := bel_of ((Below.refl _ wr).alloc (Nat.le_refl _) _) hb1
        have hown2 := owns_below hown hb2
        have q1 := cell_later hb1 (a := ⟨wr.heap.size, 1, none⟩) (v := .string vl) (by simp)
        have hsz1 : w.heap.size ≤ w1.heap.size := Nat.le_trans hbw.size hb2.size
        clear hb1 hown hal hc1 hc2 hsk
        go_wp2_with (at_builtin; refine wpList_append_own _ rfl _ _ 77 rfl w.heap.size 9 i0 (.string ⟨#[]⟩) 1 16 Tryd.underlying77 hi hz0 hz1 hz2 rfl (by decide) _ _ _ rfl (hown2.alloc _) ⟨w1.heap.size, 0, none⟩ 1 1 [.string vl] rfl rfl ?c1 ?c2 ?c3 ?c4 ?c5 ?_)
        case c1 =>
          intro j u hj
          match j, hj with
          | 0, hj => simp at hj; subst hj; simp [Addr.add]
        case c2 => intro u hu; simp at hu; subst hu; rfl
        case c3 => unfold maxLen; omega
        case c4 => omega
        case c5 => simp; omega
        intro v' w2 hown' hgrow _
        have hb3 : Below w.heap.size w w2 := ((hbw.trans (hb2.mono hbw.size)).alloc hsz1 _).grown hgrow (by simp; omega) (own_ge hown2)
        clear hgrow
        go_wp2
        refine ⟨⟨k + 1, by omega, by go_num, ?_, hb3⟩, by simp [intOf]; omega⟩
        rw [HE.out, List.length_append, List.map_append]
        exact hown'
    · have HT : Hid (fs.take k = fs) := List.take_of_length_le (by omega)
      rw [HT.out] at hown
      obtain ⟨a', c', rfl, hst⟩ := StAt.of_owns hown
      go_wp2
      go_ret
      exact ⟨⟨a', c', rfl, hst⟩, hbw⟩
end Go.Proofs.YtnohadlihgjppaaDoor
