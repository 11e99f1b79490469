/- Values: the values of the fields whose names are alike a name, in new memory; nothing old in memory turns. -/
import Derived.Test.YtnohadlihgjppaaGreatDoorWalkM
namespace Go.Proofs.YtnohadlihgjppaaGreatDoor
open Go.RowKit

/- fields that lie one behind the other from the head of block g; a list of texts that lies somewhere below the heap's end -/
def FlAt (fs : List (ByteArray × ByteArray)) (a : Option Addr) (w : World) : Prop :=
  ∀ i (h : i < fs.length), ∃ g, a = some ⟨g, 0, none⟩ ∧ g < w.heap.size ∧ w.cell? ⟨g, i * 2, none⟩ = some (.string fs[i].1) ∧ w.cell? ⟨g, i * 2 + 1, none⟩ = some (.string fs[i].2)
def StAt (l : List ByteArray) (a : Option Addr) (w : World) : Prop :=
  ∀ i (h : i < l.length), ∃ g, a = some ⟨g, 0, none⟩ ∧ g < w.heap.size ∧ w.cell? ⟨g, i, none⟩ = some (.string l[i])
theorem FlAt.below {fs : List (ByteArray × ByteArray)} {a : Option Addr} {w w' : World} (h : FlAt fs a w) (hb : Below w.heap.size w w') : FlAt fs a w' := fun i hi => by
  obtain ⟨g, h1, h2, h3, h4⟩ := h i hi
  exact ⟨g, h1, Nat.lt_of_lt_of_le h2 hb.size, cell_later hb h3, cell_later hb h4⟩
theorem StAt.below {l : List ByteArray} {a : Option Addr} {w w' : World} (h : StAt l a w) (hb : Below w.heap.size w w') : StAt l a w' := fun i hi => by
  obtain ⟨g, h1, h2, h3⟩ := h i hi
  exact ⟨g, h1, Nat.lt_of_lt_of_le h2 hb.size, cell_later hb h3⟩
def valsOf (fs : List (ByteArray × ByteArray)) (name : List UInt8) : List ByteArray := (fs.filter fun f => Pm.alike f.1.data.toList name).map (·.2)
theorem valsOf_le (fs : List (ByteArray × ByteArray)) (name : List UInt8) : (valsOf fs name).length ≤ fs.length := by
  unfold valsOf; rw [List.length_map]; exact List.length_filter_le _ _
theorem valsOf_yes {fs : List (ByteArray × ByteArray)} {name : List UInt8} {k : Nat} (h : k < fs.length) (ha : Pm.alike fs[k].1.data.toList name = true) : valsOf (fs.take (k + 1)) name = valsOf (fs.take k) name ++ [fs[k].2] := by
  unfold valsOf; rw [List.take_succ_eq_append_getElem h, List.filter_append, List.map_append]; simp [ha]
theorem valsOf_no {fs : List (ByteArray × ByteArray)} {name : List UInt8} {k : Nat} (h : k < fs.length) (ha : Pm.alike fs[k].1.data.toList name = false) : valsOf (fs.take (k + 1)) name = valsOf (fs.take k) name := by
  unfold valsOf; rw [List.take_succ_eq_append_getElem h, List.filter_append, List.map_append]; simp [ha]
theorem StAt.of_owns {w : World} {B : Nat} {e : TypeId} {v : Value} {n : Nat} {l : List ByteArray} (h : w.ownsRow B e 1 v n (l.map Value.string)) : ∃ a cap, v = .slice a l.length cap ∧ StAt l a w := by
  obtain ⟨h1, h2⟩ := h
  simp at h1
  rcases h2 with ⟨rfl, hn⟩ | ⟨g, cap, cur, rfl, _, hg, _, _, _, hc⟩
  · have hl : l = [] := List.eq_nil_of_length_eq_zero (by omega)
    subst hl
    exact ⟨none, 0, rfl, fun i hi => absurd hi (by simp)⟩
  · refine ⟨some ⟨g, 0, none⟩, cap, by rw [h1], fun i hi => ⟨g, rfl, ?_, ?_⟩⟩
    · rcases Nat.lt_or_ge g w.heap.size with h' | h'
      · exact h'
      · simp [Array.getElem?_eq_none h'] at hg
    · rw [Lib.cell_of_heap hg]
      have h3 : (cur.toList.take (n * 1))[i]? = some (.string l[i]) := by rw [hc]; simp [hi]
      rw [List.getElem?_take] at h3
      split at h3
      · simpa using h3
      · cases h3

theorem own_ge {w : World} {B : Nat} {e : TypeId} {sz : Nat} {v : Value} {n : Nat} {xs : List Value} (h : w.ownsRow B e sz v n xs) : ∀ k, v.ownBlock = some k → B ≤ k := by
  intro k hk
  rcases h.2 with ⟨rfl, _⟩ | ⟨g, cap, cur, rfl, hB, _⟩
  · cases hk
  · simp [Value.ownBlock] at hk; omega
theorem owns_below {w w' : World} {B : Nat} {e : TypeId} {sz : Nat} {v : Value} {n : Nat} {xs : List Value} (h : w.ownsRow B e sz v n xs) (hb : Below w.heap.size w w') : w'.ownsRow B e sz v n xs := by
  obtain ⟨h1, h2⟩ := h
  refine ⟨h1, ?_⟩
  rcases h2 with h2 | ⟨g, cap, cur, hv, hB, hg, h3⟩
  · exact .inl h2
  · refine .inr ⟨g, cap, cur, hv, hB, ?_, h3⟩
    have hlt : g < w.heap.size := by
      rcases Nat.lt_or_ge g w.heap.size with h' | h'
      · exact h'
      · simp [Array.getElem?_eq_none h'] at hg
    rw [hb.block g hlt]; exact hg

theorem Tryz.info9 : (Tryz.prog.info? 9).map (fun i => (i.zero, i.size, i.bytes)) = some (some (.string ⟨#[]⟩), 1, 16) := by kernel_rfl

set_option maxRecDepth 100000 in
set_option maxHeartbeats 1000000 in
theorem values_any (fs : List (ByteArray × ByteArray)) (a : Option Addr) (cap : Nat) (name : ByteArray) (w : World) (hf : FlAt fs a w) (hl : fs.length ≤ 1000000) (hsz : ∀ i (h : i < fs.length), fs[i].1.size ≤ maxLen) :
    Calls Tryz.prog 77 #[.slice a fs.length cap, .string name] w fun e w' => (∃ a' c', e = .returned (.slice a' (valsOf fs name.data.toList).length c') ∧ StAt (valsOf fs name.data.toList) a' w') ∧ Below w.heap.size w w' := by
  obtain ⟨i0, hi, hz0, hz1, hz2⟩ := info_parts Tryz.info9
  have HF : Hid (FlAt fs a w) := hf
  have HZ : Hid (∀ i (h : i < fs.length), fs[i].1.size ≤ maxLen) := hsz
  clear hf hsz
  go_enter Tryz.func77, Tryz.ntmps77
  go_wp2
  go_loopw [5, 7, 10] (fun v _ i wr => ∃ k : Nat, k ≤ fs.length ∧ i = .int .i64 k ∧ wr.ownsRow w.heap.size 9 1 v (valsOf (fs.take k) name.data.toList).length ((valsOf (fs.take k) name.data.toList).map Value.string) ∧ Below w.heap.size w wr) (fun _ _ i _ => fs.length - (intOf i).toNat)
  case atStart => exact ⟨0, Nat.zero_le _, rfl, World.ownsRow_nil _ _ _ _, Below.refl _ _⟩
  case round =>
    obtain ⟨k, hk, rfl, hown, hbw⟩ := hrel
    by_cases hlt : k < fs.length
    · obtain ⟨g, rfl, hg, hc1, hc2⟩ := (HF.out.below hbw) k hlt
      have hsk := HZ.out k hlt
      have HV : Hid ((Pm.alike fs[k].1.data.toList name.data.toList = true → valsOf (fs.take (k + 1)) name.data.toList = valsOf (fs.take k) name.data.toList ++ [fs[k].2]) ∧ (Pm.alike fs[k].1.data.toList name.data.toList = false → valsOf (fs.take (k + 1)) name.data.toList = valsOf (fs.take k) name.data.toList)) := ⟨valsOf_yes hlt, valsOf_no hlt⟩
      have hvl := valsOf_le (fs.take k) name.data.toList
      rw [List.length_take] at hvl
      obtain ⟨f, hfk⟩ : ∃ f, f = fs[k] := ⟨_, rfl⟩
      rw [← hfk] at hc1 hc2 hsk HV
      clear hfk
      obtain ⟨nm, vl⟩ := f
      simp only at hc1 hc2 hsk HV
      cases hal : Pm.alike nm.data.toList name.data.toList
      · have HE := (show Hid _ from HV.out.2 hal)
        go_wp2_with (go_at_call 68; refine (wAlike_any _ _ _ hsk).mono ?_; rintro e w1 ⟨rfl, hb1⟩)
        have hb2 := bel_of ((Below.refl _ wr).alloc (Nat.le_refl _) _) hb1
        exact ⟨⟨k + 1, by omega, by go_num, by rw [HE.out]; exact owns_below hown hb2, hbw.trans (hb2.mono hbw.size)⟩, by simp [intOf]; omega⟩
      · have HE := (show Hid _ from HV.out.1 hal)
        go_wp2_with fail
        refine (wAlike_any _ _ _ hsk).mono ?_
        rintro e w1 ⟨rfl, hb1⟩
        rw [hal]
        have hb2 := bel_of ((Below.refl _ wr).alloc (Nat.le_refl _) _) hb1
        have hown2 := owns_below hown hb2
        have q1 := cell_later hb1 (a := ⟨wr.heap.size, 1, none⟩) (v := .string vl) (by simp)
        have hsz1 : w.heap.size ≤ w1.heap.size := Nat.le_trans hbw.size hb2.size
        clear hb1 hown hal hc1 hc2 hsk
        go_wp2_with (at_builtin; refine wpList_append_own _ rfl _ _ 65 rfl w.heap.size 9 i0 (.string ⟨#[]⟩) 1 16 Tryz.underlying65 hi hz0 hz1 hz2 rfl (by decide) _ _ _ rfl (hown2.alloc _) ⟨w1.heap.size, 0, none⟩ 1 1 [.string vl] rfl rfl ?c1 ?c2 ?c3 ?c4 ?c5 ?_)
        case c1 =>
          intro j u hj
          match j, hj with
          | 0, hj => simp at hj; subst hj; simp [Addr.add]
        case c2 => intro u hu; simp at hu; subst hu; rfl
        case c3 => unfold maxLen; omega
        case c4 => omega
        case c5 => simp; omega
        intro v' w2 hown' hgrow _
        have hb3 : Below w.heap.size w w2 := ((hbw.trans (hb2.mono hbw.size)).alloc hsz1 _).grown hgrow (by simp; omega) (own_ge hown2)
        clear hgrow
        go_wp2
        refine ⟨⟨k + 1, by omega, by go_num, ?_, hb3⟩, by simp [intOf]; omega⟩
        rw [HE.out, List.length_append, List.map_append]
        exact hown'
    · have HT : Hid (fs.take k = fs) := List.take_of_length_le (by omega)
      rw [HT.out] at hown
      obtain ⟨a', c', rfl, hst⟩ := StAt.of_owns hown
      go_wp2
      go_ret
      exact ⟨⟨a', c', rfl, hst⟩, hbw⟩
end Go.Proofs.YtnohadlihgjppaaGreatDoor
