/- The reference's values of the fields that are named alike, in new memory; nothing old in memory turns. -/
import Derived.Test.YtnohadlihgjppaaGreatDoorRefA
import Derived.Test.YtnohadlihgjppaaGreatDoorWalkN
namespace Go.Proofs.YtnohadlihgjppaaGreatDoor
open Go.RowKit

set_option maxRecDepth 100000 in
set_option maxHeartbeats 1000000 in
theorem rvalues_any (fs : List (ByteArray × ByteArray)) (a : Option Addr) (cap : Nat) (name : ByteArray) (w : World) (hf : FlAt fs a w) (hl : fs.length ≤ 4398046511104) (hn : name.size ≤ maxLen) (hsz : ∀ i (h : i < fs.length), fs[i].1.size ≤ maxLen) :
    Calls Tryz.prog 41 #[.slice a fs.length cap, .string name] w fun e w' => (∃ a' c', e = .returned (.slice a' (valsOf fs name.data.toList).length c') ∧ StAt (valsOf fs name.data.toList) a' w') ∧ Below w.heap.size w w' := by
  obtain ⟨i0, hi, hz0, hz1, hz2⟩ := info_parts Tryz.info9
  have HF : Hid (FlAt fs a w) := hf
  have HZ : Hid (∀ i (h : i < fs.length), fs[i].1.size ≤ maxLen) := hsz
  clear hf hsz
  go_enter Tryz.func41, Tryz.ntmps41
  go_wp2
  go_loopw [5, 6, 7] (fun v i _ wr => ∃ k : Nat, k ≤ fs.length ∧ i = .int .i64 k ∧ wr.ownsRow w.heap.size 9 1 v (valsOf (fs.take k) name.data.toList).length ((valsOf (fs.take k) name.data.toList).map Value.string) ∧ Below w.heap.size w wr) (fun _ i _ _ => fs.length - (intOf i).toNat)
  case atStart => exact ⟨0, Nat.zero_le _, rfl, World.ownsRow_nil _ _ _ _, Below.refl _ _⟩
  case round =>
    obtain ⟨k, hk, rfl, hown, hbw⟩ := hrel
    by_cases hlt : k < fs.length
    · obtain ⟨g, rfl, hg, hc1, hc2⟩ := (HF.out.below hbw) k hlt
      have hsk := HZ.out k hlt
      have HV : Hid ((Pm.alike fs[k].1.data.toList name.data.toList = true → valsOf (fs.take (k + 1)) name.data.toList = valsOf (fs.take k) name.data.toList ++ [fs[k].2]) ∧ (Pm.alike fs[k].1.data.toList name.data.toList = false → valsOf (fs.take (k + 1)) name.data.toList = valsOf (fs.take k) name.data.toList)) := ⟨valsOf_yes hlt, valsOf_no hlt⟩
      have hvl := valsOf_le (fs.take k) name.data.toList
      rw [List.length_take] at hvl
      obtain ⟨f, hfk⟩ : ∃ f, f = fs[k] := ⟨_, rfl⟩
      rw [← hfk] at hc1 hc2 hsk HV
      clear hfk
      obtain ⟨nm, vl⟩ := f
      simp only at hc1 hc2 hsk HV
      cases hal : Pm.alike nm.data.toList name.data.toList
      · have HE := (show Hid _ from HV.out.2 hal)
        go_wp2_with (go_at_call 43; refine (rAlike_any _ _ _ hsk hn).mono ?_; rintro e w1 ⟨rfl, rfl⟩)
        exact ⟨⟨k + 1, by omega, by go_num, by rw [HE.out]; exact hown, hbw⟩, by simp [intOf]; omega⟩
      · have HE := (show Hid _ from HV.out.1 hal)
        go_wp2_with fail
        refine (rAlike_any _ _ _ hsk hn).mono ?_
        rintro e w1 ⟨rfl, hw1⟩
        rw [hal, hw1]
        have hbs := hbw.size
        clear hw1 w1 hal hc1 hsk
        go_wp2_with (at_builtin; refine wpList_append_own _ rfl _ _ 65 rfl w.heap.size 9 i0 (.string ⟨#[]⟩) 1 16 Tryz.underlying65 hi hz0 hz1 hz2 rfl (by decide) _ _ _ rfl (hown.alloc _) ⟨wr.heap.size, 0, none⟩ 1 1 [.string vl] rfl rfl ?c1 ?c2 ?c3 ?c4 ?c5 ?_)
        case c1 =>
          intro j u hj
          match j, hj with
          | 0, hj => simp at hj; subst hj; simp [Addr.add]
        case c2 => intro u hu; simp at hu; subst hu; rfl
        case c3 => unfold maxLen; omega
        case c4 => omega
        case c5 => have := hbw.size; simp; omega
        intro v' w2 hown' hgrow _
        have hb3 : Below w.heap.size w w2 := (hbw.alloc hbw.size _).grown hgrow (by have := hbw.size; simp; omega) (own_ge hown)
        clear hgrow
        go_wp2
        refine ⟨⟨k + 1, by omega, by go_num, ?_, hb3⟩, by simp [intOf]; omega⟩
        rw [HE.out, List.length_append, List.map_append]
        exact hown'
    · have HT : Hid (fs.take k = fs) := List.take_of_length_le (by omega)
      rw [HT.out] at hown
      obtain ⟨a', c', rfl, hst⟩ := StAt.of_owns hown
      go_wp2
      go_ret
      exact ⟨⟨a', c', rfl, hst⟩, hbw⟩
end Go.Proofs.YtnohadlihgjppaaGreatDoor
