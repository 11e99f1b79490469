/- Texts that follow one another, joined. -/
import Derived.Test.YtpfendckgeoonaaGreatDoorJoin22
import Derived.Test.YtpfendckgeoonaaGreatDoorJoin09
/- Add where the method or the pattern is none; the words of a configuration; nothing old in memory turns. -/
namespace Go.Proofs.YtpfendckgeoonaaGreatDoor
open Go.RowKit

set_option maxRecDepth 100000 in
set_option maxHeartbeats 1000000 in
theorem tAdd_arg (p : Value) (m s : ByteArray) (w : World) (hmm : Pm.isMethod m.data.toList = false) (hms : m.size ≤ maxLen) :
    Calls Tryz.prog 25 #[p, .string m, .string s] w fun r w' => r = .returned (.tuple #[.int .i64 0, .int .i64 1]) ∧ Below w.heap.size w w' := by
  have HIM := hid (fun W => wIsMethod_any m W hms)
  rw [hmm] at HIM
  go_enter Tryz.func25, Tryz.ntmps25
  go_wp2_with fail
  refine (HIM.out _).mono ?_
  rintro e w1 ⟨rfl, hw1⟩
  subst hw1
  go_wp2
  go_ret2
  exact ⟨rfl, Below.refl _ _⟩
set_option maxRecDepth 100000 in
set_option maxHeartbeats 1000000 in
theorem tAdd_pat (p : Value) (m s : ByteArray) (mx : Int) (w : World) (hmm : Pm.isMethod m.data.toList = true) (hms : m.size ≤ maxLen) (hp : patternOf s.data.toList = none) (hs : s.size ≤ 281474976710656) (hm : w.cell? ⟨0, 0, none⟩ = some (.int .i64 mx)) :
    Calls Tryz.prog 25 #[p, .string m, .string s] w fun r w' => r = .returned (.tuple #[.int .i64 0, .int .i64 8]) ∧ Below w.heap.size w w' := by
  have HIM := hid (fun W => wIsMethod_any m W hms)
  rw [hmm] at HIM
  have HRP := hid (readPattern_any s mx w hs hm)
  rw [hp] at HRP
  clear hm
  go_enter Tryz.func25, Tryz.ntmps25
  go_wp2_with fail
  refine (HIM.out _).mono ?_
  rintro e w1 ⟨rfl, hw1⟩
  have hw2 := hw1.symm
  subst hw2
  clear hw1
  go_wp2_with fail
  refine HRP.out.mono ?_
  rintro e w2 ⟨he, hB2⟩
  obtain rfl : e = .returned (.tuple #[.slice none 0 0, .int .i64 8]) := he
  go_wp2
  go_ret2
  exact ⟨rfl, hB2⟩
end Go.Proofs.YtpfendckgeoonaaGreatDoor

/- The words of a configuration: labels, handlers, wares; nothing old in memory turns. -/
namespace Go.Proofs.YtpfendckgeoonaaGreatDoor
open Go.RowKit

def labB (l : List UInt8) : Bool := Pm.isTok l && (!(Pm.alike l [67, 111, 110, 116, 101, 110, 116, 45, 76, 101, 110, 103, 116, 104]) && (!(Pm.alike l [84, 114, 97, 110, 115, 102, 101, 114, 45, 69, 110, 99, 111, 100, 105, 110, 103]) && !(Pm.alike l [67, 111, 110, 110, 101, 99, 116, 105, 111, 110])))
set_option maxRecDepth 100000 in
set_option maxHeartbeats 1000000 in
theorem isLabel_any (s : ByteArray) (w : World) (hs : s.size ≤ maxLen) :
    Calls Tryz.prog 47 #[.string s] w fun e w' => e = .returned (.bool (labB s.data.toList)) ∧ Below w.heap.size w w' := by
  have HT := hid (fun W => wIsToken_any s W hs)
  have H1 : Hid (∀ W, Calls Tryz.prog 67 #[.string s, .string ⟨#[67, 111, 110, 116, 101, 110, 116, 45, 76, 101, 110, 103, 116, 104]⟩] W fun e w' => e = .returned (.bool (Pm.alike s.data.toList [67, 111, 110, 116, 101, 110, 116, 45, 76, 101, 110, 103, 116, 104])) ∧ Below W.heap.size W w') := fun W => wAlike_any s ⟨#[67, 111, 110, 116, 101, 110, 116, 45, 76, 101, 110, 103, 116, 104]⟩ W hs
  have H2 : Hid (∀ W, Calls Tryz.prog 67 #[.string s, .string ⟨#[84, 114, 97, 110, 115, 102, 101, 114, 45, 69, 110, 99, 111, 100, 105, 110, 103]⟩] W fun e w' => e = .returned (.bool (Pm.alike s.data.toList [84, 114, 97, 110, 115, 102, 101, 114, 45, 69, 110, 99, 111, 100, 105, 110, 103])) ∧ Below W.heap.size W w') := fun W => wAlike_any s ⟨#[84, 114, 97, 110, 115, 102, 101, 114, 45, 69, 110, 99, 111, 100, 105, 110, 103]⟩ W hs
  have H3 : Hid (∀ W, Calls Tryz.prog 67 #[.string s, .string ⟨#[67, 111, 110, 110, 101, 99, 116, 105, 111, 110]⟩] W fun e w' => e = .returned (.bool (Pm.alike s.data.toList [67, 111, 110, 110, 101, 99, 116, 105, 111, 110])) ∧ Below W.heap.size W w') := fun W => wAlike_any s ⟨#[67, 111, 110, 110, 101, 99, 116, 105, 111, 110]⟩ W hs
  unfold labB
  generalize Pm.isTok s.data.toList = b0 at *
  generalize Pm.alike s.data.toList [67, 111, 110, 116, 101, 110, 116, 45, 76, 101, 110, 103, 116, 104] = b1 at *
  generalize Pm.alike s.data.toList [84, 114, 97, 110, 115, 102, 101, 114, 45, 69, 110, 99, 111, 100, 105, 110, 103] = b2 at *
  generalize Pm.alike s.data.toList [67, 111, 110, 110, 101, 99, 116, 105, 111, 110] = b3 at *
  go_enter Tryz.func47, Tryz.ntmps47
  go_wp2_with fail
  refine (HT.out _).mono ?_
  rintro e w1 ⟨rfl, hw1⟩
  subst hw1
  cases b0
  · go_wp2
    go_ret
    exact ⟨rfl, Below.refl _ _⟩
  · go_wp2_with fail
    refine (H1.out _).mono ?_
    rintro e w2 ⟨rfl, hb2⟩
    cases b1
    · go_wp2_with fail
      refine (H2.out _).mono ?_
      rintro e w3 ⟨rfl, hb3⟩
      have hB3 := bel_of hb2 hb3
      cases b2
      · go_wp2_with fail
        refine (H3.out _).mono ?_
        rintro e w4 ⟨rfl, hb4⟩
        have hB4 := bel_of hB3 hb4
        cases b3
        all_goals
          go_wp2
          go_ret
          exact ⟨rfl, hB4⟩
      · go_wp2
        go_ret
        exact ⟨rfl, hB3⟩
    · go_wp2
      go_ret
      exact ⟨rfl, hb2⟩
end Go.Proofs.YtpfendckgeoonaaGreatDoor
