/- The program's fields and copies of texts: each call answers what the plain mathematics says; nothing old in memory turns. -/
import Derived.Test.YtnohadlihgjppaaGreatDoorWalkI
namespace Go.Proofs.YtnohadlihgjppaaGreatDoor
open Go.RowKit

set_option maxHeartbeats 400000 in
theorem clone_any (s : ByteArray) (w : World) (hs : s.size ≤ 281474976710656) :
    Calls Tryz.prog 82 #[.string s] w fun e w' => e = .returned (.string s) ∧ Below w.heap.size w w' := by
  go_enter Tryz.func82, Tryz.ntmps82
  go_wp2_with (go_at_call 101; refine (Tryz.stringslite_Clone _ _ hs).mono ?_; rintro e w1 ⟨rfl, hb1⟩)
  go_ret
  exact ⟨rfl, hb1⟩

theorem trim_any (s : ByteArray) (w : World) (hs : s.size ≤ maxLen) :
    Calls Tryz.prog 89 #[.string s, .string ⟨#[32, 9]⟩] w fun e w' => e = .returned (.string ⟨(Lib.trimS s.data.toList Pm.blanks).toArray⟩) ∧ Below w.heap.size w w' :=
  Tryz.strings_Trim_laid s ⟨#[32, 9]⟩ w (by unfold maxLen at hs; omega) (by decide) (ascii_of_all (by decide))

theorem bcell {W w1 : World} (hb : Below W.heap.size W w1) : (∀ b o, b < W.heap.size → w1.cell? ⟨b, o, none⟩ = W.cell? ⟨b, o, none⟩) ∧ (∀ b o, b < W.heap.size → w1.frozen? ⟨b, o, none⟩ = W.frozen? ⟨b, o, none⟩) :=
  ⟨fun b o h => hb.cell (p := ⟨b, o, none⟩) h, fun b o h => hb.frozen (p := ⟨b, o, none⟩) h⟩

theorem bel_of {w W w3 : World} (h1 : Below w.heap.size w W) (h3 : Below W.heap.size W w3) : Below w.heap.size w w3 := h1.trans (h3.mono h1.size)
theorem field_eq {n v : ByteArray} (h1 : Pm.isTok n.data.toList = true) (h2 : Pm.allP Pm.valB v.data.toList = true) :
    (Lib.trimS v.data.toList Pm.blanks == v.toList) = Pm.isField n.data.toList v.data.toList := by
  unfold Pm.isField Pm.isValue; rw [h1, h2, ByteArray.toList_eq]; rfl

set_option maxHeartbeats 800000 in
theorem wIsField_any (n v : ByteArray) (w : World) (hn : n.size ≤ maxLen) (hv : v.size ≤ maxLen) :
    Calls Tryz.prog 67 #[.agg #[.string n, .string v]] w fun e w' => e = .returned (.bool (Pm.isField n.data.toList v.data.toList)) ∧ Below w.heap.size w w' := by
  cases h1 : Pm.isTok n.data.toList
  · go_enter Tryz.func67, Tryz.ntmps67
    go_wp2
    go_quiet ((go_at_call 83; exact Calls.quiet_of_same (wIsToken_any _ _ hn)))
    go_wp2
    go_ret
    exact ⟨ret_bool (by unfold Pm.isField; rw [h1]; rfl), below_drewN ((Below.refl _ _).alloc (Nat.le_refl _) _) _⟩
  · cases h2 : Pm.allP Pm.valB v.data.toList
    · go_enter Tryz.func67, Tryz.ntmps67
      go_wp2
      go_quiet ((first | (go_at_call 83; exact Calls.quiet_of_same (wIsToken_any _ _ hn)) | (go_at_call 86; exact Calls.quiet_of_same (allVal_any _ _ hv))))
      go_wp2
      go_ret
      exact ⟨ret_bool (by unfold Pm.isField Pm.isValue; rw [h1, h2]; rfl), below_drewN ((Below.refl _ _).alloc (Nat.le_refl _) _) _⟩
    · go_enter Tryz.func67, Tryz.ntmps67
      go_wp2
      go_region_with (first | (go_at_call 83; refine (wIsToken_any _ _ hn).mono ?_; rintro e w1 ⟨rfl, rfl⟩) | (go_at_call 86; refine (allVal_any _ _ hv).mono ?_; rintro e w2 ⟨rfl, rfl⟩) | (go_at_call 89; refine (trim_any _ _ hv).mono ?_; rintro e w3 ⟨rfl, hb3⟩; obtain ⟨hc3, hf3⟩ := bcell hb3))
      all_goals
        go_wp2
        go_ret
        refine ⟨ret_bool ?_, bel_of ((Below.refl _ _).alloc (Nat.le_refl _) _).drew hb3⟩
        exact field_eq h1 h2
end Go.Proofs.YtnohadlihgjppaaGreatDoor
