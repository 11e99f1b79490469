/- The first line of a head: the error, the method, the target, as the plain mathematics says; nothing old in memory turns. -/
import Derived.Test.YtnohadlihgjppaaGreatDoorWalkL
namespace Go.Proofs.YtnohadlihgjppaaGreatDoor
open Go.RowKit

theorem ret_first {k : IntKind} {a b c d : ByteArray} {x y : Int} (h : a = b) (h' : c = d) (hx : x = y) : Ending.returned (.tuple #[.string a, .string c, .int k x]) = .returned (.tuple #[.string b, .string d, .int k y]) := by rw [h, h', hx]

set_option maxHeartbeats 1000000 in
theorem firstLine_any (s : ByteArray) (m : Int) (w : World) (hs : s.size < 4294967281) (hm : w.cell? ⟨1, 0, none⟩ = some (.int .i64 m)) :
    Calls Tryz.prog 74 #[.string s] w fun e w' => e = .returned (.tuple #[.string ⟨(Pm.firstS s.data.toList).2.1.toArray⟩, .string ⟨(Pm.firstS s.data.toList).2.2.toArray⟩, .int .i64 (Pm.firstS s.data.toList).1]) ∧ Below w.heap.size w w' := by
  have hl := Pm.partsB_length s
  have hle : ∀ x, x ∈ Pm.partsB s → x.size ≤ s.size := fun x h => Pm.partsB_le h
  by_cases h3 : (Pm.partsB s).length = 3
  · obtain ⟨a, b, c, hp⟩ : ∃ a b c, Pm.partsB s = [a, b, c] := by
      match hq : Pm.partsB s, h3 with
      | [a, b, c], _ => exact ⟨a, b, c, rfl⟩
    have HF : Hid _ := Pm.firstS_three hp
    have ha := hle a (by rw [hp]; simp)
    have hb := hle b (by rw [hp]; simp)
    have hc := hle c (by rw [hp]; simp)
    have hcnt : Lib.countB s ⟨#[32]⟩ = 2 := by omega
    clear hle h3 hl
    go_enter Tryz.func74, Tryz.ntmps74
    go_wp2_with fail
    refine (Tryz.strings_Split _ _ m _ hs hm (by decide)).mono ?_
    rintro e w1 ⟨rfl, hw1⟩
    rw [hcnt, show Lib.splitB ⟨#[32]⟩ 0 2 s = [a, b, c] from by rw [← hcnt]; exact hp] at hw1
    rw [hcnt]
    subst hw1
    clear hp hcnt
    have hma : a.size ≤ maxLen := by unfold maxLen; omega
    have hmb : b.size ≤ 140737488355328 := by omega
    have hka : a.size ≤ 281474976710656 := by omega
    have hkb : b.size ≤ 281474976710656 := by omega
    clear ha hb hc
    cases h1 : Pm.isMethod a.data.toList
    · rw [h1, Bool.false_and, if_neg (by decide)] at HF
      go_wp2_with (go_at_call 65; refine (wIsMethod_any _ _ hma).mono ?_; rintro e w2 ⟨rfl, rfl⟩)
      go_ret3
      exact ⟨ret_first (by rw [HF.out]) (by rw [HF.out]) (by rw [HF.out]), (Below.refl _ _).alloc (Nat.le_refl _) _⟩
    · rw [h1, Bool.true_and] at HF
      cases h2 : Pm.isTarget b.data.toList
      · rw [h2, Bool.false_and, if_neg (by decide)] at HF
        go_wp2_with (first | (go_at_call 65; refine (wIsMethod_any _ _ hma).mono ?_; rintro e w2 ⟨rfl, rfl⟩) | (go_at_call 66; refine (wIsTarget_any _ _ hmb).mono ?_; rintro e w3 ⟨rfl, hb3⟩))
        go_ret3
        exact ⟨ret_first (by rw [HF.out]) (by rw [HF.out]) (by rw [HF.out]), bel_of ((Below.refl _ _).alloc (Nat.le_refl _) _) hb3⟩
      · rw [h2, Bool.true_and] at HF
        cases h4 : Pm.isVersion c.data.toList
        · rw [h4, if_neg (by decide)] at HF
          go_wp2_with (first | (go_at_call 65; refine (wIsMethod_any _ _ hma).mono ?_; rintro e w2 ⟨rfl, rfl⟩) | (go_at_call 66; refine (wIsTarget_any _ _ hmb).mono ?_; rintro e w3 ⟨rfl, hb3⟩; obtain ⟨hc3, hf3⟩ := bcell hb3; have p0 := cell_later hb3 (a := ⟨w.heap.size, 0, none⟩) (v := .string a) (by simp); have p1 := cell_later hb3 (a := ⟨w.heap.size, 1, none⟩) (v := .string b) (by simp); have hz3 : w.heap.size < w3.heap.size := by (have := hb3.size; (try simp at this); omega)) | (go_at_call 97; refine (wIsVersion_any _ _).mono ?_; rintro e w4 ⟨rfl, rfl⟩))
          go_ret3
          exact ⟨ret_first (by rw [HF.out]) (by rw [HF.out]) (by rw [HF.out]), bel_of ((Below.refl _ _).alloc (Nat.le_refl _) _) hb3⟩
        · rw [h4, if_pos rfl] at HF
          by_cases h5 : c.data.toList = Pm.http11
          · rw [if_pos h5] at HF
            have h6 : (c.toList == [72, 84, 84, 80, 47, 49, 46, 49]) = true := by rw [ByteArray.toList_eq, h5]; rfl
            clear h5
            go_wp2_with (first | (go_at_call 65; refine (wIsMethod_any _ _ hma).mono ?_; rintro e w2 ⟨rfl, rfl⟩) | (go_at_call 66; refine (wIsTarget_any _ _ hmb).mono ?_; rintro e w3 ⟨rfl, hb3⟩; obtain ⟨hc3, hf3⟩ := bcell hb3; have p0 := cell_later hb3 (a := ⟨w.heap.size, 0, none⟩) (v := .string a) (by simp); have p1 := cell_later hb3 (a := ⟨w.heap.size, 1, none⟩) (v := .string b) (by simp); have hz3 : w.heap.size < w3.heap.size := by (have := hb3.size; (try simp at this); omega)) | (go_at_call 97; refine (wIsVersion_any _ _).mono ?_; rintro e w4 ⟨rfl, rfl⟩))
            go_region_with (first | (go_at_call_of 82 (Value.string a); refine (clone_any _ _ hka).mono ?_; rintro e w5 ⟨rfl, hb5⟩; have r1 := cell_later hb5 p1) | (go_at_call_of 82 (Value.string b); refine (clone_any _ _ hkb).mono ?_; rintro e w6 ⟨rfl, hb6⟩))
            all_goals
              go_wp2
              go_ret3
              exact ⟨ret_first (by rw [HF.out]) (by rw [HF.out]) (by rw [HF.out]), bel_of (bel_of (bel_of ((Below.refl _ _).alloc (Nat.le_refl _) _) hb3).drew hb5) hb6⟩
          · rw [if_neg h5] at HF
            have h6 : (c.toList == [72, 84, 84, 80, 47, 49, 46, 49]) = false := by
              rw [ByteArray.toList_eq, beq_eq_false_iff_ne]; exact h5
            clear h5
            go_wp2_with (first | (go_at_call 65; refine (wIsMethod_any _ _ hma).mono ?_; rintro e w2 ⟨rfl, rfl⟩) | (go_at_call 66; refine (wIsTarget_any _ _ hmb).mono ?_; rintro e w3 ⟨rfl, hb3⟩; obtain ⟨hc3, hf3⟩ := bcell hb3; have p0 := cell_later hb3 (a := ⟨w.heap.size, 0, none⟩) (v := .string a) (by simp); have p1 := cell_later hb3 (a := ⟨w.heap.size, 1, none⟩) (v := .string b) (by simp); have hz3 : w.heap.size < w3.heap.size := by (have := hb3.size; (try simp at this); omega)) | (go_at_call 97; refine (wIsVersion_any _ _).mono ?_; rintro e w4 ⟨rfl, rfl⟩))
            go_ret3
            exact ⟨ret_first (by rw [HF.out]) (by rw [HF.out]) (by rw [HF.out]), bel_of ((Below.refl _ _).alloc (Nat.le_refl _) _) hb3⟩
  · have HF : Hid _ := Pm.firstS_len h3
    have hne : ((Lib.countB s ⟨#[32]⟩ : Int) + 1 != 3) = true := by rw [bne_iff_ne]; omega
    clear hle h3 hl
    go_enter Tryz.func74, Tryz.ntmps74
    go_wp2_with (go_at_call 96; refine (Tryz.strings_Split _ _ m _ hs hm (by decide)).mono ?_; rintro e w1 ⟨rfl, rfl⟩)
    go_ret3
    exact ⟨ret_first (by rw [HF.out]) (by rw [HF.out]) (by rw [HF.out]), (Below.refl _ _).alloc (Nat.le_refl _) _⟩
end Go.Proofs.YtnohadlihgjppaaGreatDoor
