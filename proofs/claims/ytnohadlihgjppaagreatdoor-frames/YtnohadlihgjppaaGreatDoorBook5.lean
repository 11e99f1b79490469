/- looks of a book that holds fields alone; Frame at any limits, the program's and the reference's; frames. -/
import Derived.Test.YtnohadlihgjppaaGreatDoorBook4
namespace Go.Proofs.YtnohadlihgjppaaGreatDoor
open Go.RowKit

set_option maxHeartbeats 1000000 in
theorem lookInts_none (bk : Nat) (w : World) (h : w.cell? ⟨bk, 0, none⟩ = some (.slice none 0 0)) :
    Calls Tryz.prog 13 #[.pointer (some ⟨bk, 0, none⟩)] w fun r w' => r = .returned (.bool true) ∧ w' = w := by
  go_enter Tryz.func13, Tryz.ntmps13
  go_wp2_with fail
  go_loop [3, 4, 5] (fun i _ _ => i = .int .i64 0) (fun _ _ _ => 0)
  case atStart => rfl
  case round =>
    obtain rfl := hrel
    go_wp2
    go_ret
    exact ⟨rfl, rfl⟩

set_option maxHeartbeats 1000000 in
theorem lookTexts_none (bk : Nat) (w : World) (h : w.cell? ⟨bk, 1, none⟩ = some (.slice none 0 0)) :
    Calls Tryz.prog 14 #[.pointer (some ⟨bk, 0, none⟩)] w fun r w' => r = .returned (.bool true) ∧ w' = w := by
  go_enter Tryz.func14, Tryz.ntmps14
  go_wp2_with fail
  go_loop [3, 4, 5] (fun i _ _ => i = .int .i64 0) (fun _ _ _ => 0)
  case atStart => rfl
  case round =>
    obtain rfl := hrel
    go_wp2
    go_ret
    exact ⟨rfl, rfl⟩

set_option maxHeartbeats 1000000 in
theorem lookParams_none (bk : Nat) (w : World) (h : w.cell? ⟨bk, 2, none⟩ = some (.slice none 0 0)) :
    Calls Tryz.prog 15 #[.pointer (some ⟨bk, 0, none⟩)] w fun r w' => r = .returned (.bool true) ∧ w' = w := by
  go_enter Tryz.func15, Tryz.ntmps15
  go_wp2_with fail
  go_loop [3, 4, 5] (fun i _ _ => i = .int .i64 0) (fun _ _ _ => 0)
  case atStart => rfl
  case round =>
    obtain rfl := hrel
    go_wp2
    go_ret
    exact ⟨rfl, rfl⟩

set_option maxHeartbeats 1000000 in
theorem looks_any (bk B : Nat) (vs : List Value) (V : Value) (w : World) (hbk : BkAt bk B vs V w) (hvs : vs.length ≤ 12) (hg : ∀ i (h : i < vs.length), Good bk V i vs[i] w) :
    Calls Tryz.prog 6 #[.pointer (some ⟨bk, 0, none⟩)] w fun r w' => r = .returned (.bool true) ∧ Below w.heap.size w w' := by
  have c0 : w.cell? ⟨bk, 0, none⟩ = some (.slice none 0 0) := by rw [Lib.cell_of_heap hbk.blk]; rfl
  have c1 : w.cell? ⟨bk, 1, none⟩ = some (.slice none 0 0) := by rw [Lib.cell_of_heap hbk.blk]; rfl
  have c2 : w.cell? ⟨bk, 2, none⟩ = some (.slice none 0 0) := by rw [Lib.cell_of_heap hbk.blk]; rfl
  have H1 := hid (lookInts_none bk w c0)
  have H2 := hid (lookTexts_none bk w c1)
  have H3 := hid (lookParams_none bk w c2)
  have H4 := hid (lookFields_any bk B vs V w hbk hvs hg)
  clear c0 c1 c2 hbk hg
  go_enter Tryz.func6, Tryz.ntmps6
  go_wp2_with fail
  refine H1.out.mono ?_
  rintro e w1 ⟨rfl, hw1⟩
  subst hw1
  go_wp2_with fail
  refine H2.out.mono ?_
  rintro e w2 ⟨rfl, hw2⟩
  subst hw2
  go_wp2_with fail
  refine H3.out.mono ?_
  rintro e w3 ⟨rfl, hw3⟩
  subst hw3
  go_wp2_with fail
  refine H4.out.mono ?_
  rintro e w4 ⟨rfl, hb4⟩
  clear H1 H2 H3 H4
  go_wp2
  go_ret
  exact ⟨rfl, hb4⟩

/- what Frame answers, at any limits -/
def frameG (l : List UInt8) (hd bd : Int) : FrameR := if 32 ≤ hd ∧ hd ≤ 500 ∧ 0 ≤ bd ∧ bd ≤ 200 then frameS l hd.toNat bd else frameBad 1
theorem frameS_flds (l : List UInt8) (hd : Nat) (bd : Int) : (frameS l hd bd).2.2.2.1.length ≤ hd := by
  unfold frameS
  have hf := headS_flds (hd + 1) true l hd [] [] [] 0
  generalize Pm.headS (hd + 1) true l hd [] [] [] 0 = H at *
  simp only
  split
  · exact Nat.zero_le _
  · rename_i h1
    split
    · exact Nat.zero_le _
    · split
      · exact Nat.zero_le _
      · have := (hf (by simpa using h1)).1
        simpa using this
theorem frameG_flds (l : List UInt8) (hd bd : Int) : (frameG l hd bd).2.2.2.1.length ≤ 500 ∧ ((frameG l hd bd).1 ≠ 0 → (frameG l hd bd).2.2.2.1 = []) := by
  unfold frameG
  by_cases h : 32 ≤ hd ∧ hd ≤ 500 ∧ 0 ≤ bd ∧ bd ≤ 200
  · rw [if_pos h]
    have h1 := frameS_flds l hd.toNat bd
    refine ⟨by omega, fun h2 => ?_⟩
    rw [frameS_bad _ _ _ h2]; rfl
  · rw [if_neg h]; exact ⟨Nat.zero_le _, fun _ => rfl⟩
def FrPost (FR : FrameR) (B : Nat) (r : Ending) (w' : World) : Prop :=
  ∃ v, r = .returned (.tuple #[.agg #[.string ⟨FR.2.1.toArray⟩, .string ⟨FR.2.2.1.toArray⟩, v, .string ⟨FR.2.2.2.2.1.toArray⟩], .int .i64 FR.2.2.2.2.2, .int .i64 FR.1]) ∧ w'.ownsRow B 61 2 v FR.2.2.2.1.length (flat FR.2.2.2.1)
theorem pFrameG_any (hd bd : Int) (s : ByteArray) (mx : Int) (w : World) (hs : s.size ≤ 281474976710656) (hm : w.cell? ⟨1, 0, none⟩ = some (.int .i64 mx)) :
    Calls Tryz.prog 8 #[.agg #[.int .i64 hd, .int .i64 bd], .string s] w fun r w' => FrPost (frameG s.data.toList hd bd) w.heap.size r w' ∧ Below w.heap.size w w' := by
  unfold frameG
  by_cases h : 32 ≤ hd ∧ hd ≤ 500 ∧ 0 ≤ bd ∧ bd ≤ 200
  · rw [if_pos h]
    obtain ⟨n, rfl⟩ : ∃ n : Nat, hd = n := ⟨hd.toNat, by omega⟩
    rw [Int.toNat_natCast]
    exact pFrame_any n bd s mx w (by omega) (by omega) (by omega) (by omega) (by omega) hm
  · rw [if_neg h]
    refine (pFrame_bad hd bd s w h).mono ?_
    rintro e w' ⟨rfl, hb⟩
    exact ⟨⟨.slice none 0 0, rfl, World.ownsRow_nil _ _ _ _⟩, hb⟩
theorem rFrameG_any (hd bd : Int) (s : ByteArray) (w : World) (hs : s.size ≤ 281474976710656) :
    Calls Tryz.prog 9 #[.agg #[.int .i64 hd, .int .i64 bd], .string s] w fun r w' => FrPost (frameG s.data.toList hd bd) w.heap.size r w' ∧ Below w.heap.size w w' := by
  unfold frameG
  by_cases h : 32 ≤ hd ∧ hd ≤ 500 ∧ 0 ≤ bd ∧ bd ≤ 200
  · rw [if_pos h]
    obtain ⟨n, rfl⟩ : ∃ n : Nat, hd = n := ⟨hd.toNat, by omega⟩
    rw [Int.toNat_natCast]
    exact rFrame_any n bd s w hs (by omega) (by omega) (by omega) (by omega)
  · rw [if_neg h]
    refine (rFrame_bad hd bd s w h).mono ?_
    rintro e w' ⟨rfl, hb⟩
    exact ⟨⟨.slice none 0 0, rfl, World.ownsRow_nil _ _ _ _⟩, hb⟩
end Go.Proofs.YtnohadlihgjppaaGreatDoor
