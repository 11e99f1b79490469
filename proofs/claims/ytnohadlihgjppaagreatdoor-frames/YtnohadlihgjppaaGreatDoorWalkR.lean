/- A reader's chunk: the error, the bytes, the new place, as the plain mathematics says; no other block turns. -/
import Derived.Test.YtnohadlihgjppaaGreatDoorWalkQ
namespace Go.Proofs.YtnohadlihgjppaaGreatDoor
open Go.RowKit


/- a chunk's bytes: the error, the bytes, how many are used up -/
def chunkS (l : List UInt8) (size : Nat) (room : Int) : Int × List UInt8 × Nat :=
  if room < size then (4, [], 0)
  else if l.length < size + 2 then (2, [], 0)
  else if Lib.hasSuffix (l.take (size + 2)) [13, 10] = true then (0, Lib.trimSuffix (l.take (size + 2)) [13, 10], size + 2)
  else (3, [], size + 2)

set_option maxHeartbeats 1000000 in
theorem chunk_any (b : Nat) (hd bd : Int) (s : ByteArray) (k n : Nat) (room : Int) (w : World) (hr : RdAt b hd bd s k w) (hs : s.size ≤ maxLen) (hk : k ≤ s.size) (hn : n ≤ 68719476736) :
    Calls Tryz.prog 80 #[.pointer (some ⟨b, 0, none⟩), .int .i64 n, .int .i64 room] w fun r w' =>
      r = .returned (.tuple #[.string ⟨(chunkS (s.data.toList.drop k) n room).2.1.toArray⟩, .int .i64 (chunkS (s.data.toList.drop k) n room).1]) ∧
      RdAt b hd bd s (k + (chunkS (s.data.toList.drop k) n room).2.2) w' ∧ Kp b w w' := by
  have HR : Hid (RdAt b hd bd s k w) := hr
  clear hr
  have hll : (s.data.toList.drop k).length = s.size - k := by simp
  by_cases h1 : room < n
  · have HS : Hid (chunkS (s.data.toList.drop k) n room = (4, [], 0)) := by unfold Hid chunkS; rw [if_pos h1]
    go_enter Tryz.func80, Tryz.ntmps80
    go_wp2
    go_ret2
    exact ⟨ret_strint (by rw [HS.out]) (by rw [HS.out]), by rw [HS.out]; exact HR.out, Kp.refl _ _⟩
  · by_cases h2 : s.size - k < n + 2
    · have HS : Hid (chunkS (s.data.toList.drop k) n room = (2, [], 0)) := by unfold Hid chunkS; rw [if_neg h1, if_pos (by rw [hll]; exact h2)]
      have hb := bytes_short b hd bd s k (n + 2) w HR.out hs hk h2 (by omega)
      rw [show ((n + 2 : Nat) : Int) = (n : Int) + 2 from by omega] at hb
      have HB := hid hb
      clear hb hll
      go_enter Tryz.func80, Tryz.ntmps80
      go_wp2_with fail
      refine HB.out.mono ?_
      rintro e w1 ⟨rfl, hr1, hk1⟩
      go_wp2
      go_ret2
      exact ⟨ret_strint (by rw [HS.out]) (by rw [HS.out]), by rw [HS.out]; exact hr1, hk1⟩
    · have hb := bytes_full b hd bd s k (n + 2) w HR.out hs hk (by omega) (by omega)
      rw [show ((n + 2 : Nat) : Int) = (n : Int) + 2 from by omega] at hb
      have HB := hid hb
      have hex : (s.extract k (k + (n + 2))).data.toList = (s.data.toList.drop k).take (n + 2) := by rw [Lib.extract_data, show k + (n + 2) - k = n + 2 from by omega]
      have hsx : (s.extract k (k + (n + 2))).size ≤ 9223372036854775807 := by unfold maxLen at hs; simp; omega
      clear hb
      cases h3 : Lib.hasSuffix ((s.data.toList.drop k).take (n + 2)) [13, 10]
      focus
        have HS : Hid (chunkS (s.data.toList.drop k) n room = (3, [], n + 2)) := by unfold Hid chunkS; rw [if_neg h1, if_neg (by rw [hll]; exact h2), if_neg (by rw [h3]; decide)]
        have HQ : Hid (Lib.hasSuffix (s.extract k (k + (n + 2))).data.toList [13, 10] = false) := by unfold Hid; rw [hex]; exact h3
      rotate_left
      focus
        have HS : Hid (chunkS (s.data.toList.drop k) n room = (0, Lib.trimSuffix ((s.data.toList.drop k).take (n + 2)) [13, 10], n + 2)) := by unfold Hid chunkS; rw [if_neg h1, if_neg (by rw [hll]; exact h2), if_pos h3]
        have HQ : Hid (Lib.hasSuffix (s.extract k (k + (n + 2))).data.toList [13, 10] = true) := by unfold Hid; rw [hex]; exact h3
      all_goals
        clear hll hex h3
        go_enter Tryz.func80, Tryz.ntmps80
        go_wp2_with fail
        refine HB.out.mono ?_
        rintro e w1 ⟨rfl, hr1, hk1⟩
        go_wp2_with fail
        refine (Tryz.strings_CutSuffix _ _ _ hsx).mono ?_
        rintro e w2 ⟨rfl, rfl⟩
        rw [show (⟨#[13, 10]⟩ : ByteArray).data.toList = [13, 10] from rfl, HQ.out]
        go_wp2
        go_ret2
        exact ⟨ret_strint (by rw [HS.out]) (by rw [HS.out]), by rw [HS.out]; exact hr1, hk1⟩
end Go.Proofs.YtnohadlihgjppaaGreatDoor
