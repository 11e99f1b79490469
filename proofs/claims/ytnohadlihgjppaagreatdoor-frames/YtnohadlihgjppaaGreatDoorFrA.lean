/- Frames answers true at every argument. -/
import Derived.Test.YtnohadlihgjppaaGreatDoorBook6
namespace Go.Proofs.YtnohadlihgjppaaGreatDoor
open Go.RowKit

set_option maxRecDepth 100000 in
set_option maxHeartbeats 2000000 in
theorem frames_law (hd bd mx : Int) (s t : ByteArray) (w : World) (hs : s.size ≤ 281474976710656) (ht : t.size ≤ 281474976710656) (hm : w.cell? ⟨1, 0, none⟩ = some (.int .i64 mx)) :
    Calls Tryz.prog 3 #[.agg #[.int .i64 hd, .int .i64 bd], .string s, .string t] w fun e w' => e = .returned (.bool true) ∧ Below w.heap.size w w' := by
  have hml := block_lt_of_cell hm
  have hA0 := (Below.refl w.heap.size w).alloc (Nat.le_refl _) (.cells #[.int .i64 hd, .int .i64 bd] 23)
  have hm0 := cell_later hA0 hm
  have z0 : (w.alloc (.cells #[.int .i64 hd, .int .i64 bd] 23)).heap.size = w.heap.size + 1 := by simp
  have l0 : (w.alloc (.cells #[.int .i64 hd, .int .i64 bd] 23)).cell? ⟨w.heap.size, 0, none⟩ = some (.int .i64 hd) := by simp
  have l1 : (w.alloc (.cells #[.int .i64 hd, .int .i64 bd] 23)).cell? ⟨w.heap.size, 1, none⟩ = some (.int .i64 bd) := by simp
  have hB1 := (Below.refl (w.heap.size + 1) (w.alloc (.cells #[.int .i64 hd, .int .i64 bd] 23))).alloc (by rw [z0]; exact Nat.le_refl _) (.cells #[.slice none 0 0, .slice none 0 0, .slice none 0 0, .slice none 0 0] 30)
  have hbk : BkAt (w.heap.size + 1) (w.heap.size + 2) [] (.slice none 0 0) ((w.alloc (.cells #[.int .i64 hd, .int .i64 bd] 23)).alloc (.cells #[.slice none 0 0, .slice none 0 0, .slice none 0 0, .slice none 0 0] 30)) := by
    refine { blk := ?_, own := World.ownsRow_nil _ _ _ _, lt := by omega }
    have := heap_alloc_new (w.alloc (.cells #[.int .i64 hd, .int .i64 bd] 23)) (.cells #[.slice none 0 0, .slice none 0 0, .slice none 0 0, .slice none 0 0] 30)
    rw [z0] at this
    exact this
  have z1 : ((w.alloc (.cells #[.int .i64 hd, .int .i64 bd] 23)).alloc (.cells #[.slice none 0 0, .slice none 0 0, .slice none 0 0, .slice none 0 0] 30)).heap.size = w.heap.size + 2 := by simp
  have HA0 := hid hA0
  clear hA0 hm
  go_enter Tryz.func3, Tryz.ntmps3
  go_wp2_with fail
  generalize (w.alloc (.cells #[.int .i64 hd, .int .i64 bd] 23)).alloc (.cells #[.slice none 0 0, .slice none 0 0, .slice none 0 0, .slice none 0 0] 30) = w1 at *
  generalize w.alloc (.cells #[.int .i64 hd, .int .i64 bd] 23) = wb at *
  have hm1 := hB1.cell (p := ⟨1, 0, none⟩) (by show 1 < w.heap.size + 1; omega)
  rw [hm0] at hm1
  refine (frames_any (w.heap.size + 1) (w.heap.size + 2) (w.heap.size + 1) [] _ hd bd s mx wb w1 hbk (by simp) (by simp) (fun i h => absurd h (by simp)) hB1 (by omega) (Nat.le_refl _) (by omega) (by omega) hs hm1).mono ?_
  rintro e w2 ⟨rfl, vs2, V2, a2, b2, g2, hB2⟩
  have l02 := hB2.cell (p := ⟨w.heap.size, 0, none⟩) (by show w.heap.size < w.heap.size + 1; omega)
  have l12 := hB2.cell (p := ⟨w.heap.size, 1, none⟩) (by show w.heap.size < w.heap.size + 1; omega)
  rw [l0] at l02
  rw [l1] at l12
  have hm2 := hB2.cell (p := ⟨1, 0, none⟩) (by show 1 < w.heap.size + 1; omega)
  rw [hm0] at hm2
  have s2 := heap_lt b2.blk
  clear hbk hB1 hm1
  go_wp2_with fail
  refine (frames_any (w.heap.size + 1) (w.heap.size + 2) (w.heap.size + 1) vs2 V2 hd bd t mx wb w2 b2 (by simp at a2; omega) (by simp at a2; omega) g2 hB2 (by omega) (Nat.le_refl _) (by omega) (by omega) ht hm2).mono ?_
  rintro e w3 ⟨rfl, vs3, V3, a3, b3, g3, hB3⟩
  have l03 := hB3.cell (p := ⟨w.heap.size, 0, none⟩) (by show w.heap.size < w.heap.size + 1; omega)
  have l13 := hB3.cell (p := ⟨w.heap.size, 1, none⟩) (by show w.heap.size < w.heap.size + 1; omega)
  rw [l0] at l03
  rw [l1] at l13
  have hm3 := hB3.cell (p := ⟨1, 0, none⟩) (by show 1 < w.heap.size + 1; omega)
  rw [hm0] at hm3
  have s3 := heap_lt b3.blk
  clear b2 g2 hB2 l02 l12 hm2 s2
  go_wp2_with fail
  refine (frames_any (w.heap.size + 1) (w.heap.size + 2) (w.heap.size + 1) vs3 V3 hd bd s mx wb w3 b3 (by simp at a2; omega) (by simp at a2; omega) g3 hB3 (by omega) (Nat.le_refl _) (by omega) (by omega) hs hm3).mono ?_
  rintro e w4 ⟨rfl, vs4, V4, a4, b4, g4, hB4⟩
  clear b3 g3 hB3 l03 l13 hm3 s3
  go_wp2_with fail
  refine (looks_any _ _ vs4 V4 w4 b4 (by simp at a2; omega) g4).mono ?_
  rintro e w5 ⟨rfl, hb5⟩
  have s4 := heap_lt b4.blk
  have BL := hid (HA0.out.trans ((hB4.trans (hb5.mono (by omega))).mono (by omega)))
  clear b4 g4 hB4 hb5
  go_wp2
  go_ret
  exact ⟨rfl, BL.out⟩
end Go.Proofs.YtnohadlihgjppaaGreatDoor
