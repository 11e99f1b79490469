/- Texts that follow one another, joined. -/
import Derived.Test.YtnohadlihgjppaaDoorJoin12
/- A reader's bytes, size and chunk: the error, what is read, the new place, as the plain mathematics says; no other block turns. -/
namespace Go.Proofs.YtnohadlihgjppaaDoor
open Go.RowKit

set_option maxHeartbeats 1000000 in
theorem bytes_short (b : Nat) (hd bd : Int) (s : ByteArray) (k n : Nat) (w : World) (hr : RdAt b hd bd s k w) (_hs : s.size ≤ maxLen) (hk : k ≤ s.size) (hn : s.size - k < n) (hn2 : n ≤ 4611686018427387904) :
    Calls Tryd.prog 48 #[.pointer (some ⟨b, 0, none⟩), .int .i64 n] w fun r w' =>
      r = .returned (.tuple #[.string ⟨#[]⟩, .int .i64 2]) ∧ RdAt b hd bd s k w' ∧ Kp b w w' := by
  obtain ⟨c0, c1, c2, c3⟩ := hr.cell
  have HR : Hid (RdAt b hd bd s k w) := hr
  clear hr
  unfold maxLen at _hs
  have hlt : (s.size : Int) - (k : Int) < (n : Int) := by omega
  go_enter Tryd.func48, Tryd.ntmps48
  go_wp2
  go_quiet (fail)
  go_wp2
  go_ret2
  exact ⟨rfl, HR.out.below (below_drewN (Below.refl _ _) _), Kp.of (below_drewN (Below.refl _ _) _)⟩

set_option maxHeartbeats 1000000 in
theorem bytes_full (b : Nat) (hd bd : Int) (s : ByteArray) (k n : Nat) (w : World) (hr : RdAt b hd bd s k w) (hs : s.size ≤ maxLen) (hk : k ≤ s.size) (hn : n ≤ s.size - k) (hn2 : n ≤ 281474976710656) :
    Calls Tryd.prog 48 #[.pointer (some ⟨b, 0, none⟩), .int .i64 n] w fun r w' =>
      r = .returned (.tuple #[.string (s.extract k (k + n)), .int .i64 0]) ∧ RdAt b hd bd s (k + n) w' ∧ Kp b w w' := by
  obtain ⟨c0, c1, c2, c3⟩ := hr.cell
  have cf := hr.free 3
  have HR : Hid (RdAt b hd bd s k w) := hr
  clear hr
  unfold maxLen at hs
  have hlt : ¬ (s.size : Int) - (k : Int) < (n : Int) := by omega
  go_enter Tryd.func48, Tryd.ntmps48
  go_wp2
  go_quiet (fail)
  go_wp2
  have HM : Hid (RdAt b hd bd s (k + n) ((w.drewN nq).setCell ⟨b, 3, none⟩ (.int .i64 ((k : Int) + (n : Int))))) := by
    have := (HR.out.below (below_drewN (Below.refl _ _) nq)).move (k + n)
    rw [show ((k + n : Nat) : Int) = (k : Int) + (n : Int) from by omega] at this
    exact this
  have HK : Hid (Kp b w ((w.drewN nq).setCell ⟨b, 3, none⟩ (.int .i64 ((k : Int) + (n : Int))))) := (Kp.of (below_drewN (Below.refl _ _) _)).trans (Kp.set b 3 _ _)
  clear c0 c1 c2 c3 cf HR
  generalize (w.drewN nq).setCell ⟨b, 3, none⟩ (.int .i64 ((k : Int) + (n : Int))) = W at *
  obtain ⟨_, _, c2, c3⟩ := HM.out.cell
  rw [show ((k + n : Nat) : Int) = (k : Int) + (n : Int) from by omega] at c3
  have hkn : (k : Int) + (n : Int) ≤ (s.size : Int) := by omega
  have hkn2 : k + n ≤ s.size := by omega
  have hw : IntKind.i64.wrap (k : Int) = (k : Int) := by simp [IntKind.wrap, IntKind.bits, IntKind.signed]; omega
  go_region_with (go_at_call 76; refine (clone_any _ _ ?_).mono ?_; (simp; omega); rintro e w1 ⟨rfl, hb1⟩)
  all_goals
    go_wp2
    go_ret2
    exact ⟨rfl, HM.out.below (bel_of (Below.refl _ _).drew hb1), HK.out.trans (Kp.of (bel_of (Below.refl _ _).drew hb1))⟩

def sizeN (l : List UInt8) : Int := if (Pm.lineS l 10 3).1 = 0 then Pm.numN 16 8 (Pm.lineS l 10 3).2.1 else 0
def sizeE (l : List UInt8) : Int := if (Pm.lineS l 10 3).1 = 0 then (if Pm.numE 16 8 (Pm.lineS l 10 3).2.1 = 0 then 0 else 3) else (Pm.lineS l 10 3).1

set_option maxHeartbeats 1000000 in
theorem size_any (b : Nat) (hd bd : Int) (s : ByteArray) (k : Nat) (w : World) (hr : RdAt b hd bd s k w) (hs : s.size ≤ 1152921504606846976) (hk : k ≤ s.size) (hx : (Pm.lineS (s.data.toList.drop k) 10 3).2.1.length ≤ maxLen) :
    Calls Tryd.prog 73 #[.pointer (some ⟨b, 0, none⟩)] w fun r w' =>
      r = .returned (.tuple #[.int .i64 (sizeN (s.data.toList.drop k)), .int .i64 (sizeE (s.data.toList.drop k))]) ∧
      RdAt b hd bd s (k + (Pm.lineS (s.data.toList.drop k) 10 3).2.2) w' ∧ Kp b w w' := by
  obtain ⟨c0, c1, c2, c3⟩ := hr.cell
  have HR : Hid (RdAt b hd bd s k w) := hr
  clear hr
  have hs2 : s.size ≤ maxLen := by unfold maxLen; omega
  go_enter Tryd.func73, Tryd.ntmps73
  go_wp2_with fail
  have hl := line_any b hd bd s k (k + 10) 3 w HR.out hs2 hk (by omega) (by omega)
  rw [show k + 10 - k = 10 from by omega, show ((k + 10 : Nat) : Int) = (k : Int) + 10 from by omega] at hl
  refine hl.mono ?_
  rintro e w1 ⟨rfl, hr1, hk1⟩
  clear hl
  have HX : Hid (RdAt b hd bd s (k + (Pm.lineS (s.data.toList.drop k) 10 3).2.2) w1) := hr1
  have hxs : (⟨(Pm.lineS (s.data.toList.drop k) 10 3).2.1.toArray⟩ : ByteArray).size ≤ maxLen := by simpa [ByteArray.size] using hx
  clear hr1 c0 c1 c2 c3
  have HN : Hid (sizeN (s.data.toList.drop k) = if (Pm.lineS (s.data.toList.drop k) 10 3).1 = 0 then Pm.numN 16 8 (Pm.lineS (s.data.toList.drop k) 10 3).2.1 else 0) := rfl
  have HE : Hid (sizeE (s.data.toList.drop k) = if (Pm.lineS (s.data.toList.drop k) 10 3).1 = 0 then (if Pm.numE 16 8 (Pm.lineS (s.data.toList.drop k) 10 3).2.1 = 0 then 0 else 3) else (Pm.lineS (s.data.toList.drop k) 10 3).1) := rfl
  have HX2 : Hid (Calls Tryd.prog 100 #[.string ⟨(Pm.lineS (s.data.toList.drop k) 10 3).2.1.toArray⟩] w1 fun e w' => e = .returned (.tuple #[.int .i64 (Pm.numN 16 8 (Pm.lineS (s.data.toList.drop k) 10 3).2.1), .int .i64 (Pm.numE 16 8 (Pm.lineS (s.data.toList.drop k) 10 3).2.1)]) ∧ w' = w1) := wHex_any _ _ hxs
  clear hxs hx
  by_cases h0 : (Pm.lineS (s.data.toList.drop k) 10 3).1 = 0
  · rw [if_pos h0] at HN HE
    by_cases hE : Pm.numE 16 8 (Pm.lineS (s.data.toList.drop k) 10 3).2.1 = 0
    · rw [if_pos hE] at HE
      go_wp2_with fail
      refine HX2.out.mono ?_
      rintro e w2 ⟨rfl, rfl⟩
      go_wp2
      go_ret2
      exact ⟨ret_two HN.out.symm HE.out.symm, HX.out, hk1⟩
    · rw [if_neg hE] at HE
      have hE1 : Pm.numE 16 8 (Pm.lineS (s.data.toList.drop k) 10 3).2.1 = 1 ∧ Pm.numN 16 8 (Pm.lineS (s.data.toList.drop k) 10 3).2.1 = 0 := by
        unfold Pm.numE at hE ⊢; unfold Pm.numN; split
        · rename_i h; rw [if_pos h] at hE; exact absurd rfl hE
        · exact ⟨rfl, rfl⟩
      rw [hE1.2] at HN
      obtain ⟨hE2, _⟩ := hE1
      clear hE
      go_wp2_with fail
      refine HX2.out.mono ?_
      rintro e w2 ⟨rfl, rfl⟩
      go_wp2
      go_ret2
      exact ⟨ret_two HN.out.symm HE.out.symm, HX.out, hk1⟩
  · rw [if_neg h0] at HN HE
    have hne : ((Pm.lineS (s.data.toList.drop k) 10 3).1 != 0) = true := by rw [bne_iff_ne]; exact h0
    clear h0
    go_wp2
    go_ret2
    exact ⟨ret_two HN.out.symm HE.out.symm, HX.out, hk1⟩

end Go.Proofs.YtnohadlihgjppaaDoor

/- A reader's chunk: the error, the bytes, the new place, as the plain mathematics says; no other block turns. -/
namespace Go.Proofs.YtnohadlihgjppaaDoor
open Go.RowKit


/- a chunk's bytes: the error, the bytes, how many are used up -/
def chunkS (l : List UInt8) (size : Nat) (room : Int) : Int × List UInt8 × Nat :=
  if room < size then (4, [], 0)
  else if l.length < size + 2 then (2, [], 0)
  else if Lib.hasSuffix (l.take (size + 2)) [13, 10] = true then (0, Lib.trimSuffix (l.take (size + 2)) [13, 10], size + 2)
  else (3, [], size + 2)

set_option maxHeartbeats 1000000 in
theorem chunk_any (b : Nat) (hd bd : Int) (s : ByteArray) (k n : Nat) (room : Int) (w : World) (hr : RdAt b hd bd s k w) (hs : s.size ≤ maxLen) (hk : k ≤ s.size) (hn : n ≤ 68719476736) :
    Calls Tryd.prog 74 #[.pointer (some ⟨b, 0, none⟩), .int .i64 n, .int .i64 room] w fun r w' =>
      r = .returned (.tuple #[.string ⟨(chunkS (s.data.toList.drop k) n room).2.1.toArray⟩, .int .i64 (chunkS (s.data.toList.drop k) n room).1]) ∧
      RdAt b hd bd s (k + (chunkS (s.data.toList.drop k) n room).2.2) w' ∧ Kp b w w' := by
  have HR : Hid (RdAt b hd bd s k w) := hr
  clear hr
  have hll : (s.data.toList.drop k).length = s.size - k := by simp
  by_cases h1 : room < n
  · have HS : Hid (chunkS (s.data.toList.drop k) n room = (4, [], 0)) := by unfold Hid chunkS; rw [if_pos h1]
    go_enter Tryd.func74, Tryd.ntmps74
    go_wp2
    go_ret2
    exact ⟨ret_strint (by rw [HS.out]) (by rw [HS.out]), by rw [HS.out]; exact HR.out, Kp.refl _ _⟩
  · by_cases h2 : s.size - k < n + 2
    · have HS : Hid (chunkS (s.data.toList.drop k) n room = (2, [], 0)) := by unfold Hid chunkS; rw [if_neg h1, if_pos (by rw [hll]; exact h2)]
      have hb := bytes_short b hd bd s k (n + 2) w HR.out hs hk h2 (by omega)
      rw [show ((n + 2 : Nat) : Int) = (n : Int) + 2 from by omega] at hb
      have HB := hid hb
      clear hb hll
      go_enter Tryd.func74, Tryd.ntmps74
      go_wp2_with fail
      refine HB.out.mono ?_
      rintro e w1 ⟨rfl, hr1, hk1⟩
      go_wp2
      go_ret2
      exact ⟨ret_strint (by rw [HS.out]) (by rw [HS.out]), by rw [HS.out]; exact hr1, hk1⟩
    · have hb := bytes_full b hd bd s k (n + 2) w HR.out hs hk (by omega) (by omega)
      rw [show ((n + 2 : Nat) : Int) = (n : Int) + 2 from by omega] at hb
      have HB := hid hb
      have hex : (s.extract k (k + (n + 2))).data.toList = (s.data.toList.drop k).take (n + 2) := by rw [Lib.extract_data, show k + (n + 2) - k = n + 2 from by omega]
      have hsx : (s.extract k (k + (n + 2))).size ≤ 9223372036854775807 := by unfold maxLen at hs; simp; omega
      clear hb
      cases h3 : Lib.hasSuffix ((s.data.toList.drop k).take (n + 2)) [13, 10]
      focus
        have HS : Hid (chunkS (s.data.toList.drop k) n room = (3, [], n + 2)) := by unfold Hid chunkS; rw [if_neg h1, if_neg (by rw [hll]; exact h2), if_neg (by rw [h3]; decide)]
        have HQ : Hid (Lib.hasSuffix (s.extract k (k + (n + 2))).data.toList [13, 10] = false) := by unfold Hid; rw [hex]; exact h3
      rotate_left
      focus
        have HS : Hid (chunkS (s.data.toList.drop k) n room = (0, Lib.trimSuffix ((s.data.toList.drop k).take (n + 2)) [13, 10], n + 2)) := by unfold Hid chunkS; rw [if_neg h1, if_neg (by rw [hll]; exact h2), if_pos h3]
        have HQ : Hid (Lib.hasSuffix (s.extract k (k + (n + 2))).data.toList [13, 10] = true) := by unfold Hid; rw [hex]; exact h3
      all_goals
        clear hll hex h3
        go_enter Tryd.func74, Tryd.ntmps74
        go_wp2_with fail
        refine HB.out.mono ?_
        rintro e w1 ⟨rfl, hr1, hk1⟩
        go_wp2_with fail
        refine (Tryd.strings_CutSuffix _ _ _ hsx).mono ?_
        rintro e w2 ⟨rfl, rfl⟩
        rw [show (⟨#[13, 10]⟩ : ByteArray).data.toList = [13, 10] from rfl, HQ.out]
        go_wp2
        go_ret2
        exact ⟨ret_strint (by rw [HS.out]) (by rw [HS.out]), by rw [HS.out]; exact hr1, hk1⟩
end Go.Proofs.YtnohadlihgjppaaDoor
