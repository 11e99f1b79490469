/- The reference's lines behind the last chunk, and its chunks: they tell what the plain mathematics says; nothing old in memory turns. -/
import Derived.Test.YtnohadlihgjppaaGreatDoorRefB
import Derived.Test.YtnohadlihgjppaaGreatDoorWalkX
namespace Go.Proofs.YtnohadlihgjppaaGreatDoor
open Go.RowKit

def trailEnd (k : Nat) (T : Int × Nat) : Int := if T.1 = 0 then ((k + T.2 : Nat) : Int) else 0

set_option maxRecDepth 100000 in
set_option maxHeartbeats 1500000 in
theorem rtrailer_any (s : ByteArray) (k hd : Nat) (w : World) (hs : s.size ≤ 1152921504606846976) (hk : k ≤ s.size) (hh : hd ≤ 500) :
    Calls Tryz.prog 44 #[.string s, .int .i64 k, .int .i64 hd] w fun r w' =>
      r = .returned (.tuple #[.int .i64 (trailEnd k (Pm.trailS (hd + 1) (s.data.toList.drop k) hd 0)), .int .i64 (Pm.trailS (hd + 1) (s.data.toList.drop k) hd 0).1]) ∧ Below w.heap.size w w' := by
  have hsm : s.size ≤ maxLen := by unfold maxLen; omega
  generalize hT : Pm.trailS (hd + 1) (s.data.toList.drop k) hd 0 = T
  have HT := hid hT
  clear hT
  have hw : IntKind.i64.wrap ((k : Int) + (hd : Int)) = ((k + hd : Nat) : Int) := by simp [IntKind.wrap, IntKind.bits, IntKind.signed]; omega
  go_enter Tryz.func44, Tryz.ntmps44
  go_wp2_with fail
  go_loopw [1, 9, 10, 11, 12, 13] (fun at_ _ _ _ _ _ wr => ∃ u g : Nat, u ≤ hd ∧ hd - u + 1 ≤ g ∧ k + u ≤ s.size ∧ at_ = .int .i64 ((k + u : Nat) : Int) ∧ Hid (Pm.trailS g (s.data.toList.drop (k + u)) (hd - u) u = T) ∧ Below w.heap.size w wr) (fun at_ _ _ _ _ _ _ => k + hd - (intOf at_).toNat)
  case atStart => exact ⟨0, hd + 1, by omega, by omega, by omega, rfl, HT, Below.refl _ _⟩
  case round =>
    obtain ⟨u, g, hu, hg, hku, rfl, H, hbw⟩ := hrel
    obtain ⟨g, rfl⟩ : ∃ g', g = g' + 1 := ⟨g - 1, by omega⟩
    rw [Pm.trailS_succ] at H
    have HL := hid (rline_any s (k + u) (k + hd) 5 wr hsm hku (by omega) (by omega))
    rw [show k + hd - (k + u) = hd - u from by omega] at HL
    have hok := hid (Pm.lineS_ok (l := s.data.toList.drop (k + u)) (lim := hd - u) (long := 5) (by omega))
    generalize hLL : Pm.lineS (s.data.toList.drop (k + u)) (hd - u) 5 = L at *
    clear hLL
    go_wp2_with fail
    refine HL.out.mono ?_
    rintro e w1 ⟨rfl, hb1⟩
    have hB1 := bel_of hbw hb1
    clear HL hb1
    generalize hlb : (⟨L.2.1.toArray⟩ : ByteArray) = lb
    have hld : lb.data.toList = L.2.1 := by rw [← hlb]
    clear hlb
    rw [← hld] at H hok
    by_cases h1 : L.1 = 0
    · rw [if_neg (by simp [h1])] at H
      obtain ⟨o1, o2, o3, o4⟩ := hok.out h1
      have o5 : L.2.2 ≤ s.size - (k + u) := by simpa using o3
      rw [h1]
      by_cases h2 : lb.data.toList = []
      · rw [if_pos h2] at H
        have he : lb.toList.isEmpty = true := by rw [ByteArray.toList_eq, h2]; rfl
        clear h2
        go_wp2
        go_ret2
        refine ⟨ret_slot ?_ ?_, hB1⟩
        · rw [← H.out]; unfold trailEnd; rw [if_pos rfl]; simp only; omega
        · rw [← H.out]
      · rw [if_neg h2] at H
        have he : lb.toList.isEmpty = false := by
          rw [ByteArray.toList_eq]; cases hl : lb.data.toList with | nil => exact absurd hl h2 | cons => rfl
        have hls : lb.size ≤ maxLen := by
          have : lb.data.toList.length = lb.size := by simp
          unfold maxLen; omega
        clear h2
        go_wp2_with fail
        refine (rfieldOf_any _ _ hls).mono ?_
        rintro e w2 ⟨⟨n, v, rfl, hnv⟩, hb2⟩
        have hB2 := bel_of hB1 hb2
        clear hnv hb2
        cases hf : (Pm.fieldS lb.data.toList).isSome
        · rw [hf, if_neg (by simp)] at H
          go_wp2
          go_ret2
          exact ⟨ret_slot (by rw [← H.out]; rfl) (by rw [← H.out]), hB2.alloc hB2.size _⟩
        · rw [hf, if_pos rfl] at H
          go_wp2
          refine ⟨⟨u + L.2.2, g, by omega, by omega, by omega, by go_num, ?_, hB2.alloc hB2.size _⟩, by simp [intOf]; omega⟩
          rw [List.drop_drop] at H
          rw [show k + (u + L.2.2) = k + u + L.2.2 from by omega, show hd - (u + L.2.2) = hd - u - L.2.2 from by omega]
          exact H
    · rw [if_pos h1] at H
      have hne : (L.1 != 0) = true := by rw [bne_iff_ne]; exact h1
      go_wp2
      go_ret2
      exact ⟨ret_slot (by rw [← H.out]; unfold trailEnd; rw [if_neg h1]) (by rw [← H.out]), hB1⟩

/- chunks, told from one place on: what is told before is laid ahead of it -/
def chunksR : Nat → List UInt8 → Nat → Int → Int × List UInt8 × Nat
  | 0, _, _, _ => (2, [], 0)
  | f + 1, l, hd, left =>
    let z := (Pm.lineS l 10 3).2.2
    if sizeE l ≠ 0 then (sizeE l, [], 0)
    else if 0 < sizeN l then
      let c := chunkS (l.drop z) (sizeN l).toNat left
      if c.1 ≠ 0 then (c.1, [], 0)
      else
        let r := chunksR f (l.drop (z + c.2.2)) hd (left - c.2.1.length)
        if r.1 ≠ 0 then (r.1, [], 0) else (0, c.2.1 ++ r.2.1, z + c.2.2 + r.2.2)
    else
      let t := Pm.trailS (hd + 1) (l.drop z) hd 0
      if t.1 ≠ 0 then (t.1, [], 0) else (0, [], z + t.2)
theorem chunksS_R (hd : Nat) (bd : Int) : ∀ (f : Nat) (l : List UInt8) (body : List UInt8) (u : Nat), chunksS f l hd bd body u = if (chunksR f l hd (bd - body.length)).1 ≠ 0 then ((chunksR f l hd (bd - body.length)).1, [], 0) else (0, body ++ (chunksR f l hd (bd - body.length)).2.1, u + (chunksR f l hd (bd - body.length)).2.2) := by
  intro f
  induction f with
  | zero => intro l body u; rfl
  | succ f ih =>
    intro l body u
    rw [chunksS_succ, chunksR]
    simp only
    by_cases h1 : sizeE l ≠ 0
    · rw [if_pos h1, if_pos h1, if_pos h1]
    · rw [if_neg h1, if_neg h1]
      by_cases h2 : 0 < sizeN l
      · rw [if_pos h2, if_pos h2]
        generalize chunkS (l.drop (Pm.lineS l 10 3).2.2) (sizeN l).toNat (bd - body.length) = c
        by_cases h3 : c.1 ≠ 0
        · rw [if_pos h3, if_pos h3, if_pos h3]
        · rw [if_neg h3, if_neg h3, ih, List.length_append]
          rw [show bd - ((body.length + c.2.1.length : Nat) : Int) = bd - body.length - c.2.1.length from by omega]
          generalize chunksR f (l.drop ((Pm.lineS l 10 3).2.2 + c.2.2)) hd (bd - body.length - c.2.1.length) = r
          by_cases h4 : r.1 ≠ 0
          · rw [if_pos h4, if_pos h4, if_pos h4]
          · rw [if_neg h4, if_neg h4, if_neg (by simp)]
            simp only [List.append_assoc, Prod.mk.injEq, true_and]
            omega
      · rw [if_neg h2, if_neg h2]
        by_cases h3 : (Pm.trailS (hd + 1) (l.drop (Pm.lineS l 10 3).2.2) hd 0).1 ≠ 0
        · rw [if_pos h3, if_pos h3, if_pos h3]
        · rw [if_neg h3, if_neg h3, if_neg (by simp)]
          simp only [List.append_nil, Prod.mk.injEq, true_and]
          omega
theorem chunks_R (f : Nat) (l : List UInt8) (hd : Nat) (bd : Int) : chunksS f l hd bd [] 0 = if (chunksR f l hd bd).1 ≠ 0 then ((chunksR f l hd bd).1, [], 0) else (0, (chunksR f l hd bd).2.1, (chunksR f l hd bd).2.2) := by
  have := chunksS_R hd bd f l [] 0
  simpa using this
end Go.Proofs.YtnohadlihgjppaaGreatDoor
