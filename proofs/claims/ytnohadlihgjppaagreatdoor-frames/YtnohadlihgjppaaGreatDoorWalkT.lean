/- A reader's chunks: the error, the body and the new place, as the plain mathematics says; no other old block turns. -/
import Derived.Test.YtnohadlihgjppaaGreatDoorPlainG
import Derived.Test.YtnohadlihgjppaaGreatDoorWalkS
namespace Go.Proofs.YtnohadlihgjppaaGreatDoor
open Go.RowKit

/- fuel; what is left of the bytes; the limits; the body so far; how many bytes are used up: the error, the body, how many are used up -/
def chunksS : Nat → List UInt8 → Nat → Int → List UInt8 → Nat → Int × List UInt8 × Nat
  | 0, _, _, _, _, _ => (2, [], 0)
  | f + 1, l, hd, bd, body, u =>
    if sizeE l ≠ 0 then (sizeE l, [], 0)
    else if 0 < sizeN l then
      (if (chunkS (l.drop (Pm.lineS l 10 3).2.2) (sizeN l).toNat (bd - body.length)).1 ≠ 0 then ((chunkS (l.drop (Pm.lineS l 10 3).2.2) (sizeN l).toNat (bd - body.length)).1, [], 0)
       else chunksS f (l.drop ((Pm.lineS l 10 3).2.2 + (chunkS (l.drop (Pm.lineS l 10 3).2.2) (sizeN l).toNat (bd - body.length)).2.2)) hd bd (body ++ (chunkS (l.drop (Pm.lineS l 10 3).2.2) (sizeN l).toNat (bd - body.length)).2.1) (u + (Pm.lineS l 10 3).2.2 + (chunkS (l.drop (Pm.lineS l 10 3).2.2) (sizeN l).toNat (bd - body.length)).2.2))
    else if (Pm.trailS (hd + 1) (l.drop (Pm.lineS l 10 3).2.2) hd 0).1 ≠ 0 then ((Pm.trailS (hd + 1) (l.drop (Pm.lineS l 10 3).2.2) hd 0).1, [], 0)
    else (0, body, u + (Pm.lineS l 10 3).2.2 + (Pm.trailS (hd + 1) (l.drop (Pm.lineS l 10 3).2.2) hd 0).2)
theorem chunksS_succ (f : Nat) (l : List UInt8) (hd : Nat) (bd : Int) (body : List UInt8) (u : Nat) : chunksS (f + 1) l hd bd body u =
    if sizeE l ≠ 0 then (sizeE l, [], 0)
    else if 0 < sizeN l then
      (if (chunkS (l.drop (Pm.lineS l 10 3).2.2) (sizeN l).toNat (bd - body.length)).1 ≠ 0 then ((chunkS (l.drop (Pm.lineS l 10 3).2.2) (sizeN l).toNat (bd - body.length)).1, [], 0)
       else chunksS f (l.drop ((Pm.lineS l 10 3).2.2 + (chunkS (l.drop (Pm.lineS l 10 3).2.2) (sizeN l).toNat (bd - body.length)).2.2)) hd bd (body ++ (chunkS (l.drop (Pm.lineS l 10 3).2.2) (sizeN l).toNat (bd - body.length)).2.1) (u + (Pm.lineS l 10 3).2.2 + (chunkS (l.drop (Pm.lineS l 10 3).2.2) (sizeN l).toNat (bd - body.length)).2.2))
    else if (Pm.trailS (hd + 1) (l.drop (Pm.lineS l 10 3).2.2) hd 0).1 ≠ 0 then ((Pm.trailS (hd + 1) (l.drop (Pm.lineS l 10 3).2.2) hd 0).1, [], 0)
    else (0, body, u + (Pm.lineS l 10 3).2.2 + (Pm.trailS (hd + 1) (l.drop (Pm.lineS l 10 3).2.2) hd 0).2) := rfl
theorem build_kp {w w' : World} {T e : TypeId} {B g b : Nat} {bs : List Value} (h : Lib.IsBuilder T e B g bs w) (hk : Kp b w w') (hb : b < B) : Lib.IsBuilder T e B g bs w' := by
  rcases h with ⟨hB, v, hg, ho, hn⟩ | ⟨hB, v, hg, ho, hn⟩
  · exact .inl ⟨hB, v, hk.block hg (by omega), hk.owns ho hb, hn⟩
  · exact .inr ⟨hB, v, hk.block hg (by omega), hk.owns ho hb, hn⟩
theorem line_len (l : List UInt8) (lim : Nat) (long : Int) : (Pm.lineS l lim long).2.1.length ≤ lim ∧ (Pm.lineS l lim long).2.2 ≤ lim ∧ (Pm.lineS l lim long).2.2 ≤ l.length := by
  unfold Pm.lineS
  split
  · simp
  · rename_i h1
    have h3 := congrArg List.length (Pm.ahead_behind 10 (l.take lim))
    rw [List.length_append, List.length_take] at h3
    have h4 : 1 ≤ (Pm.behind 10 (l.take lim)).length := by
      cases hb : Pm.behind 10 (l.take lim) with
      | nil => rw [hb] at h1; simp at h1
      | cons => simp
    split
    · have h5 : (Lib.trimSuffix (Pm.ahead 10 (l.take lim)) [13]).length ≤ (Pm.ahead 10 (l.take lim)).length := by
        unfold Lib.trimSuffix
        by_cases hq : Lib.hasSuffix (Pm.ahead 10 (l.take lim)) [13] = true
        · rw [if_pos hq, List.length_take]; exact Nat.min_le_right _ _
        · rw [if_neg hq]; exact Nat.le_refl _
      exact ⟨Nat.le_trans h5 (by omega), (by omega : (Pm.ahead 10 (l.take lim)).length + 1 ≤ lim), (by omega : (Pm.ahead 10 (l.take lim)).length + 1 ≤ l.length)⟩
    · simp
theorem sizeN_bd (l : List UInt8) : 0 ≤ sizeN l ∧ sizeN l < 68719476736 := by
  unfold sizeN; split
  · unfold Pm.numN; split
    · rename_i h
      simp only [Pm.numOk, Bool.and_eq_true, decide_eq_true_eq] at h
      exact Pm.numv_bd 16 _ (by omega) (by omega) h.2 (by omega)
    · omega
  · omega
theorem chunkS_room (l : List UInt8) (n : Nat) (room : Int) (h : (chunkS l n room).1 = 0) : ((chunkS l n room).2.1.length : Int) ≤ room ∧ (chunkS l n room).2.2 = n + 2 := by
  unfold chunkS at h ⊢
  by_cases h1 : room < n
  · rw [if_pos h1] at h; simp at h
  · rw [if_neg h1] at h ⊢
    by_cases h2 : l.length < n + 2
    · rw [if_pos h2] at h; simp at h
    · rw [if_neg h2] at h ⊢
      by_cases h3 : Lib.hasSuffix (l.take (n + 2)) [13, 10] = true
      · rw [if_pos h3]
        have : (Lib.trimSuffix (l.take (n + 2)) [13, 10]).length ≤ n := by
          unfold Lib.trimSuffix; rw [if_pos h3, List.length_take, List.length_take]
          have : ([13, 10] : List UInt8).length = 2 := rfl
          omega
        exact ⟨(by omega : ((Lib.trimSuffix (l.take (n + 2)) [13, 10]).length : Int) ≤ room), rfl⟩
      · rw [if_neg h3] at h; simp at h
theorem chunkS_len (l : List UInt8) (n : Nat) (room : Int) : (chunkS l n room).2.2 ≤ l.length ∧ (chunkS l n room).2.1.length ≤ (chunkS l n room).2.2 := by
  unfold chunkS
  split
  · simp
  · split
    · simp
    · rename_i h
      split
      · refine ⟨by simp only; omega, ?_⟩
        unfold Lib.trimSuffix; split
        · simp only [List.length_take]; omega
        · simp only [List.length_take]; omega
      · simp only [List.length_nil]; omega
theorem len_any (B g : Nat) (body : List UInt8) (w : World) (h : Lib.IsBuilder 88 5 B g (Lib.byteCells body) w) :
    Calls Tryz.prog 81 #[.pointer (some ⟨g, 0, none⟩)] w fun e w' => e = .returned (.int .i64 body.length) ∧ w' = w := by
  have := Tryz.Builder_Len B g (Lib.byteCells body) w h
  rw [cells_len] at this
  exact this
theorem RdAt.low {b : Nat} {hd bd : Int} {s : ByteArray} {k B : Nat} {w w' : World} (h : RdAt b hd bd s k w) (hb : Below B w w') (hl : b < B) : RdAt b hd bd s k w' := by
  have := hb.block b hl
  unfold RdAt at *; rw [this]; exact h
theorem Kp.low {b : Nat} {w w3 w5 : World} (h : Kp b w w3) (hb : Below w.heap.size w3 w5) : Kp b w w5 :=
  ⟨hb.os.trans h.1, hb.tape.trans h.2.1, hb.output.trans h.2.2.1, Nat.le_trans h.2.2.2.1 hb.size, fun k hk hkb => (hb.block k hk).trans (h.2.2.2.2 k hk hkb)⟩
structure TInv (w : World) (b hd : Nat) (bd : Int) (s : ByteArray) (k : Nat) (T : Int × Nat) (body : List UInt8) (g u : Nat) (wr : World) : Prop where
  u1 : u ≤ hd
  g1 : hd - u + 1 ≤ g
  k1 : k + u ≤ s.size
  eq : T = Pm.trailS g (s.data.toList.drop (k + u)) (hd - u) u
  rd : RdAt b hd bd s (k + u) wr
  bu : Lib.IsBuilder 88 5 w.heap.size w.heap.size (Lib.byteCells body) wr
  sz : w.heap.size + 1 ≤ wr.heap.size
  kp : Kp b w wr
structure CInv (w : World) (b hd : Nat) (bd : Int) (s : ByteArray) (k : Nat) (g u : Nat) (body : List UInt8) (wr : World) : Prop where
  g1 : s.size - (k + u) + 1 ≤ g
  k1 : k + u ≤ s.size
  b1 : body.length ≤ u
  b2 : (body.length : Int) ≤ bd
  eq : chunksS (s.size - k + 1) (s.data.toList.drop k) hd bd [] 0 = chunksS g (s.data.toList.drop (k + u)) hd bd body u
  rd : RdAt b hd bd s (k + u) wr
  bu : Lib.IsBuilder 88 5 w.heap.size w.heap.size (Lib.byteCells body) wr
  sz : w.heap.size + 1 ≤ wr.heap.size
  kp : Kp b w wr

set_option maxRecDepth 100000 in
set_option maxHeartbeats 700000 in
theorem chunks_any (b : Nat) (hd : Nat) (bd : Int) (s : ByteArray) (k : Nat) (w : World) (hr : RdAt b hd bd s k w) (hs : s.size ≤ 1152921504606846976) (hk : k ≤ s.size) (hh : hd ≤ 500) (hb0 : 0 ≤ bd) (hb1 : bd ≤ 200) :
    Calls Tryz.prog 58 #[.pointer (some ⟨b, 0, none⟩)] w fun r w' =>
      r = .returned (.tuple #[.string ⟨(chunksS (s.size - k + 1) (s.data.toList.drop k) hd bd [] 0).2.1.toArray⟩, .int .i64 (chunksS (s.size - k + 1) (s.data.toList.drop k) hd bd [] 0).1]) ∧
      (∃ k', RdAt b hd bd s k' w' ∧ ((chunksS (s.size - k + 1) (s.data.toList.drop k) hd bd [] 0).1 = 0 → k' = k + (chunksS (s.size - k + 1) (s.data.toList.drop k) hd bd [] 0).2.2)) ∧ Kp b w w' := by
  have hbl := hr.lt
  have HR : Hid (RdAt b hd bd s k w) := hr
  clear hr
  generalize hH : chunksS (s.size - k + 1) (s.data.toList.drop k) hd bd [] 0 = H
  have HH : Hid (chunksS (s.size - k + 1) (s.data.toList.drop k) hd bd [] 0 = H) := hH
  clear hH
  go_enter Tryz.func58, Tryz.ntmps58
  go_wp2
  go_step3
  go_wp2
  go_step3
  go_wp2
  go_loopg [5, 6, 7, 8, 9, 10, 11, 12, 13] (s.size - k + 1) (fun g _ _ _ _ _ _ _ _ _ wr => ∃ (u : Nat) (body : List UInt8), CInv w b hd bd s k g u body wr)
  case atStart =>
    have hB := (Below.refl w.heap.size w).alloc (Nat.le_refl _) (.cells #[.pointer none, .slice none 0 0] 88)
    exact ⟨0, [], { g1 := by omega, k1 := by omega, b1 := by simp, b2 := by simpa using hb0, eq := rfl, rd := HR.out.below hB, bu := Lib.fresh_isBuilder _ _ w, sz := by simp, kp := Kp.of hB }⟩
  case round =>
    obtain ⟨u, body, I⟩ := hrel
    cases gk with
    | zero => exact absurd I.g1 (by omega)
    | succ f =>
      have hll := line_len (s.data.toList.drop (k + u)) 10 3
      have hsl : (s.data.toList.drop (k + u)).length = s.size - (k + u) := by simp
      have HS := hid (size_any b hd bd s (k + u) wr I.rd hs I.k1 (by have := hll.1; unfold maxLen; omega))
      have HE : Hid _ := HH.out.symm.trans (I.eq.trans (chunksS_succ f _ _ _ _ _))
      have hsb := sizeN_bd (s.data.toList.drop (k + u))
      go_wp2_with fail
      go_step3
      go_wp2_with fail
      refine HS.out.mono ?_
      rintro e w1 ⟨rfl, hr1, hk1⟩
      have bu1 := build_kp I.bu hk1 hbl
      have kp1 := I.kp.trans hk1
      have sz1 : w.heap.size + 1 ≤ w1.heap.size := Nat.le_trans I.sz hk1.2.2.2.1
      have i1 := I.g1
      have i2 := I.k1
      have i3 := I.b1
      have i4 := I.b2
      obtain ⟨_, j2, j3⟩ := hll
      rw [hsl] at j3
      clear I HS hk1 hsl
      generalize hu1 : (Pm.lineS (s.data.toList.drop (k + u)) 10 3).2.2 = u1 at *
      clear hu1
      generalize sizeE (s.data.toList.drop (k + u)) = er at *
      generalize hsn : sizeN (s.data.toList.drop (k + u)) = sn at *
      clear hsn
      by_cases he : er = 0
      · rw [if_neg (by simp [he])] at HE
        subst he
        by_cases hp : 0 < sn
        · rw [if_pos hp] at HE
          obtain ⟨n, rfl⟩ : ∃ n : Nat, sn = (n : Int) := ⟨sn.toNat, by omega⟩
          rw [Int.toNat_natCast] at HE
          obtain ⟨c0, c1, c2, c3⟩ := hr1.cell
          have hdd : (s.data.toList.drop (k + u)).drop u1 = s.data.toList.drop (k + u + u1) := by rw [List.drop_drop]
          rw [hdd] at HE
          clear hdd
          have hcl := chunkS_len (s.data.toList.drop (k + u + u1)) n (bd - body.length)
          have hcr := hid (chunkS_room (s.data.toList.drop (k + u + u1)) n (bd - body.length))
          have HC := hid (fun W hR => chunk_any b hd bd s (k + u + u1) n (bd - body.length) W hR (by unfold maxLen; omega) (by omega) (by omega))
          rw [List.length_drop, show s.data.toList.length = s.size from by simp] at hcl
          go_wp2_with fail
          have hw : IntKind.i64.wrap (bd - (body.length : Int)) = bd - (body.length : Int) := by simp [IntKind.wrap, IntKind.bits, IntKind.signed]; omega
          go_region_with (first | (go_at_call 81; refine (len_any w.heap.size w.heap.size body _ ?_).mono ?_; exact bu1; rintro e w2 ⟨rfl, rfl⟩) | (go_at_call 80; refine (HC.out _ ?_).mono ?_; exact hr1; rintro e w3 ⟨rfl, hr3, hk3⟩))
          all_goals
            have bu3 := build_kp bu1 (show Kp b w1 w3 from hk3) hbl
            have kp3 := kp1.trans (show Kp b w1 w3 from hk3)
            have sz3 : w.heap.size + 1 ≤ w3.heap.size := Nat.le_trans sz1 (show Kp b w1 w3 from hk3).2.2.2.1
            clear hk3 bu1 kp1 hr1 sz1 HC c0 c1 c2 c3 hw
            generalize chunkS (s.data.toList.drop (k + u + u1)) n (bd - body.length) = c at *
            by_cases hc : c.1 = 0
            · rw [if_neg (by simp [hc])] at HE
              obtain ⟨hcr2, hcr3⟩ := hcr.out hc
              have HU : Hid (c.2.2 = n + 2) := hcr3
              clear hcr3
              have hcs : (⟨c.2.1.toArray⟩ : ByteArray).size = c.2.1.length := by simp [ByteArray.size]
              have hcs2 : (Lib.byteCells body).length + (⟨c.2.1.toArray⟩ : ByteArray).size ≤ 140737488355328 := by rw [cells_len, hcs]; omega
              go_wp2_with (go_at_call 47; refine (Tryz.Builder_WriteString _ _ _ _ _ bu3 hcs2 (by omega)).mono ?_; rintro e w5 ⟨rfl, hbu5, hb5⟩)
              rw [Exit.noGoto_exit]
              go_wp2
              go_roundg f
              case measure => omega
              case rel =>
                refine ⟨u + u1 + c.2.2, body ++ c.2.1, ?_⟩
                refine { g1 := ?_, k1 := by omega, b1 := by simp; omega, b2 := by simp; omega, eq := ?_, rd := ?_, bu := .inr ?_, sz := ?_, kp := ?_ }
                · have := HU.out; omega
                · rw [HH.out, HE.out, List.drop_drop, show k + u + (u1 + c.2.2) = k + (u + u1 + c.2.2) from by omega]
                · rw [show k + (u + u1 + c.2.2) = k + u + u1 + c.2.2 from by omega]
                  exact hr3.low hb5 hbl
                · rw [Lib.byteCells_append]; exact hbu5
                · have := hb5.size; omega
                · exact kp3.low hb5
            · rw [if_pos hc] at HE
              have hne : (c.1 != 0) = true := by rw [bne_iff_ne]; exact hc
              go_wp2
              rw [Exit.noGoto_ret]
              go_wp2
              rw [Exit.noGoto_ret]
              go_ret2
              exact ⟨ret_strint (by rw [HE.out]) (by rw [HE.out]), ⟨_, hr3, fun h => absurd (by rw [HE.out] at h; exact h) hc⟩, kp3⟩
        · rw [if_neg hp] at HE
          obtain rfl : sn = 0 := by omega
          have hdd : (s.data.toList.drop (k + u)).drop u1 = s.data.toList.drop (k + u + u1) := by rw [List.drop_drop]
          rw [hdd] at HE
          clear hdd hp
          obtain ⟨c0, c1, c2, c3⟩ := hr1.cell
          generalize hT : Pm.trailS (hd + 1) (s.data.toList.drop (k + u + u1)) hd 0 = T at *
          have HT := hid hT
          clear hT
          go_wp2
          go_quiet (fail)
          go_wp2
          go_step3
          go_wp2
          have hdn : Below w1.heap.size w1 (w1.drewN nq) := below_drewN (Below.refl _ _) _
          go_loopg [10, 11, 12, 13] (hd + 1) (fun g _ _ _ _ wy => ∃ v : Nat, TInv w b hd bd s (k + u + u1) T body g v wy)
          case atStart =>
            exact ⟨0, { u1 := by omega, g1 := by omega, k1 := by omega, eq := HT.out.symm, rd := hr1.below hdn, bu := bu1, sz := sz1, kp := kp1.trans (Kp.of hdn) }⟩
          case round =>
            obtain ⟨v, J⟩ := hrel
            cases gk with
            | zero => exact absurd J.g1 (by omega)
            | succ f2 =>
              have hl := line_any b hd bd s (k + u + u1 + v) (k + u + u1 + hd) 5 wr J.rd (by unfold maxLen; omega) J.k1 (by have := J.u1; omega) (by have := J.k1; omega)
              rw [show k + u + u1 + hd - (k + u + u1 + v) = hd - v from by omega, show ((k + u + u1 + hd : Nat) : Int) = (k : Int) + (u : Int) + (u1 : Int) + (hd : Int) from by omega] at hl
              have HL := hid hl
              clear hl
              have HTE : Hid _ := J.eq.trans (Pm.trailS_succ f2 _ _ _)
              go_wp2_with fail
              refine HL.out.mono ?_
              rintro e w2 ⟨rfl, hr2, hk2⟩
              have bu2 := build_kp J.bu hk2 hbl
              have kp2 := J.kp.trans hk2
              have sz2 : w.heap.size + 1 ≤ w2.heap.size := Nat.le_trans J.sz hk2.2.2.2.1
              have hls := fun h0 => Pm.lineS_ok (l := s.data.toList.drop (k + u + u1 + v)) (lim := hd - v) (long := 5) (by decide) h0
              have m1 := J.u1
              have m2 := J.g1
              have m3 := J.k1
              clear J HL hk2 c0 c1 c2 c3
              generalize Pm.lineS (s.data.toList.drop (k + u + u1 + v)) (hd - v) 5 = q at *
              by_cases h0 : q.1 = 0
              · obtain ⟨l1, l2, l3, l4⟩ := hls h0
                rw [if_neg (by simp [h0])] at HTE
                rw [List.length_drop, show s.data.toList.length = s.size from by simp] at l3
                have hqs : (⟨q.2.1.toArray⟩ : ByteArray).size ≤ 500 := by simp [ByteArray.size]; omega
                clear hls
                by_cases hem : q.2.1 = []
                · rw [if_pos hem] at HTE
                  have HS : Hid (H = (0, body, u + u1 + (v + q.2.2))) := by
                    unfold Hid; have := HE.out; rw [HTE.out] at this; simpa using this
                  rw [hem]
                  go_wp2
                  rw [Exit.noGoto_exit]
                  go_wp2_with (go_at_call 50; refine (Tryz.Builder_String_any _ _ _ _ bu2 (by omega)).mono ?_; rintro e w5 ⟨rfl, hb5⟩)
                  try rw [Exit.noGoto_ret]
                  go_ret2
                  exact ⟨ret_strint (by rw [HS.out]) (by rw [HS.out]), ⟨_, hr2.low hb5 hbl, fun _ => by rw [HS.out]; simp only; omega⟩, kp2.low hb5⟩
                · rw [if_neg hem] at HTE
                  have hem2 : q.2.1.isEmpty = false := by rw [List.isEmpty_eq_false_iff]; exact hem
                  have HF := hid (wReadField_any ⟨q.2.1.toArray⟩ w2 (by unfold maxLen; omega))
                  rw [show (⟨q.2.1.toArray⟩ : ByteArray).data.toList = q.2.1 from rfl] at HF
                  clear hem
                  cases hfd : Pm.fieldS q.2.1 with
                  | none =>
                    rw [hfd] at HTE HF
                    have HS : Hid (H = (3, [], 0)) := by
                      unfold Hid; have := HE.out; rw [HTE.out] at this; simpa using this
                    go_wp2_with fail
                    refine HF.out.mono ?_
                    rintro e w5 ⟨rfl, hb5⟩
                    unfold fldV
                    go_wp2
                    rw [Exit.noGoto_ret]
                    go_wp2
                    rw [Exit.noGoto_ret]
                    go_ret2
                    have hA := (Below.refl w5.heap.size w5).alloc (Nat.le_refl _) (.cells #[.string ⟨#[]⟩, .string ⟨#[]⟩] 61)
                    exact ⟨ret_strint (by rw [HS.out]) (by rw [HS.out]), ⟨_, (hr2.below hb5).below hA, fun h => absurd (by rw [HS.out] at h; exact h) (by decide)⟩, (kp2.trans (Kp.of hb5)).trans (Kp.of hA)⟩
                  | some fl =>
                    obtain ⟨fn, fv⟩ := fl
                    rw [hfd, if_pos (by simp)] at HTE
                    rw [hfd] at HF
                    go_wp2_with fail
                    refine HF.out.mono ?_
                    rintro e w5 ⟨rfl, hb5⟩
                    unfold fldV
                    go_wp2
                    go_roundg f2
                    case measure => omega
                    case rel =>
                      have hA := (Below.refl w5.heap.size w5).alloc (Nat.le_refl _) (.cells #[.string ⟨fn.toArray⟩, .string ⟨fv.toArray⟩] 61)
                      refine ⟨v + q.2.2, { u1 := by omega, g1 := by omega, k1 := by omega, eq := ?_, rd := ?_, bu := build_kp bu2 ((Kp.of hb5).trans (Kp.of hA)) hbl, sz := ?_, kp := (kp2.trans (Kp.of hb5)).trans (Kp.of hA) }⟩
                      · rw [HTE.out, List.drop_drop, show k + u + u1 + v + q.2.2 = k + u + u1 + (v + q.2.2) from by omega, show hd - v - q.2.2 = hd - (v + q.2.2) from by omega]
                      · rw [show k + u + u1 + (v + q.2.2) = k + u + u1 + v + q.2.2 from by omega]
                        exact (hr2.below hb5).below hA
                      · have := hb5.size; simp; omega
              · rw [if_pos h0] at HTE
                have hne : (q.1 != 0) = true := by rw [bne_iff_ne]; exact h0
                have HS : Hid (H = (q.1, [], 0)) := by
                  unfold Hid; have := HE.out; rw [HTE.out, if_pos h0] at this; exact this
                clear hls
                go_wp2
                rw [Exit.noGoto_ret]
                go_wp2
                rw [Exit.noGoto_ret]
                go_ret2
                exact ⟨ret_strint (by rw [HS.out]) (by rw [HS.out]), ⟨_, hr2, fun h => absurd (by rw [HS.out] at h; exact h) h0⟩, kp2⟩
      · rw [if_pos he] at HE
        have hne : (er != 0) = true := by rw [bne_iff_ne]; exact he
        go_wp2
        rw [Exit.noGoto_ret]
        go_wp2
        rw [Exit.noGoto_ret]
        go_ret2
        exact ⟨ret_strint (by rw [HE.out]) (by rw [HE.out]), ⟨_, hr1, fun h => absurd (by rw [HE.out] at h; exact h) he⟩, kp1⟩
end Go.Proofs.YtnohadlihgjppaaGreatDoor
