/- A reader's head: the error, the method, the target, the fields and the new place, as the plain mathematics says; no other old block turns. -/
import Derived.Test.YtnohadlihgjppaaGreatDoorPlainF
import Derived.Test.YtnohadlihgjppaaGreatDoorWalkR
import Derived.Deep.RegionLaw
import Derived.Deep.AppendLies
import Derived.WalkMore
import Derived.Deep.LoopGhost
namespace Go.Proofs.YtnohadlihgjppaaGreatDoor
open Go.RowKit

def flat (fs : List Pm.Fld) : List Value := fs.flatMap fun f => [.string ⟨f.1.toArray⟩, .string ⟨f.2.toArray⟩]
theorem flat_snoc (fs : List Pm.Fld) (f : Pm.Fld) : flat (fs ++ [f]) = flat fs ++ [.string ⟨f.1.toArray⟩, .string ⟨f.2.toArray⟩] := by simp [flat]
theorem flat_length (fs : List Pm.Fld) : (flat fs).length = fs.length * 2 := by
  induction fs with
  | nil => rfl
  | cons f fs ih => simp [flat] at ih ⊢; omega
def RqB (g : Nat) (m t : List UInt8) (v : Value) (w : World) : Prop := w.heap[g]? = some (.cells #[.string ⟨m.toArray⟩, .string ⟨t.toArray⟩, v, .string ⟨#[]⟩] 36 (0, 0))
def muAt (b e : Nat) (w : World) : Nat := e - (intOf ((w.cell? ⟨b, 3, none⟩).getD undef)).toNat

theorem Kp.block {b : Nat} {w w' : World} (h : Kp b w w') {j : Nat} {o : Obj} (hj : w.heap[j]? = some o) (hb : j ≠ b) : w'.heap[j]? = some o := by
  have hlt : j < w.heap.size := by
    rcases Nat.lt_or_ge j w.heap.size with h' | h'
    · exact h'
    · simp [Array.getElem?_eq_none h'] at hj
  rw [h.2.2.2.2 j hlt hb]; exact hj
theorem Kp.owns {b : Nat} {w w' : World} (h : Kp b w w') {B : Nat} {e : TypeId} {sz : Nat} {v : Value} {n : Nat} {xs : List Value} (ho : w.ownsRow B e sz v n xs) (hb : b < B) : w'.ownsRow B e sz v n xs := by
  obtain ⟨h1, h2⟩ := ho
  refine ⟨h1, ?_⟩
  rcases h2 with h2 | ⟨g, cap, cur, hv, hB, hg, h3⟩
  · exact .inl h2
  · exact .inr ⟨g, cap, cur, hv, hB, h.block hg (by omega), h3⟩
theorem owns_base {w : World} {B B' : Nat} {e : TypeId} {sz : Nat} {v : Value} {n : Nat} {xs : List Value} (ho : w.ownsRow B e sz v n xs) (hb : B' ≤ B) : w.ownsRow B' e sz v n xs := by
  obtain ⟨h1, h2⟩ := ho
  refine ⟨h1, ?_⟩
  rcases h2 with h2 | ⟨g, cap, cur, hv, hB, hg, h3⟩
  · exact .inl h2
  · exact .inr ⟨g, cap, cur, hv, by omega, hg, h3⟩
theorem Kp.cell {b : Nat} {w w' : World} (h : Kp b w w') {a : Addr} {v : Value} (hc : w.cell? a = some v) (hb : a.block ≠ b) : w'.cell? a = some v := by
  have := h.2.2.2.2 a.block (block_lt_of_cell hc) hb
  rw [World.cell?_of_block (w := w) this]; exact hc
theorem RqB.cells {g : Nat} {m t : List UInt8} {v : Value} {w : World} (h : RqB g m t v w) :
    w.cell? ⟨g, 0, none⟩ = some (.string ⟨m.toArray⟩) ∧ w.cell? ⟨g, 1, none⟩ = some (.string ⟨t.toArray⟩) ∧ w.cell? ⟨g, 2, none⟩ = some v ∧ w.cell? ⟨g, 3, none⟩ = some (.string ⟨#[]⟩) := by
  refine ⟨?_, ?_, ?_, ?_⟩ <;> (rw [Lib.cell_of_heap h]; rfl)
theorem RqB.free {g : Nat} {m t : List UInt8} {v : Value} {w : World} (h : RqB g m t v w) (j : Nat) : w.frozen? ⟨g, j, none⟩ = false := Lib.frozen_of_heap h j
theorem RqB.lt {g : Nat} {m t : List UInt8} {v : Value} {w : World} (h : RqB g m t v w) : g < w.heap.size := block_lt_of_cell h.cells.1
theorem RqB.below {g : Nat} {m t : List UInt8} {v : Value} {w w' : World} (h : RqB g m t v w) (hb : Below w.heap.size w w') : RqB g m t v w' := by
  have := hb.block g h.lt; unfold RqB at *; rw [this]; exact h
theorem RqB.kp {g b : Nat} {m t : List UInt8} {v : Value} {w w' : World} (h : RqB g m t v w) (hk : Kp b w w') (hb : g ≠ b) : RqB g m t v w' := hk.block h hb
theorem headS_succ (f : Nat) (first : Bool) (l : List UInt8) (lim : Nat) (m t : List UInt8) (fs : List Pm.Fld) (u : Nat) :
    Pm.headS (f + 1) first l lim m t fs u = if (Pm.lineS l lim 5).1 ≠ 0 then Pm.headBad (Pm.lineS l lim 5).1
    else if first = true then
      (if (Pm.firstS (Pm.lineS l lim 5).2.1).1 ≠ 0 then Pm.headBad (Pm.firstS (Pm.lineS l lim 5).2.1).1
       else Pm.headS f false (l.drop (Pm.lineS l lim 5).2.2) (lim - (Pm.lineS l lim 5).2.2) (Pm.firstS (Pm.lineS l lim 5).2.1).2.1 (Pm.firstS (Pm.lineS l lim 5).2.1).2.2 fs (u + (Pm.lineS l lim 5).2.2))
    else if (Pm.lineS l lim 5).2.1 = [] then (0, m, t, fs, u + (Pm.lineS l lim 5).2.2)
    else match Pm.fieldS (Pm.lineS l lim 5).2.1 with
      | none => Pm.headBad 3
      | some f' => Pm.headS f false (l.drop (Pm.lineS l lim 5).2.2) (lim - (Pm.lineS l lim 5).2.2) m t (fs ++ [f']) (u + (Pm.lineS l lim 5).2.2) := rfl
theorem RdAt.other {b : Nat} {hd bd : Int} {s : ByteArray} {k : Nat} {w : World} (h : RdAt b hd bd s k w) {g : Nat} (hg : b ≠ g) (o : Nat) (v : Value) : RdAt b hd bd s k (w.setCell ⟨g, o, none⟩ v) := by
  unfold RdAt at *; rw [heap_setCell_other w ⟨g, o, none⟩ b v hg]; exact h
theorem Kp.fresh {b : Nat} {w w1 : World} (h : Kp b w w1) {g : Nat} (hg : w.heap.size ≤ g) (o : Nat) (v : Value) : Kp b w (w1.setCell ⟨g, o, none⟩ v) :=
  ⟨by simpa [World.setCell] using h.1, by simpa [World.setCell] using h.2.1, by simpa [World.setCell] using h.2.2.1, by simpa using h.2.2.2.1, fun k hk hb => by rw [heap_setCell_other w1 ⟨g, o, none⟩ k v (by simp; omega)]; exact h.2.2.2.2 k hk hb⟩
theorem RqB.other {g' : Nat} {m t : List UInt8} {x : Value} {w : World} (h : RqB g' m t x w) {g : Nat} (hg : g' ≠ g) (o : Nat) (v : Value) : RqB g' m t x (w.setCell ⟨g, o, none⟩ v) := by
  unfold RqB at *; rw [heap_setCell_other w ⟨g, o, none⟩ g' v hg]; exact h
theorem RqB.set0 {g : Nat} {m t : List UInt8} {x : Value} {w : World} (h : RqB g m t x w) (m' : List UInt8) : RqB g m' t x (w.setCell ⟨g, 0, none⟩ (.string ⟨m'.toArray⟩)) := by
  unfold RqB at *; rw [heap_setCell_same w g 0 _ _ _ h]; rfl
theorem RqB.set1 {g : Nat} {m t : List UInt8} {x : Value} {w : World} (h : RqB g m t x w) (t' : List UInt8) : RqB g m t' x (w.setCell ⟨g, 1, none⟩ (.string ⟨t'.toArray⟩)) := by
  unfold RqB at *; rw [heap_setCell_same w g 1 _ _ _ h]; rfl
theorem RqB.set2 {g : Nat} {m t : List UInt8} {x : Value} {w : World} (h : RqB g m t x w) (x' : Value) : RqB g m t x' (w.setCell ⟨g, 2, none⟩ x') := by
  unfold RqB at *; rw [heap_setCell_same w g 2 _ _ _ h]; rfl
theorem owns_other {w : World} {B : Nat} {e : TypeId} {sz : Nat} {x : Value} {n : Nat} {xs : List Value} (ho : w.ownsRow B e sz x n xs) {g : Nat} (hg : g < B) (o : Nat) (v : Value) : (w.setCell ⟨g, o, none⟩ v).ownsRow B e sz x n xs := by
  obtain ⟨h1, h2⟩ := ho
  refine ⟨h1, ?_⟩
  rcases h2 with h2 | ⟨r, cap, cur, hv, hB, hr, h3⟩
  · exact .inl h2
  · exact .inr ⟨r, cap, cur, hv, hB, by rw [heap_setCell_other w ⟨g, o, none⟩ r v (by simp; omega)]; exact hr, h3⟩
theorem owns_form {w : World} {B : Nat} {e : TypeId} {sz : Nat} {v : Value} {n : Nat} {xs : List Value} (h : w.ownsRow B e sz v n xs) : ∃ a k c, v = .slice a k c := by
  rcases h.2 with ⟨rfl, _⟩ | ⟨g, cap, cur, rfl, _⟩
  · exact ⟨_, _, _, rfl⟩
  · exact ⟨_, _, _, rfl⟩
theorem field_le {l n v : List UInt8} (h : Pm.fieldS l = some (n, v)) : n.length + v.length ≤ l.length := by
  unfold Pm.fieldS at h
  split at h
  · simp only [Option.some.injEq, Prod.mk.injEq] at h
    have h1 := congrArg List.length (Pm.ahead_behind 58 l)
    rw [List.length_append] at h1
    have h2 := trim_le ((Pm.behind 58 l).drop 1)
    rw [List.length_drop] at h2
    rw [← h.1, ← h.2]; omega
  · cases h
theorem Tryz.info36 : (Tryz.prog.info? 61).map (fun i => (i.zero, i.size, i.bytes)) = some (some (.agg #[.string ⟨#[]⟩, .string ⟨#[]⟩]), 2, 32) := by kernel_rfl
theorem RqB.grown {g : Nat} {m t : List UInt8} {v : Value} {w w' : World} {row : Option Nat} (h : RqB g m t v w) (hg : w.grownBy w' row) (hne : row ≠ some g) : RqB g m t v w' := by
  have := hg.block g h.lt (fun h' => hne h'.symm)
  unfold RqB at *; rw [this]; exact h
theorem own_not {w : World} {B : Nat} {e : TypeId} {sz : Nat} {v : Value} {n : Nat} {xs : List Value} (h : w.ownsRow B e sz v n xs) {g : Nat} (hg : g < B) : v.ownBlock ≠ some g := fun h' => by
  have := own_ge h g h'; omega
theorem own_lt {w : World} {B : Nat} {e : TypeId} {sz : Nat} {v : Value} {n : Nat} {xs : List Value} (h : w.ownsRow B e sz v n xs) {g : Nat} (hg : w.heap.size ≤ g) : v.ownBlock ≠ some g := fun h' => by
  rcases h.2 with ⟨rfl, _⟩ | ⟨r, cap, cur, rfl, _, hr, _⟩
  · cases h'
  · simp [Value.ownBlock] at h'
    subst h'
    simp [Array.getElem?_eq_none hg] at hr
theorem cell_grown {w w' : World} {row : Option Nat} {a : Addr} {v : Value} (hg : w.grownBy w' row) (hc : w.cell? a = some v) (hne : row ≠ some a.block) : w'.cell? a = some v := by
  rw [World.cell?_of_block (w := w) (hg.block a.block (block_lt_of_cell hc) (fun h => hne h.symm))]; exact hc
theorem lt_after {w2 w3 : World} {o : Obj} {n : Nat} (h : n < w2.heap.size) (hb : Below (w2.alloc o).drew.heap.size (w2.alloc o).drew w3) : n < w3.heap.size := by
  have h1 := hb.size
  have h2 : (w2.alloc o).drew.heap.size = w2.heap.size + 1 := by simp
  omega
theorem RdAt.grown {b : Nat} {hd bd : Int} {s : ByteArray} {k : Nat} {w w' : World} {row : Option Nat} (h : RdAt b hd bd s k w) (hg : w.grownBy w' row) (hne : row ≠ some b) : RdAt b hd bd s k w' := by
  have := hg.block b h.lt (fun h' => hne h'.symm)
  unfold RdAt at *; rw [this]; exact h
theorem Kp.grown {b : Nat} {w w1 w' : World} {row : Option Nat} (h : Kp b w w1) (hg : w1.grownBy w' row) (hr : ∀ k, row = some k → w.heap.size ≤ k) : Kp b w w' :=
  ⟨hg.os.trans h.1, hg.tape.trans h.2.1, hg.output.trans h.2.2.1, Nat.le_trans h.2.2.2.1 hg.size, fun k hk hb => (hg.block k (Nat.lt_of_lt_of_le hk h.2.2.2.1) (fun h' => by have := hr k h'.symm; omega)).trans (h.2.2.2.2 k hk hb)⟩
/- what holds at each line of a head -/
structure HInv (w : World) (b hd : Nat) (bd : Int) (s : ByteArray) (k : Nat) (g j u : Nat) (m t : List UInt8) (fs : List Pm.Fld) (v : Value) (wr : World) : Prop where
  u1 : u ≤ hd
  g1 : hd - u + 1 ≤ g
  k1 : k + u ≤ s.size
  j1 : j ≤ u
  n1 : fs.length ≤ u
  eq : Pm.headS (hd + 1) true (s.data.toList.drop k) hd [] [] [] 0 = Pm.headS g (decide (j = 0)) (s.data.toList.drop (k + u)) (hd - u) m t fs u
  rd : RdAt b hd bd s (k + u) wr
  rb : RqB w.heap.size [] [] (.slice none 0 0) wr
  qb : RqB (w.heap.size + 1) m t v wr
  ow : wr.ownsRow (w.heap.size + 2) 61 2 v fs.length (flat fs)
  sz : w.heap.size + 2 ≤ wr.heap.size
  kp : Kp b w wr

set_option maxRecDepth 100000 in
set_option maxHeartbeats 2000000 in
theorem head_any (b : Nat) (hd : Nat) (bd : Int) (s : ByteArray) (k : Nat) (mx : Int) (w : World) (hr : RdAt b hd bd s k w) (hs : s.size ≤ 1152921504606846976) (hk : k ≤ s.size) (hh : hd ≤ 500) (hm : w.cell? ⟨1, 0, none⟩ = some (.int .i64 mx)) (hb : b ≠ 1) :
    Calls Tryz.prog 56 #[.pointer (some ⟨b, 0, none⟩)] w fun r w' =>
      (∃ v, r = .returned (.tuple #[.agg #[.string ⟨(Pm.headS (hd + 1) true (s.data.toList.drop k) hd [] [] [] 0).2.1.toArray⟩, .string ⟨(Pm.headS (hd + 1) true (s.data.toList.drop k) hd [] [] [] 0).2.2.1.toArray⟩, v, .string ⟨#[]⟩], .int .i64 (Pm.headS (hd + 1) true (s.data.toList.drop k) hd [] [] [] 0).1]) ∧ w'.ownsRow w.heap.size 61 2 v (Pm.headS (hd + 1) true (s.data.toList.drop k) hd [] [] [] 0).2.2.2.1.length (flat (Pm.headS (hd + 1) true (s.data.toList.drop k) hd [] [] [] 0).2.2.2.1)) ∧
      (∃ k', RdAt b hd bd s k' w' ∧ ((Pm.headS (hd + 1) true (s.data.toList.drop k) hd [] [] [] 0).1 = 0 → k' = k + (Pm.headS (hd + 1) true (s.data.toList.drop k) hd [] [] [] 0).2.2.2.2)) ∧ Kp b w w' := by
  obtain ⟨c0, c1, c2, c3⟩ := hr.cell
  obtain ⟨i0, hi, hz0, hz1, hz2⟩ := info_parts Tryz.info36
  have hbl := hr.lt
  have HR : Hid (RdAt b hd bd s k w) := hr
  have HM : Hid (w.cell? ⟨1, 0, none⟩ = some (.int .i64 mx)) := hm
  clear hr hm
  generalize hH : Pm.headS (hd + 1) true (s.data.toList.drop k) hd [] [] [] 0 = H
  have HH : Hid (Pm.headS (hd + 1) true (s.data.toList.drop k) hd [] [] [] 0 = H) := hH
  clear hH
  go_enter Tryz.func56, Tryz.ntmps56
  go_wp2
  go_step3
  go_wp2
  go_quiet (fail)
  go_wp2
  go_step3
  go_wp2
  go_loopg [6, 7, 8, 9, 10] (hd + 1) (fun g j _ _ _ _ wr => ∃ (jn u : Nat) (m t : List UInt8) (fs : List Pm.Fld) (v : Value), j = .int .i64 jn ∧ HInv w b hd bd s k g jn u m t fs v wr)
  case atStart =>
    refine ⟨0, 0, [], [], [], .slice none 0 0, rfl, ?_⟩
    have hB := ((below_drewN ((Below.refl _ w).alloc (Nat.le_refl _) (.cells #[.string ⟨#[]⟩, .string ⟨#[]⟩, .slice none 0 0, .string ⟨#[]⟩] 36)) nq).alloc (by simp) (.cells #[.string ⟨#[]⟩, .string ⟨#[]⟩, .slice none 0 0, .string ⟨#[]⟩] 36))
    refine { u1 := by omega, g1 := by omega, k1 := by omega, j1 := by omega, n1 := by simp, eq := rfl, rd := HR.out.below hB, rb := ?_, qb := ?_, ow := World.ownsRow_nil _ _ _ _, sz := by simp, kp := Kp.of hB }
    · unfold RqB
      rw [Below.heap_alloc _ _ _ (by simp)]
      exact heap_alloc_new w _
    · unfold RqB
      have := heap_alloc_new ((w.alloc (.cells #[.string ⟨#[]⟩, .string ⟨#[]⟩, .slice none 0 0, .string ⟨#[]⟩] 36)).drewN nq) (.cells #[.string ⟨#[]⟩, .string ⟨#[]⟩, .slice none 0 0, .string ⟨#[]⟩] 36)
      simpa using this
  case round =>
    obtain ⟨jn, u, m, t, fs, v, rfl, I⟩ := hrel
    obtain ⟨av, nv, cv, rfl⟩ := owns_form I.ow
    cases gk with
    | zero => exact absurd I.g1 (by omega)
    | succ f =>
      have hl := line_any b hd bd s (k + u) (k + hd) 5 wr I.rd (by unfold maxLen; omega) I.k1 (by have := I.u1; omega) (by omega)
      rw [show k + hd - (k + u) = hd - u from by omega, show ((k + hd : Nat) : Int) = (k : Int) + (hd : Int) from by omega] at hl
      have HL := hid hl
      clear hl
      have HE : Hid _ := HH.out.symm.trans (I.eq.trans (headS_succ f _ _ _ _ _ _ _))
      go_wp2_with fail
      refine HL.out.mono ?_
      rintro e w1 ⟨rfl, hr1, hk1⟩
      have rb1 := I.rb.kp hk1 (by omega)
      have qb1 := I.qb.kp hk1 (by omega)
      have ow1 := hk1.owns I.ow (by omega)
      have kp1 := I.kp.trans hk1
      have hls := fun h0 => Pm.lineS_ok (l := s.data.toList.drop (k + u)) (lim := hd - u) (long := 5) (by decide) h0
      have sz1 : w.heap.size + 2 ≤ w1.heap.size := Nat.le_trans I.sz hk1.2.2.2.1
      obtain ⟨x0, x1, x2, x3⟩ := rb1.cells
      have y0 := rb1.free 0
      have y1 := rb1.free 1
      have y2 := rb1.free 2
      have y3 := rb1.free 3
      have i1 := I.u1
      have i2 := I.g1
      have i3 := I.k1
      have i4 := I.j1
      have i5 := I.n1
      clear I HL c0 c1 c2 c3 hk1
      generalize Pm.lineS (s.data.toList.drop (k + u)) (hd - u) 5 = q at *
      by_cases h0 : q.1 = 0
      · obtain ⟨l1, l2, l3, l4⟩ := hls h0
        rw [if_neg (by simp [h0])] at HE
        have hqs : (⟨q.2.1.toArray⟩ : ByteArray).size ≤ 500 := by simp [ByteArray.size]; omega
        rw [List.length_drop, show s.data.toList.length = s.size from by simp] at l3
        clear hls
        by_cases hj : jn = 0
        · subst hj
          rw [if_pos (by simp)] at HE
          have HF := hid (firstLine_any ⟨q.2.1.toArray⟩ mx w1 (by omega) (kp1.cell HM.out (by show 1 ≠ b; omega)))
          have HD : Hid (s.data.toList.drop (k + u + q.2.2) = (s.data.toList.drop (k + u)).drop q.2.2) := by unfold Hid; rw [List.drop_drop]
          clear x0 x1 x2 x3 y0 y1 y2 y3
          go_wp2_with fail
          refine HF.out.mono ?_
          rintro e w2 ⟨rfl, hb2⟩
          clear HF
          have rb2 := rb1.below hb2
          have qb2 := qb1.below hb2
          have ow2 := owns_below ow1 hb2
          have kp2 := kp1.trans (Kp.of hb2)
          have rd2 := hr1.below hb2
          have sz2 : w.heap.size + 2 ≤ w2.heap.size := Nat.le_trans sz1 hb2.size
          obtain ⟨x0, x1, x2, x3⟩ := rb2.cells
          have y0 := rb2.free 0
          have y1 := rb2.free 1
          have y2 := rb2.free 2
          have y3 := rb2.free 3
          obtain ⟨z0, z1, z2, z3⟩ := qb2.cells
          have v0 := qb2.free 0
          have v1 := qb2.free 1
          clear hb2 rb1 qb1 ow1 kp1 hr1 sz1
          generalize Pm.firstS q.2.1 = p at *
          have hbr : b ≠ w.heap.size := by omega
          have hbq : b ≠ w.heap.size + 1 := by omega
          by_cases hp : p.1 = 0
          · rw [if_neg (by simp [hp])] at HE
            go_wp2
            go_roundg f
            case measure => omega
            case rel =>
              refine ⟨1, u + q.2.2, p.2.1, p.2.2, fs, .slice av nv cv, rfl, ?_⟩
              refine { u1 := by omega, g1 := by omega, k1 := by omega, j1 := by omega, n1 := by omega, eq := ?_, rd := ?_, rb := (rb2.other (by omega) 0 _).other (by omega) 1 _, qb := (qb2.set0 _).set1 _, ow := owns_other (owns_other ow2 (by omega) 0 _) (by omega) 1 _, sz := by simpa using sz2, kp := (kp2.fresh (by omega) 0 _).fresh (by omega) 1 _ }
              · rw [HH.out, HE.out, show k + (u + q.2.2) = k + u + q.2.2 from by omega, HD.out, show hd - (u + q.2.2) = hd - u - q.2.2 from by omega]; rfl
              · rw [show k + (u + q.2.2) = k + u + q.2.2 from by omega]; exact (rd2.other hbq 0 _).other hbq 1 _
          · rw [if_pos hp] at HE
            have hne : (p.1 != 0) = true := by rw [bne_iff_ne]; exact hp
            clear hp
            go_wp2
            try rw [Exit.noGoto_ret]
            refine bodyPost_ret (v := .tuple #[.agg #[.string ⟨#[]⟩, .string ⟨#[]⟩, .slice none 0 0, .string ⟨#[]⟩], .int .i64 p.1]) (by simp [results, Tryz.results56, go_sem, x0, x1, x2, x3]) rfl ?_
            rw [HE.out]
            exact ⟨⟨_, rfl, World.ownsRow_nil _ _ _ _⟩, ⟨_, (((((rd2.other hbq 0 _).other hbq 1 _).other hbr 0 _).other hbr 1 _).other hbr 2 _).other hbr 3 _, fun h => absurd h (by simpa [Pm.headBad] using hne)⟩, (((((kp2.fresh (by omega) 0 _).fresh (by omega) 1 _).fresh (Nat.le_refl _) 0 _).fresh (Nat.le_refl _) 1 _).fresh (Nat.le_refl _) 2 _).fresh (Nat.le_refl _) 3 _⟩
        · rw [if_neg (by simp [hj])] at HE
          have hj2 : ((jn : Int) == 0) = false := by rw [beq_eq_false_iff_ne]; omega
          have hbr : b ≠ w.heap.size := by omega
          have hbq : b ≠ w.heap.size + 1 := by omega
          by_cases hem : q.2.1 = []
          · rw [if_pos hem] at HE
            obtain ⟨z0, z1, z2, z3⟩ := qb1.cells
            rw [hem]
            go_wp2
            try rw [Exit.noGoto_ret]
            refine bodyPost_ret (v := .tuple #[.agg #[.string ⟨m.toArray⟩, .string ⟨t.toArray⟩, .slice av nv cv, .string ⟨#[]⟩], .int .i64 0]) (by simp [results, Tryz.results56, go_sem, x0, x1, x2, x3]) rfl ?_
            rw [HE.out]
            refine ⟨⟨_, rfl, owns_base (owns_other (owns_other (owns_other (owns_other ow1 (by omega) 0 _) (by omega) 1 _) (by omega) 2 _) (by omega) 3 _) (by omega)⟩, ⟨_, (((hr1.other hbr 0 _).other hbr 1 _).other hbr 2 _).other hbr 3 _, fun _ => by simp only; omega⟩, (((kp1.fresh (Nat.le_refl _) 0 _).fresh (Nat.le_refl _) 1 _).fresh (Nat.le_refl _) 2 _).fresh (Nat.le_refl _) 3 _⟩
          · rw [if_neg hem] at HE
            have hem2 : q.2.1.isEmpty = false := by rw [List.isEmpty_eq_false_iff]; exact hem
            have HF := hid (wReadField_any ⟨q.2.1.toArray⟩ w1 (by unfold maxLen; omega))
            rw [show (⟨q.2.1.toArray⟩ : ByteArray).data.toList = q.2.1 from rfl] at HF
            have HD : Hid (s.data.toList.drop (k + u + q.2.2) = (s.data.toList.drop (k + u)).drop q.2.2) := by unfold Hid; rw [List.drop_drop]
            have HFL : Hid (∀ n v, Pm.fieldS q.2.1 = some (n, v) → n.length ≤ 500 ∧ v.length ≤ 500) := fun n v h => by
              have := field_le h; omega
            clear x0 x1 x2 x3 y0 y1 y2 y3 hem hj
            cases hfd : Pm.fieldS q.2.1 with
            | none =>
              rw [hfd] at HE HF
              clear HFL
              go_wp2_with fail
              refine HF.out.mono ?_
              rintro e w2 ⟨rfl, hb2⟩
              clear HF
              have rb2 := rb1.below hb2
              have kp2 := kp1.trans (Kp.of hb2)
              have rd2 := hr1.below hb2
              obtain ⟨x0, x1, x2, x3⟩ := rb2.cells
              have y0 := rb2.free 0
              have y1 := rb2.free 1
              have y2 := rb2.free 2
              have y3 := rb2.free 3
              have sz2 : w.heap.size + 2 ≤ w2.heap.size := Nat.le_trans sz1 hb2.size
              have szA : w.heap.size < w2.heap.size := by omega
              unfold fldV
              clear hb2 rb1 qb1 ow1 kp1 hr1 hfd
              go_wp2
              try rw [Exit.noGoto_ret]
              refine bodyPost_ret (v := .tuple #[.agg #[.string ⟨#[]⟩, .string ⟨#[]⟩, .slice none 0 0, .string ⟨#[]⟩], .int .i64 3]) (by simp [results, Tryz.results56, go_sem, x0, x1, x2, x3, szA]) rfl ?_
              rw [HE.out]
              refine ⟨⟨_, rfl, World.ownsRow_nil _ _ _ _⟩, ⟨_, ((((rd2.other hbr 0 _).other hbr 1 _).other hbr 2 _).other hbr 3 _).below ((Below.refl _ _).alloc (Nat.le_refl _) _), fun h => absurd h (by decide)⟩, ((((kp2.fresh (Nat.le_refl _) 0 _).fresh (Nat.le_refl _) 1 _).fresh (Nat.le_refl _) 2 _).fresh (Nat.le_refl _) 3 _).trans (Kp.of ((Below.refl _ _).alloc (Nat.le_refl _) _))⟩
            | some fl =>
              obtain ⟨fn, fv⟩ := fl
              rw [hfd] at HE HF
              obtain ⟨e1, e2⟩ := HFL.out fn fv hfd
              have hn1 : (⟨fn.toArray⟩ : ByteArray).size ≤ 281474976710656 := by simp [ByteArray.size]; omega
              have hv1 : (⟨fv.toArray⟩ : ByteArray).size ≤ 281474976710656 := by simp [ByteArray.size]; omega
              clear HFL e1 e2
              go_wp2_with fail
              refine HF.out.mono ?_
              rintro e w2 ⟨rfl, hb2⟩
              clear HF
              have rb2 := rb1.below hb2
              have qb2 := qb1.below hb2
              have ow2 := owns_below ow1 hb2
              have kp2 := kp1.trans (Kp.of hb2)
              have rd2 := hr1.below hb2
              have sz2 : w.heap.size + 2 ≤ w2.heap.size := Nat.le_trans sz1 hb2.size
              have szA : w.heap.size < w2.heap.size := by omega
              have szB : w.heap.size + 1 < w2.heap.size := by omega
              obtain ⟨z0, z1, z2, z3⟩ := qb2.cells
              have v2 := qb2.free 2
              unfold fldV
              clear hb2 rb1 qb1 ow1 kp1 hr1 hfd sz1
              go_wp2
              go_region_law
                (first | (refine step_append_lies _ (by rfl) _ _ _ (by rfl) (w.heap.size + 2) 61 i0 _ 2 32 Tryz.underlying34 hi hz0 hz1 hz2 rfl (by omega) (.slice av nv cv) fs.length (flat fs) (by rfl) ((owns_below ((ow2.alloc _).drew) hb3).alloc _) ⟨w3.heap.size, 0, none⟩ 1 1 [.string ⟨fn.toArray⟩, .string ⟨fv.toArray⟩] (by rfl) (by rfl) (World.news_of_block (cs := #[.string ⟨fn.toArray⟩, .string ⟨fv.toArray⟩]) (t := 61) (fr := (0, 0)) (heap_alloc_new w3 _)) (by simp [Value.oneCell']) (by omega) (by unfold maxLen; omega) (by omega) (Nat.le_trans (show w.heap.size + 2 ≤ w3.heap.size from s3) (by simp)) (w3.heap.size + 1) (by simp) ?_; intro gg cap w4 hown4 hgrow hat hlt; have qb4 := ((((qb2.below ((Below.refl _ _).alloc (Nat.le_refl _) _)).below (Below.refl _ _).drew).below hb3).below ((Below.refl _ _).alloc (Nat.le_refl _) _)).grown hgrow (own_not ow2 (by omega)); obtain ⟨_, _, q42, _⟩ := qb4.cells; have q4f := qb4.free 2; have g0 := cell_grown hgrow (cell_old k0) (own_lt ow2 (Nat.le_refl _)); have g1 := cell_grown hgrow (cell_old k1) (own_lt ow2 (Nat.le_refl _))) | (go_simp; go_at_call 76; refine (own_any _ _ _ hn1 hv1).mono ?_; rintro e w3 ⟨rfl, hb3⟩; have s3 := lt_after szB hb3; have k0 := cell_later hb3 (a := ⟨w2.heap.size, 0, none⟩) (v := .string ⟨fn.toArray⟩) (by simp); have k1 := cell_later hb3 (a := ⟨w2.heap.size, 1, none⟩) (v := .string ⟨fv.toArray⟩) (by simp); have k2 := (((qb2.below ((Below.refl _ _).alloc (Nat.le_refl _) _)).below (Below.refl _ _).drew).below hb3).cells.2.2.1))
              all_goals
                go_wp2
                go_roundg f
                case measure => omega
                case rel =>
                  have hA := (Below.refl w2.heap.size w2).alloc (Nat.le_refl _) (.cells #[.string ⟨fn.toArray⟩, .string ⟨fv.toArray⟩] 61)
                  have hC := bel_of hA.drew hb3
                  have hE5 := bel_of hC ((Below.refl w3.heap.size w3).alloc (Nat.le_refl _) (.cells #[.string ⟨fn.toArray⟩, .string ⟨fv.toArray⟩] 61))
                  refine ⟨jn + 1, u + q.2.2, m, t, fs ++ [(fn, fv)], .slice (some ⟨gg, 0, none⟩) (fs.length + 1) cap, by go_num, ?_⟩
                  refine { u1 := by omega, g1 := by omega, k1 := by omega, j1 := by omega, n1 := by simp; omega, eq := ?_, rd := ?_, rb := ?_, qb := qb4.set2 _, ow := ?_, sz := ?_, kp := ?_ }
                  · rw [HH.out, HE.out, show k + (u + q.2.2) = k + u + q.2.2 from by omega, HD.out, show hd - (u + q.2.2) = hd - u - q.2.2 from by omega]; rfl
                  · rw [show k + (u + q.2.2) = k + u + q.2.2 from by omega]
                    exact ((rd2.below hE5).grown hgrow (own_not ow2 (by omega))).other hbq 2 _
                  · exact ((rb2.below hE5).grown hgrow (own_not ow2 (by omega))).other (by omega) 2 _
                  · rw [flat_snoc, List.length_append]
                    exact owns_other hown4 (by omega) 2 _
                  · have h1 := hgrow.size
                    have h2 : (w3.alloc (.cells #[.string ⟨fn.toArray⟩, .string ⟨fv.toArray⟩] 61)).heap.size = w3.heap.size + 1 := by simp
                    have h3 : (w4.setCell ⟨w.heap.size + 1, 2, none⟩ (.slice (some ⟨gg, 0, none⟩) (fs.length + 1) cap)).heap.size = w4.heap.size := by simp
                    omega
                  · exact ((kp2.trans (Kp.of hE5)).grown hgrow (fun r hr => by have := own_ge ow2 r hr; omega)).fresh (by omega) 2 _
      · rw [if_pos h0] at HE
        have hne : (q.1 != 0) = true := by rw [bne_iff_ne]; exact h0
        clear h0 hls
        go_wp2
        try rw [Exit.noGoto_ret]
        refine bodyPost_ret (v := .tuple #[.agg #[.string ⟨#[]⟩, .string ⟨#[]⟩, .slice none 0 0, .string ⟨#[]⟩], .int .i64 q.1]) (by simp [results, Tryz.results56, go_sem, x0, x1, x2, x3]) rfl ?_
        rw [HE.out]
        have hbr : b ≠ w.heap.size := by omega
        exact ⟨⟨_, rfl, World.ownsRow_nil _ _ _ _⟩, ⟨_, (((hr1.other hbr 0 _).other hbr 1 _).other hbr 2 _).other hbr 3 _, fun h => absurd h (by simpa [Pm.headBad] using hne)⟩, (((kp1.fresh (Nat.le_refl _) 0 _).fresh (Nat.le_refl _) 1 _).fresh (Nat.le_refl _) 2 _).fresh (Nat.le_refl _) 3 _⟩
end Go.Proofs.YtnohadlihgjppaaGreatDoor
