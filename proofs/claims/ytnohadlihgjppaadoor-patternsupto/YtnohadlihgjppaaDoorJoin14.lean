/- Texts that follow one another, joined. -/
import Derived.Test.YtnohadlihgjppaaDoorJoin03
import Derived.Test.YtnohadlihgjppaaDoorJoin13
import Derived.Deep.RegionLaw
import Derived.Deep.AppendLies
import Derived.WalkMore
import Derived.Deep.LoopGhost
import Derived.Test.YtnohadlihgjppaaDoorJoin04
/- A reader's head: the error, the method, the target, the fields and the new place, as the plain mathematics says; no other old block turns. -/
namespace Go.Proofs.YtnohadlihgjppaaDoor
open Go.RowKit

def flat (fs : List Pm.Fld) : List Value := fs.flatMap fun f => [.string ⟨f.1.toArray⟩, .string ⟨f.2.toArray⟩]
theorem flat_snoc (fs : List Pm.Fld) (f : Pm.Fld) : flat (fs ++ [f]) = flat fs ++ [.string ⟨f.1.toArray⟩, .string ⟨f.2.toArray⟩] := by simp [flat]
theorem flat_length (fs : List Pm.Fld) : (flat fs).length = fs.length * 2 := by
  induction fs with
  | nil => rfl
  | cons f fs ih => simp [flat] at ih ⊢; omega
def RqB (g : Nat) (m t : List UInt8) (v : Value) (w : World) : Prop := w.heap[g]? = some (.cells #[.string ⟨m.toArray⟩, .string ⟨t.toArray⟩, v, .string ⟨#[]⟩] 28 (0, 0))
def muAt (b e : Nat) (w : World) : Nat := e - (intOf ((w.cell? ⟨b, 3, none⟩).getD undef)).toNat

theorem Kp.block {b : Nat} {w w' : World} (h : Kp b w w') {j : Nat} {o : Obj} (hj : w.heap[j]? = some o) (hb : j ≠ b) : w'.heap[j]? = some o := by
  have hlt : j < w.heap.size := by
    rcases Nat.lt_or_ge j w.heap.size with h' | h'
    · exact h'
    · simp [Array.getElem?_eq_none h'] at hj
  rw [h.2.2.2.2 j hlt hb]; exact hj
theorem Kp.owns {b : Nat} {w w' : World} (h : Kp b w w') {B : Nat} {e : TypeId} {sz : Nat} {v : Value} {n : Nat} {xs : List Value} (ho : w.ownsRow B e sz v n xs) (hb : b < B) : w'.ownsRow B e sz v n xs := by
  obtain ⟨h1, h2⟩ := ho
  refine ⟨h1, ?_⟩
  rcases h2 with h2 | ⟨g, cap, cur, hv, hB, hg, h3⟩
  · exact .inl h2
  · exact .inr ⟨g, cap, cur, hv, hB, h.block hg (by omega), h3⟩
theorem owns_base {w : World} {B B' : Nat} {e : TypeId} {sz : Nat} {v : Value} {n : Nat} {xs : List Value} (ho : w.ownsRow B e sz v n xs) (hb : B' ≤ B) : w.ownsRow B' e sz v n xs := by
  obtain ⟨h1, h2⟩ := ho
  refine ⟨h1, ?_⟩
  rcases h2 with h2 | ⟨g, cap, cur, hv, hB, hg, h3⟩
  · exact .inl h2
  · exact .inr ⟨g, cap, cur, hv, by omega, hg, h3⟩
theorem Kp.cell {b : Nat} {w w' : World} (h : Kp b w w') {a : Addr} {v : Value} (hc : w.cell? a = some v) (hb : a.block ≠ b) : w'.cell? a = some v := by
  have := h.2.2.2.2 a.block (block_lt_of_cell hc) hb
  rw [World.cell?_of_block (w := w) this]; exact hc
theorem RqB.cells {g : Nat} {m t : List UInt8} {v : Value} {w : World} (h : RqB g m t v w) :
    w.cell? ⟨g, 0, none⟩ = some (.string ⟨m.toArray⟩) ∧ w.cell? ⟨g, 1, none⟩ = some (.string ⟨t.toArray⟩) ∧ w.cell? ⟨g, 2, none⟩ = some v ∧ w.cell? ⟨g, 3, none⟩ = some (.string ⟨#[]⟩) := by
  refine ⟨?_, ?_, ?_, ?_⟩ <;> (rw [Lib.cell_of_heap h]; rfl)
theorem RqB.free {g : Nat} {m t : List UInt8} {v : Value} {w : World} (h : RqB g m t v w) (j : Nat) : w.frozen? ⟨g, j, none⟩ = false := Lib.frozen_of_heap h j
theorem RqB.lt {g : Nat} {m t : List UInt8} {v : Value} {w : World} (h : RqB g m t v w) : g < w.heap.size := block_lt_of_cell h.cells.1
theorem RqB.below {g : Nat} {m t : List UInt8} {v : Value} {w w' : World} (h : RqB g m t v w) (hb : Below w.heap.size w w') : RqB g m t v w' := by
  have := hb.block g h.lt; unfold RqB at *; rw [this]; exact h
theorem RqB.kp {g b : Nat} {m t : List UInt8} {v : Value} {w w' : World} (h : RqB g m t v w) (hk : Kp b w w') (hb : g ≠ b) : RqB g m t v w' := hk.block h hb
theorem headS_succ (f : Nat) (first : Bool) (l : List UInt8) (lim : Nat) (m t : List UInt8) (fs : List Pm.Fld) (u : Nat) :
    Pm.headS (f + 1) first l lim m t fs u = if (Pm.lineS l lim 5).1 ≠ 0 then Pm.headBad (Pm.lineS l lim 5).1
    else if first = true then
      (if (Pm.firstS (Pm.lineS l lim 5).2.1).1 ≠ 0 then Pm.headBad (Pm.firstS (Pm.lineS l lim 5).2.1).1
       else Pm.headS f false (l.drop (Pm.lineS l lim 5).2.2) (lim - (Pm.lineS l lim 5).2.2) (Pm.firstS (Pm.lineS l lim 5).2.1).2.1 (Pm.firstS (Pm.lineS l lim 5).2.1).2.2 fs (u + (Pm.lineS l lim 5).2.2))
    else if (Pm.lineS l lim 5).2.1 = [] then (0, m, t, fs, u + (Pm.lineS l lim 5).2.2)
    else match Pm.fieldS (Pm.lineS l lim 5).2.1 with
      | none => Pm.headBad 3
      | some f' => Pm.headS f false (l.drop (Pm.lineS l lim 5).2.2) (lim - (Pm.lineS l lim 5).2.2) m t (fs ++ [f']) (u + (Pm.lineS l lim 5).2.2) := rfl
theorem RdAt.other {b : Nat} {hd bd : Int} {s : ByteArray} {k : Nat} {w : World} (h : RdAt b hd bd s k w) {g : Nat} (hg : b ≠ g) (o : Nat) (v : Value) : RdAt b hd bd s k (w.setCell ⟨g, o, none⟩ v) := by
  unfold RdAt at *; rw [heap_setCell_other w ⟨g, o, none⟩ b v hg]; exact h
theorem Kp.fresh {b : Nat} {w w1 : World} (h : Kp b w w1) {g : Nat} (hg : w.heap.size ≤ g) (o : Nat) (v : Value) : Kp b w (w1.setCell ⟨g, o, none⟩ v) :=
  ⟨by simpa [World.setCell] using h.1, by simpa [World.setCell] using h.2.1, by simpa [World.setCell] using h.2.2.1, by simpa using h.2.2.2.1, fun k hk hb => by rw [heap_setCell_other w1 ⟨g, o, none⟩ k v (by simp; omega)]; exact h.2.2.2.2 k hk hb⟩
theorem RqB.other {g' : Nat} {m t : List UInt8} {x : Value} {w : World} (h : RqB g' m t x w) {g : Nat} (hg : g' ≠ g) (o : Nat) (v : Value) : RqB g' m t x (w.setCell ⟨g, o, none⟩ v) := by
  unfold RqB at *; rw [heap_setCell_other w ⟨g, o, none⟩ g' v hg]; exact h
theorem RqB.set0 {g : Nat} {m t : List UInt8} {x : Value} {w : World} (h : RqB g m t x w) (m' : List UInt8) : RqB g m' t x (w.setCell ⟨g, 0, none⟩ (.string ⟨m'.toArray⟩)) := by
  unfold RqB at *; rw [heap_setCell_same w g 0 _ _ _ h]; rfl
theorem RqB.set1 {g : Nat} {m t : List UInt8} {x : Value} {w : World} (h : RqB g m t x w) (t' : List UInt8) : RqB g m t' x (w.setCell ⟨g, 1, none⟩ (.string ⟨t'.toArray⟩)) := by
  unfold RqB at *; rw [heap_setCell_same w g 1 _ _ _ h]; rfl
theorem RqB.set2 {g : Nat} {m t : List UInt8} {x : Value} {w : World} (h : RqB g m t x w) (x' : Value) : RqB g m t x' (w.setCell ⟨g, 2, none⟩ x') := by
  unfold RqB at *; rw [heap_setCell_same w g 2 _ _ _ h]; rfl
theorem owns_other {w : World} {B : Nat} {e : TypeId} {sz : Nat} {x : Value} {n : Nat} {xs : List Value} (ho : w.ownsRow B e sz x n xs) {g : Nat} (hg : g < B) (o : Nat) (v : Value) : (w.setCell ⟨g, o, none⟩ v).ownsRow B e sz x n xs := by
  obtain ⟨h1, h2⟩ := ho
  refine ⟨h1, ?_⟩
  rcases h2 with h2 | ⟨r, cap, cur, hv, hB, hr, h3⟩
  · exact .inl h2
  · exact .inr ⟨r, cap, cur, hv, hB, by rw [heap_setCell_other w ⟨g, o, none⟩ r v (by simp; omega)]; exact hr, h3⟩
theorem owns_form {w : World} {B : Nat} {e : TypeId} {sz : Nat} {v : Value} {n : Nat} {xs : List Value} (h : w.ownsRow B e sz v n xs) : ∃ a k c, v = .slice a k c := by
  rcases h.2 with ⟨rfl, _⟩ | ⟨g, cap, cur, rfl, _⟩
  · exact ⟨_, _, _, rfl⟩
  · exact ⟨_, _, _, rfl⟩
theorem field_le {l n v : List UInt8} (h : Pm.fieldS l = some (n, v)) : n.length + v.length ≤ l.length := by
  unfold Pm.fieldS at h
  split at h
  · simp only [Option.some.injEq, Prod.mk.injEq] at h
    have h1 := congrArg List.length (Pm.ahead_behind 58 l)
    rw [List.length_append] at h1
    have h2 := trim_le ((Pm.behind 58 l).drop 1)
    rw [List.length_drop] at h2
    rw [← h.1, ← h.2]; omega
  · cases h
theorem Tryd.info36 : (Tryd.prog.info? 34).map (fun i => (i.zero, i.size, i.bytes)) = some (some (.agg #[.string ⟨#[]⟩, .string ⟨#[]⟩]), 2, 32) := by kernel_rfl
theorem RqB.grown {g : Nat} {m t : List UInt8} {v : Value} {w w' : World} {row : Option Nat} (h : RqB g m t v w) (hg : w.grownBy w' row) (hne : row ≠ some g) : RqB g m t v w' := by
  have := hg.block g h.lt (fun h' => hne h'.symm)
  unfold RqB at *; rw [this]; exact h
theorem own_not {w : World} {B : Nat} {e : TypeId} {sz : Nat} {v : Value} {n : Nat} {xs : List Value} (h : w.ownsRow B e sz v n xs) {g : Nat} (hg : g < B) : v.ownBlock ≠ some g := fun h' => by
  have := own_ge h g h'; omega
theorem own_lt {w : World} {B : Nat} {e : TypeId} {sz : Nat} {v : Value} {n : Nat} {xs : List Value} (h : w.ownsRow B e sz v n xs) {g : Nat} (hg : w.heap.size ≤ g) : v.ownBlock ≠ some g := fun h' => by
  rcases h.2 with ⟨rfl, _⟩ | ⟨r, cap, cur, rfl, _, hr, _⟩
  · cases h'
  · simp [Value.ownBlock] at h'
    subst h'
    simp [Array.getElem?_eq_none hg] at hr
theorem cell_grown {w w' : World} {row : Option Nat} {a : Addr} {v : Value} (hg : w.grownBy w' row) (hc : w.cell? a = some v) (hne : row ≠ some a.block) : w'.cell? a = some v := by
  rw [World.cell?_of_block (w := w) (hg.block a.block (block_lt_of_cell hc) (fun h => hne h.symm))]; exact hc
theorem lt_after {w2 w3 : World} {o : Obj} {n : Nat} (h : n < w2.heap.size) (hb : Below (w2.alloc o).drew.heap.size (w2.alloc o).drew w3) : n < w3.heap.size := by
  have h1 := hb.size
  have h2 : (w2.alloc o).drew.heap.size = w2.heap.size + 1 := by simp
  omega
theorem RdAt.grown {b : Nat} {hd bd : Int} {s : ByteArray} {k : Nat} {w w' : World} {row : Option Nat} (h : RdAt b hd bd s k w) (hg : w.grownBy w' row) (hne : row ≠ some b) : RdAt b hd bd s k w' := by
  have := hg.block b h.lt (fun h' => hne h'.symm)
  unfold RdAt at *; rw [this]; exact h
theorem Kp.grown {b : Nat} {w w1 w' : World} {row : Option Nat} (h : Kp b w w1) (hg : w1.grownBy w' row) (hr : ∀ k, row = some k → w.heap.size ≤ k) : Kp b w w' :=
  ⟨hg.os.trans h.1, hg.tape.trans h.2.1, hg.output.trans h.2.2.1, Nat.le_trans h.2.2.2.1 hg.size, fun k hk hb => (hg.block k (Nat.lt_of_lt_of_le hk h.2.2.2.1) (fun h' => by have := hr k h'.symm; omega)).trans (h.2.2.2.2 k hk hb)⟩
/- what holds at each line of a head -/
structure HInv (w : World) (b hd : Nat) (bd : Int) (s : ByteArray) (k : Nat) (g j u : Nat) (m t : List UInt8) (fs : List Pm.Fld) (v : Value) (wr : World) : Prop where
  u1 : u ≤ hd
  g1 : hd - u + 1 ≤ g
  k1 : k + u ≤ s.size
  j1 : j ≤ u
  n1 : fs.length ≤ u
  eq : Pm.headS (hd + 1) true (s.data.toList.drop k) hd [] [] [] 0 = Pm.headS g (decide (j = 0)) (s.data.toList.drop (k + u)) (hd - u) m t fs u
  rd : RdAt b hd bd s (k + u) wr
  rb : RqB w.heap.size [] [] (.slice none 0 0) wr
  qb : RqB (w.heap.size + 1) m t v wr
  ow : wr.ownsRow (w.heap.size + 2) 34 2 v fs.length (flat fs)
  sz : w.heap.size + 2 ≤ wr.heap.size
  kp : Kp b w wr

set_option maxRecDepth 100000 in
set_option maxHeartbeats 2000000 in
theorem head_any (b : Nat) (hd : Nat) (bd : Int) (s : ByteArray) (k : Nat) (mx : Int) (w : World) (hr : RdAt b hd bd s k w) (hs : s.size ≤ 1152921504606846976) (hk : k ≤ s.size) (hh : hd ≤ 500) (hm : w.cell? ⟨1, 0, none⟩ = some (.int .i64 mx)) (hb : b ≠ 1) :
    Calls Tryd.prog 45 #[.pointer (some ⟨b, 0, none⟩)] w fun r w' =>
      (∃ v, r = .returned (.tuple #[.agg #[.string ⟨(Pm.headS (hd + 1) true (s.data.toList.drop k) hd [] [] [] 0).2.1.toArray⟩, .string ⟨(Pm.headS (hd + 1) true (s.data.toList.drop k) hd [] [] [] 0).2.2.1.toArray⟩, v, .string ⟨#[]⟩], .int .i64 (Pm.headS (hd + 1) true (s.data.toList.drop k) hd [] [] [] 0).1]) ∧ w'.ownsRow w.heap.size 34 2 v (Pm.headS (hd + 1) true (s.data.toList.drop k) hd [] [] [] 0).2.2.2.1.length (flat (Pm.headS (hd + 1) true (s.data.toList.drop k) hd [] [] [] 0).2.2.2.1)) ∧
      (∃ k', RdAt b hd bd s k' w' ∧ ((Pm.headS (hd + 1) true (s.data.toList.drop k) hd [] [] [] 0).1 = 0 → k' = k + (Pm.headS (hd + 1) true (s.data.toList.drop k) hd [] [] [] 0).2.2.2.2)) ∧ Kp b w w' := by
  obtain ⟨c0, c1, c2, c3⟩ := hr.cell
  obtain ⟨i0, hi, hz0, hz1, hz2⟩ := info_parts Tryd.info36
  have hbl := hr.lt
  have HR : Hid (RdAt b hd bd s k w) := hr
  have HM : Hid (w.cell? ⟨1, 0, none⟩ = some (.int .i64 mx)) := hm
  clear hr hm
  generalize hH : Pm.headS (hd + 1) true (s.data.toList.drop k) hd [] [] [] 0 = H
  have HH : Hid (Pm.headS (hd + 1) true (s.data.toList.drop k) hd [] [] [] 0 = H) := hH
  clear hH
  go_enter Tryd.func45, Tryd.ntmps45
  go_wp2
  go_step3
  go_wp2
  go_quiet (fail)
  go_wp2
  go_step3
  go_wp2
  go_loopg [6, 7, 8, 9, 10] (hd + 1) (fun g j _ _ _ _ wr => ∃ (jn u : Nat) (m t : List UInt8) (fs : List Pm.Fld) (v : Value), j = .int .i64 jn ∧ HInv w b hd bd s k g jn u m t fs v wr)
  case atStart =>
    refine ⟨0, 0, [], [], [], .slice none 0 0, rfl, ?_⟩
    have hB := ((below_drewN ((Below.refl _ w).alloc (Nat.le_refl _) (.cells #[.string ⟨#[]⟩, .string ⟨#[]⟩, .slice none 0 0, .string ⟨#[]⟩] 28)) nq).alloc (by simp) (.cells #[.string ⟨#[]⟩, .string ⟨#[]⟩, .slice none 0 0, .string ⟨#[]⟩] 28))
    refine { u1 := by omega, g1 := by omega, k1 := by omega, j1 := by omega, n1 := by simp, eq := rfl, rd := HR.out.below hB, rb := ?_, qb := ?_, ow := World.ownsRow_nil _ _ _ _, sz := by simp, kp := Kp.of hB }
    · unfold RqB
      rw [Below.heap_alloc _ _ _ (by simp)]
      exact heap_alloc_new w _
    · unfold RqB
      have := heap_alloc_new ((w.alloc (.cells #[.string ⟨#[]⟩, .string ⟨#[]⟩, .slice none 0 0, .string ⟨#[]⟩] 28)).drewN nq) (.cells #[.string ⟨#[]⟩, .string ⟨#[]⟩, .slice none 0 0, .string ⟨#[]⟩] 28)
      simpa using this
  case round =>
    obtain ⟨jn, u, m, t, fs, v, rfl, I⟩ := hrel
    obtain ⟨av, nv, cv, rfl⟩ := owns_form I.ow
    cases gk with
    | zero => exact absurd I.g1 (by omega)
    | succ f =>
      have hl := line_any b hd bd s (k + u) (k + hd) 5 wr I.rd (by unfold maxLen; omega) I.k1 (by have := I.u1; omega) (by omega)
      rw [show k + hd - (k + u) = hd - u from by omega, show ((k + hd : Nat) : Int) = (k : Int) + (hd : Int) from by omega] at hl
      have HL := hid hl
      clear hl
      have HE : Hid _ := HH.out.symm.trans (I.eq.trans (headS_succ f _ _ _ _ _ _ _))
      go_wp2_with fail
      refine HL.out.mono ?_
      rintro e w1 ⟨rfl, hr1, hk1⟩
      have rb1 := I.rb.kp hk1 (by omega)
      have qb1 := I.qb.kp hk1 (by omega)
      have ow1 := hk1.owns I.ow (by omega)
      have kp1 := I.kp.trans hk1
      have hls := fun h0 => Pm.lineS_ok (l := s.data.toList.drop (k + u)) (lim := hd - u) (long := 5) (by decide) h0
      have sz1 : w.heap.size + 2 ≤ w1.heap.size := Nat.le_trans I.sz hk1.2.2.2.1
      obtain ⟨x0, x1, x2, x3⟩ := rb1.cells
      have y0 := rb1.free 0
      have y1 := rb1.free 1
      have y2 := rb1.free 2
      have y3 := rb1.free 3
      have i1 := I.u1
      have i2 := I.g1
      have i3 := I.k1
      have i4 := I.j1
      have i5 := I.n1
      clear I HL c0 c1 c2 c3 hk1
      generalize Pm.lineS (s.data.toList.drop (k + u)) (hd - u) 5 = q at *
      by_cases h0 : q.1 = 0
      · obtain ⟨l1, l2, l3, l4⟩ := hls h0
        rw [if_neg (by simp [h0])] at HE
        have hqs : (⟨q.2.1.toArray⟩ : ByteArray).size ≤ 500 := by simp [ByteArray.size]; omega
        rw [List.length_drop, show s.data.toList.length = s.size from by simp] at l3
        clear hls
        by_cases hj : jn = 0
        · subst hj
          rw [if_pos (by simp)] at HE
          have HF := hid (firstLine_any ⟨q.2.1.toArray⟩ mx w1 (by omega) (kp1.cell HM.out (by show 1 ≠ b; omega)))
          have HD : Hid (s.data.toList.drop (k + u + q.2.2) = (s.data.toList.drop (k + u)).drop q.2.2) := by unfold Hid; rw [List.drop_drop]
          clear x0 x1 x2 x3 y0 y1 y2 y3
          go_wp2_with fail
          refine HF.out.mono ?_
          rintro e w2 ⟨rfl, hb2⟩
          clear HF
          have rb2 := rb1.below hb2
          have qb2 := qb1.below hb2
          have ow2 := owns_below ow1 hb2
          have kp2 := kp1.trans (Kp.of hb2)
          have rd2 := hr1.below hb2
          have sz2 : w.heap.size + 2 ≤ w2.heap.size := Nat.le_trans sz1 hb2.size
          obtain ⟨x0, x1, x2, x3⟩ := rb2.cells
          have y0 := rb2.free 0
          have y1 := rb2.free 1
          have y2 := rb2.free 2
          have y3 := rb2.free 3
          obtain ⟨z0, z1, z2, z3⟩ := qb2.cells
          have v0 := qb2.free 0
          have v1 := qb2.free 1
          clear hb2 rb1 qb1 ow1 kp1 hr1 sz1
          generalize Pm.firstS q.2.1 = p at *
          have hbr : b ≠ w.heap.size := by omega
          have hbq : b ≠ w.heap.size + 1 := by omega
          by_cases hp : p.1 = 0
          · rw [if_neg (by simp [hp])] at HE
            go_wp2
            go_roundg f
            case measure => omega
            case rel =>
              refine ⟨1, u + q.2.2, p.2.1, p.2.2, fs, .slice av nv cv, rfl, ?_⟩
              refine { u1 := by omega, g1 := by omega, k1 := by omega, j1 := by omega, n1 := by omega, eq := ?_, rd := ?_, rb := (rb2.other (by omega) 0 _).other (by omega) 1 _, qb := (qb2.set0 _).set1 _, ow := owns_other (owns_other ow2 (by omega) 0 _) (by omega) 1 _, sz := by simpa using sz2, kp := (kp2.fresh (by omega) 0 _).fresh (by omega) 1 _ }
              · rw [HH.out, HE.out, show k + (u + q.2.2) = k + u + q.2.2 from by omega, HD.out, show hd - (u + q.2.2) = hd - u - q.2.2 from by omega]; rfl
              · rw [show k + (u + q.2.2) = k + u + q.2.2 from by omega]; exact (rd2.other hbq 0 _).other hbq 1 _
          · rw [if_pos hp] at HE
            have hne : (p.1 != 0) = true := by rw [bne_iff_ne]; exact hp
            clear hp
            go_wp2
            try rw [Exit.noGoto_ret]
            refine bodyPost_ret (v := .tuple #[.agg #[.string ⟨#[]⟩, .string ⟨#[]⟩, .slice none 0 0, .string ⟨#[]⟩], .int .i64 p.1]) (by simp [results, Tryd.results45, go_sem, x0, x1, x2, x3]) rfl ?_
            rw [HE.out]
            exact ⟨⟨_, rfl, World.ownsRow_nil _ _ _ _⟩, ⟨_, (((((rd2.other hbq 0 _).other hbq 1 _).other hbr 0 _).other hbr 1 _).other hbr 2 _).other hbr 3 _, fun h => absurd h (by simpa [Pm.headBad] using hne)⟩, (((((kp2.fresh (by omega) 0 _).fresh (by omega) 1 _).fresh (Nat.le_refl _) 0 _).fresh (Nat.le_refl _) 1 _).fresh (Nat.le_refl _) 2 _).fresh (Nat.le_refl _) 3 _⟩
        · rw [if_neg (by simp [hj])] at HE
          have hj2 : ((jn : Int) == 0) = false := by rw [beq_eq_false_iff_ne]; omega
          have hbr : b ≠ w.heap.size := by omega
          have hbq : b ≠ w.heap.size + 1 := by omega
          by_cases hem : q.2.1 = []
          · rw [if_pos hem] at HE
            obtain ⟨z0, z1, z2, z3⟩ := qb1.cells
            rw [hem]
            go_wp2
            try rw [Exit.noGoto_ret]
            refine bodyPost_ret (v := .tuple #[.agg #[.string ⟨m.toArray⟩, .string ⟨t.toArray⟩, .slice av nv cv, .string ⟨#[]⟩], .int .i64 0]) (by simp [results, Tryd.results45, go_sem, x0, x1, x2, x3]) rfl ?_
            rw [HE.out]
            refine ⟨⟨_, rfl, owns_base (owns_other (owns_other (owns_other (owns_other ow1 (by omega) 0 _) (by omega) 1 _) (by omega) 2 _) (by omega) 3 _) (by omega)⟩, ⟨_, (((hr1.other hbr 0 _).other hbr 1 _).other hbr 2 _).other hbr 3 _, fun _ => by simp only; omega⟩, (((kp1.fresh (Nat.le_refl _) 0 _).fresh (Nat.le_refl _) 1 _).fresh (Nat.le_refl _) 2 _).fresh (Nat.le_refl _) 3 _⟩
          · rw [if_neg hem] at HE
            have hem2 : q.2.1.isEmpty = false := by rw [List.isEmpty_eq_false_iff]; exact hem
            have HF := hid (wReadField_any ⟨q.2.1.toArray⟩ w1 (by unfold maxLen; omega))
            rw [show (⟨q.2.1.toArray⟩ : ByteArray).data.toList = q.2.1 from rfl] at HF
            have HD : Hid (s.data.toList.drop (k + u + q.2.2) = (s.data.toList.drop (k + u)).drop q.2.2) := by unfold Hid; rw [List.drop_drop]
            have HFL : Hid (∀ n v, Pm.fieldS q.2.1 = some (n, v) → n.length ≤ 500 ∧ v.length ≤ 500) := fun n v h => by
              have := field_le h; omega
            clear x0 x1 x2 x3 y0 y1 y2 y3 hem hj
            cases hfd : Pm.fieldS q.2.1 with
            | none =>
              rw [hfd] at HE HF
              clear HFL
              go_wp2_with fail
              refine HF.out.mono ?_
              rintro e w2 ⟨rfl, hb2⟩
              clear HF
              have rb2 := rb1.below hb2
              have kp2 := kp1.trans (Kp.of hb2)
              have rd2 := hr1.below hb2
              obtain ⟨x0, x1, x2, x3⟩ := rb2.cells
              have y0 := rb2.free 0
              have y1 := rb2.free 1
              have y2 := rb2.free 2
              have y3 := rb2.free 3
              have sz2 : w.heap.size + 2 ≤ w2.heap.size := Nat.le_trans sz1 hb2.size
              have szA : w.heap.size < w2.heap.size := by omega
              unfold fldV
              clear hb2 rb1 qb1 ow1 kp1 hr1 hfd
              go_wp2
              try rw [Exit.noGoto_ret]
              refine bodyPost_ret (v := .tuple #[.agg #[.string ⟨#[]⟩, .string ⟨#[]⟩, .slice none 0 0, .string ⟨#[]⟩], .int .i64 3]) (by simp [results, Tryd.results45, go_sem, x0, x1, x2, x3, szA]) rfl ?_
              rw [HE.out]
              refine ⟨⟨_, rfl, World.ownsRow_nil _ _ _ _⟩, ⟨_, ((((rd2.other hbr 0 _).other hbr 1 _).other hbr 2 _).other hbr 3 _).below ((Below.refl _ _).alloc (Nat.le_refl _) _), fun h => absurd h (by decide)⟩, ((((kp2.fresh (Nat.le_refl _) 0 _).fresh (Nat.le_refl _) 1 _).fresh (Nat.le_refl _) 2 _).fresh (Nat.le_refl _) 3 _).trans (Kp.of ((Below.refl _ _).alloc (Nat.le_refl _) _))⟩
            | some fl =>
              obtain ⟨fn, fv⟩ := fl
              rw [hfd] at HE HF
              obtain ⟨e1, e2⟩ := HFL.out fn fv hfd
              have hn1 : (⟨fn.toArray⟩ : ByteArray).size ≤ 281474976710656 := by simp [ByteArray.size]; omega
              have hv1 : (⟨fv.toArray⟩ : ByteArray).size ≤ 281474976710656 := by simp [ByteArray.size]; omega
              clear HFL e1 e2
              go_wp2_with fail
              refine HF.out.mono ?_
              rintro e w2 ⟨rfl, hb2⟩
              clear HF
              have rb2 := rb1.below hb2
              have qb2 := qb1.below hb2
              have ow2 := owns_below ow1 hb2
              have kp2 := kp1.trans (Kp.of hb2)
              have rd2 := hr1.below hb2
              have sz2 : w.heap.size + 2 ≤ w2.heap.size := Nat.le_trans sz1 hb2.size
              have szA : w.heap.size < w2.heap.size := by omega
              have szB : w.heap.size + 1 < w2.heap.size := by omega
              obtain ⟨z0, z1, z2, z3⟩ := qb2.cells
              have v2 := qb2.free 2
              unfold fldV
              clear hb2 rb1 qb1 ow1 kp1 hr1 hfd sz1
              go_wp2
              go_region_law
                (first | (refine step_append_lies _ (by rfl) _ _ _ (by rfl) (w.heap.size + 2) 34 i0 _ 2 32 Tryd.underlying26 hi hz0 hz1 hz2 rfl (by omega) (.slice av nv cv) fs.length (flat fs) (by rfl) ((owns_below ((ow2.alloc _).drew) hb3).alloc _) ⟨w3.heap.size, 0, none⟩ 1 1 [.string ⟨fn.toArray⟩, .string ⟨fv.toArray⟩] (by rfl) (by rfl) (World.news_of_block (cs := #[.string ⟨fn.toArray⟩, .string ⟨fv.toArray⟩]) (t := 34) (fr := (0, 0)) (heap_alloc_new w3 _)) (by simp [Value.oneCell']) (by omega) (by unfold maxLen; omega) (by omega) (Nat.le_trans (show w.heap.size + 2 ≤ w3.heap.size from s3) (by simp)) (w3.heap.size + 1) (by simp) ?_; intro gg cap w4 hown4 hgrow hat hlt; have qb4 := ((((qb2.below ((Below.refl _ _).alloc (Nat.le_refl _) _)).below (Below.refl _ _).drew).below hb3).below ((Below.refl _ _).alloc (Nat.le_refl _) _)).grown hgrow (own_not ow2 (by omega)); obtain ⟨_, _, q42, _⟩ := qb4.cells; have q4f := qb4.free 2; have g0 := cell_grown hgrow (cell_old k0) (own_lt ow2 (Nat.le_refl _)); have g1 := cell_grown hgrow (cell_old k1) (own_lt ow2 (Nat.le_refl _))) | (go_simp; go_at_call 69; refine (own_any _ _ _ hn1 hv1).mono ?_; rintro e w3 ⟨rfl, hb3⟩; have s3 := lt_after szB hb3; have k0 := cell_later hb3 (a := ⟨w2.heap.size, 0, none⟩) (v := .string ⟨fn.toArray⟩) (by simp); have k1 := cell_later hb3 (a := ⟨w2.heap.size, 1, none⟩) (v := .string ⟨fv.toArray⟩) (by simp); have k2 := (((qb2.below ((Below.refl _ _).alloc (Nat.le_refl _) _)).below (Below.refl _ _).drew).below hb3).cells.2.2.1))
              all_goals
                go_wp2
                go_roundg f
                case measure => omega
                case rel =>
                  have hA := (Below.refl w2.heap.size w2).alloc (Nat.le_refl _) (.cells #[.string ⟨fn.toArray⟩, .string ⟨fv.toArray⟩] 34)
                  have hC := bel_of hA.drew hb3
                  have hE5 := bel_of hC ((Below.refl w3.heap.size w3).alloc (Nat.le_refl _) (.cells #[.string ⟨fn.toArray⟩, .string ⟨fv.toArray⟩] 34))
                  refine ⟨jn + 1, u + q.2.2, m, t, fs ++ [(fn, fv)], .slice (some ⟨gg, 0, none⟩) (fs.length + 1) cap, by go_num, ?_⟩
                  refine { u1 := by omega, g1 := by omega, k1 := by omega, j1 := by omega, n1 := by simp; omega, eq := ?_, rd := ?_, rb := ?_, qb := qb4.set2 _, ow := ?_, sz := ?_, kp := ?_ }
                  · rw [HH.out, HE.out, show k + (u + q.2.2) = k + u + q.2.2 from by omega, HD.out, show hd - (u + q.2.2) = hd - u - q.2.2 from by omega]; rfl
                  · rw [show k + (u + q.2.2) = k + u + q.2.2 from by omega]
                    exact ((rd2.below hE5).grown hgrow (own_not ow2 (by omega))).other hbq 2 _
                  · exact ((rb2.below hE5).grown hgrow (own_not ow2 (by omega))).other (by omega) 2 _
                  · rw [flat_snoc, List.length_append]
                    exact owns_other hown4 (by omega) 2 _
                  · have h1 := hgrow.size
                    have h2 : (w3.alloc (.cells #[.string ⟨fn.toArray⟩, .string ⟨fv.toArray⟩] 34)).heap.size = w3.heap.size + 1 := by simp
                    have h3 : (w4.setCell ⟨w.heap.size + 1, 2, none⟩ (.slice (some ⟨gg, 0, none⟩) (fs.length + 1) cap)).heap.size = w4.heap.size := by simp
                    omega
                  · exact ((kp2.trans (Kp.of hE5)).grown hgrow (fun r hr => by have := own_ge ow2 r hr; omega)).fresh (by omega) 2 _
      · rw [if_pos h0] at HE
        have hne : (q.1 != 0) = true := by rw [bne_iff_ne]; exact h0
        clear h0 hls
        go_wp2
        try rw [Exit.noGoto_ret]
        refine bodyPost_ret (v := .tuple #[.agg #[.string ⟨#[]⟩, .string ⟨#[]⟩, .slice none 0 0, .string ⟨#[]⟩], .int .i64 q.1]) (by simp [results, Tryd.results45, go_sem, x0, x1, x2, x3]) rfl ?_
        rw [HE.out]
        have hbr : b ≠ w.heap.size := by omega
        exact ⟨⟨_, rfl, World.ownsRow_nil _ _ _ _⟩, ⟨_, (((hr1.other hbr 0 _).other hbr 1 _).other hbr 2 _).other hbr 3 _, fun h => absurd h (by simpa [Pm.headBad] using hne)⟩, (((kp1.fresh (Nat.le_refl _) 0 _).fresh (Nat.le_refl _) 1 _).fresh (Nat.le_refl _) 2 _).fresh (Nat.le_refl _) 3 _⟩
end Go.Proofs.YtnohadlihgjppaaDoor

/- A reader's chunks: the error, the body and the new place, as the plain mathematics says; no other old block turns. -/
namespace Go.Proofs.YtnohadlihgjppaaDoor
open Go.RowKit

/- fuel; what is left of the bytes; the limits; the body so far; how many bytes are used up: the error, the body, how many are used up -/
def chunksS : Nat → List UInt8 → Nat → Int → List UInt8 → Nat → Int × List UInt8 × Nat
  | 0, _, _, _, _, _ => (2, [], 0)
  | f + 1, l, hd, bd, body, u =>
    if sizeE l ≠ 0 then (sizeE l, [], 0)
    else if 0 < sizeN l then
      (if (chunkS (l.drop (Pm.lineS l 10 3).2.2) (sizeN l).toNat (bd - body.length)).1 ≠ 0 then ((chunkS (l.drop (Pm.lineS l 10 3).2.2) (sizeN l).toNat (bd - body.length)).1, [], 0)
       else chunksS f (l.drop ((Pm.lineS l 10 3).2.2 + (chunkS (l.drop (Pm.lineS l 10 3).2.2) (sizeN l).toNat (bd - body.length)).2.2)) hd bd (body ++ (chunkS (l.drop (Pm.lineS l 10 3).2.2) (sizeN l).toNat (bd - body.length)).2.1) (u + (Pm.lineS l 10 3).2.2 + (chunkS (l.drop (Pm.lineS l 10 3).2.2) (sizeN l).toNat (bd - body.length)).2.2))
    else if (Pm.trailS (hd + 1) (l.drop (Pm.lineS l 10 3).2.2) hd 0).1 ≠ 0 then ((Pm.trailS (hd + 1) (l.drop (Pm.lineS l 10 3).2.2) hd 0).1, [], 0)
    else (0, body, u + (Pm.lineS l 10 3).2.2 + (Pm.trailS (hd + 1) (l.drop (Pm.lineS l 10 3).2.2) hd 0).2)
theorem chunksS_succ (f : Nat) (l : List UInt8) (hd : Nat) (bd : Int) (body : List UInt8) (u : Nat) : chunksS (f + 1) l hd bd body u =
    if sizeE l ≠ 0 then (sizeE l, [], 0)
    else if 0 < sizeN l then
      (if (chunkS (l.drop (Pm.lineS l 10 3).2.2) (sizeN l).toNat (bd - body.length)).1 ≠ 0 then ((chunkS (l.drop (Pm.lineS l 10 3).2.2) (sizeN l).toNat (bd - body.length)).1, [], 0)
       else chunksS f (l.drop ((Pm.lineS l 10 3).2.2 + (chunkS (l.drop (Pm.lineS l 10 3).2.2) (sizeN l).toNat (bd - body.length)).2.2)) hd bd (body ++ (chunkS (l.drop (Pm.lineS l 10 3).2.2) (sizeN l).toNat (bd - body.length)).2.1) (u + (Pm.lineS l 10 3).2.2 + (chunkS (l.drop (Pm.lineS l 10 3).2.2) (sizeN l).toNat (bd - body.length)).2.2))
    else if (Pm.trailS (hd + 1) (l.drop (Pm.lineS l 10 3).2.2) hd 0).1 ≠ 0 then ((Pm.trailS (hd + 1) (l.drop (Pm.lineS l 10 3).2.2) hd 0).1, [], 0)
    else (0, body, u + (Pm.lineS l 10 3).2.2 + (Pm.trailS (hd + 1) (l.drop (Pm.lineS l 10 3).2.2) hd 0).2) := rfl
theorem build_kp {w w' : World} {T e : TypeId} {B g b : Nat} {bs : List Value} (h : Lib.IsBuilder T e B g bs w) (hk : Kp b w w') (hb : b < B) : Lib.IsBuilder T e B g bs w' := by
  rcases h with ⟨hB, v, hg, ho, hn⟩ | ⟨hB, v, hg, ho, hn⟩
  · exact .inl ⟨hB, v, hk.block hg (by omega), hk.owns ho hb, hn⟩
  · exact .inr ⟨hB, v, hk.block hg (by omega), hk.owns ho hb, hn⟩
theorem line_len (l : List UInt8) (lim : Nat) (long : Int) : (Pm.lineS l lim long).2.1.length ≤ lim ∧ (Pm.lineS l lim long).2.2 ≤ lim ∧ (Pm.lineS l lim long).2.2 ≤ l.length := by
  unfold Pm.lineS
  split
  · simp
  · rename_i h1
    have h3 := congrArg List.length (Pm.ahead_behind 10 (l.take lim))
    rw [List.length_append, List.length_take] at h3
    have h4 : 1 ≤ (Pm.behind 10 (l.take lim)).length := by
      cases hb : Pm.behind 10 (l.take lim) with
      | nil => rw [hb] at h1; simp at h1
      | cons => simp
    split
    · have h5 : (Lib.trimSuffix (Pm.ahead 10 (l.take lim)) [13]).length ≤ (Pm.ahead 10 (l.take lim)).length := by
        unfold Lib.trimSuffix
        by_cases hq : Lib.hasSuffix (Pm.ahead 10 (l.take lim)) [13] = true
        · rw [if_pos hq, List.length_take]; exact Nat.min_le_right _ _
        · rw [if_neg hq]; exact Nat.le_refl _
      exact ⟨Nat.le_trans h5 (by omega), (by omega : (Pm.ahead 10 (l.take lim)).length + 1 ≤ lim), (by omega : (Pm.ahead 10 (l.take lim)).length + 1 ≤ l.length)⟩
    · simp
theorem sizeN_bd (l : List UInt8) : 0 ≤ sizeN l ∧ sizeN l < 68719476736 := by
  unfold sizeN; split
  · unfold Pm.numN; split
    · rename_i h
      simp only [Pm.numOk, Bool.and_eq_true, decide_eq_true_eq] at h
      exact Pm.numv_bd 16 _ (by omega) (by omega) h.2 (by omega)
    · omega
  · omega
theorem chunkS_room (l : List UInt8) (n : Nat) (room : Int) (h : (chunkS l n room).1 = 0) : ((chunkS l n room).2.1.length : Int) ≤ room ∧ (chunkS l n room).2.2 = n + 2 := by
  unfold chunkS at h ⊢
  by_cases h1 : room < n
  · rw [if_pos h1] at h; simp at h
  · rw [if_neg h1] at h ⊢
    by_cases h2 : l.length < n + 2
    · rw [if_pos h2] at h; simp at h
    · rw [if_neg h2] at h ⊢
      by_cases h3 : Lib.hasSuffix (l.take (n + 2)) [13, 10] = true
      · rw [if_pos h3]
        have : (Lib.trimSuffix (l.take (n + 2)) [13, 10]).length ≤ n := by
          unfold Lib.trimSuffix; rw [if_pos h3, List.length_take, List.length_take]
          have : ([13, 10] : List UInt8).length = 2 := rfl
          omega
        exact ⟨(by omega : ((Lib.trimSuffix (l.take (n + 2)) [13, 10]).length : Int) ≤ room), rfl⟩
      · rw [if_neg h3] at h; simp at h
theorem chunkS_len (l : List UInt8) (n : Nat) (room : Int) : (chunkS l n room).2.2 ≤ l.length ∧ (chunkS l n room).2.1.length ≤ (chunkS l n room).2.2 := by
  unfold chunkS
  split
  · simp
  · split
    · simp
    · rename_i h
      split
      · refine ⟨by simp only; omega, ?_⟩
        unfold Lib.trimSuffix; split
        · simp only [List.length_take]; omega
        · simp only [List.length_take]; omega
      · simp only [List.length_nil]; omega
theorem len_any (B g : Nat) (body : List UInt8) (w : World) (h : Lib.IsBuilder 103 5 B g (Lib.byteCells body) w) :
    Calls Tryd.prog 75 #[.pointer (some ⟨g, 0, none⟩)] w fun e w' => e = .returned (.int .i64 body.length) ∧ w' = w := by
  have := Tryd.Builder_Len B g (Lib.byteCells body) w h
  rw [cells_len] at this
  exact this
theorem RdAt.low {b : Nat} {hd bd : Int} {s : ByteArray} {k B : Nat} {w w' : World} (h : RdAt b hd bd s k w) (hb : Below B w w') (hl : b < B) : RdAt b hd bd s k w' := by
  have := hb.block b hl
  unfold RdAt at *; rw [this]; exact h
theorem Kp.low {b : Nat} {w w3 w5 : World} (h : Kp b w w3) (hb : Below w.heap.size w3 w5) : Kp b w w5 :=
  ⟨hb.os.trans h.1, hb.tape.trans h.2.1, hb.output.trans h.2.2.1, Nat.le_trans h.2.2.2.1 hb.size, fun k hk hkb => (hb.block k hk).trans (h.2.2.2.2 k hk hkb)⟩
structure TInv (w : World) (b hd : Nat) (bd : Int) (s : ByteArray) (k : Nat) (T : Int × Nat) (body : List UInt8) (g u : Nat) (wr : World) : Prop where
  u1 : u ≤ hd
  g1 : hd - u + 1 ≤ g
  k1 : k + u ≤ s.size
  eq : T = Pm.trailS g (s.data.toList.drop (k + u)) (hd - u) u
  rd : RdAt b hd bd s (k + u) wr
  bu : Lib.IsBuilder 103 5 w.heap.size w.heap.size (Lib.byteCells body) wr
  sz : w.heap.size + 1 ≤ wr.heap.size
  kp : Kp b w wr
structure CInv (w : World) (b hd : Nat) (bd : Int) (s : ByteArray) (k : Nat) (g u : Nat) (body : List UInt8) (wr : World) : Prop where
  g1 : s.size - (k + u) + 1 ≤ g
  k1 : k + u ≤ s.size
  b1 : body.length ≤ u
  b2 : (body.length : Int) ≤ bd
  eq : chunksS (s.size - k + 1) (s.data.toList.drop k) hd bd [] 0 = chunksS g (s.data.toList.drop (k + u)) hd bd body u
  rd : RdAt b hd bd s (k + u) wr
  bu : Lib.IsBuilder 103 5 w.heap.size w.heap.size (Lib.byteCells body) wr
  sz : w.heap.size + 1 ≤ wr.heap.size
  kp : Kp b w wr

set_option maxRecDepth 100000 in
set_option maxHeartbeats 700000 in
theorem chunks_any (b : Nat) (hd : Nat) (bd : Int) (s : ByteArray) (k : Nat) (w : World) (hr : RdAt b hd bd s k w) (hs : s.size ≤ 1152921504606846976) (hk : k ≤ s.size) (hh : hd ≤ 500) (hb0 : 0 ≤ bd) (hb1 : bd ≤ 200) :
    Calls Tryd.prog 47 #[.pointer (some ⟨b, 0, none⟩)] w fun r w' =>
      r = .returned (.tuple #[.string ⟨(chunksS (s.size - k + 1) (s.data.toList.drop k) hd bd [] 0).2.1.toArray⟩, .int .i64 (chunksS (s.size - k + 1) (s.data.toList.drop k) hd bd [] 0).1]) ∧
      (∃ k', RdAt b hd bd s k' w' ∧ ((chunksS (s.size - k + 1) (s.data.toList.drop k) hd bd [] 0).1 = 0 → k' = k + (chunksS (s.size - k + 1) (s.data.toList.drop k) hd bd [] 0).2.2)) ∧ Kp b w w' := by
  have hbl := hr.lt
  have HR : Hid (RdAt b hd bd s k w) := hr
  clear hr
  generalize hH : chunksS (s.size - k + 1) (s.data.toList.drop k) hd bd [] 0 = H
  have HH : Hid (chunksS (s.size - k + 1) (s.data.toList.drop k) hd bd [] 0 = H) := hH
  clear hH
  go_enter Tryd.func47, Tryd.ntmps47
  go_wp2
  go_step3
  go_wp2
  go_step3
  go_wp2
  go_loopg [5, 6, 7, 8, 9, 10, 11, 12, 13] (s.size - k + 1) (fun g _ _ _ _ _ _ _ _ _ wr => ∃ (u : Nat) (body : List UInt8), CInv w b hd bd s k g u body wr)
  case atStart =>
    have hB := (Below.refl w.heap.size w).alloc (Nat.le_refl _) (.cells #[.pointer none, .slice none 0 0] 103)
    exact ⟨0, [], { g1 := by omega, k1 := by omega, b1 := by simp, b2 := by simpa using hb0, eq := rfl, rd := HR.out.below hB, bu := Lib.fresh_isBuilder _ _ w, sz := by simp, kp := Kp.of hB }⟩
  case round =>
    obtain ⟨u, body, I⟩ := hrel
    cases gk with
    | zero => exact absurd I.g1 (by omega)
    | succ f =>
      have hll := line_len (s.data.toList.drop (k + u)) 10 3
      have hsl : (s.data.toList.drop (k + u)).length = s.size - (k + u) := by simp
      have HS := hid (size_any b hd bd s (k + u) wr I.rd hs I.k1 (by have := hll.1; unfold maxLen; omega))
      have HE : Hid _ := HH.out.symm.trans (I.eq.trans (chunksS_succ f _ _ _ _ _))
      have hsb := sizeN_bd (s.data.toList.drop (k + u))
      go_wp2_with fail
      go_step3
      go_wp2_with fail
      refine HS.out.mono ?_
      rintro e w1 ⟨rfl, hr1, hk1⟩
      have bu1 := build_kp I.bu hk1 hbl
      have kp1 := I.kp.trans hk1
      have sz1 : w.heap.size + 1 ≤ w1.heap.size := Nat.le_trans I.sz hk1.2.2.2.1
      have i1 := I.g1
      have i2 := I.k1
      have i3 := I.b1
      have i4 := I.b2
      obtain ⟨_, j2, j3⟩ := hll
      rw [hsl] at j3
      clear I HS hk1 hsl
      generalize hu1 : (Pm.lineS (s.data.toList.drop (k + u)) 10 3).2.2 = u1 at *
      clear hu1
      generalize sizeE (s.data.toList.drop (k + u)) = er at *
      generalize hsn : sizeN (s.data.toList.drop (k + u)) = sn at *
      clear hsn
      by_cases he : er = 0
      · rw [if_neg (by simp [he])] at HE
        subst he
        by_cases hp : 0 < sn
        · rw [if_pos hp] at HE
          obtain ⟨n, rfl⟩ : ∃ n : Nat, sn = (n : Int) := ⟨sn.toNat, by omega⟩
          rw [Int.toNat_natCast] at HE
          obtain ⟨c0, c1, c2, c3⟩ := hr1.cell
          have hdd : (s.data.toList.drop (k + u)).drop u1 = s.data.toList.drop (k + u + u1) := by rw [List.drop_drop]
          rw [hdd] at HE
          clear hdd
          have hcl := chunkS_len (s.data.toList.drop (k + u + u1)) n (bd - body.length)
          have hcr := hid (chunkS_room (s.data.toList.drop (k + u + u1)) n (bd - body.length))
          have HC := hid (fun W hR => chunk_any b hd bd s (k + u + u1) n (bd - body.length) W hR (by unfold maxLen; omega) (by omega) (by omega))
          rw [List.length_drop, show s.data.toList.length = s.size from by simp] at hcl
          go_wp2_with fail
          have hw : IntKind.i64.wrap (bd - (body.length : Int)) = bd - (body.length : Int) := by simp [IntKind.wrap, IntKind.bits, IntKind.signed]; omega
          go_region_with (first | (go_at_call 75; refine (len_any w.heap.size w.heap.size body _ ?_).mono ?_; exact bu1; rintro e w2 ⟨rfl, rfl⟩) | (go_at_call 74; refine (HC.out _ ?_).mono ?_; exact hr1; rintro e w3 ⟨rfl, hr3, hk3⟩))
          all_goals
            have bu3 := build_kp bu1 (show Kp b w1 w3 from hk3) hbl
            have kp3 := kp1.trans (show Kp b w1 w3 from hk3)
            have sz3 : w.heap.size + 1 ≤ w3.heap.size := Nat.le_trans sz1 (show Kp b w1 w3 from hk3).2.2.2.1
            clear hk3 bu1 kp1 hr1 sz1 HC c0 c1 c2 c3 hw
            generalize chunkS (s.data.toList.drop (k + u + u1)) n (bd - body.length) = c at *
            by_cases hc : c.1 = 0
            · rw [if_neg (by simp [hc])] at HE
              obtain ⟨hcr2, hcr3⟩ := hcr.out hc
              have HU : Hid (c.2.2 = n + 2) := hcr3
              clear hcr3
              have hcs : (⟨c.2.1.toArray⟩ : ByteArray).size = c.2.1.length := by simp [ByteArray.size]
              have hcs2 : (Lib.byteCells body).length + (⟨c.2.1.toArray⟩ : ByteArray).size ≤ 140737488355328 := by rw [cells_len, hcs]; omega
              go_wp2_with (go_at_call 61; refine (Tryd.Builder_WriteString _ _ _ _ _ bu3 hcs2 (by omega)).mono ?_; rintro e w5 ⟨rfl, hbu5, hb5⟩)
              rw [Exit.noGoto_exit]
              go_wp2
              go_roundg f
              case measure => omega
              case rel =>
                refine ⟨u + u1 + c.2.2, body ++ c.2.1, ?_⟩
                refine { g1 := ?_, k1 := by omega, b1 := by simp; omega, b2 := by simp; omega, eq := ?_, rd := ?_, bu := .inr ?_, sz := ?_, kp := ?_ }
                · have := HU.out; omega
                · rw [HH.out, HE.out, List.drop_drop, show k + u + (u1 + c.2.2) = k + (u + u1 + c.2.2) from by omega]
                · rw [show k + (u + u1 + c.2.2) = k + u + u1 + c.2.2 from by omega]
                  exact hr3.low hb5 hbl
                · rw [Lib.byteCells_append]; exact hbu5
                · have := hb5.size; omega
                · exact kp3.low hb5
            · rw [if_pos hc] at HE
              have hne : (c.1 != 0) = true := by rw [bne_iff_ne]; exact hc
              go_wp2
              rw [Exit.noGoto_ret]
              go_wp2
              rw [Exit.noGoto_ret]
              go_ret2
              exact ⟨ret_strint (by rw [HE.out]) (by rw [HE.out]), ⟨_, hr3, fun h => absurd (by rw [HE.out] at h; exact h) hc⟩, kp3⟩
        · rw [if_neg hp] at HE
          obtain rfl : sn = 0 := by omega
          have hdd : (s.data.toList.drop (k + u)).drop u1 = s.data.toList.drop (k + u + u1) := by rw [List.drop_drop]
          rw [hdd] at HE
          clear hdd hp
          obtain ⟨c0, c1, c2, c3⟩ := hr1.cell
          generalize hT : Pm.trailS (hd + 1) (s.data.toList.drop (k + u + u1)) hd 0 = T at *
          have HT := hid hT
          clear hT
          go_wp2
          go_quiet (fail)
          go_wp2
          go_step3
          go_wp2
          have hdn : Below w1.heap.size w1 (w1.drewN nq) := below_drewN (Below.refl _ _) _
          go_loopg [10, 11, 12, 13] (hd + 1) (fun g _ _ _ _ wy => ∃ v : Nat, TInv w b hd bd s (k + u + u1) T body g v wy)
          case atStart =>
            exact ⟨0, { u1 := by omega, g1 := by omega, k1 := by omega, eq := HT.out.symm, rd := hr1.below hdn, bu := bu1, sz := sz1, kp := kp1.trans (Kp.of hdn) }⟩
          case round =>
            obtain ⟨v, J⟩ := hrel
            cases gk with
            | zero => exact absurd J.g1 (by omega)
            | succ f2 =>
              have hl := line_any b hd bd s (k + u + u1 + v) (k + u + u1 + hd) 5 wr J.rd (by unfold maxLen; omega) J.k1 (by have := J.u1; omega) (by have := J.k1; omega)
              rw [show k + u + u1 + hd - (k + u + u1 + v) = hd - v from by omega, show ((k + u + u1 + hd : Nat) : Int) = (k : Int) + (u : Int) + (u1 : Int) + (hd : Int) from by omega] at hl
              have HL := hid hl
              clear hl
              have HTE : Hid _ := J.eq.trans (Pm.trailS_succ f2 _ _ _)
              go_wp2_with fail
              refine HL.out.mono ?_
              rintro e w2 ⟨rfl, hr2, hk2⟩
              have bu2 := build_kp J.bu hk2 hbl
              have kp2 := J.kp.trans hk2
              have sz2 : w.heap.size + 1 ≤ w2.heap.size := Nat.le_trans J.sz hk2.2.2.2.1
              have hls := fun h0 => Pm.lineS_ok (l := s.data.toList.drop (k + u + u1 + v)) (lim := hd - v) (long := 5) (by decide) h0
              have m1 := J.u1
              have m2 := J.g1
              have m3 := J.k1
              clear J HL hk2 c0 c1 c2 c3
              generalize Pm.lineS (s.data.toList.drop (k + u + u1 + v)) (hd - v) 5 = q at *
              by_cases h0 : q.1 = 0
              · obtain ⟨l1, l2, l3, l4⟩ := hls h0
                rw [if_neg (by simp [h0])] at HTE
                rw [List.length_drop, show s.data.toList.length = s.size from by simp] at l3
                have hqs : (⟨q.2.1.toArray⟩ : ByteArray).size ≤ 500 := by simp [ByteArray.size]; omega
                clear hls
                by_cases hem : q.2.1 = []
                · rw [if_pos hem] at HTE
                  have HS : Hid (H = (0, body, u + u1 + (v + q.2.2))) := by
                    unfold Hid; have := HE.out; rw [HTE.out] at this; simpa using this
                  rw [hem]
                  go_wp2
                  rw [Exit.noGoto_exit]
                  go_wp2_with (go_at_call 65; refine (Tryd.Builder_String_any _ _ _ _ bu2 (by omega)).mono ?_; rintro e w5 ⟨rfl, hb5⟩)
                  try rw [Exit.noGoto_ret]
                  go_ret2
                  exact ⟨ret_strint (by rw [HS.out]) (by rw [HS.out]), ⟨_, hr2.low hb5 hbl, fun _ => by rw [HS.out]; simp only; omega⟩, kp2.low hb5⟩
                · rw [if_neg hem] at HTE
                  have hem2 : q.2.1.isEmpty = false := by rw [List.isEmpty_eq_false_iff]; exact hem
                  have HF := hid (wReadField_any ⟨q.2.1.toArray⟩ w2 (by unfold maxLen; omega))
                  rw [show (⟨q.2.1.toArray⟩ : ByteArray).data.toList = q.2.1 from rfl] at HF
                  clear hem
                  cases hfd : Pm.fieldS q.2.1 with
                  | none =>
                    rw [hfd] at HTE HF
                    have HS : Hid (H = (3, [], 0)) := by
                      unfold Hid; have := HE.out; rw [HTE.out] at this; simpa using this
                    go_wp2_with fail
                    refine HF.out.mono ?_
                    rintro e w5 ⟨rfl, hb5⟩
                    unfold fldV
                    go_wp2
                    rw [Exit.noGoto_ret]
                    go_wp2
                    rw [Exit.noGoto_ret]
                    go_ret2
                    have hA := (Below.refl w5.heap.size w5).alloc (Nat.le_refl _) (.cells #[.string ⟨#[]⟩, .string ⟨#[]⟩] 34)
                    exact ⟨ret_strint (by rw [HS.out]) (by rw [HS.out]), ⟨_, (hr2.below hb5).below hA, fun h => absurd (by rw [HS.out] at h; exact h) (by decide)⟩, (kp2.trans (Kp.of hb5)).trans (Kp.of hA)⟩
                  | some fl =>
                    obtain ⟨fn, fv⟩ := fl
                    rw [hfd, if_pos (by simp)] at HTE
                    rw [hfd] at HF
                    go_wp2_with fail
                    refine HF.out.mono ?_
                    rintro e w5 ⟨rfl, hb5⟩
                    unfold fldV
                    go_wp2
                    go_roundg f2
                    case measure => omega
                    case rel =>
                      have hA := (Below.refl w5.heap.size w5).alloc (Nat.le_refl _) (.cells #[.string ⟨fn.toArray⟩, .string ⟨fv.toArray⟩] 34)
                      refine ⟨v + q.2.2, { u1 := by omega, g1 := by omega, k1 := by omega, eq := ?_, rd := ?_, bu := build_kp bu2 ((Kp.of hb5).trans (Kp.of hA)) hbl, sz := ?_, kp := (kp2.trans (Kp.of hb5)).trans (Kp.of hA) }⟩
                      · rw [HTE.out, List.drop_drop, show k + u + u1 + v + q.2.2 = k + u + u1 + (v + q.2.2) from by omega, show hd - v - q.2.2 = hd - (v + q.2.2) from by omega]
                      · rw [show k + u + u1 + (v + q.2.2) = k + u + u1 + v + q.2.2 from by omega]
                        exact (hr2.below hb5).below hA
                      · have := hb5.size; simp; omega
              · rw [if_pos h0] at HTE
                have hne : (q.1 != 0) = true := by rw [bne_iff_ne]; exact h0
                have HS : Hid (H = (q.1, [], 0)) := by
                  unfold Hid; have := HE.out; rw [HTE.out, if_pos h0] at this; exact this
                clear hls
                go_wp2
                rw [Exit.noGoto_ret]
                go_wp2
                rw [Exit.noGoto_ret]
                go_ret2
                exact ⟨ret_strint (by rw [HS.out]) (by rw [HS.out]), ⟨_, hr2, fun h => absurd (by rw [HS.out] at h; exact h) h0⟩, kp2⟩
      · rw [if_pos he] at HE
        have hne : (er != 0) = true := by rw [bne_iff_ne]; exact he
        go_wp2
        rw [Exit.noGoto_ret]
        go_wp2
        rw [Exit.noGoto_ret]
        go_ret2
        exact ⟨ret_strint (by rw [HE.out]) (by rw [HE.out]), ⟨_, hr1, fun h => absurd (by rw [HE.out] at h; exact h) he⟩, kp1⟩
end Go.Proofs.YtnohadlihgjppaaDoor
