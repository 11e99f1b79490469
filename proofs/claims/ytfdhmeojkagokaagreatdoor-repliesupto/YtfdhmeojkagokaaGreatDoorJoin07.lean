/- Texts that follow one another, joined. -/
import Derived.Test.YtfdhmeojkagokaaGreatDoorJoin01
import Derived.Test.YtfdhmeojkagokaaGreatDoorJoin06
import Derived.Deep.RegionLaw
import Derived.Deep.AppendLies
import Derived.WalkMore
import Derived.Deep.LoopGhost
import Derived.Test.YtfdhmeojkagokaaGreatDoorJoin02
/- A reader's head: the error, the method, the target, the fields and the new place, as the plain mathematics says; no other old block turns. -/
namespace Go.Proofs.YtfdhmeojkagokaaGreatDoor
open Go.RowKit

def flat (fs : List Pm.Fld) : List Value := fs.flatMap fun f => [.string ⟨f.1.toArray⟩, .string ⟨f.2.toArray⟩]
def RqB (g : Nat) (m t : List UInt8) (v : Value) (w : World) : Prop := w.heap[g]? = some (.cells #[.string ⟨m.toArray⟩, .string ⟨t.toArray⟩, v, .string ⟨#[]⟩] 30 (0, 0))
theorem Kp.block {b : Nat} {w w' : World} (h : Kp b w w') {j : Nat} {o : Obj} (hj : w.heap[j]? = some o) (hb : j ≠ b) : w'.heap[j]? = some o := by
  have hlt : j < w.heap.size := by
    rcases Nat.lt_or_ge j w.heap.size with h' | h'
    · exact h'
    · simp [Array.getElem?_eq_none h'] at hj
  rw [h.2.2.2.2 j hlt hb]; exact hj
theorem Kp.owns {b : Nat} {w w' : World} (h : Kp b w w') {B : Nat} {e : TypeId} {sz : Nat} {v : Value} {n : Nat} {xs : List Value} (ho : w.ownsRow B e sz v n xs) (hb : b < B) : w'.ownsRow B e sz v n xs := by
  obtain ⟨h1, h2⟩ := ho
  refine ⟨h1, ?_⟩
  rcases h2 with h2 | ⟨g, cap, cur, hv, hB, hg, h3⟩
  · exact .inl h2
  · exact .inr ⟨g, cap, cur, hv, hB, h.block hg (by omega), h3⟩
theorem owns_base {w : World} {B B' : Nat} {e : TypeId} {sz : Nat} {v : Value} {n : Nat} {xs : List Value} (ho : w.ownsRow B e sz v n xs) (hb : B' ≤ B) : w.ownsRow B' e sz v n xs := by
  obtain ⟨h1, h2⟩ := ho
  refine ⟨h1, ?_⟩
  rcases h2 with h2 | ⟨g, cap, cur, hv, hB, hg, h3⟩
  · exact .inl h2
  · exact .inr ⟨g, cap, cur, hv, by omega, hg, h3⟩
theorem Kp.cell {b : Nat} {w w' : World} (h : Kp b w w') {a : Addr} {v : Value} (hc : w.cell? a = some v) (hb : a.block ≠ b) : w'.cell? a = some v := by
  have := h.2.2.2.2 a.block (block_lt_of_cell hc) hb
  rw [World.cell?_of_block (w := w) this]; exact hc
theorem RqB.cells {g : Nat} {m t : List UInt8} {v : Value} {w : World} (h : RqB g m t v w) :
    w.cell? ⟨g, 0, none⟩ = some (.string ⟨m.toArray⟩) ∧ w.cell? ⟨g, 1, none⟩ = some (.string ⟨t.toArray⟩) ∧ w.cell? ⟨g, 2, none⟩ = some v ∧ w.cell? ⟨g, 3, none⟩ = some (.string ⟨#[]⟩) := by
  refine ⟨?_, ?_, ?_, ?_⟩ <;> (rw [Lib.cell_of_heap h]; rfl)
theorem RqB.free {g : Nat} {m t : List UInt8} {v : Value} {w : World} (h : RqB g m t v w) (j : Nat) : w.frozen? ⟨g, j, none⟩ = false := Lib.frozen_of_heap h j
theorem RqB.lt {g : Nat} {m t : List UInt8} {v : Value} {w : World} (h : RqB g m t v w) : g < w.heap.size := block_lt_of_cell h.cells.1
theorem RqB.below {g : Nat} {m t : List UInt8} {v : Value} {w w' : World} (h : RqB g m t v w) (hb : Below w.heap.size w w') : RqB g m t v w' := by
  have := hb.block g h.lt; unfold RqB at *; rw [this]; exact h
theorem RqB.kp {g b : Nat} {m t : List UInt8} {v : Value} {w w' : World} (h : RqB g m t v w) (hk : Kp b w w') (hb : g ≠ b) : RqB g m t v w' := hk.block h hb
theorem RqB.other {g' : Nat} {m t : List UInt8} {x : Value} {w : World} (h : RqB g' m t x w) {g : Nat} (hg : g' ≠ g) (o : Nat) (v : Value) : RqB g' m t x (w.setCell ⟨g, o, none⟩ v) := by
  unfold RqB at *; rw [heap_setCell_other w ⟨g, o, none⟩ g' v hg]; exact h
theorem RqB.set1 {g : Nat} {m t : List UInt8} {x : Value} {w : World} (h : RqB g m t x w) (t' : List UInt8) : RqB g m t' x (w.setCell ⟨g, 1, none⟩ (.string ⟨t'.toArray⟩)) := by
  unfold RqB at *; rw [heap_setCell_same w g 1 _ _ _ h]; rfl
theorem RqB.set2 {g : Nat} {m t : List UInt8} {x : Value} {w : World} (h : RqB g m t x w) (x' : Value) : RqB g m t x' (w.setCell ⟨g, 2, none⟩ x') := by
  unfold RqB at *; rw [heap_setCell_same w g 2 _ _ _ h]; rfl
theorem owns_other {w : World} {B : Nat} {e : TypeId} {sz : Nat} {x : Value} {n : Nat} {xs : List Value} (ho : w.ownsRow B e sz x n xs) {g : Nat} (hg : g < B) (o : Nat) (v : Value) : (w.setCell ⟨g, o, none⟩ v).ownsRow B e sz x n xs := by
  obtain ⟨h1, h2⟩ := ho
  refine ⟨h1, ?_⟩
  rcases h2 with h2 | ⟨r, cap, cur, hv, hB, hr, h3⟩
  · exact .inl h2
  · exact .inr ⟨r, cap, cur, hv, hB, by rw [heap_setCell_other w ⟨g, o, none⟩ r v (by simp; omega)]; exact hr, h3⟩
theorem Tryz.info36 : (Tryz.prog.info? 70).map (fun i => (i.zero, i.size, i.bytes)) = some (some (.agg #[.string ⟨#[]⟩, .string ⟨#[]⟩]), 2, 32) := by kernel_rfl
theorem RqB.grown {g : Nat} {m t : List UInt8} {v : Value} {w w' : World} {row : Option Nat} (h : RqB g m t v w) (hg : w.grownBy w' row) (hne : row ≠ some g) : RqB g m t v w' := by
  have := hg.block g h.lt (fun h' => hne h'.symm)
  unfold RqB at *; rw [this]; exact h
theorem own_not {w : World} {B : Nat} {e : TypeId} {sz : Nat} {v : Value} {n : Nat} {xs : List Value} (h : w.ownsRow B e sz v n xs) {g : Nat} (hg : g < B) : v.ownBlock ≠ some g := fun h' => by
  have := own_ge h g h'; omega
theorem own_lt {w : World} {B : Nat} {e : TypeId} {sz : Nat} {v : Value} {n : Nat} {xs : List Value} (h : w.ownsRow B e sz v n xs) {g : Nat} (hg : w.heap.size ≤ g) : v.ownBlock ≠ some g := fun h' => by
  rcases h.2 with ⟨rfl, _⟩ | ⟨r, cap, cur, rfl, _, hr, _⟩
  · cases h'
  · simp [Value.ownBlock] at h'
    subst h'
    simp [Array.getElem?_eq_none hg] at hr
theorem cell_grown {w w' : World} {row : Option Nat} {a : Addr} {v : Value} (hg : w.grownBy w' row) (hc : w.cell? a = some v) (hne : row ≠ some a.block) : w'.cell? a = some v := by
  rw [World.cell?_of_block (w := w) (hg.block a.block (block_lt_of_cell hc) (fun h => hne h.symm))]; exact hc
theorem Kp.grown {b : Nat} {w w1 w' : World} {row : Option Nat} (h : Kp b w w1) (hg : w1.grownBy w' row) (hr : ∀ k, row = some k → w.heap.size ≤ k) : Kp b w w' :=
  ⟨hg.os.trans h.1, hg.tape.trans h.2.1, hg.output.trans h.2.2.1, Nat.le_trans h.2.2.2.1 hg.size, fun k hk hb => (hg.block k (Nat.lt_of_lt_of_le hk h.2.2.2.1) (fun h' => by have := hr k h'.symm; omega)).trans (h.2.2.2.2 k hk hb)⟩
/- what holds at each line of a head -/
end Go.Proofs.YtfdhmeojkagokaaGreatDoor

/- A reader's chunks: the error, the body and the new place, as the plain mathematics says; no other old block turns. -/
namespace Go.Proofs.YtfdhmeojkagokaaGreatDoor
open Go.RowKit

/- fuel; what is left of the bytes; the limits; the body so far; how many bytes are used up: the error, the body, how many are used up -/
theorem Kp.low {b : Nat} {w w3 w5 : World} (h : Kp b w w3) (hb : Below w.heap.size w3 w5) : Kp b w w5 :=
  ⟨hb.os.trans h.1, hb.tape.trans h.2.1, hb.output.trans h.2.2.1, Nat.le_trans h.2.2.2.1 hb.size, fun k hk hkb => (hb.block k hk).trans (h.2.2.2.2 k hk hkb)⟩
end Go.Proofs.YtfdhmeojkagokaaGreatDoor

/- Plain mathematics, eighth part: what a reading says, but that bytes are missing, it says whatever comes behind. -/
namespace Go.Proofs.YtfdhmeojkagokaaGreatDoor

/- the error, the method, the target, the fields, the body and how many bytes are used up -/
abbrev FrameR := Int × List UInt8 × List UInt8 × List Pm.Fld × List UInt8 × Nat
/- the body and its length behind the head, when the head's end and its framing are known -/
/- no error of the caller's; and just where there is none, some bytes are used up, and no more than are there -/
end Go.Proofs.YtfdhmeojkagokaaGreatDoor

/- RightLimits; what the fields of a head are, in memory and in number. -/
namespace Go.Proofs.YtfdhmeojkagokaaGreatDoor
open Go.RowKit

theorem rightLimits_any (hd bd : Int) (w : World) :
    Calls Tryz.prog 34 #[.agg #[.int .i64 hd, .int .i64 bd]] w fun e w' => e = .returned (.bool (decide (32 ≤ hd ∧ hd ≤ 500 ∧ 0 ≤ bd ∧ bd ≤ 200))) ∧ Below w.heap.size w w' := by
  go_enter Tryz.func34, Tryz.ntmps34
  go_wp2
  all_goals
    go_ret
    refine ⟨?_, (Below.refl _ _).alloc (Nat.le_refl _) _⟩
    try congr 2
    try simp
    try simp [*]
    try (intros; omega)

end Go.Proofs.YtfdhmeojkagokaaGreatDoor
