/- Texts that follow one another, joined. -/
import Derived.Test.YtjfllmogiknneaaGreatDoorJoin08
import Derived.Test.YtjfllmogiknneaaGreatDoorJoin02
import Derived.Deep.RegionLaw
import Derived.Deep.AppendLies
import Derived.WalkMore
import Derived.Deep.LoopGhost
import Derived.Test.YtjfllmogiknneaaGreatDoorJoin03
/- A reader's chunk: the error, the bytes, the new place, as the plain mathematics says; no other block turns. -/
namespace Go.Proofs.YtjfllmogiknneaaGreatDoor
open Go.RowKit


/- a chunk's bytes: the error, the bytes, how many are used up -/
def chunkS (l : List UInt8) (size : Nat) (room : Int) : Int × List UInt8 × Nat :=
  if room < size then (4, [], 0)
  else if l.length < size + 2 then (2, [], 0)
  else if Lib.hasSuffix (l.take (size + 2)) [13, 10] = true then (0, Lib.trimSuffix (l.take (size + 2)) [13, 10], size + 2)
  else (3, [], size + 2)

end Go.Proofs.YtjfllmogiknneaaGreatDoor

/- A reader's head: the error, the method, the target, the fields and the new place, as the plain mathematics says; no other old block turns. -/
namespace Go.Proofs.YtjfllmogiknneaaGreatDoor
open Go.RowKit

def flat (fs : List Pm.Fld) : List Value := fs.flatMap fun f => [.string ⟨f.1.toArray⟩, .string ⟨f.2.toArray⟩]
theorem flat_snoc (fs : List Pm.Fld) (f : Pm.Fld) : flat (fs ++ [f]) = flat fs ++ [.string ⟨f.1.toArray⟩, .string ⟨f.2.toArray⟩] := by simp [flat]
theorem flat_length (fs : List Pm.Fld) : (flat fs).length = fs.length * 2 := by
  induction fs with
  | nil => rfl
  | cons f fs ih => simp [flat] at ih ⊢; omega
def muAt (b e : Nat) (w : World) : Nat := e - (intOf ((w.cell? ⟨b, 3, none⟩).getD undef)).toNat

theorem Kp.block {b : Nat} {w w' : World} (h : Kp b w w') {j : Nat} {o : Obj} (hj : w.heap[j]? = some o) (hb : j ≠ b) : w'.heap[j]? = some o := by
  have hlt : j < w.heap.size := by
    rcases Nat.lt_or_ge j w.heap.size with h' | h'
    · exact h'
    · simp [Array.getElem?_eq_none h'] at hj
  rw [h.2.2.2.2 j hlt hb]; exact hj
theorem Kp.owns {b : Nat} {w w' : World} (h : Kp b w w') {B : Nat} {e : TypeId} {sz : Nat} {v : Value} {n : Nat} {xs : List Value} (ho : w.ownsRow B e sz v n xs) (hb : b < B) : w'.ownsRow B e sz v n xs := by
  obtain ⟨h1, h2⟩ := ho
  refine ⟨h1, ?_⟩
  rcases h2 with h2 | ⟨g, cap, cur, hv, hB, hg, h3⟩
  · exact .inl h2
  · exact .inr ⟨g, cap, cur, hv, hB, h.block hg (by omega), h3⟩
theorem owns_base {w : World} {B B' : Nat} {e : TypeId} {sz : Nat} {v : Value} {n : Nat} {xs : List Value} (ho : w.ownsRow B e sz v n xs) (hb : B' ≤ B) : w.ownsRow B' e sz v n xs := by
  obtain ⟨h1, h2⟩ := ho
  refine ⟨h1, ?_⟩
  rcases h2 with h2 | ⟨g, cap, cur, hv, hB, hg, h3⟩
  · exact .inl h2
  · exact .inr ⟨g, cap, cur, hv, by omega, hg, h3⟩
theorem Kp.cell {b : Nat} {w w' : World} (h : Kp b w w') {a : Addr} {v : Value} (hc : w.cell? a = some v) (hb : a.block ≠ b) : w'.cell? a = some v := by
  have := h.2.2.2.2 a.block (block_lt_of_cell hc) hb
  rw [World.cell?_of_block (w := w) this]; exact hc
theorem headS_succ (f : Nat) (first : Bool) (l : List UInt8) (lim : Nat) (m t : List UInt8) (fs : List Pm.Fld) (u : Nat) :
    Pm.headS (f + 1) first l lim m t fs u = if (Pm.lineS l lim 5).1 ≠ 0 then Pm.headBad (Pm.lineS l lim 5).1
    else if first = true then
      (if (Pm.firstS (Pm.lineS l lim 5).2.1).1 ≠ 0 then Pm.headBad (Pm.firstS (Pm.lineS l lim 5).2.1).1
       else Pm.headS f false (l.drop (Pm.lineS l lim 5).2.2) (lim - (Pm.lineS l lim 5).2.2) (Pm.firstS (Pm.lineS l lim 5).2.1).2.1 (Pm.firstS (Pm.lineS l lim 5).2.1).2.2 fs (u + (Pm.lineS l lim 5).2.2))
    else if (Pm.lineS l lim 5).2.1 = [] then (0, m, t, fs, u + (Pm.lineS l lim 5).2.2)
    else match Pm.fieldS (Pm.lineS l lim 5).2.1 with
      | none => Pm.headBad 3
      | some f' => Pm.headS f false (l.drop (Pm.lineS l lim 5).2.2) (lim - (Pm.lineS l lim 5).2.2) m t (fs ++ [f']) (u + (Pm.lineS l lim 5).2.2) := rfl
theorem Kp.fresh {b : Nat} {w w1 : World} (h : Kp b w w1) {g : Nat} (hg : w.heap.size ≤ g) (o : Nat) (v : Value) : Kp b w (w1.setCell ⟨g, o, none⟩ v) :=
  ⟨by simpa [World.setCell] using h.1, by simpa [World.setCell] using h.2.1, by simpa [World.setCell] using h.2.2.1, by simpa using h.2.2.2.1, fun k hk hb => by rw [heap_setCell_other w1 ⟨g, o, none⟩ k v (by simp; omega)]; exact h.2.2.2.2 k hk hb⟩
theorem owns_other {w : World} {B : Nat} {e : TypeId} {sz : Nat} {x : Value} {n : Nat} {xs : List Value} (ho : w.ownsRow B e sz x n xs) {g : Nat} (hg : g < B) (o : Nat) (v : Value) : (w.setCell ⟨g, o, none⟩ v).ownsRow B e sz x n xs := by
  obtain ⟨h1, h2⟩ := ho
  refine ⟨h1, ?_⟩
  rcases h2 with h2 | ⟨r, cap, cur, hv, hB, hr, h3⟩
  · exact .inl h2
  · exact .inr ⟨r, cap, cur, hv, hB, by rw [heap_setCell_other w ⟨g, o, none⟩ r v (by simp; omega)]; exact hr, h3⟩
theorem owns_form {w : World} {B : Nat} {e : TypeId} {sz : Nat} {v : Value} {n : Nat} {xs : List Value} (h : w.ownsRow B e sz v n xs) : ∃ a k c, v = .slice a k c := by
  rcases h.2 with ⟨rfl, _⟩ | ⟨g, cap, cur, rfl, _⟩
  · exact ⟨_, _, _, rfl⟩
  · exact ⟨_, _, _, rfl⟩
theorem field_le {l n v : List UInt8} (h : Pm.fieldS l = some (n, v)) : n.length + v.length ≤ l.length := by
  unfold Pm.fieldS at h
  split at h
  · simp only [Option.some.injEq, Prod.mk.injEq] at h
    have h1 := congrArg List.length (Pm.ahead_behind 58 l)
    rw [List.length_append] at h1
    have h2 := trim_le ((Pm.behind 58 l).drop 1)
    rw [List.length_drop] at h2
    rw [← h.1, ← h.2]; omega
  · cases h
theorem Tryz.info36 : (Tryz.prog.info? 76).map (fun i => (i.zero, i.size, i.bytes)) = some (some (.agg #[.string ⟨#[]⟩, .string ⟨#[]⟩]), 2, 32) := by kernel_rfl
theorem own_not {w : World} {B : Nat} {e : TypeId} {sz : Nat} {v : Value} {n : Nat} {xs : List Value} (h : w.ownsRow B e sz v n xs) {g : Nat} (hg : g < B) : v.ownBlock ≠ some g := fun h' => by
  have := own_ge h g h'; omega
theorem own_lt {w : World} {B : Nat} {e : TypeId} {sz : Nat} {v : Value} {n : Nat} {xs : List Value} (h : w.ownsRow B e sz v n xs) {g : Nat} (hg : w.heap.size ≤ g) : v.ownBlock ≠ some g := fun h' => by
  rcases h.2 with ⟨rfl, _⟩ | ⟨r, cap, cur, rfl, _, hr, _⟩
  · cases h'
  · simp [Value.ownBlock] at h'
    subst h'
    simp [Array.getElem?_eq_none hg] at hr
theorem cell_grown {w w' : World} {row : Option Nat} {a : Addr} {v : Value} (hg : w.grownBy w' row) (hc : w.cell? a = some v) (hne : row ≠ some a.block) : w'.cell? a = some v := by
  rw [World.cell?_of_block (w := w) (hg.block a.block (block_lt_of_cell hc) (fun h => hne h.symm))]; exact hc
theorem lt_after {w2 w3 : World} {o : Obj} {n : Nat} (h : n < w2.heap.size) (hb : Below (w2.alloc o).drew.heap.size (w2.alloc o).drew w3) : n < w3.heap.size := by
  have h1 := hb.size
  have h2 : (w2.alloc o).drew.heap.size = w2.heap.size + 1 := by simp
  omega
theorem Kp.grown {b : Nat} {w w1 w' : World} {row : Option Nat} (h : Kp b w w1) (hg : w1.grownBy w' row) (hr : ∀ k, row = some k → w.heap.size ≤ k) : Kp b w w' :=
  ⟨hg.os.trans h.1, hg.tape.trans h.2.1, hg.output.trans h.2.2.1, Nat.le_trans h.2.2.2.1 hg.size, fun k hk hb => (hg.block k (Nat.lt_of_lt_of_le hk h.2.2.2.1) (fun h' => by have := hr k h'.symm; omega)).trans (h.2.2.2.2 k hk hb)⟩
/- what holds at each line of a head -/
end Go.Proofs.YtjfllmogiknneaaGreatDoor

/- A reader's chunks: the error, the body and the new place, as the plain mathematics says; no other old block turns. -/
namespace Go.Proofs.YtjfllmogiknneaaGreatDoor
open Go.RowKit

/- fuel; what is left of the bytes; the limits; the body so far; how many bytes are used up: the error, the body, how many are used up -/
def chunksS : Nat → List UInt8 → Nat → Int → List UInt8 → Nat → Int × List UInt8 × Nat
  | 0, _, _, _, _, _ => (2, [], 0)
  | f + 1, l, hd, bd, body, u =>
    if sizeE l ≠ 0 then (sizeE l, [], 0)
    else if 0 < sizeN l then
      (if (chunkS (l.drop (Pm.lineS l 10 3).2.2) (sizeN l).toNat (bd - body.length)).1 ≠ 0 then ((chunkS (l.drop (Pm.lineS l 10 3).2.2) (sizeN l).toNat (bd - body.length)).1, [], 0)
       else chunksS f (l.drop ((Pm.lineS l 10 3).2.2 + (chunkS (l.drop (Pm.lineS l 10 3).2.2) (sizeN l).toNat (bd - body.length)).2.2)) hd bd (body ++ (chunkS (l.drop (Pm.lineS l 10 3).2.2) (sizeN l).toNat (bd - body.length)).2.1) (u + (Pm.lineS l 10 3).2.2 + (chunkS (l.drop (Pm.lineS l 10 3).2.2) (sizeN l).toNat (bd - body.length)).2.2))
    else if (Pm.trailS (hd + 1) (l.drop (Pm.lineS l 10 3).2.2) hd 0).1 ≠ 0 then ((Pm.trailS (hd + 1) (l.drop (Pm.lineS l 10 3).2.2) hd 0).1, [], 0)
    else (0, body, u + (Pm.lineS l 10 3).2.2 + (Pm.trailS (hd + 1) (l.drop (Pm.lineS l 10 3).2.2) hd 0).2)
theorem chunksS_succ (f : Nat) (l : List UInt8) (hd : Nat) (bd : Int) (body : List UInt8) (u : Nat) : chunksS (f + 1) l hd bd body u =
    if sizeE l ≠ 0 then (sizeE l, [], 0)
    else if 0 < sizeN l then
      (if (chunkS (l.drop (Pm.lineS l 10 3).2.2) (sizeN l).toNat (bd - body.length)).1 ≠ 0 then ((chunkS (l.drop (Pm.lineS l 10 3).2.2) (sizeN l).toNat (bd - body.length)).1, [], 0)
       else chunksS f (l.drop ((Pm.lineS l 10 3).2.2 + (chunkS (l.drop (Pm.lineS l 10 3).2.2) (sizeN l).toNat (bd - body.length)).2.2)) hd bd (body ++ (chunkS (l.drop (Pm.lineS l 10 3).2.2) (sizeN l).toNat (bd - body.length)).2.1) (u + (Pm.lineS l 10 3).2.2 + (chunkS (l.drop (Pm.lineS l 10 3).2.2) (sizeN l).toNat (bd - body.length)).2.2))
    else if (Pm.trailS (hd + 1) (l.drop (Pm.lineS l 10 3).2.2) hd 0).1 ≠ 0 then ((Pm.trailS (hd + 1) (l.drop (Pm.lineS l 10 3).2.2) hd 0).1, [], 0)
    else (0, body, u + (Pm.lineS l 10 3).2.2 + (Pm.trailS (hd + 1) (l.drop (Pm.lineS l 10 3).2.2) hd 0).2) := rfl
theorem build_kp {w w' : World} {T e : TypeId} {B g b : Nat} {bs : List Value} (h : Lib.IsBuilder T e B g bs w) (hk : Kp b w w') (hb : b < B) : Lib.IsBuilder T e B g bs w' := by
  rcases h with ⟨hB, v, hg, ho, hn⟩ | ⟨hB, v, hg, ho, hn⟩
  · exact .inl ⟨hB, v, hk.block hg (by omega), hk.owns ho hb, hn⟩
  · exact .inr ⟨hB, v, hk.block hg (by omega), hk.owns ho hb, hn⟩
theorem line_len (l : List UInt8) (lim : Nat) (long : Int) : (Pm.lineS l lim long).2.1.length ≤ lim ∧ (Pm.lineS l lim long).2.2 ≤ lim ∧ (Pm.lineS l lim long).2.2 ≤ l.length := by
  unfold Pm.lineS
  split
  · simp
  · rename_i h1
    have h3 := congrArg List.length (Pm.ahead_behind 10 (l.take lim))
    rw [List.length_append, List.length_take] at h3
    have h4 : 1 ≤ (Pm.behind 10 (l.take lim)).length := by
      cases hb : Pm.behind 10 (l.take lim) with
      | nil => rw [hb] at h1; simp at h1
      | cons => simp
    split
    · have h5 : (Lib.trimSuffix (Pm.ahead 10 (l.take lim)) [13]).length ≤ (Pm.ahead 10 (l.take lim)).length := by
        unfold Lib.trimSuffix
        by_cases hq : Lib.hasSuffix (Pm.ahead 10 (l.take lim)) [13] = true
        · rw [if_pos hq, List.length_take]; exact Nat.min_le_right _ _
        · rw [if_neg hq]; exact Nat.le_refl _
      exact ⟨Nat.le_trans h5 (by omega), (by omega : (Pm.ahead 10 (l.take lim)).length + 1 ≤ lim), (by omega : (Pm.ahead 10 (l.take lim)).length + 1 ≤ l.length)⟩
    · simp
theorem sizeN_bd (l : List UInt8) : 0 ≤ sizeN l ∧ sizeN l < 68719476736 := by
  unfold sizeN; split
  · unfold Pm.numN; split
    · rename_i h
      simp only [Pm.numOk, Bool.and_eq_true, decide_eq_true_eq] at h
      exact Pm.numv_bd 16 _ (by omega) (by omega) h.2 (by omega)
    · omega
  · omega
theorem chunkS_room (l : List UInt8) (n : Nat) (room : Int) (h : (chunkS l n room).1 = 0) : ((chunkS l n room).2.1.length : Int) ≤ room ∧ (chunkS l n room).2.2 = n + 2 := by
  unfold chunkS at h ⊢
  by_cases h1 : room < n
  · rw [if_pos h1] at h; simp at h
  · rw [if_neg h1] at h ⊢
    by_cases h2 : l.length < n + 2
    · rw [if_pos h2] at h; simp at h
    · rw [if_neg h2] at h ⊢
      by_cases h3 : Lib.hasSuffix (l.take (n + 2)) [13, 10] = true
      · rw [if_pos h3]
        have : (Lib.trimSuffix (l.take (n + 2)) [13, 10]).length ≤ n := by
          unfold Lib.trimSuffix; rw [if_pos h3, List.length_take, List.length_take]
          have : ([13, 10] : List UInt8).length = 2 := rfl
          omega
        exact ⟨(by omega : ((Lib.trimSuffix (l.take (n + 2)) [13, 10]).length : Int) ≤ room), rfl⟩
      · rw [if_neg h3] at h; simp at h
theorem chunkS_len (l : List UInt8) (n : Nat) (room : Int) : (chunkS l n room).2.2 ≤ l.length ∧ (chunkS l n room).2.1.length ≤ (chunkS l n room).2.2 := by
  unfold chunkS
  split
  · simp
  · split
    · simp
    · rename_i h
      split
      · refine ⟨by simp only; omega, ?_⟩
        unfold Lib.trimSuffix; split
        · simp only [List.length_take]; omega
        · simp only [List.length_take]; omega
      · simp only [List.length_nil]; omega
theorem Kp.low {b : Nat} {w w3 w5 : World} (h : Kp b w w3) (hb : Below w.heap.size w3 w5) : Kp b w w5 :=
  ⟨hb.os.trans h.1, hb.tape.trans h.2.1, hb.output.trans h.2.2.1, Nat.le_trans h.2.2.2.1 hb.size, fun k hk hkb => (hb.block k hk).trans (h.2.2.2.2 k hk hkb)⟩
end Go.Proofs.YtjfllmogiknneaaGreatDoor
