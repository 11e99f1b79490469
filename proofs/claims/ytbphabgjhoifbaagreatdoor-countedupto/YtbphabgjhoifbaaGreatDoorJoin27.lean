/- Texts that follow one another, joined. -/
import Derived.Test.YtbphabgjhoifbaaGreatDoorJoin26
import Derived.Test.YtbphabgjhoifbaaGreatDoorJoin22
import Derived.Test.YtbphabgjhoifbaaGreatDoorJoin06
/- The reference's lines: where one ends, and what it tells; each call answers what the plain mathematics says; nothing old in memory turns. -/
namespace Go.Proofs.YtbphabgjhoifbaaGreatDoor
open Go.RowKit

theorem drop_get {s : ByteArray} {k j : Nat} (h : k + j < s.size) : ∃ h2 : j < (s.data.toList.drop k).length, (s.data.toList.drop k)[j] = s[k + j] := by
  refine ⟨by simp; omega, ?_⟩
  rw [List.getElem_drop]; rfl
theorem nat_eq10 {c : UInt8} (h : ((c.toNat : Int) == 10) = true) : c = 10 := by
  apply UInt8.toNat_inj.1; simp at h; show c.toNat = 10; omega
theorem nat_ne10 {c : UInt8} (h : ((c.toNat : Int) == 10) = false) : c ≠ 10 := by
  rintro rfl; simp at h
theorem nat_eq13 {c : UInt8} (h : ((c.toNat : Int) != 13) = false) : c = 13 := by
  apply UInt8.toNat_inj.1; simp at h; show c.toNat = 13; omega
theorem nat_ne13 {c : UInt8} (h : ((c.toNat : Int) != 13) = true) : c ≠ 13 := by
  rintro rfl; simp at h

theorem ret_line {a : ByteArray} {l : List UInt8} {n m e f : Int} (h : a.data.toList = l) (h2 : n = m) (h3 : e = f) :
    Ending.returned (.tuple #[.string a, .int .i64 n, .int .i64 e]) = .returned (.tuple #[.string ⟨l.toArray⟩, .int .i64 m, .int .i64 f]) := by
  rw [bytes_of h, h2, h3]

end Go.Proofs.YtbphabgjhoifbaaGreatDoor

/- The reference's first line: it tells what the plain mathematics says; nothing old in memory turns. -/
namespace Go.Proofs.YtbphabgjhoifbaaGreatDoor
open Go.RowKit

theorem firstR_none {l : List UInt8} (h : Pm.behind 32 l = []) : Pm.firstS l = (3, [], []) := by
  rw [Pm.firstS_R]; unfold Pm.firstR; simp only; rw [if_pos h]
theorem firstR_some {l r : List UInt8} (h : Pm.behind 32 l = 32 :: r) : Pm.firstS l = if (Pm.isMethod (Pm.ahead 32 l) && (Pm.isTarget (Pm.ahead 32 r) && Pm.isVersion ((Pm.behind 32 r).drop 1)) && !(Pm.behind 32 r).isEmpty) = true then (if (Pm.behind 32 r).drop 1 = Pm.http11 then (0, Pm.ahead 32 l, Pm.ahead 32 r) else (7, [], [])) else (3, [], []) := by
  rw [Pm.firstS_R]; unfold Pm.firstR; simp only; rw [if_neg (by rw [h]; simp), h]; rfl
/- what stands behind the target is no version's -/
theorem no_ver {v : List UInt8} (hc : v = [] ∨ ∃ r, v = 32 :: r) (hn : ¬ ∃ a b c, v = [32, 72, 84, 84, 80, 47, a, b, c]) : (Pm.isVersion (v.drop 1) && !v.isEmpty) = false := by
  rcases hc with rfl | ⟨r, rfl⟩
  · simp
  · cases h : Pm.isVersion r
    · simp [h]
    · obtain ⟨a, b, c, rfl⟩ := Pm.ver_form h
      exact absurd ⟨a, b, c, rfl⟩ hn
theorem and3 (a b c d : Bool) : (a && (b && c) && d) = (a && (b && (c && d))) := by cases a <;> cases b <;> cases c <;> cases d <;> rfl

end Go.Proofs.YtbphabgjhoifbaaGreatDoor

/- The reference's lines behind the last chunk, and its chunks: they tell what the plain mathematics says; nothing old in memory turns. -/
namespace Go.Proofs.YtbphabgjhoifbaaGreatDoor
open Go.RowKit

def trailEnd (k : Nat) (T : Int × Nat) : Int := if T.1 = 0 then ((k + T.2 : Nat) : Int) else 0

/- chunks, told from one place on: what is told before is laid ahead of it -/
def chunksR : Nat → List UInt8 → Nat → Int → Int × List UInt8 × Nat
  | 0, _, _, _ => (2, [], 0)
  | f + 1, l, hd, left =>
    let z := (Pm.lineS l 10 3).2.2
    if sizeE l ≠ 0 then (sizeE l, [], 0)
    else if 0 < sizeN l then
      let c := chunkS (l.drop z) (sizeN l).toNat left
      if c.1 ≠ 0 then (c.1, [], 0)
      else
        let r := chunksR f (l.drop (z + c.2.2)) hd (left - c.2.1.length)
        if r.1 ≠ 0 then (r.1, [], 0) else (0, c.2.1 ++ r.2.1, z + c.2.2 + r.2.2)
    else
      let t := Pm.trailS (hd + 1) (l.drop z) hd 0
      if t.1 ≠ 0 then (t.1, [], 0) else (0, [], z + t.2)
theorem chunksS_R (hd : Nat) (bd : Int) : ∀ (f : Nat) (l : List UInt8) (body : List UInt8) (u : Nat), chunksS f l hd bd body u = if (chunksR f l hd (bd - body.length)).1 ≠ 0 then ((chunksR f l hd (bd - body.length)).1, [], 0) else (0, body ++ (chunksR f l hd (bd - body.length)).2.1, u + (chunksR f l hd (bd - body.length)).2.2) := by
  intro f
  induction f with
  | zero => intro l body u; rfl
  | succ f ih =>
    intro l body u
    rw [chunksS_succ, chunksR]
    simp only
    by_cases h1 : sizeE l ≠ 0
    · rw [if_pos h1, if_pos h1, if_pos h1]
    · rw [if_neg h1, if_neg h1]
      by_cases h2 : 0 < sizeN l
      · rw [if_pos h2, if_pos h2]
        generalize chunkS (l.drop (Pm.lineS l 10 3).2.2) (sizeN l).toNat (bd - body.length) = c
        by_cases h3 : c.1 ≠ 0
        · rw [if_pos h3, if_pos h3, if_pos h3]
        · rw [if_neg h3, if_neg h3, ih, List.length_append]
          rw [show bd - ((body.length + c.2.1.length : Nat) : Int) = bd - body.length - c.2.1.length from by omega]
          generalize chunksR f (l.drop ((Pm.lineS l 10 3).2.2 + c.2.2)) hd (bd - body.length - c.2.1.length) = r
          by_cases h4 : r.1 ≠ 0
          · rw [if_pos h4, if_pos h4, if_pos h4]
          · rw [if_neg h4, if_neg h4, if_neg (by simp)]
            simp only [List.append_assoc, Prod.mk.injEq, true_and]
            omega
      · rw [if_neg h2, if_neg h2]
        by_cases h3 : (Pm.trailS (hd + 1) (l.drop (Pm.lineS l 10 3).2.2) hd 0).1 ≠ 0
        · rw [if_pos h3, if_pos h3, if_pos h3]
        · rw [if_neg h3, if_neg h3, if_neg (by simp)]
          simp only [List.append_nil, Prod.mk.injEq, true_and]
          omega
theorem chunks_R (f : Nat) (l : List UInt8) (hd : Nat) (bd : Int) : chunksS f l hd bd [] 0 = if (chunksR f l hd bd).1 ≠ 0 then ((chunksR f l hd bd).1, [], 0) else (0, (chunksR f l hd bd).2.1, (chunksR f l hd bd).2.2) := by
  have := chunksS_R hd bd f l [] 0
  simpa using this
end Go.Proofs.YtbphabgjhoifbaaGreatDoor

/- The reference's chunks: they tell what the plain mathematics says; nothing old in memory turns. -/
namespace Go.Proofs.YtbphabgjhoifbaaGreatDoor
open Go.RowKit

theorem chunksR_succ (f : Nat) (l : List UInt8) (hd : Nat) (left : Int) : chunksR (f + 1) l hd left =
    if sizeE l ≠ 0 then (sizeE l, [], 0)
    else if 0 < sizeN l then
      (if (chunkS (l.drop (Pm.lineS l 10 3).2.2) (sizeN l).toNat left).1 ≠ 0 then ((chunkS (l.drop (Pm.lineS l 10 3).2.2) (sizeN l).toNat left).1, [], 0)
       else if (chunksR f (l.drop ((Pm.lineS l 10 3).2.2 + (chunkS (l.drop (Pm.lineS l 10 3).2.2) (sizeN l).toNat left).2.2)) hd (left - (chunkS (l.drop (Pm.lineS l 10 3).2.2) (sizeN l).toNat left).2.1.length)).1 ≠ 0 then ((chunksR f (l.drop ((Pm.lineS l 10 3).2.2 + (chunkS (l.drop (Pm.lineS l 10 3).2.2) (sizeN l).toNat left).2.2)) hd (left - (chunkS (l.drop (Pm.lineS l 10 3).2.2) (sizeN l).toNat left).2.1.length)).1, [], 0)
       else (0, (chunkS (l.drop (Pm.lineS l 10 3).2.2) (sizeN l).toNat left).2.1 ++ (chunksR f (l.drop ((Pm.lineS l 10 3).2.2 + (chunkS (l.drop (Pm.lineS l 10 3).2.2) (sizeN l).toNat left).2.2)) hd (left - (chunkS (l.drop (Pm.lineS l 10 3).2.2) (sizeN l).toNat left).2.1.length)).2.1, (Pm.lineS l 10 3).2.2 + (chunkS (l.drop (Pm.lineS l 10 3).2.2) (sizeN l).toNat left).2.2 + (chunksR f (l.drop ((Pm.lineS l 10 3).2.2 + (chunkS (l.drop (Pm.lineS l 10 3).2.2) (sizeN l).toNat left).2.2)) hd (left - (chunkS (l.drop (Pm.lineS l 10 3).2.2) (sizeN l).toNat left).2.1.length)).2.2))
    else if (Pm.trailS (hd + 1) (l.drop (Pm.lineS l 10 3).2.2) hd 0).1 ≠ 0 then ((Pm.trailS (hd + 1) (l.drop (Pm.lineS l 10 3).2.2) hd 0).1, [], 0)
    else (0, [], (Pm.lineS l 10 3).2.2 + (Pm.trailS (hd + 1) (l.drop (Pm.lineS l 10 3).2.2) hd 0).2) := rfl
def chEnd (k : Nat) (R : Int × List UInt8 × Nat) : Int := if R.1 = 0 then ((k + R.2.2 : Nat) : Int) else 0
theorem suf2 {l : List UInt8} {n : Nat} (h : n + 1 < l.length) : Lib.hasSuffix (l.take (n + 2)) [13, 10] = (l[n] == 13 && l[n + 1] == 10) := by
  rw [show n + 2 = (n + 1) + 1 from rfl, List.take_succ_eq_append_getElem h, List.take_succ_eq_append_getElem (by omega : n < l.length)]
  unfold Lib.hasSuffix
  rw [Bool.eq_iff_iff, List.isSuffixOf_iff_suffix]
  constructor
  · intro ⟨t, ht⟩
    rw [List.append_assoc] at ht
    have := (List.append_inj' ht rfl).2
    simp at this; simp [← this.1, ← this.2]
  · intro h2
    simp at h2; rw [h2.1, h2.2]; exact ⟨l.take n, by simp⟩
theorem chunk_large {l : List UInt8} {n : Nat} {room : Int} (h : room < n) : chunkS l n room = (4, [], 0) := by unfold chunkS; rw [if_pos h]
theorem chunk_more {l : List UInt8} {n : Nat} {room : Int} (h : ¬ room < n) (h2 : l.length < n + 2) : chunkS l n room = (2, [], 0) := by unfold chunkS; rw [if_neg h, if_pos h2]
theorem chunk_bad {l : List UInt8} {n : Nat} {room : Int} (h : ¬ room < n) (h2 : n + 1 < l.length) (h3 : (l[n] == 13 && l[n + 1] == 10) = false) : chunkS l n room = (3, [], n + 2) := by
  unfold chunkS; rw [if_neg h, if_neg (by omega), suf2 h2, h3]; rfl
theorem chunk_good {l : List UInt8} {n : Nat} {room : Int} (h : ¬ room < n) (h2 : n + 1 < l.length) (h3 : (l[n] == 13 && l[n + 1] == 10) = true) : chunkS l n room = (0, l.take n, n + 2) := by
  have hs := suf2 h2
  rw [h3] at hs
  unfold chunkS; rw [if_neg h, if_neg (by omega), if_pos hs]
  unfold Lib.trimSuffix
  rw [if_pos hs, List.length_take, List.take_take]
  simp only [List.length_cons, List.length_nil]
  rw [show min (min (n + 2) l.length - (0 + 1 + 1)) (n + 2) = n from by omega]
theorem size_ok {l : List UInt8} (h1 : (Pm.lineS l 10 3).1 = 0) (h2 : Pm.numOk 16 8 (Pm.lineS l 10 3).2.1 = true) : sizeE l = 0 ∧ sizeN l = Pm.numM 16 8 (Pm.lineS l 10 3).2.1 := by
  unfold sizeE sizeN Pm.numE Pm.numN Pm.numM
  rw [if_pos h1, if_pos h1, h2]; exact ⟨rfl, rfl⟩
theorem size_bad {l : List UInt8} (h1 : (Pm.lineS l 10 3).1 = 0) (h2 : Pm.numOk 16 8 (Pm.lineS l 10 3).2.1 = false) : sizeE l = 3 := by
  unfold sizeE Pm.numE
  rw [if_pos h1, h2]; rfl
theorem size_err {l : List UInt8} (h1 : (Pm.lineS l 10 3).1 ≠ 0) : sizeE l = (Pm.lineS l 10 3).1 := by
  unfold sizeE; rw [if_neg h1]

theorem chunkS_ok (l : List UInt8) (n : Nat) (room : Int) (h : (chunkS l n room).1 = 0) : (chunkS l n room).2.1.length + (chunkS l n room).2.2 ≤ 2 * (chunkS l n room).2.2 ∧ (chunkS l n room).2.2 ≤ l.length := by
  unfold chunkS at h ⊢
  split at h <;> rename_i h1
  · simp at h
  rw [if_neg h1]
  split at h <;> rename_i h2
  · simp at h
  rw [if_neg h2]
  split at h <;> rename_i h3
  · rw [if_pos h3]
    simp only
    have h4 : (Lib.trimSuffix (l.take (n + 2)) [13, 10]).length ≤ n + 2 := by
      unfold Lib.trimSuffix; rw [if_pos h3, List.length_take, List.length_take]; omega
    omega
  · simp at h
theorem chunksR_len (hd : Nat) : ∀ (f : Nat) (l : List UInt8) (left : Int), (chunksR f l hd left).2.1.length ≤ l.length := by
  intro f
  induction f with
  | zero => intro l left; exact Nat.zero_le _
  | succ f ih =>
    intro l left
    rw [chunksR_succ]
    have ok := chunkS_ok (l.drop (Pm.lineS l 10 3).2.2) (sizeN l).toNat left
    generalize chunkS (l.drop (Pm.lineS l 10 3).2.2) (sizeN l).toNat left = c at *
    have h5 := ih (l.drop ((Pm.lineS l 10 3).2.2 + c.2.2)) (left - c.2.1.length)
    generalize chunksR f (l.drop ((Pm.lineS l 10 3).2.2 + c.2.2)) hd (left - c.2.1.length) = r at *
    split
    · exact Nat.zero_le _
    · split
      · split
        · exact Nat.zero_le _
        · rename_i h3
          split
          · exact Nat.zero_le _
          · obtain ⟨k1, k2⟩ := ok (by simpa using h3)
            simp only [List.length_append, List.length_drop] at *
            omega
      · split <;> exact Nat.zero_le _
theorem ret_chunk {a : ByteArray} {l : List UInt8} {n m e f : Int} (h : a.data.toList = l) (h2 : n = m) (h3 : e = f) :
    Ending.returned (.tuple #[.string a, .int .i64 n, .int .i64 e]) = .returned (.tuple #[.string ⟨l.toArray⟩, .int .i64 m, .int .i64 f]) := by
  rw [bytes_of h, h2, h3]

end Go.Proofs.YtbphabgjhoifbaaGreatDoor

/- The reference's head: method, target, fields, where it ends, the error, as the plain mathematics says; nothing old in memory turns. -/
namespace Go.Proofs.YtbphabgjhoifbaaGreatDoor
open Go.RowKit

structure RInv (w : World) (hd : Nat) (s : ByteArray) (H : Pm.HeadR) (gq g u : Nat) (m t : List UInt8) (fs : List Pm.Fld) (v : Value) (wr : World) : Prop where
  u1 : u ≤ hd
  g1 : hd - u + 1 ≤ g
  k1 : u ≤ s.size
  n1 : fs.length ≤ u
  eq : Pm.headS g false (s.data.toList.drop u) (hd - u) m t fs u = H
  rb : RqB w.heap.size [] [] (.slice none 0 0) wr
  qb : RqB gq m t v wr
  ow : wr.ownsRow (gq + 1) 133 2 v fs.length (flat fs)
  sz : gq + 1 ≤ wr.heap.size
  bl : Below w.heap.size w wr

end Go.Proofs.YtbphabgjhoifbaaGreatDoor
