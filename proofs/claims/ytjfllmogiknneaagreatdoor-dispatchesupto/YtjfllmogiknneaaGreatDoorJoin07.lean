/- Texts that follow one another, joined. -/
import Derived.Test.YtjfllmogiknneaaGreatDoorJoin01
import Derived.Test.YtjfllmogiknneaaGreatDoorJoin06
/- A reader's line: the error, the line, the new place, as the plain mathematics says; no other block turns. -/
namespace Go.Proofs.YtjfllmogiknneaaGreatDoor
open Go.RowKit

/- the reader lies in block b: its limits, its text, its place -/
/- every old block but b is as it was -/
def Kp (b : Nat) (w w' : World) : Prop :=
  w'.os = w.os ∧ w'.tape = w.tape ∧ w'.output = w.output ∧ w.heap.size ≤ w'.heap.size ∧ ∀ k, k < w.heap.size → k ≠ b → w'.heap[k]? = w.heap[k]?
theorem Kp.refl (b : Nat) (w : World) : Kp b w w := ⟨rfl, rfl, rfl, Nat.le_refl _, fun _ _ _ => rfl⟩
theorem Kp.trans {b : Nat} {w w1 w2 : World} (h : Kp b w w1) (k : Kp b w1 w2) : Kp b w w2 :=
  ⟨k.1.trans h.1, k.2.1.trans h.2.1, k.2.2.1.trans h.2.2.1, Nat.le_trans h.2.2.2.1 k.2.2.2.1, fun j hj hb => (k.2.2.2.2 j (Nat.lt_of_lt_of_le hj h.2.2.2.1) hb).trans (h.2.2.2.2 j hj hb)⟩
theorem Kp.of {b : Nat} {w w' : World} (h : Below w.heap.size w w') : Kp b w w' := ⟨h.os, h.tape, h.output, h.size, fun k hk _ => h.block k hk⟩
theorem Kp.set (b o : Nat) (v : Value) (w : World) : Kp b w (w.setCell ⟨b, o, none⟩ v) :=
  ⟨by simp [World.setCell], by simp [World.setCell], by simp [World.setCell], by simp, fun k _ hk => Below.heap_setCell w ⟨b, o, none⟩ v k hk⟩
end Go.Proofs.YtjfllmogiknneaaGreatDoor

/- The first line of a head: the error, the method, the target, as the plain mathematics says; nothing old in memory turns. -/
namespace Go.Proofs.YtjfllmogiknneaaGreatDoor
open Go.RowKit

theorem ret_first {k : IntKind} {a b c d : ByteArray} {x y : Int} (h : a = b) (h' : c = d) (hx : x = y) : Ending.returned (.tuple #[.string a, .string c, .int k x]) = .returned (.tuple #[.string b, .string d, .int k y]) := by rw [h, h', hx]

end Go.Proofs.YtjfllmogiknneaaGreatDoor

/- Values: the values of the fields whose names are alike a name, in new memory; nothing old in memory turns. -/
namespace Go.Proofs.YtjfllmogiknneaaGreatDoor
open Go.RowKit

/- fields that lie one behind the other from the head of block g; a list of texts that lies somewhere below the heap's end -/
def FlAt (fs : List (ByteArray × ByteArray)) (a : Option Addr) (w : World) : Prop :=
  ∀ i (h : i < fs.length), ∃ g, a = some ⟨g, 0, none⟩ ∧ g < w.heap.size ∧ w.cell? ⟨g, i * 2, none⟩ = some (.string fs[i].1) ∧ w.cell? ⟨g, i * 2 + 1, none⟩ = some (.string fs[i].2)
def StAt (l : List ByteArray) (a : Option Addr) (w : World) : Prop :=
  ∀ i (h : i < l.length), ∃ g, a = some ⟨g, 0, none⟩ ∧ g < w.heap.size ∧ w.cell? ⟨g, i, none⟩ = some (.string l[i])
theorem FlAt.below {fs : List (ByteArray × ByteArray)} {a : Option Addr} {w w' : World} (h : FlAt fs a w) (hb : Below w.heap.size w w') : FlAt fs a w' := fun i hi => by
  obtain ⟨g, h1, h2, h3, h4⟩ := h i hi
  exact ⟨g, h1, Nat.lt_of_lt_of_le h2 hb.size, cell_later hb h3, cell_later hb h4⟩
theorem StAt.below {l : List ByteArray} {a : Option Addr} {w w' : World} (h : StAt l a w) (hb : Below w.heap.size w w') : StAt l a w' := fun i hi => by
  obtain ⟨g, h1, h2, h3⟩ := h i hi
  exact ⟨g, h1, Nat.lt_of_lt_of_le h2 hb.size, cell_later hb h3⟩
def valsOf (fs : List (ByteArray × ByteArray)) (name : List UInt8) : List ByteArray := (fs.filter fun f => Pm.alike f.1.data.toList name).map (·.2)
theorem valsOf_le (fs : List (ByteArray × ByteArray)) (name : List UInt8) : (valsOf fs name).length ≤ fs.length := by
  unfold valsOf; rw [List.length_map]; exact List.length_filter_le _ _
theorem valsOf_yes {fs : List (ByteArray × ByteArray)} {name : List UInt8} {k : Nat} (h : k < fs.length) (ha : Pm.alike fs[k].1.data.toList name = true) : valsOf (fs.take (k + 1)) name = valsOf (fs.take k) name ++ [fs[k].2] := by
  unfold valsOf; rw [List.take_succ_eq_append_getElem h, List.filter_append, List.map_append]; simp [ha]
theorem valsOf_no {fs : List (ByteArray × ByteArray)} {name : List UInt8} {k : Nat} (h : k < fs.length) (ha : Pm.alike fs[k].1.data.toList name = false) : valsOf (fs.take (k + 1)) name = valsOf (fs.take k) name := by
  unfold valsOf; rw [List.take_succ_eq_append_getElem h, List.filter_append, List.map_append]; simp [ha]
theorem StAt.of_owns {w : World} {B : Nat} {e : TypeId} {v : Value} {n : Nat} {l : List ByteArray} (h : w.ownsRow B e 1 v n (l.map Value.string)) : ∃ a cap, v = .slice a l.length cap ∧ StAt l a w := by
  obtain ⟨h1, h2⟩ := h
  simp at h1
  rcases h2 with ⟨rfl, hn⟩ | ⟨g, cap, cur, rfl, _, hg, _, _, _, hc⟩
  · have hl : l = [] := List.eq_nil_of_length_eq_zero (by omega)
    subst hl
    exact ⟨none, 0, rfl, fun i hi => absurd hi (by simp)⟩
  · refine ⟨some ⟨g, 0, none⟩, cap, by rw [h1], fun i hi => ⟨g, rfl, ?_, ?_⟩⟩
    · rcases Nat.lt_or_ge g w.heap.size with h' | h'
      · exact h'
      · simp [Array.getElem?_eq_none h'] at hg
    · rw [Lib.cell_of_heap hg]
      have h3 : (cur.toList.take (n * 1))[i]? = some (.string l[i]) := by rw [hc]; simp [hi]
      rw [List.getElem?_take] at h3
      split at h3
      · simpa using h3
      · cases h3

theorem own_ge {w : World} {B : Nat} {e : TypeId} {sz : Nat} {v : Value} {n : Nat} {xs : List Value} (h : w.ownsRow B e sz v n xs) : ∀ k, v.ownBlock = some k → B ≤ k := by
  intro k hk
  rcases h.2 with ⟨rfl, _⟩ | ⟨g, cap, cur, rfl, hB, _⟩
  · cases hk
  · simp [Value.ownBlock] at hk; omega
theorem owns_below {w w' : World} {B : Nat} {e : TypeId} {sz : Nat} {v : Value} {n : Nat} {xs : List Value} (h : w.ownsRow B e sz v n xs) (hb : Below w.heap.size w w') : w'.ownsRow B e sz v n xs := by
  obtain ⟨h1, h2⟩ := h
  refine ⟨h1, ?_⟩
  rcases h2 with h2 | ⟨g, cap, cur, hv, hB, hg, h3⟩
  · exact .inl h2
  · refine .inr ⟨g, cap, cur, hv, hB, ?_, h3⟩
    have hlt : g < w.heap.size := by
      rcases Nat.lt_or_ge g w.heap.size with h' | h'
      · exact h'
      · simp [Array.getElem?_eq_none h'] at hg
    rw [hb.block g hlt]; exact hg

theorem Tryz.info9 : (Tryz.prog.info? 9).map (fun i => (i.zero, i.size, i.bytes)) = some (some (.string ⟨#[]⟩), 1, 16) := by kernel_rfl

end Go.Proofs.YtjfllmogiknneaaGreatDoor
