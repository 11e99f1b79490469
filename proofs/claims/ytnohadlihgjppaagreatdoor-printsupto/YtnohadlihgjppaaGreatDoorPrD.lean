/- The program's look at a request and at the sizes of its chunks; nothing old in memory turns. -/
import Derived.Test.YtnohadlihgjppaaGreatDoorPrC
namespace Go.Proofs.YtnohadlihgjppaaGreatDoor
open Go.RowKit

def ZoAt (zs : List Int) (a : Option Addr) (w : World) : Prop :=
  ∀ i (h : i < zs.length), ∃ g o, a = some ⟨g, o, none⟩ ∧ g < w.heap.size ∧ w.cell? ⟨g, o + i, none⟩ = some (.int .i64 zs[i])
theorem ZoAt.below {zs : List Int} {a : Option Addr} {w w' : World} (h : ZoAt zs a w) (hb : Below w.heap.size w w') : ZoAt zs a w' := fun i hi => by
  obtain ⟨g, o, h1, h2, h3⟩ := h i hi
  exact ⟨g, o, h1, Nat.lt_of_lt_of_le h2 hb.size, cell_later hb h3⟩
theorem sizesOk_bad {l : List Int} {k : Nat} {left n : Int} (h : sizesOk (l.drop k) left = sizesOk l n) (hk : k < l.length) (hs : l[k] < 1 ∨ left < l[k]) : sizesOk l n = false := by
  rw [← h, List.drop_eq_getElem_cons hk, sizesOk, if_pos hs]
theorem sizesOk_next {l : List Int} {k : Nat} {left n : Int} (h : sizesOk (l.drop k) left = sizesOk l n) (hk : k < l.length) (hs : ¬ (l[k] < 1 ∨ left < l[k])) : sizesOk (l.drop (k + 1)) (left - l[k]) = sizesOk l n := by
  rw [← h, List.drop_eq_getElem_cons hk, sizesOk, if_neg hs]

set_option maxHeartbeats 1000000 in
theorem rightSizes_any (how : Int) (zs : List Int) (a : Option Addr) (ca : Nat) (n : Nat) (w : World) (hf : ZoAt zs a w) (hl : zs.length ≤ 1000000000) (hn : n ≤ 1000000000000) :
    Calls Tryz.prog 46 #[.int .i64 how, .slice a zs.length ca, .int .i64 n] w fun e w' => e = .returned (.bool (howOk how zs n)) ∧ w' = w := by
  have HF := hid hf
  clear hf
  by_cases h0 : how = 0
  · have HH : Hid (howOk how zs n = zs.isEmpty) := by unfold Hid howOk; rw [if_pos h0]
    have h0' : (how == 0) = true := by rw [h0]; rfl
    have he : ((zs.length : Int) == 0) = zs.isEmpty := by cases zs <;> simp; omega
    have HE := hid he
    clear h0 he
    go_enter Tryz.func46, Tryz.ntmps46
    go_wp2
    go_ret
    exact ⟨ret_bool (by rw [HH.out]; exact HE.out), rfl⟩
  · have h0' : (how == 0) = false := by rw [beq_eq_false_iff_ne]; exact h0
    by_cases h1 : how = 1
    · have HH : Hid (howOk how zs n = sizesOk zs n) := by unfold Hid howOk; rw [if_neg h0, if_pos h1]
      have h1' : (how == 1) = true := by rw [h1]; rfl
      clear h0 h1
      go_enter Tryz.func46, Tryz.ntmps46
      go_wp2_with fail
      go_loop [7, 9, 21] (fun l _ i => ∃ (k : Nat) (left : Int), k ≤ zs.length ∧ i = .int .i64 k ∧ l = .int .i64 left ∧ 0 ≤ left ∧ left ≤ n ∧ Hid (sizesOk (zs.drop k) left = sizesOk zs n)) (fun _ _ i => zs.length - (intOf i).toNat)
      case atStart => exact ⟨0, n, Nat.zero_le _, rfl, rfl, by omega, by omega, rfl⟩
      case round =>
        obtain ⟨k, left, hk, rfl, rfl, hl0, hln, H⟩ := hrel
        by_cases hlt : k < zs.length
        · obtain ⟨g, o, rfl, hg, hc⟩ := HF.out k hlt
          by_cases hb : zs[k] < 1
          · have HN := hid (sizesOk_bad H.out hlt (.inl hb))
            generalize zs[k] = z at *
            go_wp2
            go_ret
            exact ⟨ret_bool (by rw [HH.out, HN.out]), rfl⟩
          · by_cases hb2 : left < zs[k]
            · have HN := hid (sizesOk_bad H.out hlt (.inr hb2))
              generalize zs[k] = z at *
              go_wp2
              go_ret
              exact ⟨ret_bool (by rw [HH.out, HN.out]), rfl⟩
            · have HN := hid (sizesOk_next H.out hlt (fun h => h.elim hb hb2))
              generalize zs[k] = z at *
              have hw : IntKind.i64.wrap (left - z) = left - z := by simp [IntKind.wrap, IntKind.bits, IntKind.signed]; omega
              go_wp2
              exact ⟨⟨k + 1, left - z, by omega, by go_num, rfl, by omega, by omega, HN.out⟩, by simp [intOf]; omega⟩
        · have HE : Hid ((left == 0) = sizesOk zs n) := by
            have := H.out
            rw [List.drop_eq_nil_of_le (by omega), sizesOk] at this
            exact this
          go_wp2
          go_ret
          exact ⟨ret_bool (by rw [HH.out]; exact HE.out), rfl⟩
    · have h1' : (how == 1) = false := by rw [beq_eq_false_iff_ne]; exact h1
      have HH : Hid (howOk how zs n = false) := by unfold Hid howOk; rw [if_neg h0, if_neg h1]
      clear h0 h1
      go_enter Tryz.func46, Tryz.ntmps46
      go_wp2
      go_ret
      exact ⟨ret_bool HH.out.symm, rfl⟩

/- a request's block -/
def RoAt (g : Nat) (m t : ByteArray) (v : Value) (body : ByteArray) (w : World) : Prop := w.heap[g]? = some (.cells #[.string m, .string t, v, .string body] 36 (0, 0))
theorem RoAt.below {g : Nat} {m t : ByteArray} {v : Value} {body : ByteArray} {w w' : World} (h : RoAt g m t v body w) {B : Nat} (hb : Below B w w') (hg : g < B) : RoAt g m t v body w' := by
  unfold RoAt at *; rw [hb.block g hg]; exact h
theorem RoAt.cells {g : Nat} {m t : ByteArray} {v : Value} {body : ByteArray} {w : World} (h : RoAt g m t v body w) : w.cell? ⟨g, 0, none⟩ = some (.string m) ∧ w.cell? ⟨g, 1, none⟩ = some (.string t) ∧ w.cell? ⟨g, 2, none⟩ = some v ∧ w.cell? ⟨g, 3, none⟩ = some (.string body) := by
  refine ⟨?_, ?_, ?_, ?_⟩ <;> (rw [Lib.cell_of_heap h]; rfl)
theorem RoAt.lt {g : Nat} {m t : ByteArray} {v : Value} {body : ByteArray} {w : World} (h : RoAt g m t v body w) : g < w.heap.size := by
  rcases Nat.lt_or_ge g w.heap.size with h' | h'
  · exact h'
  · unfold RoAt at h; simp [Array.getElem?_eq_none h'] at h
end Go.Proofs.YtnohadlihgjppaaGreatDoor
