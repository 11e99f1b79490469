/- looks: all lists that the book holds read as they were written; nothing old in memory turns. -/
import Derived.Test.YtnohadlihgjppaaGreatDoorBook3
namespace Go.Proofs.YtnohadlihgjppaaGreatDoor
open Go.RowKit

theorem owns_at1 {w : World} {B : Nat} {e : TypeId} {v : Value} {n : Nat} {xs : List Value} (h : w.ownsRow B e 1 v n xs) : ∃ a c, v = .slice a n c ∧ ∀ i (_ : i < n) (hx : i < xs.length), ∃ g, a = some ⟨g, 0, none⟩ ∧ g < w.heap.size ∧ w.cell? ⟨g, i, none⟩ = some xs[i] := by
  obtain ⟨h1, h2⟩ := h
  rcases h2 with ⟨rfl, rfl⟩ | ⟨g, cap, cur, rfl, _, hg, _, _, _, hc⟩
  · exact ⟨none, 0, rfl, fun i hi => absurd hi (by omega)⟩
  · refine ⟨some ⟨g, 0, none⟩, cap, rfl, fun i hi hx => ⟨g, rfl, heap_lt hg, ?_⟩⟩
    rw [Lib.cell_of_heap hg]
    have h3 : (cur.toList.take (n * 1))[i]? = some xs[i] := by rw [hc, List.getElem?_eq_getElem hx]
    rw [List.getElem?_take] at h3
    split at h3
    · simpa using h3
    · cases h3

set_option maxRecDepth 100000 in
set_option maxHeartbeats 2000000 in
theorem lookFields_any (bk B : Nat) (vs : List Value) (V : Value) (w : World) (hbk : BkAt bk B vs V w) (hvs : vs.length ≤ 12) (hg : ∀ i (h : i < vs.length), Good bk V i vs[i] w) :
    Calls Tryz.prog 16 #[.pointer (some ⟨bk, 0, none⟩)] w fun r w' => r = .returned (.bool true) ∧ Below w.heap.size w w' := by
  obtain ⟨Va, Vc, rfl, hcell⟩ := owns_at1 hbk.own
  have HC := hid hcell
  have HG := hid hg
  have HB : Hid (w.cell? ⟨bk, 3, none⟩ = some (.slice Va vs.length Vc)) := by show w.cell? ⟨bk, 3, none⟩ = some (.slice Va vs.length Vc); rw [Lib.cell_of_heap hbk.blk]; rfl
  have lk := heap_lt hbk.blk
  clear hbk hg hcell
  go_enter Tryz.func16, Tryz.ntmps16
  go_wp2_with fail
  go_loopw [3, 4, 5] (fun i _ _ wr => ∃ q : Nat, q ≤ vs.length ∧ i = .int .i64 q ∧ Below w.heap.size w wr) (fun i _ _ _ => vs.length - (intOf i).toNat)
  case atStart => exact ⟨0, Nat.zero_le _, rfl, Below.refl _ _⟩
  case round =>
    obtain ⟨q, hq, rfl, hbw⟩ := hrel
    have b3 := cell_later hbw HB.out
    by_cases hlt : q < vs.length
    · go_wp2_with fail
      rw [show ((q : Int) / 4 * 4) = ((q / 4 * 4 : Nat) : Int) from by omega]
      refine (markField_any (q / 4 * 4) (by omega) _).mono ?_
      rintro e w1 ⟨rfl, hb1⟩
      have hB1 := bel_of hbw hb1
      have hA2 := (Below.refl w1.heap.size w1).alloc (Nat.le_refl _) (.cells #[.string (markB (q / 4 * 4)), .string ⟨#[46]⟩] 61)
      have hB2 := bel_of hB1 hA2
      have hm2 : (w1.alloc (.cells #[.string (markB (q / 4 * 4)), .string ⟨#[46]⟩] 61)).heap[w1.heap.size]? = some (.cells #[.string (markB (q / 4 * 4)), .string ⟨#[46]⟩] 61 (0, 0)) := heap_alloc_new w1 _
      clear b3 hbw hb1 hB1 hA2
      go_wp2_with fail
      generalize w1.alloc (.cells #[.string (markB (q / 4 * 4)), .string ⟨#[46]⟩] 61) = w2 at *
      generalize w1.heap.size = mb at *
      obtain ⟨la, n, lc, hv, hn, hmk, _⟩ := HG.out q hlt
      obtain ⟨gV, rfl, hgV, hvc⟩ := HC.out q hlt hlt
      rw [hv] at hvc
      have HMK := hid hmk
      clear hmk
      go_loopw [5] (fun j wr2 => ∃ p : Nat, p ≤ n ∧ j = .int .i64 p ∧ Below w2.heap.size w2 wr2) (fun j _ => n - (intOf j).toNat)
      case atStart => exact ⟨0, Nat.zero_le _, rfl, Below.refl _ _⟩
      case round =>
        obtain ⟨p, hp, rfl, hbp⟩ := hrel
        have hB3 := bel_of hB2 hbp
        have b3 := cell_later hB3 HB.out
        have v3 := cell_later hB3 hvc
        have m0 := cell_later hbp (a := ⟨mb, 0, none⟩) (v := .string (markB (q / 4 * 4))) (by rw [Lib.cell_of_heap hm2]; rfl)
        have m1 := cell_later hbp (a := ⟨mb, 1, none⟩) (v := .string ⟨#[46]⟩) (by rw [Lib.cell_of_heap hm2]; rfl)
        by_cases hlp : p < n
        · obtain ⟨gl, rfl, hgl, hc1, hc2⟩ := (HMK.out.below hB3) p (by simpa using hlp)
          simp only [List.getElem_replicate, mkF] at hc1 hc2
          go_wp2_with fail
          go_quiet (fail)
          go_wp2
          exact ⟨⟨p + 1, by omega, by go_num, below_drewN hbp _⟩, by simp [intOf]; omega⟩
        · go_wp2
          exact ⟨⟨q + 1, by omega, by go_num, hB3⟩, by simp [intOf]; omega⟩
    · go_wp2
      go_ret
      exact ⟨rfl, hbw⟩
end Go.Proofs.YtnohadlihgjppaaGreatDoor
