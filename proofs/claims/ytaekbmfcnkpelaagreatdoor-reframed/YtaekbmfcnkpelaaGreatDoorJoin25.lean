/- Texts that follow one another, joined. -/
import Derived.Test.YtaekbmfcnkpelaaGreatDoorJoin24
/- The walk of porterkeep's same, where the requests are the same; nothing old in memory turns. -/
namespace Go.Proofs.YtaekbmfcnkpelaaGreatDoor
open Go.RowKit

def FdAt (g : Nat) (l : Pr2) (w : World) : Prop := w.heap[g]? = some (.cells #[.string l.1, .string l.2] 31 (0, 0))
theorem FdAt.cells {g : Nat} {l : Pr2} {w : World} (h : FdAt g l w) : w.cell? ⟨g, 0, none⟩ = some (.string l.1) ∧ w.cell? ⟨g, 1, none⟩ = some (.string l.2) := by
  refine ⟨?_, ?_⟩ <;> (rw [Lib.cell_of_heap h]; rfl)
theorem FdAt.lt {g : Nat} {l : Pr2} {w : World} (h : FdAt g l w) : g < w.heap.size := block_lt_of_cell h.cells.1
theorem FdAt.below {g : Nat} {l : Pr2} {w w' : World} (h : FdAt g l w) (hb : Below w.heap.size w w') : FdAt g l w' := by
  have := hb.block g h.lt; unfold FdAt at *; rw [this]; exact h
set_option maxRecDepth 100000 in
set_option maxHeartbeats 1000000 in
theorem same_any (m t b : ByteArray) (fs : List Pr2) (l : Pr2) (a1 a2 : Option Addr) (c1 c2 : Nat) (w : World) (hq : FoAt (fs ++ [l]) a1 w) (hr : FoAt fs a2 w) (hn : fs.length ≤ 1000) :
    Calls Tryz.prog 9 #[.agg #[.string m, .string t, .slice a1 (fs.length + 1) c1, .string b], .agg #[.string m, .string t, .slice a2 fs.length c2, .string b], .agg #[.string l.1, .string l.2]] w fun e w' => e = .returned (.bool true) ∧ Below w.heap.size w w' := by
  have hlen : (fs ++ [l]).length = fs.length + 1 := by simp
  have HA : Hid (∀ k (h : k < fs.length), (fs ++ [l])[k]'(by omega) = fs[k]) := fun k h => List.getElem_append_left h
  have HL : Hid ((fs ++ [l])[fs.length]'(by omega) = l) := by unfold Hid; simp
  have h1 := (Below.refl w.heap.size w).alloc (Nat.le_refl _) (.cells #[.string m, .string t, .slice a1 (fs.length + 1) c1, .string b] 24)
  have r1 : RoAt w.heap.size m t (.slice a1 (fs.length + 1) c1) b (w.alloc (.cells #[.string m, .string t, .slice a1 (fs.length + 1) c1, .string b] 24)) := heap_alloc_new w _
  have z1 : (w.alloc (.cells #[.string m, .string t, .slice a1 (fs.length + 1) c1, .string b] 24)).heap.size = w.heap.size + 1 := by simp
  generalize hw1 : w.alloc (.cells #[.string m, .string t, .slice a1 (fs.length + 1) c1, .string b] 24) = w1 at *
  have h2 := (Below.refl w1.heap.size w1).alloc (Nat.le_refl _) (.cells #[.string m, .string t, .slice a2 fs.length c2, .string b] 24)
  have r2 : RoAt (w.heap.size + 1) m t (.slice a2 fs.length c2) b (w1.alloc (.cells #[.string m, .string t, .slice a2 fs.length c2, .string b] 24)) := by rw [← z1]; exact heap_alloc_new w1 _
  have z2 : (w1.alloc (.cells #[.string m, .string t, .slice a2 fs.length c2, .string b] 24)).heap.size = w.heap.size + 2 := by simp [z1]
  generalize hw2 : w1.alloc (.cells #[.string m, .string t, .slice a2 fs.length c2, .string b] 24) = w2 at *
  have h3 := (Below.refl w2.heap.size w2).alloc (Nat.le_refl _) (.cells #[.string l.1, .string l.2] 31)
  have r3 : FdAt (w.heap.size + 2) l (w2.alloc (.cells #[.string l.1, .string l.2] 31)) := by rw [← z2]; exact heap_alloc_new w2 _
  have hB := bel_of (bel_of h1 h2) h3
  have q1 := (r1.below h2 r1.lt).below h3 (r1.below h2 r1.lt).lt
  have q2 := r2.below h3 r2.lt
  have HQ := hid (hq.below hB)
  have HR := hid (hr.below hB)
  clear h1 h2 h3 r1 r2 z1 z2 hq hr
  subst hw2 hw1
  generalize hW : ((w.alloc (.cells #[.string m, .string t, .slice a1 (fs.length + 1) c1, .string b] 24)).alloc (.cells #[.string m, .string t, .slice a2 fs.length c2, .string b] 24)).alloc (.cells #[.string l.1, .string l.2] 31) = W at *
  obtain ⟨i0, i1, i2, i3⟩ := q1.cells
  obtain ⟨j0, j1, j2, j3⟩ := q2.cells
  obtain ⟨k0, k1⟩ := r3.cells
  have l1 := q1.lt
  have l2 := q2.lt
  have l3 := r3.lt
  go_enter Tryz.func9, Tryz.ntmps9
  go_upto_region 1 with fail
  try rw [hW]
  clear hW
  go_wp2_with fail
  go_loopw [8] (fun i wr => ∃ k : Nat, k ≤ fs.length ∧ i = .int .i64 k ∧ Below W.heap.size W wr) (fun i _ => fs.length - (intOf i).toNat)
  case atStart => exact ⟨0, Nat.zero_le _, rfl, Below.refl _ _⟩
  case round =>
    obtain ⟨k, hk, rfl, hbw⟩ := hrel
    have p1 := q1.below hbw q1.lt
    have p2 := q2.below hbw q2.lt
    have p3 := r3.below hbw
    clear i0 i1 i2 i3 j0 j1 j2 j3 k0 k1 l1 l2 l3
    obtain ⟨i0, i1, i2, i3⟩ := p1.cells
    obtain ⟨j0, j1, j2, j3⟩ := p2.cells
    obtain ⟨k0, k1⟩ := p3.cells
    have l1 := p1.lt
    have l2 := p2.lt
    have l3 := p3.lt
    by_cases hlt : k < fs.length
    · obtain ⟨ga, oa, rfl, hg1, hc1, hc2⟩ := (HQ.out.below hbw) k (by omega)
      obtain ⟨gb, ob, rfl, hg2, hc3, hc4⟩ := (HR.out.below hbw) k hlt
      rw [HA.out k hlt] at hc1 hc2
      generalize fs[k].1 = nm at *
      generalize fs[k].2 = vl at *
      go_wp2_with fail
      go_quiet (fail)
      go_wp2
      exact ⟨⟨k + 1, by omega, by go_num, below_drewN hbw _⟩, by simp [intOf]; omega⟩
    · obtain rfl : k = fs.length := by omega
      obtain ⟨ga, oa, rfl, hg1, hc1, hc2⟩ := (HQ.out.below hbw) fs.length (by omega)
      rw [HL.out] at hc1 hc2
      have BL := hid (bel_of hB hbw)
      go_wp2_with fail
      go_quiet (fail)
      go_wp2
      go_ret
      exact ⟨rfl, below_drewN BL.out _⟩
end Go.Proofs.YtaekbmfcnkpelaaGreatDoor

/- The law's own small help: pick and bounded. -/
namespace Go.Proofs.YtaekbmfcnkpelaaGreatDoor
open Go.RowKit

def pickS (c n : Int) : Int := (if c < 0 then -(c + 1) else c) % n

set_option maxHeartbeats 1000000 in
theorem pick_any (c n : Int) (w : World) (h1 : -9223372036854775808 ≤ c) (h2 : c ≤ 9223372036854775807) (hn : 0 < n) (hn2 : n ≤ 9223372036854775807) :
    Calls Tryz.prog 5 #[.int .i64 c, .int .i64 n] w fun e w' => e = .returned (.int .i64 (pickS c n)) ∧ w' = w := by
  unfold pickS
  by_cases hc : c < 0
  · rw [if_pos hc]
    have w1 : IntKind.i64.wrap (c + 1) = c + 1 := by simp [IntKind.wrap, IntKind.bits, IntKind.signed]; omega
    have w2 : IntKind.i64.wrap (-(c + 1)) = -(c + 1) := by simp [IntKind.wrap, IntKind.bits, IntKind.signed]; omega
    have hz : ¬ n = 0 := by omega
    go_enter Tryz.func5, Tryz.ntmps5
    go_wp2
    go_ret
    refine ⟨?_, rfl⟩
    rw [show -(c + 1).tmod n = -(c + 1) % n from by rw [← Int.neg_tmod, Int.tmod_eq_emod_of_nonneg (by omega)]]
    rfl
  · rw [if_neg hc]
    have hz : ¬ n = 0 := by omega
    go_enter Tryz.func5, Tryz.ntmps5
    go_wp2
    go_ret
    exact ⟨rfl, rfl⟩
theorem pickS_bd (c n : Int) (hn : 0 < n) : 0 ≤ pickS c n ∧ pickS c n < n := ⟨Int.emod_nonneg _ (by omega), Int.emod_lt_of_pos _ hn⟩
end Go.Proofs.YtaekbmfcnkpelaaGreatDoor
