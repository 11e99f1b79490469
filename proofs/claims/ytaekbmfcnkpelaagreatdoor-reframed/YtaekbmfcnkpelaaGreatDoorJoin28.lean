/- Texts that follow one another, joined. -/
import Derived.Test.YtaekbmfcnkpelaaGreatDoorJoin22
import Derived.Test.YtaekbmfcnkpelaaGreatDoorJoin27
/- wholeFields: a list that was lent and is as it was; nothing turns but that list. -/
namespace Go.Proofs.YtaekbmfcnkpelaaGreatDoor
open Go.RowKit

def LfAt (L : List Pr2) (k g : Nat) (w : World) : Prop :=
  ∀ i (h : i < L.length), k ≤ i → w.cell? ⟨g, i * 2, none⟩ = some (.string L[i].1) ∧ w.cell? ⟨g, i * 2 + 1, none⟩ = some (.string L[i].2)
theorem LfAt.below {L : List Pr2} {k g : Nat} {w w' : World} {B : Nat} (h : LfAt L k g w) (hb : Below B w w') (hg : g < B) : LfAt L k g w' := fun i hi hk => by
  obtain ⟨h1, h2⟩ := h i hi hk
  exact ⟨by rw [hb.cell hg]; exact h1, by rw [hb.cell hg]; exact h2⟩
theorem LfAt.next {L : List Pr2} {k g : Nat} {w : World} (h : LfAt L k g w) (u v : Value) : LfAt L (k + 1) g ((w.setCell ⟨g, k * 2, none⟩ u).setCell ⟨g, k * 2 + 1, none⟩ v) := fun i hi hk => by
  obtain ⟨h1, h2⟩ := h i hi (by omega)
  rw [World.cell?_setCell_other _ _ _ _ (addr_ne (by omega)), World.cell?_setCell_other _ _ _ _ (addr_ne (by omega)), World.cell?_setCell_other _ _ _ _ (addr_ne (by omega)), World.cell?_setCell_other _ _ _ _ (addr_ne (by omega))]
  exact ⟨h1, h2⟩
end Go.Proofs.YtaekbmfcnkpelaaGreatDoor

/- lentInts and wholeInts: a list of the same with marks in its spare room, in new memory, and it is as it was; nothing old in memory turns. -/
namespace Go.Proofs.YtaekbmfcnkpelaaGreatDoor
open Go.RowKit

def ZvAt (L : List Int) (g : Nat) (w : World) : Prop := ∀ i (h : i < L.length), w.cell? ⟨g, i, none⟩ = some (.int .i64 L[i])
theorem ZvAt.below {L : List Int} {g : Nat} {w w' : World} {B : Nat} (h : ZvAt L g w) (hb : Below B w w') (hg : g < B) : ZvAt L g w' := fun i hi => by
  rw [hb.cell hg]; exact h i hi
theorem ZvAt.zo {L zs : List Int} {g : Nat} {w : World} (h : ZvAt (zs ++ L) g w) (hg : g < w.heap.size) : ZoAt zs (some ⟨g, 0, none⟩) w := fun i hi => by
  have h1 := h i (by rw [List.length_append]; omega)
  rw [List.getElem_append_left hi] at h1
  exact ⟨g, 0, rfl, hg, by simpa using h1⟩
theorem ZvAt.snoc {L : List Int} {g m : Nat} {w : World} (h : ZvAt L g w) (ho : OwnB g m w) (z : Int) (hm : L.length < m) : ZvAt (L ++ [z]) g (w.setCell ⟨g, L.length, none⟩ (.int .i64 z)) := fun i hi => by
  rw [List.length_append, List.length_singleton] at hi
  by_cases hk : i < L.length
  · rw [List.getElem_append_left hk, World.cell?_setCell_other _ _ _ _ (addr_ne (by omega))]
    exact h i hk
  · obtain rfl : i = L.length := by omega
    rw [List.getElem_append_right (Nat.le_refl _)]
    simp only [Nat.sub_self, List.getElem_cons_zero]
    obtain ⟨u, hu⟩ := ho.cell L.length hm
    rw [World.cell?_setCell_same _ _ _ hu]
def zC (zs : List Int) : List Value := zs.map (.int .i64 ·)
theorem zC_len (zs : List Int) : (zC zs).length = zs.length := by simp [zC]
theorem zC_one (zs : List Int) : ∀ u ∈ zC zs, u.oneCell' = true := fun u hu => by
  obtain ⟨z, _, rfl⟩ := List.mem_map.mp hu; rfl
theorem zo_src {zs : List Int} {ad : Addr} {w : World} (h : ZoAt zs (some ad) w) : ∀ j v, (zC zs)[j]? = some v → w.cell? (ad.add j) = some v := fun j v hj => by
  have hl : j < (zC zs).length := (List.getElem?_eq_some_iff.1 hj).1
  rw [zC_len] at hl
  obtain ⟨g, o, e, _, h1⟩ := h j hl
  obtain rfl : ad = ⟨g, o, none⟩ := by simpa using e
  rw [Addr.add_lit, h1]
  simp [zC, List.getElem?_eq_getElem hl] at hj
  rw [← hj]
theorem owns_ownB1 {w : World} {B : Nat} {e : TypeId} {g n : Nat} {xs : List Value} (h : w.ownsRow B e 1 (.slice (some ⟨g, 0, none⟩) n n) n xs) : OwnB g n w ∧ g < w.heap.size := by
  rcases h.2 with ⟨h2, _⟩ | ⟨g', cap, cur, hv, hB, hg, hc, hm, hsz, ht⟩
  · cases h2
  · simp only [Value.slice.injEq, Option.some.injEq, Addr.mk.injEq, and_true, true_and] at hv
    obtain ⟨rfl, rfl⟩ := hv
    refine ⟨fun j hj => ⟨?_, Lib.frozen_of_heap hg j⟩, ?_⟩
    · rw [Lib.cell_of_heap hg]; simp; omega
    · rcases Nat.lt_or_ge g w.heap.size with h' | h'
      · exact h'
      · simp [Array.getElem?_eq_none h'] at hg
theorem own_copied1 {g m : Nat} {w : World} (h : OwnB g m w) (zs : List Int) (hl : zs.length ≤ m) : OwnB g m (w.setCells g 0 (zC zs)) ∧ ZvAt zs g (w.setCells g 0 (zC zs)) := by
  have hin := World.cell?_setCells_in g (zC zs) 0 w (fun j hj => by rw [zC_len] at hj; simpa using (h j (by omega)).1)
  have hin' : ∀ j (hj : j < (zC zs).length), (w.setCells g 0 (zC zs)).cell? ⟨g, j, none⟩ = some (zC zs)[j] := fun j hj => by simpa using hin j hj
  constructor
  · intro j hj
    refine ⟨?_, by rw [World.frozen?_setCells]; exact (h j hj).2⟩
    by_cases hk : j < (zC zs).length
    · rw [hin' j hk]; rfl
    · rw [World.cell?_setCells_out g (zC zs) 0 w ⟨g, j, none⟩ (fun _ _ => by right; simpa using Nat.le_of_not_lt hk)]; exact (h j hj).1
  · intro i hi
    rw [hin' i (by rw [zC_len]; exact hi)]
    simp [zC]
theorem Tryz.infoI : (Tryz.prog.info? 3).map (fun i => (i.zero, i.size, i.bytes)) = some (some (.int .i64 0), 1, 8) := by kernel_rfl
def ZfAt (L : List Int) (k g : Nat) (w : World) : Prop := ∀ i (h : i < L.length), k ≤ i → w.cell? ⟨g, i, none⟩ = some (.int .i64 L[i])
theorem ZfAt.next {L : List Int} {k g : Nat} {w : World} (h : ZfAt L k g w) (u : Value) : ZfAt L (k + 1) g (w.setCell ⟨g, k, none⟩ u) := fun i hi hk => by
  rw [World.cell?_setCell_other _ _ _ _ (addr_ne (by omega))]
  exact h i hi (by omega)
end Go.Proofs.YtaekbmfcnkpelaaGreatDoor
