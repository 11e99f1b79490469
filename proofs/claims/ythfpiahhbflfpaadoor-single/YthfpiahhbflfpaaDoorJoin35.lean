/- Texts that follow one another, joined. -/
import Derived.Test.YthfpiahhbflfpaaDoorJoin34
import Derived.Test.YthfpiahhbflfpaaDoorJoin30
import Derived.Laws.IdiomCopy
import Derived.Lib.SlBuf
import Derived.OwnWalk
import Derived.Laws.Cover3
/- The program's printable and the reference's Printable: whether a request may be told; nothing old in memory turns. -/
namespace Go.Proofs.YthfpiahhbflfpaaDoor
open Go.RowKit

theorem host_next (fs : List Pr2) (k : Nat) (h : k < fs.length) : (valsOf (fs.take (k + 1)) nHost).length = (valsOf (fs.take k) nHost).length + (if Pm.alike fs[k].1.data.toList nHost = true then 1 else 0) := by
  cases hal : Pm.alike fs[k].1.data.toList nHost
  · rw [valsOf_no h hal]; simp
  · rw [valsOf_yes h hal]; simp
theorem all_next (fs : List Pr2) (k : Nat) (h : k < fs.length) : (fs.drop k).all okF = (okF fs[k] && (fs.drop (k + 1)).all okF) := by
  rw [List.drop_eq_getElem_cons h, List.all_cons]
end Go.Proofs.YthfpiahhbflfpaaDoor

/- lentFields: a list of the same with marks in its spare room, in new memory; nothing old in memory turns. -/
namespace Go.Proofs.YthfpiahhbflfpaaDoor
open Go.RowKit

/- a block's first m cells are there and may be written -/
def OwnB (g m : Nat) (w : World) : Prop := ∀ j, j < m → (w.cell? ⟨g, j, none⟩).isSome = true ∧ w.frozen? ⟨g, j, none⟩ = false
theorem OwnB.below {g m : Nat} {w w' : World} {B : Nat} (h : OwnB g m w) (hb : Below B w w') (hg : g < B) : OwnB g m w' := fun j hj => by
  obtain ⟨h1, h2⟩ := h j hj
  exact ⟨by rw [hb.cell hg]; exact h1, by rw [hb.frozen hg]; exact h2⟩
theorem OwnB.set {g m : Nat} {w : World} (h : OwnB g m w) (k : Nat) (v : Value) : OwnB g m (w.setCell ⟨g, k, none⟩ v) := fun j hj => by
  obtain ⟨h1, h2⟩ := h j hj
  refine ⟨?_, by rw [World.frozen?_setCell]; exact h2⟩
  obtain ⟨u, hu⟩ := Option.isSome_iff_exists.mp h1
  obtain ⟨v', hv'⟩ := cell?_setCell_some (p := ⟨g, k, none⟩) (x := v) hu
  rw [hv']; rfl
theorem OwnB.cell {g m : Nat} {w : World} (h : OwnB g m w) (j : Nat) (hj : j < m) : ∃ v, w.cell? ⟨g, j, none⟩ = some v := Option.isSome_iff_exists.mp (h j hj).1
/- a list that was lent: its cells from the block's head on -/
def LvAt (L : List Pr2) (g : Nat) (w : World) : Prop :=
  ∀ i (h : i < L.length), w.cell? ⟨g, i * 2, none⟩ = some (.string L[i].1) ∧ w.cell? ⟨g, i * 2 + 1, none⟩ = some (.string L[i].2)
theorem LvAt.below {L : List Pr2} {g : Nat} {w w' : World} {B : Nat} (h : LvAt L g w) (hb : Below B w w') (hg : g < B) : LvAt L g w' := fun i hi => by
  obtain ⟨h1, h2⟩ := h i hi
  exact ⟨by rw [hb.cell hg]; exact h1, by rw [hb.cell hg]; exact h2⟩
theorem LvAt.fo {L fs : List Pr2} {g : Nat} {w : World} (h : LvAt (fs ++ L) g w) (hg : g < w.heap.size) : FoAt fs (some ⟨g, 0, none⟩) w := fun i hi => by
  obtain ⟨h1, h2⟩ := h i (by rw [List.length_append]; omega)
  rw [List.getElem_append_left hi] at h1 h2
  exact ⟨g, 0, rfl, hg, by simpa using h1, by simpa using h2⟩
theorem addr_ne {g i j : Nat} (h : i ≠ j) : (⟨g, i, none⟩ : Addr) ≠ ⟨g, j, none⟩ := fun e => by
  simp only [Addr.mk.injEq, and_true, true_and] at e; exact h e
theorem LvAt.snoc {L : List Pr2} {g m : Nat} {w : World} (h : LvAt L g w) (ho : OwnB g m w) (f : Pr2) (hm : L.length * 2 + 1 < m) :
    LvAt (L ++ [f]) g ((w.setCell ⟨g, L.length * 2, none⟩ (.string f.1)).setCell ⟨g, L.length * 2 + 1, none⟩ (.string f.2)) := fun i hi => by
  rw [List.length_append, List.length_singleton] at hi
  by_cases hk : i < L.length
  · obtain ⟨h1, h2⟩ := h i hk
    rw [List.getElem_append_left hk]
    rw [World.cell?_setCell_other _ _ _ _ (addr_ne (by omega)), World.cell?_setCell_other _ _ _ _ (addr_ne (by omega)), World.cell?_setCell_other _ _ _ _ (addr_ne (by omega)), World.cell?_setCell_other _ _ _ _ (addr_ne (by omega))]
    exact ⟨h1, h2⟩
  · obtain rfl : i = L.length := by omega
    rw [List.getElem_append_right (Nat.le_refl _)]
    simp only [Nat.sub_self, List.getElem_cons_zero]
    obtain ⟨u, hu⟩ := ho.cell (L.length * 2) (by omega)
    obtain ⟨v, hv⟩ := (ho.set (L.length * 2) (.string f.1)).cell (L.length * 2 + 1) hm
    exact ⟨by rw [World.cell?_setCell_other _ _ _ _ (addr_ne (by omega)), World.cell?_setCell_same _ _ _ hu], by rw [World.cell?_setCell_same _ _ _ hv]⟩
def flC (fs : List Pr2) : List Value := fs.flatMap fun f => [.string f.1, .string f.2]
theorem flC_len (fs : List Pr2) : (flC fs).length = fs.length * 2 := by
  induction fs with
  | nil => rfl
  | cons a r ih => simp [flC] at ih ⊢; omega
theorem flC_one (ps : List Pr2) : ∀ u ∈ flC ps, u.oneCell' = true := fun u hu => by
  unfold flC at hu
  obtain ⟨f, _, hf⟩ := List.mem_flatMap.mp hu
  simp at hf
  rcases hf with rfl | rfl <;> rfl
theorem flC_get : ∀ (fs : List Pr2) (i : Nat) (h : i < fs.length), (flC fs)[i * 2]? = some (.string fs[i].1) ∧ (flC fs)[i * 2 + 1]? = some (.string fs[i].2)
  | f :: fs, 0, _ => by simp [flC]
  | f :: fs, i + 1, h => by
    have := flC_get fs i (by simpa using h)
    have e : flC (f :: fs) = (.string f.1) :: (.string f.2) :: flC fs := by simp [flC]
    rw [e, show (i + 1) * 2 = i * 2 + 1 + 1 from by omega, List.getElem?_cons_succ, List.getElem?_cons_succ, show i * 2 + 1 + 1 + 1 = (i * 2 + 1) + 1 + 1 from by omega, List.getElem?_cons_succ, List.getElem?_cons_succ]
    exact this
theorem fo_src {fs : List Pr2} {ad : Addr} {w : World} (h : FoAt fs (some ad) w) : ∀ j v, (flC fs)[j]? = some v → w.cell? (ad.add j) = some v := fun j v hj => by
  have hl : j < (flC fs).length := (List.getElem?_eq_some_iff.1 hj).1
  rw [flC_len] at hl
  obtain ⟨g, o, e, _, h1, h2⟩ := h (j / 2) (by omega)
  obtain rfl : ad = ⟨g, o, none⟩ := by simpa using e
  obtain ⟨k1, k2⟩ := flC_get fs (j / 2) (by omega)
  rw [Addr.add_lit]
  rcases Nat.mod_two_eq_zero_or_one j with hm | hm
  · rw [show j / 2 * 2 = j from by omega] at k1 h1
    rw [hj] at k1
    rw [h1]; exact k1.symm
  · rw [show j / 2 * 2 + 1 = j from by omega] at k2
    rw [show o + j / 2 * 2 + 1 = o + j from by omega] at h2
    rw [hj] at k2
    rw [h2]; exact k2.symm
theorem owns_ownB {w : World} {B : Nat} {e : TypeId} {g n : Nat} {xs : List Value} (h : w.ownsRow B e 2 (.slice (some ⟨g, 0, none⟩) n n) n xs) : OwnB g (n * 2) w ∧ g < w.heap.size := by
  rcases h.2 with ⟨h2, _⟩ | ⟨g', cap, cur, hv, hB, hg, hc, hm, hsz, ht⟩
  · cases h2
  · simp only [Value.slice.injEq, Option.some.injEq, Addr.mk.injEq, and_true, true_and] at hv
    obtain ⟨rfl, rfl⟩ := hv
    refine ⟨fun j hj => ⟨?_, Lib.frozen_of_heap hg j⟩, ?_⟩
    · rw [Lib.cell_of_heap hg]; simp; omega
    · rcases Nat.lt_or_ge g w.heap.size with h' | h'
      · exact h'
      · simp [Array.getElem?_eq_none h'] at hg
theorem own_copied {g m : Nat} {w : World} (h : OwnB g m w) (fs : List Pr2) (hl : fs.length * 2 ≤ m) : OwnB g m (w.setCells g 0 (flC fs)) ∧ LvAt fs g (w.setCells g 0 (flC fs)) := by
  have hin := World.cell?_setCells_in g (flC fs) 0 w (fun j hj => by rw [flC_len] at hj; simpa using (h j (by omega)).1)
  have hin' : ∀ j (hj : j < (flC fs).length), (w.setCells g 0 (flC fs)).cell? ⟨g, j, none⟩ = some (flC fs)[j] := fun j hj => by simpa using hin j hj
  constructor
  · intro j hj
    refine ⟨?_, by rw [World.frozen?_setCells]; exact (h j hj).2⟩
    by_cases hk : j < (flC fs).length
    · rw [hin' j hk]; rfl
    · rw [World.cell?_setCells_out g (flC fs) 0 w ⟨g, j, none⟩ (fun _ _ => by right; simpa using Nat.le_of_not_lt hk)]; exact (h j hj).1
  · intro i hi
    obtain ⟨k1, k2⟩ := flC_get fs i hi
    have l := flC_len fs
    constructor
    · rw [hin' (i * 2) (by omega)]; rw [List.getElem?_eq_getElem (by omega)] at k1; exact k1
    · rw [hin' (i * 2 + 1) (by omega)]; rw [List.getElem?_eq_getElem (by omega)] at k2; exact k2
section
variable {P : Program}
theorem run_copy_wide (w : World) (dT sT ty elem : TypeId) (sz b o dLen dCap : Nat) (a : Addr) (sLen sCap : Nat) (cs : List Value)
    (hu : P.underlying dT = some (.slice elem)) (hs : (P.info? elem).map (·.size) = some sz) (hn : cs.length = Nat.min sLen dLen * sz)
    (hsrc : ∀ j v, cs[j]? = some v → w.cell? (a.add j) = some v) (hc : ∀ j, j < cs.length → (w.cell? ⟨b, o + j, none⟩).isSome = true) (hf : ∀ j, j < cs.length → w.frozen? ⟨b, o + j, none⟩ = false) (h1 : ∀ v ∈ cs, v.oneCell' = true) :
    (Builtin.copy_ #[dT, sT] ty #[.slice (some ⟨b, o, none⟩) dLen dCap, .slice (some a) sLen sCap]).run P w = .ok (goInt (Nat.min sLen dLen)) (w.setCells b o cs) := by
  have hl := run_loadCells_list (P := P) w a cs hsrc
  have hst := run_storeCells_cells (P := P) b o cs 0 w (by simpa using hc) (by simpa using hf) h1
  cases hq : P.info? elem with
  | none => simp [hq] at hs
  | some i =>
    have hi : i.size = sz := by simpa [hq] using hs
    simp [Builtin.copy_, run_underlying hu, Builtin.lenOf, Builtin.firstCells, sizeOf, typeInfo, hq, hi, ← hn, hl, hst]
end
section
variable {P : Program}
theorem run_eql_nil (w : World) (t e : TypeId) (a : Option Addr) (l c : Nat) (h : P.underlying t = some (.slice e)) : (binOp .eql t (.slice a l c) (.slice none 0 0)).run P w = .ok (.bool a.isNone) w := by
  simp only [binOp]
  simp [run_equal_slice_nil w t e a l c h]
end
def mkN (n : Nat) : Pr2 := (⟨#[109, 97, 114, 107, 32, digC n]⟩, ⟨#[46]⟩)
theorem mkN_app (n : Nat) : (⟨#[109, 97, 114, 107, 32]⟩ : ByteArray) ++ ⟨#[digC n]⟩ = (mkN n).1 := by
  apply ByteArray.ext
  rw [ByteArray.data_append]; rfl
end Go.Proofs.YthfpiahhbflfpaaDoor
