/- lentFields: a list of the same with marks in its spare room, in new memory; nothing old in memory turns. -/
import Derived.Test.YtnohadlihgjppaaGreatDoorRnD
import Derived.Laws.IdiomCopy
import Derived.Lib.SlBuf
import Derived.OwnWalk
import Derived.Laws.Cover3
namespace Go.Proofs.YtnohadlihgjppaaGreatDoor
open Go.RowKit

/- a block's first m cells are there and may be written -/
def OwnB (g m : Nat) (w : World) : Prop := ∀ j, j < m → (w.cell? ⟨g, j, none⟩).isSome = true ∧ w.frozen? ⟨g, j, none⟩ = false
theorem OwnB.below {g m : Nat} {w w' : World} {B : Nat} (h : OwnB g m w) (hb : Below B w w') (hg : g < B) : OwnB g m w' := fun j hj => by
  obtain ⟨h1, h2⟩ := h j hj
  exact ⟨by rw [hb.cell hg]; exact h1, by rw [hb.frozen hg]; exact h2⟩
theorem OwnB.set {g m : Nat} {w : World} (h : OwnB g m w) (k : Nat) (v : Value) : OwnB g m (w.setCell ⟨g, k, none⟩ v) := fun j hj => by
  obtain ⟨h1, h2⟩ := h j hj
  refine ⟨?_, by rw [World.frozen?_setCell]; exact h2⟩
  obtain ⟨u, hu⟩ := Option.isSome_iff_exists.mp h1
  obtain ⟨v', hv'⟩ := cell?_setCell_some (p := ⟨g, k, none⟩) (x := v) hu
  rw [hv']; rfl
theorem OwnB.cell {g m : Nat} {w : World} (h : OwnB g m w) (j : Nat) (hj : j < m) : ∃ v, w.cell? ⟨g, j, none⟩ = some v := Option.isSome_iff_exists.mp (h j hj).1
/- a list that was lent: its cells from the block's head on -/
def LvAt (L : List Pr2) (g : Nat) (w : World) : Prop :=
  ∀ i (h : i < L.length), w.cell? ⟨g, i * 2, none⟩ = some (.string L[i].1) ∧ w.cell? ⟨g, i * 2 + 1, none⟩ = some (.string L[i].2)
theorem LvAt.below {L : List Pr2} {g : Nat} {w w' : World} {B : Nat} (h : LvAt L g w) (hb : Below B w w') (hg : g < B) : LvAt L g w' := fun i hi => by
  obtain ⟨h1, h2⟩ := h i hi
  exact ⟨by rw [hb.cell hg]; exact h1, by rw [hb.cell hg]; exact h2⟩
theorem LvAt.fo {L fs : List Pr2} {g : Nat} {w : World} (h : LvAt (fs ++ L) g w) (hg : g < w.heap.size) : FoAt fs (some ⟨g, 0, none⟩) w := fun i hi => by
  obtain ⟨h1, h2⟩ := h i (by rw [List.length_append]; omega)
  rw [List.getElem_append_left hi] at h1 h2
  exact ⟨g, 0, rfl, hg, by simpa using h1, by simpa using h2⟩
theorem addr_ne {g i j : Nat} (h : i ≠ j) : (⟨g, i, none⟩ : Addr) ≠ ⟨g, j, none⟩ := fun e => by
  simp only [Addr.mk.injEq, and_true, true_and] at e; exact h e
theorem LvAt.snoc {L : List Pr2} {g m : Nat} {w : World} (h : LvAt L g w) (ho : OwnB g m w) (f : Pr2) (hm : L.length * 2 + 1 < m) :
    LvAt (L ++ [f]) g ((w.setCell ⟨g, L.length * 2, none⟩ (.string f.1)).setCell ⟨g, L.length * 2 + 1, none⟩ (.string f.2)) := fun i hi => by
  rw [List.length_append, List.length_singleton] at hi
  by_cases hk : i < L.length
  · obtain ⟨h1, h2⟩ := h i hk
    rw [List.getElem_append_left hk]
    rw [World.cell?_setCell_other _ _ _ _ (addr_ne (by omega)), World.cell?_setCell_other _ _ _ _ (addr_ne (by omega)), World.cell?_setCell_other _ _ _ _ (addr_ne (by omega)), World.cell?_setCell_other _ _ _ _ (addr_ne (by omega))]
    exact ⟨h1, h2⟩
  · obtain rfl : i = L.length := by omega
    rw [List.getElem_append_right (Nat.le_refl _)]
    simp only [Nat.sub_self, List.getElem_cons_zero]
    obtain ⟨u, hu⟩ := ho.cell (L.length * 2) (by omega)
    obtain ⟨v, hv⟩ := (ho.set (L.length * 2) (.string f.1)).cell (L.length * 2 + 1) hm
    exact ⟨by rw [World.cell?_setCell_other _ _ _ _ (addr_ne (by omega)), World.cell?_setCell_same _ _ _ hu], by rw [World.cell?_setCell_same _ _ _ hv]⟩
def flC (fs : List Pr2) : List Value := fs.flatMap fun f => [.string f.1, .string f.2]
theorem flC_len (fs : List Pr2) : (flC fs).length = fs.length * 2 := by
  induction fs with
  | nil => rfl
  | cons a r ih => simp [flC] at ih ⊢; omega
theorem flC_one (ps : List Pr2) : ∀ u ∈ flC ps, u.oneCell' = true := fun u hu => by
  unfold flC at hu
  obtain ⟨f, _, hf⟩ := List.mem_flatMap.mp hu
  simp at hf
  rcases hf with rfl | rfl <;> rfl
theorem flC_get : ∀ (fs : List Pr2) (i : Nat) (h : i < fs.length), (flC fs)[i * 2]? = some (.string fs[i].1) ∧ (flC fs)[i * 2 + 1]? = some (.string fs[i].2)
  | f :: fs, 0, _ => by simp [flC]
  | f :: fs, i + 1, h => by
    have := flC_get fs i (by simpa using h)
    have e : flC (f :: fs) = (.string f.1) :: (.string f.2) :: flC fs := by simp [flC]
    rw [e, show (i + 1) * 2 = i * 2 + 1 + 1 from by omega, List.getElem?_cons_succ, List.getElem?_cons_succ, show i * 2 + 1 + 1 + 1 = (i * 2 + 1) + 1 + 1 from by omega, List.getElem?_cons_succ, List.getElem?_cons_succ]
    exact this
theorem fo_src {fs : List Pr2} {ad : Addr} {w : World} (h : FoAt fs (some ad) w) : ∀ j v, (flC fs)[j]? = some v → w.cell? (ad.add j) = some v := fun j v hj => by
  have hl : j < (flC fs).length := (List.getElem?_eq_some_iff.1 hj).1
  rw [flC_len] at hl
  obtain ⟨g, o, e, _, h1, h2⟩ := h (j / 2) (by omega)
  obtain rfl : ad = ⟨g, o, none⟩ := by simpa using e
  obtain ⟨k1, k2⟩ := flC_get fs (j / 2) (by omega)
  rw [Addr.add_lit]
  rcases Nat.mod_two_eq_zero_or_one j with hm | hm
  · rw [show j / 2 * 2 = j from by omega] at k1 h1
    rw [hj] at k1
    rw [h1]; exact k1.symm
  · rw [show j / 2 * 2 + 1 = j from by omega] at k2
    rw [show o + j / 2 * 2 + 1 = o + j from by omega] at h2
    rw [hj] at k2
    rw [h2]; exact k2.symm
theorem owns_ownB {w : World} {B : Nat} {e : TypeId} {g n : Nat} {xs : List Value} (h : w.ownsRow B e 2 (.slice (some ⟨g, 0, none⟩) n n) n xs) : OwnB g (n * 2) w ∧ g < w.heap.size := by
  rcases h.2 with ⟨h2, _⟩ | ⟨g', cap, cur, hv, hB, hg, hc, hm, hsz, ht⟩
  · cases h2
  · simp only [Value.slice.injEq, Option.some.injEq, Addr.mk.injEq, and_true, true_and] at hv
    obtain ⟨rfl, rfl⟩ := hv
    refine ⟨fun j hj => ⟨?_, Lib.frozen_of_heap hg j⟩, ?_⟩
    · rw [Lib.cell_of_heap hg]; simp; omega
    · rcases Nat.lt_or_ge g w.heap.size with h' | h'
      · exact h'
      · simp [Array.getElem?_eq_none h'] at hg
theorem own_copied {g m : Nat} {w : World} (h : OwnB g m w) (fs : List Pr2) (hl : fs.length * 2 ≤ m) : OwnB g m (w.setCells g 0 (flC fs)) ∧ LvAt fs g (w.setCells g 0 (flC fs)) := by
  have hin := World.cell?_setCells_in g (flC fs) 0 w (fun j hj => by rw [flC_len] at hj; simpa using (h j (by omega)).1)
  have hin' : ∀ j (hj : j < (flC fs).length), (w.setCells g 0 (flC fs)).cell? ⟨g, j, none⟩ = some (flC fs)[j] := fun j hj => by simpa using hin j hj
  constructor
  · intro j hj
    refine ⟨?_, by rw [World.frozen?_setCells]; exact (h j hj).2⟩
    by_cases hk : j < (flC fs).length
    · rw [hin' j hk]; rfl
    · rw [World.cell?_setCells_out g (flC fs) 0 w ⟨g, j, none⟩ (fun _ _ => by right; simpa using Nat.le_of_not_lt hk)]; exact (h j hj).1
  · intro i hi
    obtain ⟨k1, k2⟩ := flC_get fs i hi
    have l := flC_len fs
    constructor
    · rw [hin' (i * 2) (by omega)]; rw [List.getElem?_eq_getElem (by omega)] at k1; exact k1
    · rw [hin' (i * 2 + 1) (by omega)]; rw [List.getElem?_eq_getElem (by omega)] at k2; exact k2
section
variable {P : Program}
theorem run_copy_wide (w : World) (dT sT ty elem : TypeId) (sz b o dLen dCap : Nat) (a : Addr) (sLen sCap : Nat) (cs : List Value)
    (hu : P.underlying dT = some (.slice elem)) (hs : (P.info? elem).map (·.size) = some sz) (hn : cs.length = Nat.min sLen dLen * sz)
    (hsrc : ∀ j v, cs[j]? = some v → w.cell? (a.add j) = some v) (hc : ∀ j, j < cs.length → (w.cell? ⟨b, o + j, none⟩).isSome = true) (hf : ∀ j, j < cs.length → w.frozen? ⟨b, o + j, none⟩ = false) (h1 : ∀ v ∈ cs, v.oneCell' = true) :
    (Builtin.copy_ #[dT, sT] ty #[.slice (some ⟨b, o, none⟩) dLen dCap, .slice (some a) sLen sCap]).run P w = .ok (goInt (Nat.min sLen dLen)) (w.setCells b o cs) := by
  have hl := run_loadCells_list (P := P) w a cs hsrc
  have hst := run_storeCells_cells (P := P) b o cs 0 w (by simpa using hc) (by simpa using hf) h1
  cases hq : P.info? elem with
  | none => simp [hq] at hs
  | some i =>
    have hi : i.size = sz := by simpa [hq] using hs
    simp [Builtin.copy_, run_underlying hu, Builtin.lenOf, Builtin.firstCells, sizeOf, typeInfo, hq, hi, ← hn, hl, hst]
end
section
variable {P : Program}
theorem run_eql_nil (w : World) (t e : TypeId) (a : Option Addr) (l c : Nat) (h : P.underlying t = some (.slice e)) : (binOp .eql t (.slice a l c) (.slice none 0 0)).run P w = .ok (.bool a.isNone) w := by
  simp only [binOp]
  simp [run_equal_slice_nil w t e a l c h]
end
set_option maxHeartbeats 400000 in
theorem lentFields_nil (w : World) :
    Calls Tryz.prog 32 #[.slice none 0 0] w fun e w' => e = .returned (.slice none 0 0) ∧ w' = w := by
  have hq := fun W => run_eql_nil (P := Tryz.prog) W 34 61 none 0 0 Tryz.underlying34
  go_enter Tryz.func32, Tryz.ntmps32
  go_wp2
  go_ret
  exact ⟨rfl, rfl⟩
theorem Tryz.infoF : (Tryz.prog.info? 61).map (fun i => (i.zero, i.size, i.bytes)) = some (some (.agg #[.string ⟨#[]⟩, .string ⟨#[]⟩]), 2, 32) := by kernel_rfl
def mkN (n : Nat) : Pr2 := (⟨#[109, 97, 114, 107, 32, digC n]⟩, ⟨#[46]⟩)
theorem mkN_app (n : Nat) : (⟨#[109, 97, 114, 107, 32]⟩ : ByteArray) ++ ⟨#[digC n]⟩ = (mkN n).1 := by
  apply ByteArray.ext
  rw [ByteArray.data_append]; rfl
set_option maxHeartbeats 400000 in
theorem markT_any (n : Nat) (hn : n ≤ 9) (w : World) :
    Calls Tryz.prog 30 #[.int .i64 n] w fun e w' => e = .returned (.string (mkN n).1) ∧ Below w.heap.size w w' := by
  have hsz : (⟨#[digC n]⟩ : ByteArray).size = 1 := rfl
  have HN : Hid (∀ W : World, Calls Tryz.prog 35 #[.int .i64 n, .int .i64 10] W fun e w' => e = .returned (.string ⟨#[digC n]⟩) ∧ Below W.heap.size W w') := fun W => by
    have := rNumber_nat 10 (by omega) (by omega) n W (by omega)
    rw [natT_small (by omega)] at this
    exact this
  have HM := hid (mkN_app n)
  generalize (⟨#[digC n]⟩ : ByteArray) = d at *
  go_enter Tryz.func30, Tryz.ntmps30
  go_wp2_with fail
  refine (HN.out _).mono ?_
  rintro e w1 ⟨rfl, hb1⟩
  go_wp2
  go_ret
  exact ⟨by rw [← HM.out]; rfl, hb1⟩
set_option maxHeartbeats 400000 in
theorem markF_any (n : Nat) (hn : n ≤ 9) (w : World) :
    Calls Tryz.prog 28 #[.int .i64 n] w fun e w' => e = .returned (.agg #[.string (mkN n).1, .string (mkN n).2]) ∧ Below w.heap.size w w' := by
  have hA := (Below.refl w.heap.size w).alloc (Nat.le_refl _) (.cells #[.string ⟨#[]⟩, .string ⟨#[]⟩] 61)
  have HM := hid (fun W => markT_any n hn W)
  have e2 : (mkN n).2 = ⟨#[46]⟩ := rfl
  rw [e2]
  generalize (mkN n).1 = mt at *
  go_enter Tryz.func28, Tryz.ntmps28
  go_wp2_with fail
  refine (HM.out _).mono ?_
  rintro e w1 ⟨rfl, hb1⟩
  have c0 := cell_later hb1 (a := ⟨w.heap.size, 0, none⟩) (v := .string ⟨#[]⟩) (by simp)
  have c1 := cell_later hb1 (a := ⟨w.heap.size, 1, none⟩) (v := .string ⟨#[]⟩) (by simp)
  have d0 : w1.frozen? ⟨w.heap.size, 0, none⟩ = false := by rw [hb1.frozen (by simp)]; simp
  have d1 : w1.frozen? ⟨w.heap.size, 1, none⟩ = false := by rw [hb1.frozen (by simp)]; simp
  have BL := hid (bel_of hA hb1)
  clear hA hb1
  go_wp2
  refine bodyPost_ret (v := .agg #[.string mt, .string ⟨#[46]⟩]) (by simp [results, Tryz.results28, go_sem, c0, c1]) rfl ?_
  exact ⟨rfl, (BL.out.setCell (Nat.le_refl _) _).setCell (Nat.le_refl _) _⟩
set_option maxRecDepth 100000 in
set_option maxHeartbeats 1000000 in
theorem lentFields_any (fs : List Pr2) (ad : Addr) (ca : Nat) (w : World) (hf : FoAt fs (some ad) w) (hn : fs.length ≤ 1000000000) :
    Calls Tryz.prog 32 #[.slice (some ad) fs.length ca] w fun e w' => ∃ g, e = .returned (.slice (some ⟨g, 0, none⟩) fs.length (fs.length + 5)) ∧ w.heap.size ≤ g ∧ g < w'.heap.size ∧ OwnB g ((fs.length + 5) * 2) w' ∧ LvAt (fs ++ List.replicate 5 (mkN 7)) g w' ∧ Below w.heap.size w w' := by
  obtain ⟨i0, hi, hz0, hz1, hz2⟩ := info_parts Tryz.infoF
  have HF := hid hf
  clear hf
  have hq := fun W => run_eql_nil (P := Tryz.prog) W 34 61 (some ad) fs.length ca Tryz.underlying34
  have HM : Hid (∀ W : World, Calls Tryz.prog 28 #[.int .i64 7] W fun e w' => e = .returned (.agg #[.string (mkN 7).1, .string (mkN 7).2]) ∧ Below W.heap.size W w') := fun W => markF_any 7 (by omega) W
  go_enter Tryz.func32, Tryz.ntmps32
  go_wp2_with (at_make; refine wpList_make_full _ rfl _ _ 34 rfl w.heap.size 61 i0 _ 2 Tryz.underlying34 hi hz0 hz1 .i64 .i64 _ _ (fs.length + 5) rfl rfl (by simp) (by simp) (by rw [hz2]; omega) (by unfold maxLen; omega) (Nat.le_refl _) ?_)
  intro w1 ow1 gr1
  have hB1 : Below w.heap.size w w1 := (Below.refl _ _).grown gr1 (Nat.le_refl _) (fun r hr => by cases hr)
  obtain ⟨ob1, gl1⟩ := owns_ownB ow1
  have hcp := run_copy_wide (P := Tryz.prog) w1 34 34 3 61 2 w.heap.size 0 (fs.length + 5) (fs.length + 5) ad fs.length ca (flC fs) Tryz.underlying34 (by rw [hi]; simp [hz1]) (by rw [flC_len]; show _ = min _ _ * 2; rw [Nat.min_eq_left (by omega)]) (fo_src (HF.out.below hB1)) (fun j hj => by rw [flC_len] at hj; simpa using (ob1 j (by omega)).1) (fun j hj => by rw [flC_len] at hj; simpa using (ob1 j (by omega)).2) (flC_one fs)
  obtain ⟨ob2, lv2⟩ := own_copied ob1 fs (by omega)
  have hB2 : Below w.heap.size w (w1.setCells w.heap.size 0 (flC fs)) := Lib.below_setCells w.heap.size (Nat.le_refl _) _ _ hB1
  have gl2 : w.heap.size < (w1.setCells w.heap.size 0 (flC fs)).heap.size := Nat.lt_of_lt_of_le gl1 (Lib.below_setCells (B := 0) (a := w1) w.heap.size (Nat.zero_le _) _ _ (Below.refl _ _)).size
  have J2 := hid (And.intro ob2 (And.intro lv2 (And.intro hB2 gl2)))
  clear ow1 gr1 ob1 ob2 lv2 hB2 gl2 hB1
  go_wp2_with (at_builtin; refine Lib.wpList_copy_run _ rfl _ _ 34 34 rfl _ _ rfl rfl hcp ?_)
  generalize w1.setCells w.heap.size 0 (flC fs) = w2 at *
  clear hcp gl1
  go_wp2_with fail
  go_loopw [5] (fun i wr => ∃ q : Nat, q ≤ 5 ∧ i = .int .i64 ((fs.length + q : Nat) : Int) ∧ Hid (OwnB w.heap.size ((fs.length + 5) * 2) wr ∧ LvAt (fs ++ List.replicate q (mkN 7)) w.heap.size wr ∧ Below w.heap.size w wr ∧ w.heap.size < wr.heap.size)) (fun i _ => fs.length + 5 - (intOf i).toNat)
  case atStart => exact ⟨0, by omega, by simp, J2.out.1, by simpa using J2.out.2.1, J2.out.2.2⟩
  case round =>
    clear J2
    obtain ⟨q, hq5, rfl, I⟩ := hrel
    by_cases hlt : q < 5
    · have hc5 : ((fs.length + q : Nat) : Int) = (fs.length : Int) + (q : Int) := by omega
      rw [hc5]
      go_wp2_with fail
      refine (HM.out _).mono ?_
      rintro e w3 ⟨rfl, hb3⟩
      have ob3 := I.out.1.below hb3 I.out.2.2.2
      have lv3 := I.out.2.1.below hb3 I.out.2.2.2
      have hB3 := bel_of I.out.2.2.1 hb3
      have gl3 : w.heap.size < w3.heap.size := Nat.lt_of_lt_of_le I.out.2.2.2 hb3.size
      obtain ⟨v0, hv0⟩ := ob3.cell ((fs.length + q) * 2) (by omega)
      obtain ⟨v1, hv1⟩ := ob3.cell ((fs.length + q) * 2 + 1) (by omega)
      have f0 := (ob3 ((fs.length + q) * 2) (by omega)).2
      have f1 := (ob3 ((fs.length + q) * 2 + 1) (by omega)).2
      have hll : (fs ++ List.replicate q (mkN 7)).length = fs.length + q := by simp
      have ls := lv3.snoc ob3 (mkN 7) (by rw [hll]; omega)
      rw [hll, List.append_assoc, ← List.replicate_succ'] at ls
      have J3 : Hid (OwnB w.heap.size ((fs.length + 5) * 2) ((w3.setCell ⟨w.heap.size, (fs.length + q) * 2, none⟩ (.string (mkN 7).1)).setCell ⟨w.heap.size, (fs.length + q) * 2 + 1, none⟩ (.string (mkN 7).2)) ∧ LvAt (fs ++ List.replicate (q + 1) (mkN 7)) w.heap.size ((w3.setCell ⟨w.heap.size, (fs.length + q) * 2, none⟩ (.string (mkN 7).1)).setCell ⟨w.heap.size, (fs.length + q) * 2 + 1, none⟩ (.string (mkN 7).2)) ∧ Below w.heap.size w ((w3.setCell ⟨w.heap.size, (fs.length + q) * 2, none⟩ (.string (mkN 7).1)).setCell ⟨w.heap.size, (fs.length + q) * 2 + 1, none⟩ (.string (mkN 7).2)) ∧ w.heap.size < ((w3.setCell ⟨w.heap.size, (fs.length + q) * 2, none⟩ (.string (mkN 7).1)).setCell ⟨w.heap.size, (fs.length + q) * 2 + 1, none⟩ (.string (mkN 7).2)).heap.size) :=
        ⟨(ob3.set _ _).set _ _, ls, (hB3.setCell (Nat.le_refl _) _).setCell (Nat.le_refl _) _, by simpa using gl3⟩
      have y1 : (fs.length : Int) + (q : Int) < (fs.length : Int) + 5 := by omega
      have y0 : (0 : Int) ≤ (fs.length : Int) + (q : Int) := by omega
      have yn : ((fs.length : Int) + (q : Int)).toNat = fs.length + q := by omega
      clear ob3 lv3 hB3 ls I hb3 hc5
      generalize (mkN 7).1 = mt at *
      generalize (mkN 7).2 = md at *
      go_wp2
      exact ⟨⟨q + 1, by omega, by rw [show ((fs.length + (q + 1) : Nat) : Int) = (fs.length : Int) + q + 1 from by omega], J3.out⟩, by simp [intOf]; omega⟩
    · have h5 : q = 5 := by omega
      subst h5
      have hB := I.out.2.2.1
      have hc5 : ((fs.length + 5 : Nat) : Int) = (fs.length : Int) + 5 := by omega
      rw [hc5]
      go_wp2
      go_ret
      exact ⟨_, rfl, Nat.le_refl _, I.out.2.2.2, I.out.1, I.out.2.1, I.out.2.2.1⟩
end Go.Proofs.YtnohadlihgjppaaGreatDoor
