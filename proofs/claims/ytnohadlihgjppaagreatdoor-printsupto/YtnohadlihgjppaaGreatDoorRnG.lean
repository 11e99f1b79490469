/- wholeFields: a list that was lent and is as it was; nothing turns but that list. -/
import Derived.Test.YtnohadlihgjppaaGreatDoorRnF
namespace Go.Proofs.YtnohadlihgjppaaGreatDoor
open Go.RowKit

def LfAt (L : List Pr2) (k g : Nat) (w : World) : Prop :=
  ∀ i (h : i < L.length), k ≤ i → w.cell? ⟨g, i * 2, none⟩ = some (.string L[i].1) ∧ w.cell? ⟨g, i * 2 + 1, none⟩ = some (.string L[i].2)
theorem LfAt.below {L : List Pr2} {k g : Nat} {w w' : World} {B : Nat} (h : LfAt L k g w) (hb : Below B w w') (hg : g < B) : LfAt L k g w' := fun i hi hk => by
  obtain ⟨h1, h2⟩ := h i hi hk
  exact ⟨by rw [hb.cell hg]; exact h1, by rw [hb.cell hg]; exact h2⟩
theorem LfAt.next {L : List Pr2} {k g : Nat} {w : World} (h : LfAt L k g w) (u v : Value) : LfAt L (k + 1) g ((w.setCell ⟨g, k * 2, none⟩ u).setCell ⟨g, k * 2 + 1, none⟩ v) := fun i hi hk => by
  obtain ⟨h1, h2⟩ := h i hi (by omega)
  rw [World.cell?_setCell_other _ _ _ _ (addr_ne (by omega)), World.cell?_setCell_other _ _ _ _ (addr_ne (by omega)), World.cell?_setCell_other _ _ _ _ (addr_ne (by omega)), World.cell?_setCell_other _ _ _ _ (addr_ne (by omega))]
  exact ⟨h1, h2⟩
set_option maxHeartbeats 400000 in
theorem wholeFields_nil (v : Value) (w : World) :
    Calls Tryz.prog 21 #[v, .slice none 0 0] w fun e w' => e = .returned (.bool true) ∧ w' = w := by
  have hq := fun W => run_eql_nil (P := Tryz.prog) W 34 61 none 0 0 Tryz.underlying34
  go_enter Tryz.func21, Tryz.ntmps21
  go_wp2
  go_ret
  exact ⟨rfl, rfl⟩
set_option maxRecDepth 100000 in
set_option maxHeartbeats 1000000 in
theorem wholeFields_any (fs : List Pr2) (ad : Addr) (ca g : Nat) (w0 w : World) (hf : FoAt fs (some ad) w0) (hn : fs.length ≤ 1000000000) (hb : Below w0.heap.size w0 w) (hg : w0.heap.size ≤ g) (hgl : g < w.heap.size)
    (ho : OwnB g ((fs.length + 5) * 2) w) (hl : LvAt (fs ++ List.replicate 5 (mkN 7)) g w) :
    Calls Tryz.prog 21 #[.slice (some ⟨g, 0, none⟩) fs.length (fs.length + 5), .slice (some ad) fs.length ca] w fun e w' => e = .returned (.bool true) ∧ Below w0.heap.size w0 w' := by
  have HF := hid hf
  have J0 : Hid (OwnB g ((fs.length + 5) * 2) w ∧ LfAt (fs ++ List.replicate 5 (mkN 7)) 0 g w ∧ Below w0.heap.size w0 w ∧ g < w.heap.size) := ⟨ho, fun i hi _ => hl i hi, hb, hgl⟩
  have HM7 : Hid (∀ W : World, Calls Tryz.prog 28 #[.int .i64 7] W fun e w' => e = .returned (.agg #[.string (mkN 7).1, .string (mkN 7).2]) ∧ Below W.heap.size W w') := fun W => markF_any 7 (by omega) W
  have HM9 : Hid (∀ W : World, Calls Tryz.prog 28 #[.int .i64 9] W fun e w' => e = .returned (.agg #[.string (mkN 9).1, .string (mkN 9).2]) ∧ Below W.heap.size W w') := fun W => markF_any 9 (by omega) W
  have hq := fun W => run_eql_nil (P := Tryz.prog) W 34 61 (some ad) fs.length ca Tryz.underlying34
  clear hf ho hl hb hgl
  go_enter Tryz.func21, Tryz.ntmps21
  go_wp2_with fail
  go_loopw [7, 8, 9] (fun ok i _ wr => ∃ k : Nat, k ≤ fs.length + 5 ∧ i = .int .i64 k ∧ ok = .bool true ∧ Hid (OwnB g ((fs.length + 5) * 2) wr ∧ LfAt (fs ++ List.replicate 5 (mkN 7)) k g wr ∧ Below w0.heap.size w0 wr ∧ g < wr.heap.size)) (fun _ i _ _ => fs.length + 5 - (intOf i).toNat)
  case atStart => exact ⟨0, Nat.zero_le _, rfl, rfl, J0.out⟩
  case round =>
    clear J0
    obtain ⟨k, hk, rfl, rfl, I⟩ := hrel
    by_cases hlt : k < fs.length + 5
    · go_wp2_with fail
      refine (HM7.out _).mono ?_
      rintro e w1 ⟨rfl, hb1⟩
      have hg1 : g < w1.heap.size := Nat.lt_of_lt_of_le I.out.2.2.2 hb1.size
      have ob1 := I.out.1.below hb1 I.out.2.2.2
      have lf1 := I.out.2.1.below hb1 I.out.2.2.2
      have hB1 : Below w0.heap.size w0 w1 := I.out.2.2.1.trans (hb1.mono I.out.2.2.1.size)
      have hll : (fs ++ List.replicate 5 (mkN 7)).length = fs.length + 5 := by simp
      obtain ⟨c0, c1⟩ := lf1 k (by rw [hll]; exact hlt) (Nat.le_refl _)
      have J1 := hid (And.intro ob1 (And.intro lf1 hB1))
      have y1 : (k : Int) < (fs.length : Int) + 5 := by omega
      by_cases hkn : k < fs.length
      · obtain ⟨go, o, e, hgo, o0, o1⟩ := (HF.out.below hB1) k hkn
        obtain rfl : ad = ⟨go, o, none⟩ := by simpa using e
        rw [List.getElem_append_left hkn] at c0 c1
        have y2 : (k : Int) < (fs.length : Int) := by omega
        generalize fs[k].1 = nm at *
        generalize fs[k].2 = vl at *
        clear ob1 lf1 hB1 e I hb1 HM7
        have hA := (Below.refl w1.heap.size w1).alloc (Nat.le_refl _) (.cells #[.string nm, .string vl] 61)
        go_wp2_with fail
        go_quiet (fail)
        go_wp2_with fail
        refine (HM9.out _).mono ?_
        rintro e w3 ⟨rfl, hb3⟩
        have h13 : Below w1.heap.size w1 w3 := bel_of (below_drewN hA _) hb3
        have ob3 := J1.out.1.below h13 hg1
        have lf3 := J1.out.2.1.below h13 hg1
        have hB3 : Below w0.heap.size w0 w3 := J1.out.2.2.trans (h13.mono J1.out.2.2.size)
        have hg3 : g < w3.heap.size := Nat.lt_of_lt_of_le hg1 h13.size
        obtain ⟨v0, hv0⟩ := ob3.cell (k * 2) (by omega)
        obtain ⟨v1, hv1⟩ := ob3.cell (k * 2 + 1) (by omega)
        have f0 := (ob3 (k * 2) (by omega)).2
        have f1 := (ob3 (k * 2 + 1) (by omega)).2
        have J3 : Hid (OwnB g ((fs.length + 5) * 2) ((w3.setCell ⟨g, k * 2, none⟩ (.string (mkN 9).1)).setCell ⟨g, k * 2 + 1, none⟩ (.string (mkN 9).2)) ∧ LfAt (fs ++ List.replicate 5 (mkN 7)) (k + 1) g ((w3.setCell ⟨g, k * 2, none⟩ (.string (mkN 9).1)).setCell ⟨g, k * 2 + 1, none⟩ (.string (mkN 9).2)) ∧ Below w0.heap.size w0 ((w3.setCell ⟨g, k * 2, none⟩ (.string (mkN 9).1)).setCell ⟨g, k * 2 + 1, none⟩ (.string (mkN 9).2)) ∧ g < ((w3.setCell ⟨g, k * 2, none⟩ (.string (mkN 9).1)).setCell ⟨g, k * 2 + 1, none⟩ (.string (mkN 9).2)).heap.size) :=
          ⟨(ob3.set _ _).set _ _, lf3.next _ _, (hB3.setCell hg _).setCell hg _, by simpa using hg3⟩
        clear ob3 lf3 hB3 J1 h13 hb3 hA c0 c1 hg1
        generalize (mkN 9).1 = n1 at *
        generalize (mkN 9).2 = n2 at *
        go_wp2
        exact ⟨⟨k + 1, by omega, by go_num, rfl, J3.out⟩, by simp [intOf]; omega⟩
      · have e7 : (fs ++ List.replicate 5 (mkN 7))[k]'(by rw [hll]; exact hlt) = mkN 7 := by
          rw [List.getElem_append_right (by omega), List.getElem_replicate]
        rw [e7] at c0 c1
        have y2 : ¬ (k : Int) < (fs.length : Int) := by omega
        clear ob1 lf1 hB1 I hb1 HM7 e7
        obtain ⟨m1, hm1⟩ : ∃ x, x = (mkN 7).1 := ⟨_, rfl⟩
        obtain ⟨m2, hm2⟩ : ∃ x, x = (mkN 7).2 := ⟨_, rfl⟩
        rw [← hm1] at c0 ⊢
        rw [← hm2] at c1 ⊢
        clear hm1 hm2
        have hA := (Below.refl w1.heap.size w1).alloc (Nat.le_refl _) (.cells #[.string m1, .string m2] 61)
        go_wp2_with fail
        go_quiet (fail)
        go_wp2_with fail
        refine (HM9.out _).mono ?_
        rintro e w3 ⟨rfl, hb3⟩
        have h13 : Below w1.heap.size w1 w3 := bel_of (below_drewN hA _) hb3
        have ob3 := J1.out.1.below h13 hg1
        have lf3 := J1.out.2.1.below h13 hg1
        have hB3 : Below w0.heap.size w0 w3 := J1.out.2.2.trans (h13.mono J1.out.2.2.size)
        have hg3 : g < w3.heap.size := Nat.lt_of_lt_of_le hg1 h13.size
        obtain ⟨v0, hv0⟩ := ob3.cell (k * 2) (by omega)
        obtain ⟨v1, hv1⟩ := ob3.cell (k * 2 + 1) (by omega)
        have f0 := (ob3 (k * 2) (by omega)).2
        have f1 := (ob3 (k * 2 + 1) (by omega)).2
        have J3 : Hid (OwnB g ((fs.length + 5) * 2) ((w3.setCell ⟨g, k * 2, none⟩ (.string (mkN 9).1)).setCell ⟨g, k * 2 + 1, none⟩ (.string (mkN 9).2)) ∧ LfAt (fs ++ List.replicate 5 (mkN 7)) (k + 1) g ((w3.setCell ⟨g, k * 2, none⟩ (.string (mkN 9).1)).setCell ⟨g, k * 2 + 1, none⟩ (.string (mkN 9).2)) ∧ Below w0.heap.size w0 ((w3.setCell ⟨g, k * 2, none⟩ (.string (mkN 9).1)).setCell ⟨g, k * 2 + 1, none⟩ (.string (mkN 9).2)) ∧ g < ((w3.setCell ⟨g, k * 2, none⟩ (.string (mkN 9).1)).setCell ⟨g, k * 2 + 1, none⟩ (.string (mkN 9).2)).heap.size) :=
          ⟨(ob3.set _ _).set _ _, lf3.next _ _, (hB3.setCell hg _).setCell hg _, by simpa using hg3⟩
        clear ob3 lf3 hB3 J1 h13 hb3 hA c0 c1 hg1
        generalize (mkN 9).1 = n1 at *
        generalize (mkN 9).2 = n2 at *
        go_wp2
        exact ⟨⟨k + 1, by omega, by go_num, rfl, J3.out⟩, by simp [intOf]; omega⟩
    · have hB := I.out.2.2.1
      go_wp2
      go_ret
      exact ⟨rfl, hB⟩
end Go.Proofs.YtnohadlihgjppaaGreatDoor
