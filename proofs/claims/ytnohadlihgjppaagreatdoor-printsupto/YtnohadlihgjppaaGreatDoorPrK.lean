/- The two lists that are lent to Print: handed out, and as they were behind it; nothing old in memory turns. -/
import Derived.Test.YtnohadlihgjppaaGreatDoorPrJ
namespace Go.Proofs.YtnohadlihgjppaaGreatDoor
open Go.RowKit

set_option maxRecDepth 100000 in
set_option maxHeartbeats 1000000 in
theorem wholeFields_keep (K : World → Prop) (hK1 : ∀ W W', K W → Below W.heap.size W W' → K W') (fs : List Pr2) (ad : Addr) (ca g : Nat) (w0 w : World) (hf : FoAt fs (some ad) w0) (hn : fs.length ≤ 1000000000) (hb : Below w0.heap.size w0 w) (hg : w0.heap.size ≤ g) (hgl : g < w.heap.size)
    (ho : OwnB g ((fs.length + 5) * 2) w) (hl : LvAt (fs ++ List.replicate 5 (mkN 7)) g w) (hK2 : ∀ W k v, K W → K (W.setCell ⟨g, k, none⟩ v)) (hKw : K w) :
    Calls Tryz.prog 21 #[.slice (some ⟨g, 0, none⟩) fs.length (fs.length + 5), .slice (some ad) fs.length ca] w fun e w' => e = .returned (.bool true) ∧ Below w0.heap.size w0 w' ∧ K w' := by
  have HF := hid hf
  have HK1 := hid hK1
  have HK2 := hid hK2
  have J0 : Hid (OwnB g ((fs.length + 5) * 2) w ∧ LfAt (fs ++ List.replicate 5 (mkN 7)) 0 g w ∧ Below w0.heap.size w0 w ∧ g < w.heap.size ∧ K w) := ⟨ho, fun i hi _ => hl i hi, hb, hgl, hKw⟩
  have HM7 : Hid (∀ W : World, Calls Tryz.prog 28 #[.int .i64 7] W fun e w' => e = .returned (.agg #[.string (mkN 7).1, .string (mkN 7).2]) ∧ Below W.heap.size W w') := fun W => markF_any 7 (by omega) W
  have HM9 : Hid (∀ W : World, Calls Tryz.prog 28 #[.int .i64 9] W fun e w' => e = .returned (.agg #[.string (mkN 9).1, .string (mkN 9).2]) ∧ Below W.heap.size W w') := fun W => markF_any 9 (by omega) W
  have hq := fun W => run_eql_nil (P := Tryz.prog) W 34 61 (some ad) fs.length ca Tryz.underlying34
  clear hf ho hl hb hgl hK1 hK2 hKw
  go_enter Tryz.func21, Tryz.ntmps21
  go_wp2_with fail
  go_loopw [7, 8, 9] (fun ok i _ wr => ∃ k : Nat, k ≤ fs.length + 5 ∧ i = .int .i64 k ∧ ok = .bool true ∧ Hid (OwnB g ((fs.length + 5) * 2) wr ∧ LfAt (fs ++ List.replicate 5 (mkN 7)) k g wr ∧ Below w0.heap.size w0 wr ∧ g < wr.heap.size ∧ K wr)) (fun _ i _ _ => fs.length + 5 - (intOf i).toNat)
  case atStart => exact ⟨0, Nat.zero_le _, rfl, rfl, J0.out⟩
  case round =>
    clear J0
    obtain ⟨k, hk, rfl, rfl, I⟩ := hrel
    by_cases hlt : k < fs.length + 5
    · go_wp2_with fail
      refine (HM7.out _).mono ?_
      rintro e w1 ⟨rfl, hb1⟩
      have hg1 : g < w1.heap.size := Nat.lt_of_lt_of_le I.out.2.2.2.1 hb1.size
      have ob1 := I.out.1.below hb1 I.out.2.2.2.1
      have lf1 := I.out.2.1.below hb1 I.out.2.2.2.1
      have hB1 : Below w0.heap.size w0 w1 := I.out.2.2.1.trans (hb1.mono I.out.2.2.1.size)
      have hll : (fs ++ List.replicate 5 (mkN 7)).length = fs.length + 5 := by simp
      obtain ⟨c0, c1⟩ := lf1 k (by rw [hll]; exact hlt) (Nat.le_refl _)
      have k1 := HK1.out _ _ I.out.2.2.2.2 hb1
      have J1 := hid (And.intro ob1 (And.intro lf1 (And.intro hB1 k1)))
      have y1 : (k : Int) < (fs.length : Int) + 5 := by omega
      by_cases hkn : k < fs.length
      · obtain ⟨go, o, e, hgo, o0, o1⟩ := (HF.out.below hB1) k hkn
        obtain rfl : ad = ⟨go, o, none⟩ := by simpa using e
        rw [List.getElem_append_left hkn] at c0 c1
        have y2 : (k : Int) < (fs.length : Int) := by omega
        generalize fs[k].1 = nm at *
        generalize fs[k].2 = vl at *
        clear ob1 lf1 hB1 e I hb1 HM7 k1
        have hA := (Below.refl w1.heap.size w1).alloc (Nat.le_refl _) (.cells #[.string nm, .string vl] 61)
        go_wp2_with fail
        go_quiet (fail)
        go_wp2_with fail
        refine (HM9.out _).mono ?_
        rintro e w3 ⟨rfl, hb3⟩
        have h13 : Below w1.heap.size w1 w3 := bel_of (below_drewN hA _) hb3
        have ob3 := J1.out.1.below h13 hg1
        have lf3 := J1.out.2.1.below h13 hg1
        have hB3 : Below w0.heap.size w0 w3 := J1.out.2.2.1.trans (h13.mono J1.out.2.2.1.size)
        have k3 := HK1.out _ _ J1.out.2.2.2 h13
        have hg3 : g < w3.heap.size := Nat.lt_of_lt_of_le hg1 h13.size
        obtain ⟨v0, hv0⟩ := ob3.cell (k * 2) (by omega)
        obtain ⟨v1, hv1⟩ := ob3.cell (k * 2 + 1) (by omega)
        have f0 := (ob3 (k * 2) (by omega)).2
        have f1 := (ob3 (k * 2 + 1) (by omega)).2
        have J3 : Hid (OwnB g ((fs.length + 5) * 2) ((w3.setCell ⟨g, k * 2, none⟩ (.string (mkN 9).1)).setCell ⟨g, k * 2 + 1, none⟩ (.string (mkN 9).2)) ∧ LfAt (fs ++ List.replicate 5 (mkN 7)) (k + 1) g ((w3.setCell ⟨g, k * 2, none⟩ (.string (mkN 9).1)).setCell ⟨g, k * 2 + 1, none⟩ (.string (mkN 9).2)) ∧ Below w0.heap.size w0 ((w3.setCell ⟨g, k * 2, none⟩ (.string (mkN 9).1)).setCell ⟨g, k * 2 + 1, none⟩ (.string (mkN 9).2)) ∧ g < ((w3.setCell ⟨g, k * 2, none⟩ (.string (mkN 9).1)).setCell ⟨g, k * 2 + 1, none⟩ (.string (mkN 9).2)).heap.size ∧ K ((w3.setCell ⟨g, k * 2, none⟩ (.string (mkN 9).1)).setCell ⟨g, k * 2 + 1, none⟩ (.string (mkN 9).2))) :=
          ⟨(ob3.set _ _).set _ _, lf3.next _ _, (hB3.setCell hg _).setCell hg _, by simpa using hg3, HK2.out _ _ _ (HK2.out _ _ _ k3)⟩
        clear ob3 lf3 hB3 J1 h13 k3 hb3 hA c0 c1 hg1
        generalize (mkN 9).1 = n1 at *
        generalize (mkN 9).2 = n2 at *
        go_wp2
        exact ⟨⟨k + 1, by omega, by go_num, rfl, J3.out⟩, by simp [intOf]; omega⟩
      · have e7 : (fs ++ List.replicate 5 (mkN 7))[k]'(by rw [hll]; exact hlt) = mkN 7 := by
          rw [List.getElem_append_right (by omega), List.getElem_replicate]
        rw [e7] at c0 c1
        have y2 : ¬ (k : Int) < (fs.length : Int) := by omega
        clear ob1 lf1 hB1 I hb1 HM7 e7 k1
        obtain ⟨m1, hm1⟩ : ∃ x, x = (mkN 7).1 := ⟨_, rfl⟩
        obtain ⟨m2, hm2⟩ : ∃ x, x = (mkN 7).2 := ⟨_, rfl⟩
        rw [← hm1] at c0 ⊢
        rw [← hm2] at c1 ⊢
        clear hm1 hm2
        have hA := (Below.refl w1.heap.size w1).alloc (Nat.le_refl _) (.cells #[.string m1, .string m2] 61)
        go_wp2_with fail
        go_quiet (fail)
        go_wp2_with fail
        refine (HM9.out _).mono ?_
        rintro e w3 ⟨rfl, hb3⟩
        have h13 : Below w1.heap.size w1 w3 := bel_of (below_drewN hA _) hb3
        have ob3 := J1.out.1.below h13 hg1
        have lf3 := J1.out.2.1.below h13 hg1
        have hB3 : Below w0.heap.size w0 w3 := J1.out.2.2.1.trans (h13.mono J1.out.2.2.1.size)
        have k3 := HK1.out _ _ J1.out.2.2.2 h13
        have hg3 : g < w3.heap.size := Nat.lt_of_lt_of_le hg1 h13.size
        obtain ⟨v0, hv0⟩ := ob3.cell (k * 2) (by omega)
        obtain ⟨v1, hv1⟩ := ob3.cell (k * 2 + 1) (by omega)
        have f0 := (ob3 (k * 2) (by omega)).2
        have f1 := (ob3 (k * 2 + 1) (by omega)).2
        have J3 : Hid (OwnB g ((fs.length + 5) * 2) ((w3.setCell ⟨g, k * 2, none⟩ (.string (mkN 9).1)).setCell ⟨g, k * 2 + 1, none⟩ (.string (mkN 9).2)) ∧ LfAt (fs ++ List.replicate 5 (mkN 7)) (k + 1) g ((w3.setCell ⟨g, k * 2, none⟩ (.string (mkN 9).1)).setCell ⟨g, k * 2 + 1, none⟩ (.string (mkN 9).2)) ∧ Below w0.heap.size w0 ((w3.setCell ⟨g, k * 2, none⟩ (.string (mkN 9).1)).setCell ⟨g, k * 2 + 1, none⟩ (.string (mkN 9).2)) ∧ g < ((w3.setCell ⟨g, k * 2, none⟩ (.string (mkN 9).1)).setCell ⟨g, k * 2 + 1, none⟩ (.string (mkN 9).2)).heap.size ∧ K ((w3.setCell ⟨g, k * 2, none⟩ (.string (mkN 9).1)).setCell ⟨g, k * 2 + 1, none⟩ (.string (mkN 9).2))) :=
          ⟨(ob3.set _ _).set _ _, lf3.next _ _, (hB3.setCell hg _).setCell hg _, by simpa using hg3, HK2.out _ _ _ (HK2.out _ _ _ k3)⟩
        clear ob3 lf3 hB3 J1 h13 k3 hb3 hA c0 c1 hg1
        generalize (mkN 9).1 = n1 at *
        generalize (mkN 9).2 = n2 at *
        go_wp2
        exact ⟨⟨k + 1, by omega, by go_num, rfl, J3.out⟩, by simp [intOf]; omega⟩
    · have hB := I.out.2.2.1
      go_wp2
      go_ret
      exact ⟨rfl, hB, I.out.2.2.2.2⟩
theorem FoAt.nil' (a : Option Addr) (w : World) : FoAt [] a w := fun i hi => absurd hi (by simp)
theorem ZoAt.nil' (a : Option Addr) (w : World) : ZoAt [] a w := fun i hi => absurd hi (by simp)
theorem set_far {g g2 k : Nat} {W : World} {v : Value} (h : g ≠ g2) (j : Nat) : (W.setCell ⟨g, k, none⟩ v).cell? ⟨g2, j, none⟩ = W.cell? ⟨g2, j, none⟩ :=
  World.cell?_setCell_other _ _ _ _ (fun e => by simp only [Addr.mk.injEq] at e; first | exact h e.1 | exact h e.1.symm)
theorem lentF_all (fs : List Pr2) (a : Option Addr) (ca : Nat) (w : World) (hf : FoAt fs a w) (ha : a = none → fs = [] ∧ ca = 0) (hn : fs.length ≤ 1000000000) :
    Calls Tryz.prog 32 #[.slice a fs.length ca] w fun e w' => ∃ a' ca', e = .returned (.slice a' fs.length ca') ∧ Below w.heap.size w w' ∧
      ∃ J : World → Prop, J w' ∧ (∀ W W', J W → Below W.heap.size W W' → J W') ∧ (∀ g W k v, g < w.heap.size → J W → J (W.setCell ⟨g, k, none⟩ v)) ∧ (∀ W, J W → FoAt fs a' W) ∧
      ∀ (K : World → Prop) (w0 W : World), (∀ W W', K W → Below W.heap.size W W' → K W') → (∀ g W k v, g < w'.heap.size → K W → K (W.setCell ⟨g, k, none⟩ v)) → FoAt fs a w0 → w0.heap.size ≤ w.heap.size → Below w0.heap.size w0 W → J W → K W →
        Calls Tryz.prog 21 #[.slice a' fs.length ca', .slice a fs.length ca] W fun e W' => e = .returned (.bool true) ∧ Below w0.heap.size w0 W' ∧ K W' := by
  cases a with
  | none =>
    obtain ⟨rfl, rfl⟩ := ha rfl
    refine (lentFields_nil w).mono ?_
    rintro e w' ⟨rfl, rfl⟩
    refine ⟨none, 0, rfl, Below.refl _ _, fun _ => True, trivial, fun _ _ _ _ => trivial, fun _ _ _ _ _ _ => trivial, fun _ _ => FoAt.nil' _ _, fun K w0 W _ _ _ _ h5 _ h7 => ?_⟩
    refine (wholeFields_nil _ W).mono ?_
    rintro e W' ⟨rfl, rfl⟩
    exact ⟨rfl, h5, h7⟩
  | some ad =>
    refine (lentFields_any fs ad ca w hf hn).mono ?_
    rintro e w' ⟨g, rfl, h1, h2, h3, h4, h5⟩
    refine ⟨_, _, rfl, h5, fun W => g < W.heap.size ∧ OwnB g ((fs.length + 5) * 2) W ∧ LvAt (fs ++ List.replicate 5 (mkN 7)) g W, ⟨h2, h3, h4⟩, ?_, ?_, ?_, ?_⟩
    · rintro W W' ⟨k1, k2, k3⟩ hb
      exact ⟨Nat.lt_of_lt_of_le k1 hb.size, k2.below hb k1, k3.below hb k1⟩
    · rintro g1 W k v hg ⟨k1, k2, k3⟩
      refine ⟨by simpa using k1, fun j hj => ?_, fun i hi => ?_⟩
      · rw [set_far (by omega), World.frozen?_setCell]; exact k2 j hj
      · rw [set_far (by omega), set_far (by omega)]; exact k3 i hi
    · rintro W ⟨k1, k2, k3⟩
      exact k3.fo k1
    · rintro K w0 W q1 q2 hf0 hsz b0 ⟨k1, k2, k3⟩ hK
      exact wholeFields_keep K q1 fs ad ca g w0 W hf0 hn b0 (Nat.le_trans hsz h1) k1 k2 k3 (fun W k v h => q2 g W k v h2 h) hK
theorem lentI_all (zs : List Int) (b : Option Addr) (cb : Nat) (w : World) (hf : ZoAt zs b w) (ha : b = none → zs = [] ∧ cb = 0) (hn : zs.length ≤ 1000000000) :
    Calls Tryz.prog 18 #[.slice b zs.length cb] w fun e w' => ∃ b' cb', e = .returned (.slice b' zs.length cb') ∧ ZoAt zs b' w' ∧ Below w.heap.size w w' ∧
      ∃ K : World → Prop, K w' ∧ (∀ W W', K W → Below W.heap.size W W' → K W') ∧ (∀ g W k v, g < w.heap.size → K W → K (W.setCell ⟨g, k, none⟩ v)) ∧
        ∀ (w0 W : World), ZoAt zs b w0 → w0.heap.size ≤ w.heap.size → Below w0.heap.size w0 W → K W →
          Calls Tryz.prog 22 #[.slice b' zs.length cb', .slice b zs.length cb] W fun e W' => e = .returned (.bool true) ∧ Below w0.heap.size w0 W' := by
  cases b with
  | none =>
    obtain ⟨rfl, rfl⟩ := ha rfl
    refine (lentInts_nil w).mono ?_
    rintro e w' ⟨rfl, rfl⟩
    refine ⟨none, 0, rfl, ZoAt.nil' _ _, Below.refl _ _, fun _ => True, trivial, fun _ _ _ _ => trivial, fun _ _ _ _ _ _ => trivial, fun w0 W _ _ h5 _ => ?_⟩
    refine (wholeInts_nil _ W).mono ?_
    rintro e W' ⟨rfl, rfl⟩
    exact ⟨rfl, h5⟩
  | some ad =>
    refine (lentInts_any zs ad cb w hf hn).mono ?_
    rintro e w' ⟨g, rfl, h1, h2, h3, h4, h5⟩
    refine ⟨_, _, rfl, h4.zo h2, h5, fun W => g < W.heap.size ∧ OwnB g (zs.length + 5) W ∧ ZvAt (zs ++ List.replicate 5 (-1007)) g W, ⟨h2, h3, h4⟩, ?_, ?_, ?_⟩
    · rintro W W' ⟨k1, k2, k3⟩ hb
      exact ⟨Nat.lt_of_lt_of_le k1 hb.size, k2.below hb k1, k3.below hb k1⟩
    · rintro g1 W k v hg ⟨k1, k2, k3⟩
      refine ⟨by simpa using k1, fun j hj => ?_, fun i hi => ?_⟩
      · rw [set_far (by omega), World.frozen?_setCell]; exact k2 j hj
      · rw [set_far (by omega)]; exact k3 i hi
    · rintro w0 W hf0 hsz b0 ⟨k1, k2, k3⟩
      exact wholeInts_any zs ad cb g w0 W hf0 hn b0 (Nat.le_trans hsz h1) k1 k2 k3
set_option maxRecDepth 100000 in
set_option maxHeartbeats 1000000 in
theorem pPrint_any (m t : ByteArray) (fs : List Pr2) (a : Option Addr) (ca : Nat) (body : ByteArray) (how : Int) (zs : List Int) (b : Option Addr) (cb : Nat) (w : World) (hf : FoAt fs a w) (hzo : ZoAt zs b w) (hn : fs.length ≤ 1000000000) (hnz : zs.length ≤ 1000000000) (hm : m.size ≤ 1000000000) (ht : t.size ≤ 1000000000) (hb : body.size ≤ 1000000000)
    (hz : ∀ i (h : i < fs.length), fs[i].1.size ≤ 1000000000 ∧ fs[i].2.size ≤ 1000000000) (hfz : (fldsL fs).length ≤ 10000000000)
    (htb : Lib.TabBelow Tryz.prog w.heap.size w "internal/strconv.uint64pow10" .u64 Lib.pow10Tab) (h15 : w.cell? ⟨5, 15, none⟩ = some (.int .u8 4)) :
    Calls Tryz.prog 19 #[.agg #[.string m, .string t, .slice a fs.length ca, .string body], .int .i64 how, .slice b zs.length cb] w fun e w' => e = .returned (.tuple #[.string ⟨(printS m.data.toList t.data.toList fs body.data.toList how zs).1.toArray⟩, .int .i64 (printS m.data.toList t.data.toList fs body.data.toList how zs).2]) ∧ Below w.heap.size w w' := by
  have hA := (Below.refl w.heap.size w).alloc (Nat.le_refl _) (.cells #[.string m, .string t, .slice a fs.length ca, .string body] 36)
  have HW := hid (wPrint_any m t fs a ca body how zs b cb _ (hf.below hA) (hzo.below hA) hn hnz hm ht hb hz hfz (fun W hW => htb W (bel_of hA hW)) (cell_later hA h15))
  have HA := hid hA
  clear hf htb hA hzo h15 hz
  generalize printS m.data.toList t.data.toList fs body.data.toList how zs = PS at *
  go_enter Tryz.func19, Tryz.ntmps19
  go_wp2_with fail
  refine HW.out.mono ?_
  rintro e w1 ⟨rfl, hb1⟩
  have hB1 := bel_of HA.out hb1
  go_wp2
  go_ret2
  exact ⟨rfl, hB1⟩
end Go.Proofs.YtnohadlihgjppaaGreatDoor
