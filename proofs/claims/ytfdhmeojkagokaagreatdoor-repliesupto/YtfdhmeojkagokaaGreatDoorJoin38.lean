/- Texts that follow one another, joined. -/
import Derived.Test.YtfdhmeojkagokaaGreatDoorJoin37
import Derived.Test.YtfdhmeojkagokaaGreatDoorJoin16
/- Routes and wares that were lent and are as they were; nothing turns but those lists. -/
namespace Go.Proofs.YtfdhmeojkagokaaGreatDoor
open Go.RowKit

/- all blocks but one stay -/
def KpB (g : Nat) (w w' : World) : Prop := w.heap.size ≤ w'.heap.size ∧ ∀ b, b < w.heap.size → b ≠ g → w'.heap[b]? = w.heap[b]?
theorem KpB.refl (g : Nat) (w : World) : KpB g w w := ⟨Nat.le_refl _, fun _ _ _ => rfl⟩
theorem KpB.below {g : Nat} {w w1 w2 : World} (h : KpB g w w1) (hb : Below w1.heap.size w1 w2) : KpB g w w2 :=
  ⟨Nat.le_trans h.1 hb.size, fun b h1 h2 => (hb.block b (Nat.lt_of_lt_of_le h1 h.1)).trans (h.2 b h1 h2)⟩
theorem sets_other (g b : Nat) (hb : b ≠ g) : ∀ (cs : List Value) (o : Nat) (w : World), (w.setCells g o cs).heap[b]? = w.heap[b]?
  | [], _, _ => rfl
  | v :: r, o, w => by
    rw [World.setCells, sets_other g b hb r (o + 1)]
    exact heap_setCell_other w ⟨g, o, none⟩ b v hb
theorem sets_size (g : Nat) : ∀ (cs : List Value) (o : Nat) (w : World), (w.setCells g o cs).heap.size = w.heap.size
  | [], _, _ => rfl
  | v :: r, o, w => by
    rw [World.setCells, sets_size g r (o + 1)]; simp
theorem KpB.sets {g o : Nat} {w w1 : World} (h : KpB g w w1) (cs : List Value) : KpB g w (w1.setCells g o cs) :=
  ⟨by rw [sets_size]; exact h.1, fun b h1 h2 => (sets_other g b h2 cs o w1).trans (h.2 b h1 h2)⟩
set_option maxHeartbeats 400000 in
theorem wholeRoutes_nil (v : Value) (w : World) :
    Calls Tryz.prog 26 #[v, .slice none 0 0] w fun e w' => e = .returned (.bool true) ∧ w' = w := by
  have hq := fun W => run_eql_nilL (P := Tryz.prog) W 24 81 none 0 0 Tryz.underlying24
  go_enter Tryz.func26, Tryz.ntmps26
  go_wp2
  go_ret
  exact ⟨rfl, rfl⟩
set_option maxRecDepth 100000 in
set_option maxHeartbeats 2000000 in
theorem wholeRoutes_any (rs : List Rt) (ad : Addr) (ca g : Nat) (w0 w : World) (hf : MuAt 6 Rt.cells rs (some ad) w0) (hn : rs.length ≤ 1000000000) (hb : Below w0.heap.size w0 w) (hg : w0.heap.size ≤ g) (hgl : g < w.heap.size)
    (ho : OwnM g ((rs.length + 5) * 6) w) (hl : LvM 6 Rt.cells (rs ++ List.replicate 5 (mkR 7)) g w) :
    Calls Tryz.prog 26 #[.slice (some ⟨g, 0, none⟩) rs.length (rs.length + 5), .slice (some ad) rs.length ca] w fun e w' => e = .returned (.bool true) ∧ Below w0.heap.size w0 w' ∧ KpB g w w' := by
  have HF := hid hf
  have J0 : Hid (OwnM g ((rs.length + 5) * 6) w ∧ LfM 6 Rt.cells (rs ++ List.replicate 5 (mkR 7)) 0 g w ∧ Below w0.heap.size w0 w ∧ g < w.heap.size ∧ KpB g w w) := ⟨ho, fun i hi j v _ => hl i hi j v, hb, hgl, KpB.refl _ _⟩
  have HM7 : Hid (∀ W : World, Calls Tryz.prog 32 #[.int .i64 7] W fun e w' => e = .returned (mkR 7).aggV ∧ Below W.heap.size W w') := fun W => markRoute_any 7 (by omega) W
  have HM9 : Hid (∀ W : World, Calls Tryz.prog 32 #[.int .i64 9] W fun e w' => e = .returned (mkR 9).aggV ∧ Below W.heap.size W w') := fun W => markRoute_any 9 (by omega) W
  have hq := fun W => run_eql_nilL (P := Tryz.prog) W 24 81 (some ad) rs.length ca Tryz.underlying24
  clear hf ho hl hb hgl
  generalize mkR 7 = X7 at *
  generalize mkR 9 = X9 at *
  obtain ⟨xm, xp, ⟨xk, xst, xt, xn⟩⟩ := X7
  obtain ⟨ym, yp, ⟨yk, yst, yt, yn⟩⟩ := X9
  simp only [Rt.aggV] at HM7 HM9
  go_enter Tryz.func26, Tryz.ntmps26
  go_wp2_with fail
  go_loopw [7, 8, 9] (fun ok i _ wr => ∃ k : Nat, k ≤ rs.length + 5 ∧ i = .int .i64 k ∧ ok = .bool true ∧ Hid (OwnM g ((rs.length + 5) * 6) wr ∧ LfM 6 Rt.cells (rs ++ List.replicate 5 (⟨xm, xp, ⟨xk, xst, xt, xn⟩⟩ : Rt)) k g wr ∧ Below w0.heap.size w0 wr ∧ g < wr.heap.size ∧ KpB g w wr)) (fun _ i _ _ => rs.length + 5 - (intOf i).toNat)
  case atStart => exact ⟨0, Nat.zero_le _, rfl, rfl, J0.out⟩
  case round =>
    clear J0
    obtain ⟨k, hk, rfl, rfl, I⟩ := hrel
    by_cases hlt : k < rs.length + 5
    · go_wp2_with fail
      refine (HM7.out _).mono ?_
      rintro e w1 ⟨rfl, hb1⟩
      have hg1 : g < w1.heap.size := Nat.lt_of_lt_of_le I.out.2.2.2.1 hb1.size
      have ob1 := I.out.1.below hb1 I.out.2.2.2.1
      have lf1 := I.out.2.1.below hb1 I.out.2.2.2.1
      have hB1 : Below w0.heap.size w0 w1 := I.out.2.2.1.trans (hb1.mono I.out.2.2.1.size)
      have hll : (rs ++ List.replicate 5 (⟨xm, xp, ⟨xk, xst, xt, xn⟩⟩ : Rt)).length = rs.length + 5 := by simp
      have c0 := lf1 k (by rw [hll]; exact hlt) 0 _ (Nat.le_refl _) rfl
      have c1 := lf1 k (by rw [hll]; exact hlt) 1 _ (Nat.le_refl _) rfl
      have c2 := lf1 k (by rw [hll]; exact hlt) 2 _ (Nat.le_refl _) rfl
      have c3 := lf1 k (by rw [hll]; exact hlt) 3 _ (Nat.le_refl _) rfl
      have c4 := lf1 k (by rw [hll]; exact hlt) 4 _ (Nat.le_refl _) rfl
      have c5 := lf1 k (by rw [hll]; exact hlt) 5 _ (Nat.le_refl _) rfl
      rw [Nat.add_zero] at c0
      have J1 := hid (And.intro ob1 (And.intro lf1 (And.intro hB1 (I.out.2.2.2.2.below hb1))))
      have y1 : (k : Int) < (rs.length : Int) + 5 := by omega
      by_cases hkn : k < rs.length
      · obtain ⟨go, o, hao, hgo, o0, o1, o2, o3, o4, o5⟩ := rt_cells (HF.out.below hB1) hkn
        obtain rfl : ad = ⟨go, o, none⟩ := by simpa using hao
        rw [List.getElem_append_left hkn] at c0 c1 c2 c3 c4 c5
        have y2 : (k : Int) < (rs.length : Int) := by omega
        generalize rs[k] = en at *
        obtain ⟨em, ep, ⟨ek, est, et, en⟩⟩ := en
        simp only at c0 c1 c2 c3 c4 c5 o0 o1 o2 o3 o4 o5
        clear ob1 lf1 hB1 hao I hb1 HM7
        have hA := (Below.refl w1.heap.size w1).alloc (Nat.le_refl _) (.cells #[.string em, .string ep, .int .i64 ek, .int .i64 est, .string et, .string en] 81)
        go_wp2_with fail
        go_quiet (fail)
        go_wp2_with fail
        refine (HM9.out _).mono ?_
        rintro e w3 ⟨rfl, hb3⟩
        have h13 : Below w1.heap.size w1 w3 := bel_of (below_drewN hA _) hb3
        have ob3 := J1.out.1.below h13 hg1
        have lf3 := J1.out.2.1.below h13 hg1
        have hB3 : Below w0.heap.size w0 w3 := J1.out.2.2.1.trans (h13.mono J1.out.2.2.1.size)
        have hg3 : g < w3.heap.size := Nat.lt_of_lt_of_le hg1 h13.size
        obtain ⟨v0, hv0⟩ := ob3.cell (k * 6) (by omega)
        obtain ⟨v1, hv1⟩ := ob3.cell (k * 6 + 1) (by omega)
        obtain ⟨v2, hv2⟩ := ob3.cell (k * 6 + 2) (by omega)
        obtain ⟨v3, hv3⟩ := ob3.cell (k * 6 + 3) (by omega)
        obtain ⟨v4, hv4⟩ := ob3.cell (k * 6 + 4) (by omega)
        obtain ⟨v5, hv5⟩ := ob3.cell (k * 6 + 5) (by omega)
        have f0 := (ob3 (k * 6) (by omega)).2
        have f1 := (ob3 (k * 6 + 1) (by omega)).2
        have f2 := (ob3 (k * 6 + 2) (by omega)).2
        have f3 := (ob3 (k * 6 + 3) (by omega)).2
        have f4 := (ob3 (k * 6 + 4) (by omega)).2
        have f5 := (ob3 (k * 6 + 5) (by omega)).2
        have gls : g < (w3.setCells g (k * 6) (Rt.cells (⟨ym, yp, ⟨yk, yst, yt, yn⟩⟩ : Rt))).heap.size := Nat.lt_of_lt_of_le hg3 (below_sets (B := 0) (Below.refl 0 w3) (Nat.zero_le _) _).size
        have J3 : Hid (OwnM g ((rs.length + 5) * 6) (((((((w3.setCell ⟨g, k * 6, none⟩ (.string ym)).setCell ⟨g, k * 6 + 1, none⟩ (.string yp)).setCell ⟨g, k * 6 + 2, none⟩ (.int .i64 yk)).setCell ⟨g, k * 6 + 3, none⟩ (.int .i64 yst)).setCell ⟨g, k * 6 + 4, none⟩ (.string yt)).setCell ⟨g, k * 6 + 5, none⟩ (.string yn))) ∧ LfM 6 Rt.cells (rs ++ List.replicate 5 (⟨xm, xp, ⟨xk, xst, xt, xn⟩⟩ : Rt)) (k + 1) g (((((((w3.setCell ⟨g, k * 6, none⟩ (.string ym)).setCell ⟨g, k * 6 + 1, none⟩ (.string yp)).setCell ⟨g, k * 6 + 2, none⟩ (.int .i64 yk)).setCell ⟨g, k * 6 + 3, none⟩ (.int .i64 yst)).setCell ⟨g, k * 6 + 4, none⟩ (.string yt)).setCell ⟨g, k * 6 + 5, none⟩ (.string yn))) ∧ Below w0.heap.size w0 (((((((w3.setCell ⟨g, k * 6, none⟩ (.string ym)).setCell ⟨g, k * 6 + 1, none⟩ (.string yp)).setCell ⟨g, k * 6 + 2, none⟩ (.int .i64 yk)).setCell ⟨g, k * 6 + 3, none⟩ (.int .i64 yst)).setCell ⟨g, k * 6 + 4, none⟩ (.string yt)).setCell ⟨g, k * 6 + 5, none⟩ (.string yn))) ∧ g < (((((((w3.setCell ⟨g, k * 6, none⟩ (.string ym)).setCell ⟨g, k * 6 + 1, none⟩ (.string yp)).setCell ⟨g, k * 6 + 2, none⟩ (.int .i64 yk)).setCell ⟨g, k * 6 + 3, none⟩ (.int .i64 yst)).setCell ⟨g, k * 6 + 4, none⟩ (.string yt)).setCell ⟨g, k * 6 + 5, none⟩ (.string yn))).heap.size ∧ KpB g w (((((((w3.setCell ⟨g, k * 6, none⟩ (.string ym)).setCell ⟨g, k * 6 + 1, none⟩ (.string yp)).setCell ⟨g, k * 6 + 2, none⟩ (.int .i64 yk)).setCell ⟨g, k * 6 + 3, none⟩ (.int .i64 yst)).setCell ⟨g, k * 6 + 4, none⟩ (.string yt)).setCell ⟨g, k * 6 + 5, none⟩ (.string yn)))) :=
          ⟨ob3.sets (o := k * 6) (Rt.cells (⟨ym, yp, ⟨yk, yst, yt, yn⟩⟩ : Rt)) (by show k * 6 + 6 ≤ _; omega), lf3.next (Rt.cells (⟨ym, yp, ⟨yk, yst, yt, yn⟩⟩ : Rt)) rfl, below_sets (o := k * 6) hB3 hg (Rt.cells (⟨ym, yp, ⟨yk, yst, yt, yn⟩⟩ : Rt)), gls, (J1.out.2.2.2.below h13).sets (o := k * 6) (Rt.cells (⟨ym, yp, ⟨yk, yst, yt, yn⟩⟩ : Rt))⟩
        clear ob3 lf3 hB3 J1 h13 hb3 hA c0 c1 c2 c3 c4 c5 hg1 gls
        go_wp2
        exact ⟨⟨k + 1, by omega, by go_num, rfl, J3.out⟩, by simp [intOf]; omega⟩
      · have e7 : (rs ++ List.replicate 5 (⟨xm, xp, ⟨xk, xst, xt, xn⟩⟩ : Rt))[k]'(by rw [hll]; exact hlt) = (⟨xm, xp, ⟨xk, xst, xt, xn⟩⟩ : Rt) := by
          rw [List.getElem_append_right (by omega), List.getElem_replicate]
        rw [e7] at c0 c1 c2 c3 c4 c5
        simp only at c0 c1 c2 c3 c4 c5
        have y2 : ¬ (k : Int) < (rs.length : Int) := by omega
        clear ob1 lf1 hB1 I hb1 HM7 e7
        have hA := (Below.refl w1.heap.size w1).alloc (Nat.le_refl _) (.cells #[.string xm, .string xp, .int .i64 xk, .int .i64 xst, .string xt, .string xn] 81)
        go_wp2_with fail
        go_quiet (fail)
        go_wp2_with fail
        refine (HM9.out _).mono ?_
        rintro e w3 ⟨rfl, hb3⟩
        have h13 : Below w1.heap.size w1 w3 := bel_of (below_drewN hA _) hb3
        have ob3 := J1.out.1.below h13 hg1
        have lf3 := J1.out.2.1.below h13 hg1
        have hB3 : Below w0.heap.size w0 w3 := J1.out.2.2.1.trans (h13.mono J1.out.2.2.1.size)
        have hg3 : g < w3.heap.size := Nat.lt_of_lt_of_le hg1 h13.size
        obtain ⟨v0, hv0⟩ := ob3.cell (k * 6) (by omega)
        obtain ⟨v1, hv1⟩ := ob3.cell (k * 6 + 1) (by omega)
        obtain ⟨v2, hv2⟩ := ob3.cell (k * 6 + 2) (by omega)
        obtain ⟨v3, hv3⟩ := ob3.cell (k * 6 + 3) (by omega)
        obtain ⟨v4, hv4⟩ := ob3.cell (k * 6 + 4) (by omega)
        obtain ⟨v5, hv5⟩ := ob3.cell (k * 6 + 5) (by omega)
        have f0 := (ob3 (k * 6) (by omega)).2
        have f1 := (ob3 (k * 6 + 1) (by omega)).2
        have f2 := (ob3 (k * 6 + 2) (by omega)).2
        have f3 := (ob3 (k * 6 + 3) (by omega)).2
        have f4 := (ob3 (k * 6 + 4) (by omega)).2
        have f5 := (ob3 (k * 6 + 5) (by omega)).2
        have gls : g < (w3.setCells g (k * 6) (Rt.cells (⟨ym, yp, ⟨yk, yst, yt, yn⟩⟩ : Rt))).heap.size := Nat.lt_of_lt_of_le hg3 (below_sets (B := 0) (Below.refl 0 w3) (Nat.zero_le _) _).size
        have J3 : Hid (OwnM g ((rs.length + 5) * 6) (((((((w3.setCell ⟨g, k * 6, none⟩ (.string ym)).setCell ⟨g, k * 6 + 1, none⟩ (.string yp)).setCell ⟨g, k * 6 + 2, none⟩ (.int .i64 yk)).setCell ⟨g, k * 6 + 3, none⟩ (.int .i64 yst)).setCell ⟨g, k * 6 + 4, none⟩ (.string yt)).setCell ⟨g, k * 6 + 5, none⟩ (.string yn))) ∧ LfM 6 Rt.cells (rs ++ List.replicate 5 (⟨xm, xp, ⟨xk, xst, xt, xn⟩⟩ : Rt)) (k + 1) g (((((((w3.setCell ⟨g, k * 6, none⟩ (.string ym)).setCell ⟨g, k * 6 + 1, none⟩ (.string yp)).setCell ⟨g, k * 6 + 2, none⟩ (.int .i64 yk)).setCell ⟨g, k * 6 + 3, none⟩ (.int .i64 yst)).setCell ⟨g, k * 6 + 4, none⟩ (.string yt)).setCell ⟨g, k * 6 + 5, none⟩ (.string yn))) ∧ Below w0.heap.size w0 (((((((w3.setCell ⟨g, k * 6, none⟩ (.string ym)).setCell ⟨g, k * 6 + 1, none⟩ (.string yp)).setCell ⟨g, k * 6 + 2, none⟩ (.int .i64 yk)).setCell ⟨g, k * 6 + 3, none⟩ (.int .i64 yst)).setCell ⟨g, k * 6 + 4, none⟩ (.string yt)).setCell ⟨g, k * 6 + 5, none⟩ (.string yn))) ∧ g < (((((((w3.setCell ⟨g, k * 6, none⟩ (.string ym)).setCell ⟨g, k * 6 + 1, none⟩ (.string yp)).setCell ⟨g, k * 6 + 2, none⟩ (.int .i64 yk)).setCell ⟨g, k * 6 + 3, none⟩ (.int .i64 yst)).setCell ⟨g, k * 6 + 4, none⟩ (.string yt)).setCell ⟨g, k * 6 + 5, none⟩ (.string yn))).heap.size ∧ KpB g w (((((((w3.setCell ⟨g, k * 6, none⟩ (.string ym)).setCell ⟨g, k * 6 + 1, none⟩ (.string yp)).setCell ⟨g, k * 6 + 2, none⟩ (.int .i64 yk)).setCell ⟨g, k * 6 + 3, none⟩ (.int .i64 yst)).setCell ⟨g, k * 6 + 4, none⟩ (.string yt)).setCell ⟨g, k * 6 + 5, none⟩ (.string yn)))) :=
          ⟨ob3.sets (o := k * 6) (Rt.cells (⟨ym, yp, ⟨yk, yst, yt, yn⟩⟩ : Rt)) (by show k * 6 + 6 ≤ _; omega), lf3.next (Rt.cells (⟨ym, yp, ⟨yk, yst, yt, yn⟩⟩ : Rt)) rfl, below_sets (o := k * 6) hB3 hg (Rt.cells (⟨ym, yp, ⟨yk, yst, yt, yn⟩⟩ : Rt)), gls, (J1.out.2.2.2.below h13).sets (o := k * 6) (Rt.cells (⟨ym, yp, ⟨yk, yst, yt, yn⟩⟩ : Rt))⟩
        clear ob3 lf3 hB3 J1 h13 hb3 hA c0 c1 c2 c3 c4 c5 hg1 gls
        go_wp2
        exact ⟨⟨k + 1, by omega, by go_num, rfl, J3.out⟩, by simp [intOf]; omega⟩
    · have hB := hid (And.intro I.out.2.2.1 I.out.2.2.2.2)
      go_wp2
      go_ret
      exact ⟨rfl, hB.out.1, hB.out.2⟩
set_option maxHeartbeats 400000 in
theorem wholeWares_nil (v : Value) (w : World) :
    Calls Tryz.prog 27 #[v, .slice none 0 0] w fun e w' => e = .returned (.bool true) ∧ w' = w := by
  have hq := fun W => run_eql_nilL (P := Tryz.prog) W 25 84 none 0 0 Tryz.underlying25
  go_enter Tryz.func27, Tryz.ntmps27
  go_wp2
  go_ret
  exact ⟨rfl, rfl⟩
set_option maxRecDepth 100000 in
set_option maxHeartbeats 2000000 in
theorem wholeWares_any (rs : List Wr) (ad : Addr) (ca g : Nat) (w0 w : World) (hf : MuAt 4 Wr.cells rs (some ad) w0) (hn : rs.length ≤ 1000000000) (hb : Below w0.heap.size w0 w) (hg : w0.heap.size ≤ g) (hgl : g < w.heap.size)
    (ho : OwnM g ((rs.length + 5) * 4) w) (hl : LvM 4 Wr.cells (rs ++ List.replicate 5 (mkW 7)) g w) :
    Calls Tryz.prog 27 #[.slice (some ⟨g, 0, none⟩) rs.length (rs.length + 5), .slice (some ad) rs.length ca] w fun e w' => e = .returned (.bool true) ∧ Below w0.heap.size w0 w' ∧ KpB g w w' := by
  have HF := hid hf
  have J0 : Hid (OwnM g ((rs.length + 5) * 4) w ∧ LfM 4 Wr.cells (rs ++ List.replicate 5 (mkW 7)) 0 g w ∧ Below w0.heap.size w0 w ∧ g < w.heap.size ∧ KpB g w w) := ⟨ho, fun i hi j v _ => hl i hi j v, hb, hgl, KpB.refl _ _⟩
  have HM7 : Hid (∀ W : World, Calls Tryz.prog 33 #[.int .i64 7] W fun e w' => e = .returned (mkW 7).aggV ∧ Below W.heap.size W w') := fun W => markWare_any 7 (by omega) W
  have HM9 : Hid (∀ W : World, Calls Tryz.prog 33 #[.int .i64 9] W fun e w' => e = .returned (mkW 9).aggV ∧ Below W.heap.size W w') := fun W => markWare_any 9 (by omega) W
  have hq := fun W => run_eql_nilL (P := Tryz.prog) W 25 84 (some ad) rs.length ca Tryz.underlying25
  clear hf ho hl hb hgl
  generalize mkW 7 = X7 at *
  generalize mkW 9 = X9 at *
  obtain ⟨xk, xn, xv, xl⟩ := X7
  obtain ⟨yk, yn, yv, yl⟩ := X9
  simp only [Wr.aggV] at HM7 HM9
  go_enter Tryz.func27, Tryz.ntmps27
  go_wp2_with fail
  go_loopw [7, 8, 9] (fun ok i _ wr => ∃ k : Nat, k ≤ rs.length + 5 ∧ i = .int .i64 k ∧ ok = .bool true ∧ Hid (OwnM g ((rs.length + 5) * 4) wr ∧ LfM 4 Wr.cells (rs ++ List.replicate 5 (⟨xk, xn, xv, xl⟩ : Wr)) k g wr ∧ Below w0.heap.size w0 wr ∧ g < wr.heap.size ∧ KpB g w wr)) (fun _ i _ _ => rs.length + 5 - (intOf i).toNat)
  case atStart => exact ⟨0, Nat.zero_le _, rfl, rfl, J0.out⟩
  case round =>
    clear J0
    obtain ⟨k, hk, rfl, rfl, I⟩ := hrel
    by_cases hlt : k < rs.length + 5
    · go_wp2_with fail
      refine (HM7.out _).mono ?_
      rintro e w1 ⟨rfl, hb1⟩
      have hg1 : g < w1.heap.size := Nat.lt_of_lt_of_le I.out.2.2.2.1 hb1.size
      have ob1 := I.out.1.below hb1 I.out.2.2.2.1
      have lf1 := I.out.2.1.below hb1 I.out.2.2.2.1
      have hB1 : Below w0.heap.size w0 w1 := I.out.2.2.1.trans (hb1.mono I.out.2.2.1.size)
      have hll : (rs ++ List.replicate 5 (⟨xk, xn, xv, xl⟩ : Wr)).length = rs.length + 5 := by simp
      have c0 := lf1 k (by rw [hll]; exact hlt) 0 _ (Nat.le_refl _) rfl
      have c1 := lf1 k (by rw [hll]; exact hlt) 1 _ (Nat.le_refl _) rfl
      have c2 := lf1 k (by rw [hll]; exact hlt) 2 _ (Nat.le_refl _) rfl
      have c3 := lf1 k (by rw [hll]; exact hlt) 3 _ (Nat.le_refl _) rfl
      rw [Nat.add_zero] at c0
      have J1 := hid (And.intro ob1 (And.intro lf1 (And.intro hB1 (I.out.2.2.2.2.below hb1))))
      have y1 : (k : Int) < (rs.length : Int) + 5 := by omega
      by_cases hkn : k < rs.length
      · obtain ⟨go, o, hao, hgo, o0, o1, o2, o3⟩ := wr_cells (HF.out.below hB1) hkn
        obtain rfl : ad = ⟨go, o, none⟩ := by simpa using hao
        rw [List.getElem_append_left hkn] at c0 c1 c2 c3
        have y2 : (k : Int) < (rs.length : Int) := by omega
        generalize rs[k] = en at *
        obtain ⟨ek, en, ev, el⟩ := en
        simp only at c0 c1 c2 c3 o0 o1 o2 o3
        clear ob1 lf1 hB1 hao I hb1 HM7
        have hA := (Below.refl w1.heap.size w1).alloc (Nat.le_refl _) (.cells #[.int .i64 ek, .string en, .string ev, .int .i64 el] 84)
        go_wp2_with fail
        go_quiet (fail)
        go_wp2_with fail
        refine (HM9.out _).mono ?_
        rintro e w3 ⟨rfl, hb3⟩
        have h13 : Below w1.heap.size w1 w3 := bel_of (below_drewN hA _) hb3
        have ob3 := J1.out.1.below h13 hg1
        have lf3 := J1.out.2.1.below h13 hg1
        have hB3 : Below w0.heap.size w0 w3 := J1.out.2.2.1.trans (h13.mono J1.out.2.2.1.size)
        have hg3 : g < w3.heap.size := Nat.lt_of_lt_of_le hg1 h13.size
        obtain ⟨v0, hv0⟩ := ob3.cell (k * 4) (by omega)
        obtain ⟨v1, hv1⟩ := ob3.cell (k * 4 + 1) (by omega)
        obtain ⟨v2, hv2⟩ := ob3.cell (k * 4 + 2) (by omega)
        obtain ⟨v3, hv3⟩ := ob3.cell (k * 4 + 3) (by omega)
        have f0 := (ob3 (k * 4) (by omega)).2
        have f1 := (ob3 (k * 4 + 1) (by omega)).2
        have f2 := (ob3 (k * 4 + 2) (by omega)).2
        have f3 := (ob3 (k * 4 + 3) (by omega)).2
        have gls : g < (w3.setCells g (k * 4) (Wr.cells (⟨yk, yn, yv, yl⟩ : Wr))).heap.size := Nat.lt_of_lt_of_le hg3 (below_sets (B := 0) (Below.refl 0 w3) (Nat.zero_le _) _).size
        have J3 : Hid (OwnM g ((rs.length + 5) * 4) (((((w3.setCell ⟨g, k * 4, none⟩ (.int .i64 yk)).setCell ⟨g, k * 4 + 1, none⟩ (.string yn)).setCell ⟨g, k * 4 + 2, none⟩ (.string yv)).setCell ⟨g, k * 4 + 3, none⟩ (.int .i64 yl))) ∧ LfM 4 Wr.cells (rs ++ List.replicate 5 (⟨xk, xn, xv, xl⟩ : Wr)) (k + 1) g (((((w3.setCell ⟨g, k * 4, none⟩ (.int .i64 yk)).setCell ⟨g, k * 4 + 1, none⟩ (.string yn)).setCell ⟨g, k * 4 + 2, none⟩ (.string yv)).setCell ⟨g, k * 4 + 3, none⟩ (.int .i64 yl))) ∧ Below w0.heap.size w0 (((((w3.setCell ⟨g, k * 4, none⟩ (.int .i64 yk)).setCell ⟨g, k * 4 + 1, none⟩ (.string yn)).setCell ⟨g, k * 4 + 2, none⟩ (.string yv)).setCell ⟨g, k * 4 + 3, none⟩ (.int .i64 yl))) ∧ g < (((((w3.setCell ⟨g, k * 4, none⟩ (.int .i64 yk)).setCell ⟨g, k * 4 + 1, none⟩ (.string yn)).setCell ⟨g, k * 4 + 2, none⟩ (.string yv)).setCell ⟨g, k * 4 + 3, none⟩ (.int .i64 yl))).heap.size ∧ KpB g w (((((w3.setCell ⟨g, k * 4, none⟩ (.int .i64 yk)).setCell ⟨g, k * 4 + 1, none⟩ (.string yn)).setCell ⟨g, k * 4 + 2, none⟩ (.string yv)).setCell ⟨g, k * 4 + 3, none⟩ (.int .i64 yl)))) :=
          ⟨ob3.sets (o := k * 4) (Wr.cells (⟨yk, yn, yv, yl⟩ : Wr)) (by show k * 4 + 4 ≤ _; omega), lf3.next (Wr.cells (⟨yk, yn, yv, yl⟩ : Wr)) rfl, below_sets (o := k * 4) hB3 hg (Wr.cells (⟨yk, yn, yv, yl⟩ : Wr)), gls, (J1.out.2.2.2.below h13).sets (o := k * 4) (Wr.cells (⟨yk, yn, yv, yl⟩ : Wr))⟩
        clear ob3 lf3 hB3 J1 h13 hb3 hA c0 c1 c2 c3 hg1 gls
        go_wp2
        exact ⟨⟨k + 1, by omega, by go_num, rfl, J3.out⟩, by simp [intOf]; omega⟩
      · have e7 : (rs ++ List.replicate 5 (⟨xk, xn, xv, xl⟩ : Wr))[k]'(by rw [hll]; exact hlt) = (⟨xk, xn, xv, xl⟩ : Wr) := by
          rw [List.getElem_append_right (by omega), List.getElem_replicate]
        rw [e7] at c0 c1 c2 c3
        simp only at c0 c1 c2 c3
        have y2 : ¬ (k : Int) < (rs.length : Int) := by omega
        clear ob1 lf1 hB1 I hb1 HM7 e7
        have hA := (Below.refl w1.heap.size w1).alloc (Nat.le_refl _) (.cells #[.int .i64 xk, .string xn, .string xv, .int .i64 xl] 84)
        go_wp2_with fail
        go_quiet (fail)
        go_wp2_with fail
        refine (HM9.out _).mono ?_
        rintro e w3 ⟨rfl, hb3⟩
        have h13 : Below w1.heap.size w1 w3 := bel_of (below_drewN hA _) hb3
        have ob3 := J1.out.1.below h13 hg1
        have lf3 := J1.out.2.1.below h13 hg1
        have hB3 : Below w0.heap.size w0 w3 := J1.out.2.2.1.trans (h13.mono J1.out.2.2.1.size)
        have hg3 : g < w3.heap.size := Nat.lt_of_lt_of_le hg1 h13.size
        obtain ⟨v0, hv0⟩ := ob3.cell (k * 4) (by omega)
        obtain ⟨v1, hv1⟩ := ob3.cell (k * 4 + 1) (by omega)
        obtain ⟨v2, hv2⟩ := ob3.cell (k * 4 + 2) (by omega)
        obtain ⟨v3, hv3⟩ := ob3.cell (k * 4 + 3) (by omega)
        have f0 := (ob3 (k * 4) (by omega)).2
        have f1 := (ob3 (k * 4 + 1) (by omega)).2
        have f2 := (ob3 (k * 4 + 2) (by omega)).2
        have f3 := (ob3 (k * 4 + 3) (by omega)).2
        have gls : g < (w3.setCells g (k * 4) (Wr.cells (⟨yk, yn, yv, yl⟩ : Wr))).heap.size := Nat.lt_of_lt_of_le hg3 (below_sets (B := 0) (Below.refl 0 w3) (Nat.zero_le _) _).size
        have J3 : Hid (OwnM g ((rs.length + 5) * 4) (((((w3.setCell ⟨g, k * 4, none⟩ (.int .i64 yk)).setCell ⟨g, k * 4 + 1, none⟩ (.string yn)).setCell ⟨g, k * 4 + 2, none⟩ (.string yv)).setCell ⟨g, k * 4 + 3, none⟩ (.int .i64 yl))) ∧ LfM 4 Wr.cells (rs ++ List.replicate 5 (⟨xk, xn, xv, xl⟩ : Wr)) (k + 1) g (((((w3.setCell ⟨g, k * 4, none⟩ (.int .i64 yk)).setCell ⟨g, k * 4 + 1, none⟩ (.string yn)).setCell ⟨g, k * 4 + 2, none⟩ (.string yv)).setCell ⟨g, k * 4 + 3, none⟩ (.int .i64 yl))) ∧ Below w0.heap.size w0 (((((w3.setCell ⟨g, k * 4, none⟩ (.int .i64 yk)).setCell ⟨g, k * 4 + 1, none⟩ (.string yn)).setCell ⟨g, k * 4 + 2, none⟩ (.string yv)).setCell ⟨g, k * 4 + 3, none⟩ (.int .i64 yl))) ∧ g < (((((w3.setCell ⟨g, k * 4, none⟩ (.int .i64 yk)).setCell ⟨g, k * 4 + 1, none⟩ (.string yn)).setCell ⟨g, k * 4 + 2, none⟩ (.string yv)).setCell ⟨g, k * 4 + 3, none⟩ (.int .i64 yl))).heap.size ∧ KpB g w (((((w3.setCell ⟨g, k * 4, none⟩ (.int .i64 yk)).setCell ⟨g, k * 4 + 1, none⟩ (.string yn)).setCell ⟨g, k * 4 + 2, none⟩ (.string yv)).setCell ⟨g, k * 4 + 3, none⟩ (.int .i64 yl)))) :=
          ⟨ob3.sets (o := k * 4) (Wr.cells (⟨yk, yn, yv, yl⟩ : Wr)) (by show k * 4 + 4 ≤ _; omega), lf3.next (Wr.cells (⟨yk, yn, yv, yl⟩ : Wr)) rfl, below_sets (o := k * 4) hB3 hg (Wr.cells (⟨yk, yn, yv, yl⟩ : Wr)), gls, (J1.out.2.2.2.below h13).sets (o := k * 4) (Wr.cells (⟨yk, yn, yv, yl⟩ : Wr))⟩
        clear ob3 lf3 hB3 J1 h13 hb3 hA c0 c1 c2 c3 hg1 gls
        go_wp2
        exact ⟨⟨k + 1, by omega, by go_num, rfl, J3.out⟩, by simp [intOf]; omega⟩
    · have hB := hid (And.intro I.out.2.2.1 I.out.2.2.2.2)
      go_wp2
      go_ret
      exact ⟨rfl, hB.out.1, hB.out.2⟩
end Go.Proofs.YtfdhmeojkagokaaGreatDoor

/- A configuration that is lent, and that is looked at again. -/
namespace Go.Proofs.YtfdhmeojkagokaaGreatDoor
open Go.RowKit

def LnR {α : Type} (sz : Nat) (f : α → List Value) (mk : α) (l : List α) (a a' : Option Addr) (c' : Nat) (B : Nat) (w : World) : Prop :=
  (a = none ∧ l = [] ∧ a' = none ∧ c' = 0) ∨ (∃ ad g, a = some ad ∧ a' = some ⟨g, 0, none⟩ ∧ c' = l.length + 5 ∧ B ≤ g ∧ g < w.heap.size ∧ OwnM g ((l.length + 5) * sz) w ∧ LvM sz f (l ++ List.replicate 5 mk) g w)
theorem OwnM.keep {g m : Nat} {w w' : World} (h : OwnM g m w) (hk : w'.heap[g]? = w.heap[g]?) : OwnM g m w' := fun j hj => by
  obtain ⟨h1, h2⟩ := h j hj
  exact ⟨by rw [World.cell?_of_block hk]; exact h1, by rw [World.frozen?_of_block hk]; exact h2⟩
theorem LvM.keep {α : Type} {sz : Nat} {f : α → List Value} {L : List α} {g : Nat} {w w' : World} (h : LvM sz f L g w) (hk : w'.heap[g]? = w.heap[g]?) : LvM sz f L g w' := fun i hi j v hv => by
  rw [World.cell?_of_block hk]; exact h i hi j v hv
theorem LnR.keep {α : Type} {sz : Nat} {f : α → List Value} {mk : α} {l : List α} {a a' : Option Addr} {c' B : Nat} {w w' : World} (h : LnR sz f mk l a a' c' B w) (hz : w.heap.size ≤ w'.heap.size) (hk : ∀ g, a' = some ⟨g, 0, none⟩ → B ≤ g → g < w.heap.size → w'.heap[g]? = w.heap[g]?) : LnR sz f mk l a a' c' B w' := by
  rcases h with h | ⟨ad, g, h1, h2, h3, h4, h5, h6, h7⟩
  · exact .inl h
  · have := hk g h2 h4 h5
    exact .inr ⟨ad, g, h1, h2, h3, h4, Nat.lt_of_lt_of_le h5 hz, h6.keep this, h7.keep this⟩
theorem LnR.below {α : Type} {sz : Nat} {f : α → List Value} {mk : α} {l : List α} {a a' : Option Addr} {c' B : Nat} {w w' : World} (h : LnR sz f mk l a a' c' B w) (hb : Below w.heap.size w w') : LnR sz f mk l a a' c' B w' := h.keep hb.size (fun g _ _ hg => hb.block g hg)
theorem LnR.mu {α : Type} {sz : Nat} {f : α → List Value} {mk : α} {l : List α} {a a' : Option Addr} {c' B : Nat} {w : World} (h : LnR sz f mk l a a' c' B w) : MuAt sz f l a' w := by
  rcases h with ⟨-, rfl, -, -⟩ | ⟨ad, g, -, rfl, -, -, h5, -, h7⟩
  · exact fun i hi => absurd hi (by simp)
  · exact h7.mu h5
theorem LnR.base {α : Type} {sz : Nat} {f : α → List Value} {mk : α} {l : List α} {a a' : Option Addr} {c' B B' : Nat} {w : World} (h : LnR sz f mk l a a' c' B w) (hb : B' ≤ B) : LnR sz f mk l a a' c' B' w := by
  rcases h with h | ⟨ad, g, h1, h2, h3, h4, h5⟩
  · exact .inl h
  · exact .inr ⟨ad, g, h1, h2, h3, Nat.le_trans hb h4, h5⟩
theorem LnR.lt {α : Type} {sz : Nat} {f : α → List Value} {mk : α} {l : List α} {a a' : Option Addr} {c' B : Nat} {w : World} (h : LnR sz f mk l a a' c' B w) : ∀ g, a' = some ⟨g, 0, none⟩ → B ≤ g ∧ g < w.heap.size := fun g hg => by
  rcases h with ⟨-, -, h3, -⟩ | ⟨ad, g', -, h2, -, h4, h5, -⟩
  · rw [h3] at hg; cases hg
  · rw [h2] at hg
    simp only [Option.some.injEq, Addr.mk.injEq, and_true] at hg
    omega
theorem lentRoutes2 (rs : List Rt) (a : Option Addr) (ca : Nat) (w : World) (hz : a = none → rs = [] ∧ ca = 0) (hf : MuAt 6 Rt.cells rs a w) (hn : rs.length ≤ 1000000000) :
    Calls Tryz.prog 19 #[.slice a rs.length ca] w fun e w' => (∃ a' c', e = .returned (.slice a' rs.length c') ∧ LnR 6 Rt.cells (mkR 7) rs a a' c' w.heap.size w') ∧ Below w.heap.size w w' := by
  cases a with
  | none =>
    obtain ⟨rfl, rfl⟩ := hz rfl
    refine (lentRoutes_nil w).mono ?_
    rintro e w' ⟨rfl, rfl⟩
    exact ⟨⟨none, 0, rfl, .inl ⟨rfl, rfl, rfl, rfl⟩⟩, Below.refl _ _⟩
  | some ad =>
    refine (lentRoutes_any rs ad ca w hf hn).mono ?_
    rintro e w' ⟨g, rfl, h1, h2, h3, h4, h5⟩
    exact ⟨⟨_, _, rfl, .inr ⟨ad, g, rfl, rfl, rfl, h1, h2, h3, h4⟩⟩, h5⟩
theorem lentWares2 (rs : List Wr) (a : Option Addr) (ca : Nat) (w : World) (hz : a = none → rs = [] ∧ ca = 0) (hf : MuAt 4 Wr.cells rs a w) (hn : rs.length ≤ 1000000000) :
    Calls Tryz.prog 20 #[.slice a rs.length ca] w fun e w' => (∃ a' c', e = .returned (.slice a' rs.length c') ∧ LnR 4 Wr.cells (mkW 7) rs a a' c' w.heap.size w') ∧ Below w.heap.size w w' := by
  cases a with
  | none =>
    obtain ⟨rfl, rfl⟩ := hz rfl
    refine (lentWares_nil w).mono ?_
    rintro e w' ⟨rfl, rfl⟩
    exact ⟨⟨none, 0, rfl, .inl ⟨rfl, rfl, rfl, rfl⟩⟩, Below.refl _ _⟩
  | some ad =>
    refine (lentWares_any rs ad ca w hf hn).mono ?_
    rintro e w' ⟨g, rfl, h1, h2, h3, h4, h5⟩
    exact ⟨⟨_, _, rfl, .inr ⟨ad, g, rfl, rfl, rfl, h1, h2, h3, h4⟩⟩, h5⟩
def KpA (a : Option Addr) (w w' : World) : Prop := w.heap.size ≤ w'.heap.size ∧ ∀ b, b < w.heap.size → a ≠ some ⟨b, 0, none⟩ → w'.heap[b]? = w.heap[b]?
theorem wholeRoutes2 (rs : List Rt) (a a' : Option Addr) (ca c' : Nat) (w0 w : World) (hz : a = none → rs = [] ∧ ca = 0) (hf : MuAt 6 Rt.cells rs a w0) (hn : rs.length ≤ 1000000000) (hb : Below w0.heap.size w0 w) (hL : LnR 6 Rt.cells (mkR 7) rs a a' c' w0.heap.size w) :
    Calls Tryz.prog 26 #[.slice a' rs.length c', .slice a rs.length ca] w fun e w' => e = .returned (.bool true) ∧ Below w0.heap.size w0 w' ∧ KpA a' w w' := by
  rcases hL with ⟨rfl, rfl, rfl, rfl⟩ | ⟨ad, g, rfl, rfl, rfl, h4, h5, h6, h7⟩
  · obtain ⟨-, rfl⟩ := hz rfl
    refine (wholeRoutes_nil _ w).mono ?_
    rintro e w' ⟨rfl, rfl⟩
    exact ⟨rfl, hb, Nat.le_refl _, fun _ _ _ => rfl⟩
  · refine (wholeRoutes_any rs ad ca g w0 w hf hn hb h4 h5 h6 h7).mono ?_
    rintro e w' ⟨rfl, k1, k2⟩
    exact ⟨rfl, k1, k2.1, fun b hb' hne => k2.2 b hb' (fun e => hne (by rw [e]))⟩
theorem wholeWares2 (rs : List Wr) (a a' : Option Addr) (ca c' : Nat) (w0 w : World) (hz : a = none → rs = [] ∧ ca = 0) (hf : MuAt 4 Wr.cells rs a w0) (hn : rs.length ≤ 1000000000) (hb : Below w0.heap.size w0 w) (hL : LnR 4 Wr.cells (mkW 7) rs a a' c' w0.heap.size w) :
    Calls Tryz.prog 27 #[.slice a' rs.length c', .slice a rs.length ca] w fun e w' => e = .returned (.bool true) ∧ Below w0.heap.size w0 w' ∧ KpA a' w w' := by
  rcases hL with ⟨rfl, rfl, rfl, rfl⟩ | ⟨ad, g, rfl, rfl, rfl, h4, h5, h6, h7⟩
  · obtain ⟨-, rfl⟩ := hz rfl
    refine (wholeWares_nil _ w).mono ?_
    rintro e w' ⟨rfl, rfl⟩
    exact ⟨rfl, hb, Nat.le_refl _, fun _ _ _ => rfl⟩
  · refine (wholeWares_any rs ad ca g w0 w hf hn hb h4 h5 h6 h7).mono ?_
    rintro e w' ⟨rfl, k1, k2⟩
    exact ⟨rfl, k1, k2.1, fun b hb' hne => k2.2 b hb' (fun e => hne (by rw [e]))⟩
structure CfG (rs : List Rt) (ws : List Wr) (ar : Option Addr) (cr : Nat) (aw : Option Addr) (cw : Nat) (w : World) : Prop where
  r : MuAt 6 Rt.cells rs ar w
  w : MuAt 4 Wr.cells ws aw w
  zr : ar = none → rs = [] ∧ cr = 0
  zw : aw = none → ws = [] ∧ cw = 0
  nr : rs.length ≤ 1000000000
  nw : ws.length ≤ 1000000000
theorem CfG.below {rs : List Rt} {ws : List Wr} {ar : Option Addr} {cr : Nat} {aw : Option Addr} {cw : Nat} {w w' : World} (h : CfG rs ws ar cr aw cw w) (hb : Below w.heap.size w w') : CfG rs ws ar cr aw cw w' := ⟨h.r.below hb, h.w.below hb, h.zr, h.zw, h.nr, h.nw⟩
/- the lists that are lent -/
structure Lt (rs : List Rt) (ws : List Wr) (ar aw a1 a2 : Option Addr) (c1 c2 B : Nat) (w : World) : Prop where
  r : LnR 6 Rt.cells (mkR 7) rs ar a1 c1 B w
  w : LnR 4 Wr.cells (mkW 7) ws aw a2 c2 B w
  d : ∀ b, a1 = some ⟨b, 0, none⟩ → a2 ≠ some ⟨b, 0, none⟩
theorem Lt.below {rs : List Rt} {ws : List Wr} {ar aw a1 a2 : Option Addr} {c1 c2 B : Nat} {w w' : World} (h : Lt rs ws ar aw a1 a2 c1 c2 B w) (hb : Below w.heap.size w w') : Lt rs ws ar aw a1 a2 c1 c2 B w' := ⟨h.r.below hb, h.w.below hb, h.d⟩
theorem Lt.setC {rs : List Rt} {ws : List Wr} {ar aw a1 a2 : Option Addr} {c1 c2 B : Nat} {w : World} (h : Lt rs ws ar aw a1 a2 c1 c2 B w) {g o : Nat} (cs : List Value) (hg : g < B) : Lt rs ws ar aw a1 a2 c1 c2 B (w.setCells g o cs) :=
  ⟨h.r.keep (by rw [sets_size]; exact Nat.le_refl _) (fun b _ hb _ => sets_other g b (by omega) cs o w), h.w.keep (by rw [sets_size]; exact Nat.le_refl _) (fun b _ hb _ => sets_other g b (by omega) cs o w), h.d⟩
/- all blocks but those of two lists stay -/
def Kp2 (a1 a2 : Option Addr) (w w' : World) : Prop := w.heap.size ≤ w'.heap.size ∧ ∀ b, b < w.heap.size → a1 ≠ some ⟨b, 0, none⟩ → a2 ≠ some ⟨b, 0, none⟩ → w'.heap[b]? = w.heap[b]?
theorem kp2_of {a1 a2 : Option Addr} {w w1 w2 w3 : World} (hA : Below w.heap.size w w1) (h1 : KpA a1 w1 w2) (h2 : KpA a2 w2 w3) : Kp2 a1 a2 w w3 :=
  ⟨Nat.le_trans hA.size (Nat.le_trans h1.1 h2.1), fun b hb n1 n2 => by
    have l1 : b < w1.heap.size := Nat.lt_of_lt_of_le hb hA.size
    rw [h2.2 b (Nat.lt_of_lt_of_le l1 h1.1) n2, h1.2 b l1 n1, hA.block b hb]⟩
set_option maxRecDepth 100000 in
set_option maxHeartbeats 2000000 in
theorem whole_any (hd bd hd' bd' : Int) (rs : List Rt) (ws : List Wr) (ar : Option Addr) (cr : Nat) (aw : Option Addr) (cw : Nat) (a1 a2 : Option Addr) (c1 c2 : Nat) (w0 w : World) (hC : CfG rs ws ar cr aw cw w0) (hb : Below w0.heap.size w0 w) (hL : Lt rs ws ar aw a1 a2 c1 c2 w0.heap.size w) :
    Calls Tryz.prog 10 #[.agg #[.int .i64 hd, .int .i64 bd, .slice a1 rs.length c1, .slice a2 ws.length c2], .agg #[.int .i64 hd', .int .i64 bd', .slice ar rs.length cr, .slice aw ws.length cw]] w fun e w' => e = .returned (.bool true) ∧ Below w0.heap.size w0 w' ∧ Kp2 a1 a2 w w' := by
  have HWR := hid (fun W (hW : Below w.heap.size w W) => wholeRoutes2 rs ar a1 cr c1 w0 W hC.zr hC.r hC.nr (hb.trans (hW.mono hb.size)) ((hL.below hW).r))
  have HWW := hid (fun W (hW : Below w0.heap.size w0 W) (hl : LnR 4 Wr.cells (mkW 7) ws aw a2 c2 w0.heap.size W) => wholeWares2 ws aw a2 cw c2 w0 W hC.zw hC.w hC.nw hW hl)
  have hA1 := (Below.refl w.heap.size w).alloc (Nat.le_refl _) (.cells #[.int .i64 hd, .int .i64 bd, .slice a1 rs.length c1, .slice a2 ws.length c2] 27)
  have hA := hA1.alloc hA1.size (.cells #[.int .i64 hd', .int .i64 bd', .slice ar rs.length cr, .slice aw ws.length cw] 27)
  have z1 : (w.alloc (.cells #[.int .i64 hd, .int .i64 bd, .slice a1 rs.length c1, .slice a2 ws.length c2] 27)).heap.size = w.heap.size + 1 := by simp
  have B1 : ((w.alloc (.cells #[.int .i64 hd, .int .i64 bd, .slice a1 rs.length c1, .slice a2 ws.length c2] 27)).alloc (.cells #[.int .i64 hd', .int .i64 bd', .slice ar rs.length cr, .slice aw ws.length cw] 27)).heap[w.heap.size]? = some (.cells #[.int .i64 hd, .int .i64 bd, .slice a1 rs.length c1, .slice a2 ws.length c2] 27) := by
    rw [((Below.refl _ _).alloc (Nat.le_refl _) (.cells #[.int .i64 hd', .int .i64 bd', .slice ar rs.length cr, .slice aw ws.length cw] 27)).block w.heap.size (by rw [z1]; omega)]
    exact heap_alloc_new w _
  have B2 : ((w.alloc (.cells #[.int .i64 hd, .int .i64 bd, .slice a1 rs.length c1, .slice a2 ws.length c2] 27)).alloc (.cells #[.int .i64 hd', .int .i64 bd', .slice ar rs.length cr, .slice aw ws.length cw] 27)).heap[w.heap.size + 1]? = some (.cells #[.int .i64 hd', .int .i64 bd', .slice ar rs.length cr, .slice aw ws.length cw] 27) := by
    rw [← z1]; exact heap_alloc_new _ _
  have HL := hid hL
  have hbz := hb.size
  clear hC z1
  go_enter Tryz.func10, Tryz.ntmps10
  go_wp2_with fail
  generalize (w.alloc (.cells #[.int .i64 hd, .int .i64 bd, .slice a1 rs.length c1, .slice a2 ws.length c2] 27)).alloc (.cells #[.int .i64 hd', .int .i64 bd', .slice ar rs.length cr, .slice aw ws.length cw] 27) = w1 at *
  refine (HWR.out _ hA).mono ?_
  rintro x w2 ⟨rfl, hb2, hk2⟩
  have L1 := HL.out.below hA
  have l1 : w.heap.size + 1 < w1.heap.size := (Array.getElem?_eq_some_iff.1 B2).1
  have h21 : w2.heap[w.heap.size]? = w1.heap[w.heap.size]? := hk2.2 _ (by omega) (fun e => by have := (HL.out.r.lt _ e).2; omega)
  have h22 : w2.heap[w.heap.size + 1]? = w1.heap[w.heap.size + 1]? := hk2.2 _ l1 (fun e => by have := (HL.out.r.lt _ e).2; omega)
  rw [B1] at h21
  rw [B2] at h22
  have e3 : w2.cell? ⟨w.heap.size, 3, none⟩ = some (.slice a2 ws.length c2) := by rw [Lib.cell_of_heap h21]; rfl
  have e4 : w2.cell? ⟨w.heap.size + 1, 3, none⟩ = some (.slice aw ws.length cw) := by rw [Lib.cell_of_heap h22]; rfl
  have m3 := block_lt_of_cell e3
  have m4 := block_lt_of_cell e4
  have HW2 := hid (HWW.out w2 hb2 (L1.w.keep hk2.1 (fun g hg _ hlt => hk2.2 g hlt (fun e => HL.out.d g e hg))))
  have HK2 := hid hk2
  clear HWR HWW h21 h22 B1 B2 hk2 L1
  go_wp2_with fail
  refine HW2.out.mono ?_
  rintro x w3 ⟨rfl, hb3, hk3⟩
  have HK3 := hid (kp2_of hA HK2.out hk3)
  clear hk3
  go_wp2_with fail
  go_ret
  exact ⟨rfl, hb3, HK3.out⟩
end Go.Proofs.YtfdhmeojkagokaaGreatDoor

/- A configuration in a block of its own. -/
namespace Go.Proofs.YtfdhmeojkagokaaGreatDoor
open Go.RowKit

def CfB (g : Nat) (hd bd : Int) (vr vw : Value) (w : World) : Prop := w.heap[g]? = some (.cells #[.int .i64 hd, .int .i64 bd, vr, vw] 27 (0, 0))
theorem CfB.cells {g : Nat} {hd bd : Int} {vr vw : Value} {w : World} (h : CfB g hd bd vr vw w) : w.cell? ⟨g, 0, none⟩ = some (.int .i64 hd) ∧ w.cell? ⟨g, 1, none⟩ = some (.int .i64 bd) ∧ w.cell? ⟨g, 2, none⟩ = some vr ∧ w.cell? ⟨g, 3, none⟩ = some vw := by
  refine ⟨?_, ?_, ?_, ?_⟩ <;> (rw [Lib.cell_of_heap h]; rfl)
theorem CfB.free {g : Nat} {hd bd : Int} {vr vw : Value} {w : World} (h : CfB g hd bd vr vw w) (j : Nat) : w.frozen? ⟨g, j, none⟩ = false := Lib.frozen_of_heap h j
theorem CfB.lt {g : Nat} {hd bd : Int} {vr vw : Value} {w : World} (h : CfB g hd bd vr vw w) : g < w.heap.size := block_lt_of_cell h.cells.1
theorem CfB.below {g : Nat} {hd bd : Int} {vr vw : Value} {w w' : World} (h : CfB g hd bd vr vw w) (hb : Below w.heap.size w w') : CfB g hd bd vr vw w' := by
  have := hb.block g h.lt; unfold CfB at *; rw [this]; exact h
def setC (g : Nat) (hd bd : Int) (vr vw : Value) (w : World) : World := (((w.setCell ⟨g, 0, none⟩ (.int .i64 hd)).setCell ⟨g, 1, none⟩ (.int .i64 bd)).setCell ⟨g, 2, none⟩ vr).setCell ⟨g, 3, none⟩ vw
theorem CfB.set {g : Nat} {hd bd : Int} {vr vw : Value} {w : World} (h : CfB g hd bd vr vw w) (hd' bd' : Int) (vr' vw' : Value) : CfB g hd' bd' vr' vw' (setC g hd' bd' vr' vw' w) := by
  unfold CfB setC at *
  rw [heap_setCell_same _ g 3 _ _ _ (heap_setCell_same _ g 2 _ _ _ (heap_setCell_same _ g 1 _ _ _ (heap_setCell_same _ g 0 _ _ _ h)))]
  rfl
theorem below_setC {g B : Nat} {hd bd : Int} {vr vw : Value} {w w' : World} (h : Below B w w') (hB : B ≤ g) : Below B w (setC g hd bd vr vw w') :=
  (((h.setCell hB _).setCell hB _).setCell hB _).setCell hB _
theorem cell_setC {g b j : Nat} {hd bd : Int} {vr vw : Value} {w : World} (h : b ≠ g) : (setC g hd bd vr vw w).cell? ⟨b, j, none⟩ = w.cell? ⟨b, j, none⟩ := by
  unfold setC
  have hx : ∀ (k : Nat) (x : Value) (W : World), (W.setCell ⟨g, k, none⟩ x).cell? ⟨b, j, none⟩ = W.cell? ⟨b, j, none⟩ := fun k x W => by
    rw [World.cell?_setCell_other _ _ _ _ (fun e => by simp only [Addr.mk.injEq] at e; first | exact h e.1 | exact h e.1.symm)]
  rw [hx, hx, hx, hx]
end Go.Proofs.YtfdhmeojkagokaaGreatDoor

/- A configuration is lent. -/
namespace Go.Proofs.YtfdhmeojkagokaaGreatDoor
open Go.RowKit

def LtPost (hd bd : Int) (rs : List Rt) (ws : List Wr) (ar aw : Option Addr) (w : World) (x : Ending) (w' : World) : Prop :=
  ∃ a1 c1 a2 c2, x = .returned (.agg #[.int .i64 hd, .int .i64 bd, .slice a1 rs.length c1, .slice a2 ws.length c2]) ∧ Lt rs ws ar aw a1 a2 c1 c2 w.heap.size w' ∧ Below w.heap.size w w'
theorem lent_fin {rs : List Rt} {ws : List Wr} {ar aw a1 a2 : Option Addr} {c1 c2 : Nat} {w w1 wA wB : World} {hd bd : Int} {vr vw : Value} (hA : Below w.heap.size w w1) (l1 : w.heap.size + 1 < w1.heap.size) (hbA : Below w1.heap.size w1 wA) (hbB : Below wA.heap.size wA wB) (hr : LnR 6 Rt.cells (mkR 7) rs ar a1 c1 w1.heap.size wA) (hw : LnR 4 Wr.cells (mkW 7) ws aw a2 c2 wA.heap.size wB) :
    Lt rs ws ar aw a1 a2 c1 c2 w.heap.size (setC (w.heap.size + 1) hd bd vr vw wB) ∧ Below w.heap.size w (setC (w.heap.size + 1) hd bd vr vw wB) := by
  have h1 : Lt rs ws ar aw a1 a2 c1 c2 w1.heap.size wB := ⟨hr.below hbB, hw.base hbA.size, fun b e1 e2 => by
    have := (hr.lt b e1).2
    have := (hw.lt b e2).1
    omega⟩
  have h2 := h1.setC (g := w.heap.size + 1) (o := 0) [.int .i64 hd, .int .i64 bd, vr, vw] (by omega)
  refine ⟨⟨h2.r.base (by omega), h2.w.base (by omega), h2.d⟩, ?_⟩
  exact below_setC (bel_of (bel_of hA hbA) hbB) (Nat.le_succ _)
set_option maxRecDepth 100000 in
set_option maxHeartbeats 2000000 in
theorem lent_any (hd bd : Int) (rs : List Rt) (ws : List Wr) (ar : Option Addr) (cr : Nat) (aw : Option Addr) (cw : Nat) (w : World) (hC : CfG rs ws ar cr aw cw w) :
    Calls Tryz.prog 6 #[.agg #[.int .i64 hd, .int .i64 bd, .slice ar rs.length cr, .slice aw ws.length cw]] w (LtPost hd bd rs ws ar aw w) := by
  have HLR := hid (fun W (hW : Below w.heap.size w W) => lentRoutes2 rs ar cr W hC.zr (hC.r.below hW) hC.nr)
  have HLW := hid (fun W (hW : Below w.heap.size w W) => lentWares2 ws aw cw W hC.zw (hC.w.below hW) hC.nw)
  have hA1 := (Below.refl w.heap.size w).alloc (Nat.le_refl _) (.cells #[.int .i64 hd, .int .i64 bd, .slice ar rs.length cr, .slice aw ws.length cw] 27)
  have hA := hA1.alloc hA1.size (.cells #[.int .i64 0, .int .i64 0, .slice none 0 0, .slice none 0 0] 27)
  have z1 : (w.alloc (.cells #[.int .i64 hd, .int .i64 bd, .slice ar rs.length cr, .slice aw ws.length cw] 27)).heap.size = w.heap.size + 1 := by simp
  have g0 : CfB w.heap.size hd bd (.slice ar rs.length cr) (.slice aw ws.length cw) (w.alloc (.cells #[.int .i64 hd, .int .i64 bd, .slice ar rs.length cr, .slice aw ws.length cw] 27)) := heap_alloc_new w _
  have g1 := g0.below ((Below.refl _ _).alloc (Nat.le_refl _) (.cells #[.int .i64 0, .int .i64 0, .slice none 0 0, .slice none 0 0] 27))
  have h0 : CfB (w.heap.size + 1) 0 0 (.slice none 0 0) (.slice none 0 0) ((w.alloc (.cells #[.int .i64 hd, .int .i64 bd, .slice ar rs.length cr, .slice aw ws.length cw] 27)).alloc (.cells #[.int .i64 0, .int .i64 0, .slice none 0 0, .slice none 0 0] 27)) := by
    rw [← z1]; exact heap_alloc_new _ _
  clear hC z1 g0 hA1
  go_enter Tryz.func6, Tryz.ntmps6
  go_upto_region 1 with fail
  generalize (w.alloc (.cells #[.int .i64 hd, .int .i64 bd, .slice ar rs.length cr, .slice aw ws.length cw] 27)).alloc (.cells #[.int .i64 0, .int .i64 0, .slice none 0 0, .slice none 0 0] 27) = w1 at *
  obtain ⟨c0, c1, c2, c3⟩ := g1.cells
  have l0 := g1.lt
  have l1 := h0.lt
  have HG := hid (And.intro g1 h0)
  clear g1 h0
  go_region_held3 (fun W => W.cell? ⟨w.heap.size, 0, none⟩ = some (.int .i64 hd) ∧ W.cell? ⟨w.heap.size, 1, none⟩ = some (.int .i64 bd) ∧ W.cell? ⟨w.heap.size, 2, none⟩ = some (.slice ar rs.length cr) ∧ W.cell? ⟨w.heap.size, 3, none⟩ = some (.slice aw ws.length cw)) (first | go_keep | exact ⟨(cell_setC ne1).trans s0, (cell_setC ne1).trans s1, (cell_setC ne1).trans s2, (cell_setC ne1).trans s3⟩)
    (first
      | (go_at_call 19; refine (HLR.out _ hA.drew).mono ?_; rintro x wA ⟨⟨a1, k1, rfl, hr⟩, hbA⟩; have hBA := bel_of hA.drew hbA; have hb1A := bel_of (Below.refl w1.heap.size w1).drew hbA; have HRR := hid hr; have r0 := cell_later hb1A c0; have r1 := cell_later hb1A c1; have r2 := cell_later hb1A c2; have r3 := cell_later hb1A c3; clear hr hbA)
      | (go_at_call 20; refine (HLW.out _ hBA).mono ?_; rintro x wB ⟨⟨a2, k2, rfl, hw⟩, hbB⟩; have s0 := cell_later hbB r0; have s1 := cell_later hbB r1; have s2 := cell_later hbB r2; have s3 := cell_later hbB r3; have hB1 := bel_of hb1A hbB; have hF := HG.out.2.below hB1; obtain ⟨t0, t1, t2, t3⟩ := hF.cells; have u0 := hF.free 0; have u1 := hF.free 1; have u2 := hF.free 2; have u3 := hF.free 3; have lF := hF.lt; have ne1 : w.heap.size ≠ w.heap.size + 1 := Nat.ne_of_lt (Nat.lt_succ_self _); have KF := lent_fin (hd := hd) (bd := bd) (vr := .slice a1 rs.length k1) (vw := .slice a2 ws.length k2) hA l1 hb1A hbB HRR.out hw; obtain ⟨d0, d1, d2, d3⟩ := (hF.set hd bd (.slice a1 rs.length k1) (.slice a2 ws.length k2)).cells; have HKF := hid KF; unfold setC at d0 d1 d2 d3; clear hw hbB KF hF))
  all_goals
    go_wp2_with fail
    refine bodyPost_ret (v := .agg #[.int .i64 hd, .int .i64 bd, .slice a1 rs.length k1, .slice a2 ws.length k2]) (by simp [results, Tryz.results6, go_sem, d0, d1, d2, d3]) rfl ?_
    exact ⟨_, _, _, _, rfl, HKF.out.1, HKF.out.2⟩
end Go.Proofs.YtfdhmeojkagokaaGreatDoor
