/- Texts that follow one another, joined. -/
import Derived.Test.YtfdhmeojkagokaaGreatDoorJoin41
import Derived.Test.YtfdhmeojkagokaaGreatDoorJoin38
/- lentInts and wholeInts: a list of the same with marks in its spare room, in new memory, and it is as it was; nothing old in memory turns. -/
namespace Go.Proofs.YtfdhmeojkagokaaGreatDoor
open Go.RowKit

def ZvAt (L : List Int) (g : Nat) (w : World) : Prop := ∀ i (h : i < L.length), w.cell? ⟨g, i, none⟩ = some (.int .i64 L[i])
theorem ZvAt.below {L : List Int} {g : Nat} {w w' : World} {B : Nat} (h : ZvAt L g w) (hb : Below B w w') (hg : g < B) : ZvAt L g w' := fun i hi => by
  rw [hb.cell hg]; exact h i hi
theorem ZvAt.snoc {L : List Int} {g m : Nat} {w : World} (h : ZvAt L g w) (ho : OwnB g m w) (z : Int) (hm : L.length < m) : ZvAt (L ++ [z]) g (w.setCell ⟨g, L.length, none⟩ (.int .i64 z)) := fun i hi => by
  rw [List.length_append, List.length_singleton] at hi
  by_cases hk : i < L.length
  · rw [List.getElem_append_left hk, World.cell?_setCell_other _ _ _ _ (addr_ne (by omega))]
    exact h i hk
  · obtain rfl : i = L.length := by omega
    rw [List.getElem_append_right (Nat.le_refl _)]
    simp only [Nat.sub_self, List.getElem_cons_zero]
    obtain ⟨u, hu⟩ := ho.cell L.length hm
    rw [World.cell?_setCell_same _ _ _ hu]
def ZfAt (L : List Int) (k g : Nat) (w : World) : Prop := ∀ i (h : i < L.length), k ≤ i → w.cell? ⟨g, i, none⟩ = some (.int .i64 L[i])
theorem ZfAt.next {L : List Int} {k g : Nat} {w : World} (h : ZfAt L k g w) (u : Value) : ZfAt L (k + 1) g (w.setCell ⟨g, k, none⟩ u) := fun i hi hk => by
  rw [World.cell?_setCell_other _ _ _ _ (addr_ne (by omega))]
  exact h i hi (by omega)
end Go.Proofs.YtfdhmeojkagokaaGreatDoor

/- The two lists that are lent to Print: handed out, and as they were behind it; nothing old in memory turns. -/
namespace Go.Proofs.YtfdhmeojkagokaaGreatDoor
open Go.RowKit

set_option maxRecDepth 100000 in
set_option maxHeartbeats 1000000 in
theorem wholeFields_keep (K : World → Prop) (hK1 : ∀ W W', K W → Below W.heap.size W W' → K W') (fs : List Pr2) (ad : Addr) (ca g : Nat) (w0 w : World) (hf : FoAt fs (some ad) w0) (hn : fs.length ≤ 1000000000) (hb : Below w0.heap.size w0 w) (hg : w0.heap.size ≤ g) (hgl : g < w.heap.size)
    (ho : OwnB g ((fs.length + 5) * 2) w) (hl : LvAt (fs ++ List.replicate 5 (mkN 7)) g w) (hK2 : ∀ W k v, K W → K (W.setCell ⟨g, k, none⟩ v)) (hKw : K w) :
    Calls Tryz.prog 11 #[.slice (some ⟨g, 0, none⟩) fs.length (fs.length + 5), .slice (some ad) fs.length ca] w fun e w' => e = .returned (.bool true) ∧ Below w0.heap.size w0 w' ∧ K w' := by
  have HF := hid hf
  have HK1 := hid hK1
  have HK2 := hid hK2
  have J0 : Hid (OwnB g ((fs.length + 5) * 2) w ∧ LfAt (fs ++ List.replicate 5 (mkN 7)) 0 g w ∧ Below w0.heap.size w0 w ∧ g < w.heap.size ∧ K w) := ⟨ho, fun i hi _ => hl i hi, hb, hgl, hKw⟩
  have HM7 : Hid (∀ W : World, Calls Tryz.prog 28 #[.int .i64 7] W fun e w' => e = .returned (.agg #[.string (mkN 7).1, .string (mkN 7).2]) ∧ Below W.heap.size W w') := fun W => markF_any 7 (by omega) W
  have HM9 : Hid (∀ W : World, Calls Tryz.prog 28 #[.int .i64 9] W fun e w' => e = .returned (.agg #[.string (mkN 9).1, .string (mkN 9).2]) ∧ Below W.heap.size W w') := fun W => markF_any 9 (by omega) W
  have hq := fun W => run_eql_nil (P := Tryz.prog) W 28 70 (some ad) fs.length ca Tryz.underlying28
  clear hf ho hl hb hgl hK1 hK2 hKw
  go_enter Tryz.func11, Tryz.ntmps11
  go_wp2_with fail
  go_loopw [7, 8, 9] (fun ok i _ wr => ∃ k : Nat, k ≤ fs.length + 5 ∧ i = .int .i64 k ∧ ok = .bool true ∧ Hid (OwnB g ((fs.length + 5) * 2) wr ∧ LfAt (fs ++ List.replicate 5 (mkN 7)) k g wr ∧ Below w0.heap.size w0 wr ∧ g < wr.heap.size ∧ K wr)) (fun _ i _ _ => fs.length + 5 - (intOf i).toNat)
  case atStart => exact ⟨0, Nat.zero_le _, rfl, rfl, J0.out⟩
  case round =>
    clear J0
    obtain ⟨k, hk, rfl, rfl, I⟩ := hrel
    by_cases hlt : k < fs.length + 5
    · go_wp2_with fail
      refine (HM7.out _).mono ?_
      rintro e w1 ⟨rfl, hb1⟩
      have hg1 : g < w1.heap.size := Nat.lt_of_lt_of_le I.out.2.2.2.1 hb1.size
      have ob1 := I.out.1.below hb1 I.out.2.2.2.1
      have lf1 := I.out.2.1.below hb1 I.out.2.2.2.1
      have hB1 : Below w0.heap.size w0 w1 := I.out.2.2.1.trans (hb1.mono I.out.2.2.1.size)
      have hll : (fs ++ List.replicate 5 (mkN 7)).length = fs.length + 5 := by simp
      obtain ⟨c0, c1⟩ := lf1 k (by rw [hll]; exact hlt) (Nat.le_refl _)
      have k1 := HK1.out _ _ I.out.2.2.2.2 hb1
      have J1 := hid (And.intro ob1 (And.intro lf1 (And.intro hB1 k1)))
      have y1 : (k : Int) < (fs.length : Int) + 5 := by omega
      by_cases hkn : k < fs.length
      · obtain ⟨go, o, e, hgo, o0, o1⟩ := (HF.out.below hB1) k hkn
        obtain rfl : ad = ⟨go, o, none⟩ := by simpa using e
        rw [List.getElem_append_left hkn] at c0 c1
        have y2 : (k : Int) < (fs.length : Int) := by omega
        generalize fs[k].1 = nm at *
        generalize fs[k].2 = vl at *
        clear ob1 lf1 hB1 e I hb1 HM7 k1
        have hA := (Below.refl w1.heap.size w1).alloc (Nat.le_refl _) (.cells #[.string nm, .string vl] 70)
        go_wp2_with fail
        go_quiet (fail)
        go_wp2_with fail
        refine (HM9.out _).mono ?_
        rintro e w3 ⟨rfl, hb3⟩
        have h13 : Below w1.heap.size w1 w3 := bel_of (below_drewN hA _) hb3
        have ob3 := J1.out.1.below h13 hg1
        have lf3 := J1.out.2.1.below h13 hg1
        have hB3 : Below w0.heap.size w0 w3 := J1.out.2.2.1.trans (h13.mono J1.out.2.2.1.size)
        have k3 := HK1.out _ _ J1.out.2.2.2 h13
        have hg3 : g < w3.heap.size := Nat.lt_of_lt_of_le hg1 h13.size
        obtain ⟨v0, hv0⟩ := ob3.cell (k * 2) (by omega)
        obtain ⟨v1, hv1⟩ := ob3.cell (k * 2 + 1) (by omega)
        have f0 := (ob3 (k * 2) (by omega)).2
        have f1 := (ob3 (k * 2 + 1) (by omega)).2
        have J3 : Hid (OwnB g ((fs.length + 5) * 2) ((w3.setCell ⟨g, k * 2, none⟩ (.string (mkN 9).1)).setCell ⟨g, k * 2 + 1, none⟩ (.string (mkN 9).2)) ∧ LfAt (fs ++ List.replicate 5 (mkN 7)) (k + 1) g ((w3.setCell ⟨g, k * 2, none⟩ (.string (mkN 9).1)).setCell ⟨g, k * 2 + 1, none⟩ (.string (mkN 9).2)) ∧ Below w0.heap.size w0 ((w3.setCell ⟨g, k * 2, none⟩ (.string (mkN 9).1)).setCell ⟨g, k * 2 + 1, none⟩ (.string (mkN 9).2)) ∧ g < ((w3.setCell ⟨g, k * 2, none⟩ (.string (mkN 9).1)).setCell ⟨g, k * 2 + 1, none⟩ (.string (mkN 9).2)).heap.size ∧ K ((w3.setCell ⟨g, k * 2, none⟩ (.string (mkN 9).1)).setCell ⟨g, k * 2 + 1, none⟩ (.string (mkN 9).2))) :=
          ⟨(ob3.set _ _).set _ _, lf3.next _ _, (hB3.setCell hg _).setCell hg _, by simpa using hg3, HK2.out _ _ _ (HK2.out _ _ _ k3)⟩
        clear ob3 lf3 hB3 J1 h13 k3 hb3 hA c0 c1 hg1
        generalize (mkN 9).1 = n1 at *
        generalize (mkN 9).2 = n2 at *
        go_wp2
        exact ⟨⟨k + 1, by omega, by go_num, rfl, J3.out⟩, by simp [intOf]; omega⟩
      · have e7 : (fs ++ List.replicate 5 (mkN 7))[k]'(by rw [hll]; exact hlt) = mkN 7 := by
          rw [List.getElem_append_right (by omega), List.getElem_replicate]
        rw [e7] at c0 c1
        have y2 : ¬ (k : Int) < (fs.length : Int) := by omega
        clear ob1 lf1 hB1 I hb1 HM7 e7 k1
        obtain ⟨m1, hm1⟩ : ∃ x, x = (mkN 7).1 := ⟨_, rfl⟩
        obtain ⟨m2, hm2⟩ : ∃ x, x = (mkN 7).2 := ⟨_, rfl⟩
        rw [← hm1] at c0 ⊢
        rw [← hm2] at c1 ⊢
        clear hm1 hm2
        have hA := (Below.refl w1.heap.size w1).alloc (Nat.le_refl _) (.cells #[.string m1, .string m2] 70)
        go_wp2_with fail
        go_quiet (fail)
        go_wp2_with fail
        refine (HM9.out _).mono ?_
        rintro e w3 ⟨rfl, hb3⟩
        have h13 : Below w1.heap.size w1 w3 := bel_of (below_drewN hA _) hb3
        have ob3 := J1.out.1.below h13 hg1
        have lf3 := J1.out.2.1.below h13 hg1
        have hB3 : Below w0.heap.size w0 w3 := J1.out.2.2.1.trans (h13.mono J1.out.2.2.1.size)
        have k3 := HK1.out _ _ J1.out.2.2.2 h13
        have hg3 : g < w3.heap.size := Nat.lt_of_lt_of_le hg1 h13.size
        obtain ⟨v0, hv0⟩ := ob3.cell (k * 2) (by omega)
        obtain ⟨v1, hv1⟩ := ob3.cell (k * 2 + 1) (by omega)
        have f0 := (ob3 (k * 2) (by omega)).2
        have f1 := (ob3 (k * 2 + 1) (by omega)).2
        have J3 : Hid (OwnB g ((fs.length + 5) * 2) ((w3.setCell ⟨g, k * 2, none⟩ (.string (mkN 9).1)).setCell ⟨g, k * 2 + 1, none⟩ (.string (mkN 9).2)) ∧ LfAt (fs ++ List.replicate 5 (mkN 7)) (k + 1) g ((w3.setCell ⟨g, k * 2, none⟩ (.string (mkN 9).1)).setCell ⟨g, k * 2 + 1, none⟩ (.string (mkN 9).2)) ∧ Below w0.heap.size w0 ((w3.setCell ⟨g, k * 2, none⟩ (.string (mkN 9).1)).setCell ⟨g, k * 2 + 1, none⟩ (.string (mkN 9).2)) ∧ g < ((w3.setCell ⟨g, k * 2, none⟩ (.string (mkN 9).1)).setCell ⟨g, k * 2 + 1, none⟩ (.string (mkN 9).2)).heap.size ∧ K ((w3.setCell ⟨g, k * 2, none⟩ (.string (mkN 9).1)).setCell ⟨g, k * 2 + 1, none⟩ (.string (mkN 9).2))) :=
          ⟨(ob3.set _ _).set _ _, lf3.next _ _, (hB3.setCell hg _).setCell hg _, by simpa using hg3, HK2.out _ _ _ (HK2.out _ _ _ k3)⟩
        clear ob3 lf3 hB3 J1 h13 k3 hb3 hA c0 c1 hg1
        generalize (mkN 9).1 = n1 at *
        generalize (mkN 9).2 = n2 at *
        go_wp2
        exact ⟨⟨k + 1, by omega, by go_num, rfl, J3.out⟩, by simp [intOf]; omega⟩
    · have hB := I.out.2.2.1
      go_wp2
      go_ret
      exact ⟨rfl, hB, I.out.2.2.2.2⟩
theorem FoAt.nil' (a : Option Addr) (w : World) : FoAt [] a w := fun i hi => absurd hi (by simp)
theorem ZoAt.nil' (a : Option Addr) (w : World) : ZoAt [] a w := fun i hi => absurd hi (by simp)
end Go.Proofs.YtfdhmeojkagokaaGreatDoor

/- prints and Prints: what the program's Print tells is what the reference's tells, and the lists that were lent are as they were. -/
namespace Go.Proofs.YtfdhmeojkagokaaGreatDoor
open Go.RowKit

theorem pnum_any (n : Int) (w : World) : Calls Tryz.prog 13 #[.int .i64 n] w fun e w' => e = .returned (.int .i64 n) ∧ w' = w := by
  go_enter Tryz.func13, Tryz.ntmps13
  go_wp2
  go_ret
  exact ⟨rfl, rfl⟩
end Go.Proofs.YtfdhmeojkagokaaGreatDoor

/- A request lent and looked at again, the lent list in a block of its own. -/
namespace Go.Proofs.YtfdhmeojkagokaaGreatDoor
open Go.RowKit

def LfR (fs : List Pr2) (a a' : Option Addr) (c' B : Nat) (w : World) : Prop :=
  (a = none ∧ a' = none ∧ fs = [] ∧ c' = 0) ∨ ∃ ad g, a = some ad ∧ a' = some ⟨g, 0, none⟩ ∧ c' = fs.length + 5 ∧ B ≤ g ∧ g < w.heap.size ∧ OwnB g ((fs.length + 5) * 2) w ∧ LvAt (fs ++ List.replicate 5 (mkN 7)) g w
theorem LfR.keep {fs : List Pr2} {a a' : Option Addr} {c' B : Nat} {w w' : World} (h : LfR fs a a' c' B w) (hz : w.heap.size ≤ w'.heap.size) (hk : ∀ g, a' = some ⟨g, 0, none⟩ → B ≤ g → g < w.heap.size → w'.heap[g]? = w.heap[g]?) : LfR fs a a' c' B w' := by
  rcases h with h | ⟨ad, g, h1, h2, h3, h4, h5, h6, h7⟩
  · exact .inl h
  · have e := hk g h2 h4 h5
    refine .inr ⟨ad, g, h1, h2, h3, h4, by omega, fun j hj => ?_, fun i hi => ?_⟩
    · rw [World.cell?_of_block (w := w) e, World.frozen?_of_block (w := w) e]; exact h6 j hj
    · exact ⟨(World.cell?_of_block (w := w) (a := ⟨g, _, none⟩) e).trans (h7 i hi).1, (World.cell?_of_block (w := w) (a := ⟨g, _, none⟩) e).trans (h7 i hi).2⟩
theorem LfR.below {fs : List Pr2} {a a' : Option Addr} {c' B : Nat} {w w' : World} (h : LfR fs a a' c' B w) (hb : Below w.heap.size w w') : LfR fs a a' c' B w' := h.keep hb.size (fun g _ _ hg => hb.block g hg)
theorem LfR.base {fs : List Pr2} {a a' : Option Addr} {c' B B' : Nat} {w : World} (h : LfR fs a a' c' B w) (hb : B' ≤ B) : LfR fs a a' c' B' w := by
  rcases h with h | ⟨ad, g, h1, h2, h3, h4, h5⟩
  · exact .inl h
  · exact .inr ⟨ad, g, h1, h2, h3, by omega, h5⟩
theorem LfR.fl {fs : List Pr2} {a a' : Option Addr} {c' B : Nat} {w : World} (h : LfR fs a a' c' B w) : FlAt fs a' w := by
  rcases h with ⟨-, -, rfl, -⟩ | ⟨ad, g, h1, h2, h3, h4, h5, h6, h7⟩
  · exact fun i hi => absurd hi (by simp)
  · intro i hi
    have := h7 i (by simp; omega)
    rw [List.getElem_append_left hi] at this
    exact ⟨g, h2, h5, this.1, this.2⟩
theorem LfR.lt {fs : List Pr2} {a a' : Option Addr} {c' B : Nat} {w : World} (h : LfR fs a a' c' B w) : ∀ g, a' = some ⟨g, 0, none⟩ → B ≤ g ∧ g < w.heap.size := fun g hg => by
  rcases h with ⟨-, h2, -⟩ | ⟨ad, g', h1, h2, h3, h4, h5, -⟩
  · rw [h2] at hg; cases hg
  · rw [h2] at hg; cases hg; exact ⟨h4, h5⟩
theorem lentF2 (fs : List Pr2) (a : Option Addr) (ca : Nat) (w : World) (hf : FoAt fs a w) (ha : a = none → fs = [] ∧ ca = 0) (hn : fs.length ≤ 1000000000) :
    Calls Tryz.prog 21 #[.slice a fs.length ca] w fun e w' => ∃ a' ca', e = .returned (.slice a' fs.length ca') ∧ LfR fs a a' ca' w.heap.size w' ∧ Below w.heap.size w w' := by
  cases a with
  | none =>
    obtain ⟨rfl, rfl⟩ := ha rfl
    refine (lentFields_nil w).mono ?_
    rintro e w' ⟨rfl, rfl⟩
    exact ⟨none, 0, rfl, .inl ⟨rfl, rfl, rfl, rfl⟩, Below.refl _ _⟩
  | some ad =>
    refine (lentFields_any fs ad ca w hf hn).mono ?_
    rintro e w' ⟨g, rfl, h1, h2, h3, h4, h5⟩
    exact ⟨_, _, rfl, .inr ⟨ad, g, rfl, rfl, rfl, h1, h2, h3, h4⟩, h5⟩
theorem kpA_below {a : Option Addr} {w W W' : World} (h : KpA a w W) (hb : Below W.heap.size W W') : KpA a w W' :=
  ⟨Nat.le_trans h.1 hb.size, fun b hb1 hb2 => by rw [hb.block b (Nat.lt_of_lt_of_le hb1 h.1)]; exact h.2 b hb1 hb2⟩
theorem wholeF2 (fs : List Pr2) (a a' : Option Addr) (ca c' : Nat) (w0 w : World) (hf : FoAt fs a w0) (ha : a = none → fs = [] ∧ ca = 0) (hn : fs.length ≤ 1000000000) (hb : Below w0.heap.size w0 w) (hL : LfR fs a a' c' w0.heap.size w) :
    Calls Tryz.prog 11 #[.slice a' fs.length c', .slice a fs.length ca] w fun e w' => e = .returned (.bool true) ∧ Below w0.heap.size w0 w' ∧ KpA a' w w' := by
  rcases hL with ⟨rfl, rfl, rfl, rfl⟩ | ⟨ad, g, rfl, rfl, rfl, h4, h5, h6, h7⟩
  · obtain ⟨-, rfl⟩ := ha rfl
    refine (wholeFields_nil _ w).mono ?_
    rintro e W' ⟨rfl, rfl⟩
    exact ⟨rfl, hb, Nat.le_refl _, fun _ _ _ => rfl⟩
  · refine wholeFields_keep (KpA (some ⟨g, 0, none⟩) w) (fun W W' h hb => kpA_below h hb) fs ad ca g w0 w hf hn hb h4 h5 h6 h7 (fun W k v h => ⟨by simpa [World.setCell] using h.1, fun b hb1 hb2 => ?_⟩) ⟨Nat.le_refl _, fun _ _ _ => rfl⟩
    have hne : b ≠ g := fun e => hb2 (by rw [e])
    rw [heap_setCell_other _ ⟨g, k, none⟩ b _ hne]
    exact h.2 b hb1 hb2
set_option maxRecDepth 100000 in
set_option maxHeartbeats 2000000 in
theorem lentRequest2 (m t : ByteArray) (fs : List Pr2) (a : Option Addr) (ca : Nat) (body : ByteArray) (w : World) (hf : FoAt fs a w) (ha : a = none → fs = [] ∧ ca = 0) (hn : fs.length ≤ 1000000000) :
    Calls Tryz.prog 7 #[.agg #[.string m, .string t, .slice a fs.length ca, .string body]] w fun e w' => ∃ a' ca', e = .returned (.agg #[.string m, .string t, .slice a' fs.length ca', .string body]) ∧ LfR fs a a' ca' w.heap.size w' ∧ Below w.heap.size w w' := by
  have hA := (Below.refl w.heap.size w).alloc (Nat.le_refl _) (.cells #[.string m, .string t, .slice a fs.length ca, .string body] 30)
  have hA2 := hA.alloc hA.size (.cells #[.string ⟨#[]⟩, .string ⟨#[]⟩, .slice none 0 0, .string ⟨#[]⟩] 30)
  have ro1 : RoAt w.heap.size m t (.slice a fs.length ca) body (w.alloc (.cells #[.string m, .string t, .slice a fs.length ca, .string body] 30)) := heap_alloc_new w _
  have z1 : (w.alloc (.cells #[.string m, .string t, .slice a fs.length ca, .string body] 30)).heap.size = w.heap.size + 1 := by simp
  have ro2 := ro1.below ((Below.refl _ _).alloc (Nat.le_refl _) (.cells #[.string ⟨#[]⟩, .string ⟨#[]⟩, .slice none 0 0, .string ⟨#[]⟩] 30)) ro1.lt
  have rz2 : RoAt (w.heap.size + 1) ⟨#[]⟩ ⟨#[]⟩ (.slice none 0 0) ⟨#[]⟩ ((w.alloc (.cells #[.string m, .string t, .slice a fs.length ca, .string body] 30)).alloc (.cells #[.string ⟨#[]⟩, .string ⟨#[]⟩, .slice none 0 0, .string ⟨#[]⟩] 30)) := by
    have := heap_alloc_new (w.alloc (.cells #[.string m, .string t, .slice a fs.length ca, .string body] 30)) (.cells #[.string ⟨#[]⟩, .string ⟨#[]⟩, .slice none 0 0, .string ⟨#[]⟩] 30)
    rw [z1] at this; exact this
  have HL := hid (lentF2 fs a ca _ (hf.below hA2) ha hn)
  clear hf ha ro1 z1
  go_enter Tryz.func7, Tryz.ntmps7
  go_wp2_with fail
  generalize (w.alloc (.cells #[.string m, .string t, .slice a fs.length ca, .string body] 30)).alloc (.cells #[.string ⟨#[]⟩, .string ⟨#[]⟩, .slice none 0 0, .string ⟨#[]⟩] 30) = w1 at *
  refine HL.out.mono ?_
  rintro e w2 ⟨a', ca', rfl, hL, hb2⟩
  have ro3 := ro2.below hb2 ro2.lt
  have rz3 := rz2.below hb2 rz2.lt
  have hB2 := bel_of hA2 hb2
  have sz1 := rz2.lt
  clear HL
  obtain ⟨c0, c1, c2, c3⟩ := ro3.cells
  have al3 := ro3.lt
  obtain ⟨e0, e1, e2, e3⟩ := rz3.cells
  have al4 := rz3.lt
  have f2 : w2.frozen? ⟨w.heap.size, 2, none⟩ = false := Lib.frozen_of_heap ro3 2
  have g0 : w2.frozen? ⟨w.heap.size + 1, 0, none⟩ = false := Lib.frozen_of_heap rz3 0
  have g1 : w2.frozen? ⟨w.heap.size + 1, 1, none⟩ = false := Lib.frozen_of_heap rz3 1
  have g2 : w2.frozen? ⟨w.heap.size + 1, 2, none⟩ = false := Lib.frozen_of_heap rz3 2
  have g3 : w2.frozen? ⟨w.heap.size + 1, 3, none⟩ = false := Lib.frozen_of_heap rz3 3
  have HH := hid hL
  clear hL ro2 rz2 hA hA2
  go_wp2
  refine bodyPost_ret (v := .agg #[.string m, .string t, .slice a' fs.length ca', .string body]) (by simp [results, Tryz.results7, go_sem, e0, e1, e2, e3]) rfl ?_
  refine ⟨a', ca', rfl, ?_, ((((hB2.setCell (Nat.le_refl _) _).setCell (Nat.le_succ _) _).setCell (Nat.le_succ _) _).setCell (Nat.le_succ _) _).setCell (Nat.le_succ _) _⟩
  refine (HH.out.keep (by simp [World.setCell]) (fun g _ hg _ => ?_)).base (by omega)
  have n1 : g ≠ w.heap.size := by omega
  have n2 : g ≠ w.heap.size + 1 := by omega
  rw [heap_setCell_other _ _ g _ n2, heap_setCell_other _ _ g _ n2, heap_setCell_other _ _ g _ n2, heap_setCell_other _ _ g _ n2, heap_setCell_other _ _ g _ n1]
end Go.Proofs.YtfdhmeojkagokaaGreatDoor
