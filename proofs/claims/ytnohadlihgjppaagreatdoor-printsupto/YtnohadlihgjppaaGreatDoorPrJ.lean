/- lentInts and wholeInts: a list of the same with marks in its spare room, in new memory, and it is as it was; nothing old in memory turns. -/
import Derived.Test.YtnohadlihgjppaaGreatDoorPrI
import Derived.Test.YtnohadlihgjppaaGreatDoorRnG
namespace Go.Proofs.YtnohadlihgjppaaGreatDoor
open Go.RowKit

def ZvAt (L : List Int) (g : Nat) (w : World) : Prop := ∀ i (h : i < L.length), w.cell? ⟨g, i, none⟩ = some (.int .i64 L[i])
theorem ZvAt.below {L : List Int} {g : Nat} {w w' : World} {B : Nat} (h : ZvAt L g w) (hb : Below B w w') (hg : g < B) : ZvAt L g w' := fun i hi => by
  rw [hb.cell hg]; exact h i hi
theorem ZvAt.zo {L zs : List Int} {g : Nat} {w : World} (h : ZvAt (zs ++ L) g w) (hg : g < w.heap.size) : ZoAt zs (some ⟨g, 0, none⟩) w := fun i hi => by
  have h1 := h i (by rw [List.length_append]; omega)
  rw [List.getElem_append_left hi] at h1
  exact ⟨g, 0, rfl, hg, by simpa using h1⟩
theorem ZvAt.snoc {L : List Int} {g m : Nat} {w : World} (h : ZvAt L g w) (ho : OwnB g m w) (z : Int) (hm : L.length < m) : ZvAt (L ++ [z]) g (w.setCell ⟨g, L.length, none⟩ (.int .i64 z)) := fun i hi => by
  rw [List.length_append, List.length_singleton] at hi
  by_cases hk : i < L.length
  · rw [List.getElem_append_left hk, World.cell?_setCell_other _ _ _ _ (addr_ne (by omega))]
    exact h i hk
  · obtain rfl : i = L.length := by omega
    rw [List.getElem_append_right (Nat.le_refl _)]
    simp only [Nat.sub_self, List.getElem_cons_zero]
    obtain ⟨u, hu⟩ := ho.cell L.length hm
    rw [World.cell?_setCell_same _ _ _ hu]
def zC (zs : List Int) : List Value := zs.map (.int .i64 ·)
theorem zC_len (zs : List Int) : (zC zs).length = zs.length := by simp [zC]
theorem zC_one (zs : List Int) : ∀ u ∈ zC zs, u.oneCell' = true := fun u hu => by
  obtain ⟨z, _, rfl⟩ := List.mem_map.mp hu; rfl
theorem zo_src {zs : List Int} {ad : Addr} {w : World} (h : ZoAt zs (some ad) w) : ∀ j v, (zC zs)[j]? = some v → w.cell? (ad.add j) = some v := fun j v hj => by
  have hl : j < (zC zs).length := (List.getElem?_eq_some_iff.1 hj).1
  rw [zC_len] at hl
  obtain ⟨g, o, e, _, h1⟩ := h j hl
  obtain rfl : ad = ⟨g, o, none⟩ := by simpa using e
  rw [Addr.add_lit, h1]
  simp [zC, List.getElem?_eq_getElem hl] at hj
  rw [← hj]
theorem owns_ownB1 {w : World} {B : Nat} {e : TypeId} {g n : Nat} {xs : List Value} (h : w.ownsRow B e 1 (.slice (some ⟨g, 0, none⟩) n n) n xs) : OwnB g n w ∧ g < w.heap.size := by
  rcases h.2 with ⟨h2, _⟩ | ⟨g', cap, cur, hv, hB, hg, hc, hm, hsz, ht⟩
  · cases h2
  · simp only [Value.slice.injEq, Option.some.injEq, Addr.mk.injEq, and_true, true_and] at hv
    obtain ⟨rfl, rfl⟩ := hv
    refine ⟨fun j hj => ⟨?_, Lib.frozen_of_heap hg j⟩, ?_⟩
    · rw [Lib.cell_of_heap hg]; simp; omega
    · rcases Nat.lt_or_ge g w.heap.size with h' | h'
      · exact h'
      · simp [Array.getElem?_eq_none h'] at hg
theorem own_copied1 {g m : Nat} {w : World} (h : OwnB g m w) (zs : List Int) (hl : zs.length ≤ m) : OwnB g m (w.setCells g 0 (zC zs)) ∧ ZvAt zs g (w.setCells g 0 (zC zs)) := by
  have hin := World.cell?_setCells_in g (zC zs) 0 w (fun j hj => by rw [zC_len] at hj; simpa using (h j (by omega)).1)
  have hin' : ∀ j (hj : j < (zC zs).length), (w.setCells g 0 (zC zs)).cell? ⟨g, j, none⟩ = some (zC zs)[j] := fun j hj => by simpa using hin j hj
  constructor
  · intro j hj
    refine ⟨?_, by rw [World.frozen?_setCells]; exact (h j hj).2⟩
    by_cases hk : j < (zC zs).length
    · rw [hin' j hk]; rfl
    · rw [World.cell?_setCells_out g (zC zs) 0 w ⟨g, j, none⟩ (fun _ _ => by right; simpa using Nat.le_of_not_lt hk)]; exact (h j hj).1
  · intro i hi
    rw [hin' i (by rw [zC_len]; exact hi)]
    simp [zC]
set_option maxHeartbeats 400000 in
theorem lentInts_nil (w : World) :
    Calls Tryz.prog 18 #[.slice none 0 0] w fun e w' => e = .returned (.slice none 0 0) ∧ w' = w := by
  have hq := fun W => run_eql_nil (P := Tryz.prog) W 37 3 none 0 0 Tryz.underlying37
  go_enter Tryz.func18, Tryz.ntmps18
  go_wp2
  go_ret
  exact ⟨rfl, rfl⟩
theorem Tryz.infoI : (Tryz.prog.info? 3).map (fun i => (i.zero, i.size, i.bytes)) = some (some (.int .i64 0), 1, 8) := by kernel_rfl
set_option maxHeartbeats 400000 in
theorem markInt_any (n : Nat) (hn : n ≤ 9) (w : World) :
    Calls Tryz.prog 29 #[.int .i64 n] w fun e w' => e = .returned (.int .i64 (-1000 - (n : Int))) ∧ w' = w := by
  have hw : wrap64 (-1000 - (n : Int)) = -1000 - (n : Int) := by unfold wrap64; omega
  go_enter Tryz.func29, Tryz.ntmps29
  go_wp2
  go_ret
  exact ⟨rfl, rfl⟩
set_option maxRecDepth 100000 in
set_option maxHeartbeats 1000000 in
theorem lentInts_any (zs : List Int) (ad : Addr) (ca : Nat) (w : World) (hf : ZoAt zs (some ad) w) (hn : zs.length ≤ 1000000000) :
    Calls Tryz.prog 18 #[.slice (some ad) zs.length ca] w fun e w' => ∃ g, e = .returned (.slice (some ⟨g, 0, none⟩) zs.length (zs.length + 5)) ∧ w.heap.size ≤ g ∧ g < w'.heap.size ∧ OwnB g (zs.length + 5) w' ∧ ZvAt (zs ++ List.replicate 5 (-1007)) g w' ∧ Below w.heap.size w w' := by
  obtain ⟨i0, hi, hz0, hz1, hz2⟩ := info_parts Tryz.infoI
  have HF := hid hf
  clear hf
  have hq := fun W => run_eql_nil (P := Tryz.prog) W 37 3 (some ad) zs.length ca Tryz.underlying37
  have HM : Hid (∀ W : World, Calls Tryz.prog 29 #[.int .i64 7] W fun e w' => e = .returned (.int .i64 (-1007)) ∧ w' = W) := fun W => markInt_any 7 (by omega) W
  go_enter Tryz.func18, Tryz.ntmps18
  go_wp2_with (at_make; refine wpList_make_full _ rfl _ _ 37 rfl w.heap.size 3 i0 _ 1 Tryz.underlying37 hi hz0 hz1 .i64 .i64 _ _ (zs.length + 5) rfl rfl (by simp) (by simp) (by rw [hz2]; omega) (by unfold maxLen; omega) (Nat.le_refl _) ?_)
  intro w1 ow1 gr1
  have hB1 : Below w.heap.size w w1 := (Below.refl _ _).grown gr1 (Nat.le_refl _) (fun r hr => by cases hr)
  obtain ⟨ob1, gl1⟩ := owns_ownB1 ow1
  have hcp := run_copy_wide (P := Tryz.prog) w1 37 37 3 3 1 w.heap.size 0 (zs.length + 5) (zs.length + 5) ad zs.length ca (zC zs) Tryz.underlying37 (by rw [hi]; simp [hz1]) (by rw [zC_len]; show _ = min _ _ * 1; rw [Nat.min_eq_left (by omega)]; omega) (zo_src (HF.out.below hB1)) (fun j hj => by rw [zC_len] at hj; simpa using (ob1 j (by omega)).1) (fun j hj => by rw [zC_len] at hj; simpa using (ob1 j (by omega)).2) (zC_one zs)
  obtain ⟨ob2, lv2⟩ := own_copied1 ob1 zs (by omega)
  have hB2 : Below w.heap.size w (w1.setCells w.heap.size 0 (zC zs)) := Lib.below_setCells w.heap.size (Nat.le_refl _) _ _ hB1
  have gl2 : w.heap.size < (w1.setCells w.heap.size 0 (zC zs)).heap.size := Nat.lt_of_lt_of_le gl1 (Lib.below_setCells (B := 0) (a := w1) w.heap.size (Nat.zero_le _) _ _ (Below.refl _ _)).size
  have J2 := hid (And.intro ob2 (And.intro lv2 (And.intro hB2 gl2)))
  clear ow1 gr1 ob1 ob2 lv2 hB2 gl2 hB1
  go_wp2_with (at_builtin; refine Lib.wpList_copy_run _ rfl _ _ 37 37 rfl _ _ rfl rfl hcp ?_)
  generalize w1.setCells w.heap.size 0 (zC zs) = w2 at *
  clear hcp gl1
  go_wp2_with fail
  go_loopw [5] (fun i wr => ∃ q : Nat, q ≤ 5 ∧ i = .int .i64 ((zs.length + q : Nat) : Int) ∧ Hid (OwnB w.heap.size (zs.length + 5) wr ∧ ZvAt (zs ++ List.replicate q (-1007)) w.heap.size wr ∧ Below w.heap.size w wr ∧ w.heap.size < wr.heap.size)) (fun i _ => zs.length + 5 - (intOf i).toNat)
  case atStart => exact ⟨0, by omega, by simp, J2.out.1, by simpa using J2.out.2.1, J2.out.2.2⟩
  case round =>
    clear J2
    obtain ⟨q, hq5, rfl, I⟩ := hrel
    by_cases hlt : q < 5
    · have hc5 : ((zs.length + q : Nat) : Int) = (zs.length : Int) + (q : Int) := by omega
      rw [hc5]
      go_wp2_with fail
      refine (HM.out _).mono ?_
      rintro e w3 ⟨rfl, hw3⟩
      subst hw3
      obtain ⟨ob3, lv3, hB3, gl3⟩ := I.out
      obtain ⟨v0, hv0⟩ := ob3.cell (zs.length + q) (by omega)
      have f0 := (ob3 (zs.length + q) (by omega)).2
      have hll : (zs ++ List.replicate q (-1007 : Int)).length = zs.length + q := by simp
      have ls := lv3.snoc ob3 (-1007) (by rw [hll]; omega)
      rw [hll, List.append_assoc, ← List.replicate_succ'] at ls
      have J3 : Hid (OwnB w.heap.size (zs.length + 5) (w3.setCell ⟨w.heap.size, zs.length + q, none⟩ (.int .i64 (-1007))) ∧ ZvAt (zs ++ List.replicate (q + 1) (-1007)) w.heap.size (w3.setCell ⟨w.heap.size, zs.length + q, none⟩ (.int .i64 (-1007))) ∧ Below w.heap.size w (w3.setCell ⟨w.heap.size, zs.length + q, none⟩ (.int .i64 (-1007))) ∧ w.heap.size < (w3.setCell ⟨w.heap.size, zs.length + q, none⟩ (.int .i64 (-1007))).heap.size) :=
        ⟨ob3.set _ _, ls, hB3.setCell (Nat.le_refl _) _, by simpa using gl3⟩
      have y1 : (zs.length : Int) + (q : Int) < (zs.length : Int) + 5 := by omega
      have y0 : (0 : Int) ≤ (zs.length : Int) + (q : Int) := by omega
      have yn : ((zs.length : Int) + (q : Int)).toNat = zs.length + q := by omega
      clear ob3 lv3 hB3 ls I hc5
      go_wp2
      exact ⟨⟨q + 1, by omega, by rw [show ((zs.length + (q + 1) : Nat) : Int) = (zs.length : Int) + q + 1 from by omega], J3.out⟩, by simp [intOf]; omega⟩
    · have h5 : q = 5 := by omega
      subst h5
      have hB := I.out.2.2.1
      have hc5 : ((zs.length + 5 : Nat) : Int) = (zs.length : Int) + 5 := by omega
      rw [hc5]
      go_wp2
      go_ret
      exact ⟨_, rfl, Nat.le_refl _, I.out.2.2.2, I.out.1, I.out.2.1, I.out.2.2.1⟩
def ZfAt (L : List Int) (k g : Nat) (w : World) : Prop := ∀ i (h : i < L.length), k ≤ i → w.cell? ⟨g, i, none⟩ = some (.int .i64 L[i])
theorem ZfAt.next {L : List Int} {k g : Nat} {w : World} (h : ZfAt L k g w) (u : Value) : ZfAt L (k + 1) g (w.setCell ⟨g, k, none⟩ u) := fun i hi hk => by
  rw [World.cell?_setCell_other _ _ _ _ (addr_ne (by omega))]
  exact h i hi (by omega)
set_option maxHeartbeats 400000 in
theorem wholeInts_nil (v : Value) (w : World) :
    Calls Tryz.prog 22 #[v, .slice none 0 0] w fun e w' => e = .returned (.bool true) ∧ w' = w := by
  have hq := fun W => run_eql_nil (P := Tryz.prog) W 37 3 none 0 0 Tryz.underlying37
  go_enter Tryz.func22, Tryz.ntmps22
  go_wp2
  go_ret
  exact ⟨rfl, rfl⟩
set_option maxRecDepth 100000 in
set_option maxHeartbeats 1000000 in
theorem wholeInts_any (zs : List Int) (ad : Addr) (ca g : Nat) (w0 w : World) (hf : ZoAt zs (some ad) w0) (hn : zs.length ≤ 1000000000) (hb : Below w0.heap.size w0 w) (hg : w0.heap.size ≤ g) (hgl : g < w.heap.size)
    (ho : OwnB g (zs.length + 5) w) (hl : ZvAt (zs ++ List.replicate 5 (-1007)) g w) :
    Calls Tryz.prog 22 #[.slice (some ⟨g, 0, none⟩) zs.length (zs.length + 5), .slice (some ad) zs.length ca] w fun e w' => e = .returned (.bool true) ∧ Below w0.heap.size w0 w' := by
  have HF := hid hf
  have J0 : Hid (OwnB g (zs.length + 5) w ∧ ZfAt (zs ++ List.replicate 5 (-1007)) 0 g w ∧ Below w0.heap.size w0 w ∧ g < w.heap.size) := ⟨ho, fun i hi _ => hl i hi, hb, hgl⟩
  have HM7 : Hid (∀ W : World, Calls Tryz.prog 29 #[.int .i64 7] W fun e w' => e = .returned (.int .i64 (-1007)) ∧ w' = W) := fun W => markInt_any 7 (by omega) W
  have HM9 : Hid (∀ W : World, Calls Tryz.prog 29 #[.int .i64 9] W fun e w' => e = .returned (.int .i64 (-1009)) ∧ w' = W) := fun W => markInt_any 9 (by omega) W
  have hq := fun W => run_eql_nil (P := Tryz.prog) W 37 3 (some ad) zs.length ca Tryz.underlying37
  clear hf ho hl hb hgl
  go_enter Tryz.func22, Tryz.ntmps22
  go_wp2_with fail
  go_loopw [7, 8, 9] (fun ok i _ wr => ∃ k : Nat, k ≤ zs.length + 5 ∧ i = .int .i64 k ∧ ok = .bool true ∧ Hid (OwnB g (zs.length + 5) wr ∧ ZfAt (zs ++ List.replicate 5 (-1007)) k g wr ∧ Below w0.heap.size w0 wr ∧ g < wr.heap.size)) (fun _ i _ _ => zs.length + 5 - (intOf i).toNat)
  case atStart => exact ⟨0, Nat.zero_le _, rfl, rfl, J0.out⟩
  case round =>
    clear J0
    obtain ⟨k, hk, rfl, rfl, I⟩ := hrel
    by_cases hlt : k < zs.length + 5
    · go_wp2_with fail
      refine (HM7.out _).mono ?_
      rintro e w1 ⟨rfl, hw1⟩
      subst hw1
      obtain ⟨ob1, lf1, hB1, hg1⟩ := I.out
      have hll : (zs ++ List.replicate 5 (-1007 : Int)).length = zs.length + 5 := by simp
      have c0 := lf1 k (by rw [hll]; exact hlt) (Nat.le_refl _)
      obtain ⟨v0, hv0⟩ := ob1.cell k hlt
      have f0 := (ob1 k hlt).2
      have J3 : Hid (OwnB g (zs.length + 5) (w1.setCell ⟨g, k, none⟩ (.int .i64 (-1009))) ∧ ZfAt (zs ++ List.replicate 5 (-1007)) (k + 1) g (w1.setCell ⟨g, k, none⟩ (.int .i64 (-1009))) ∧ Below w0.heap.size w0 (w1.setCell ⟨g, k, none⟩ (.int .i64 (-1009))) ∧ g < (w1.setCell ⟨g, k, none⟩ (.int .i64 (-1009))).heap.size) :=
        ⟨ob1.set _ _, lf1.next _, hB1.setCell hg _, by simpa using hg1⟩
      have y1 : (k : Int) < (zs.length : Int) + 5 := by omega
      clear hv0
      by_cases hkn : k < zs.length
      · obtain ⟨go, o, e, hgo, o0⟩ := (HF.out.below hB1) k hkn
        obtain rfl : ad = ⟨go, o, none⟩ := by simpa using e
        rw [List.getElem_append_left hkn] at c0
        have y2 : (k : Int) < (zs.length : Int) := by omega
        generalize zs[k] = z at *
        clear ob1 lf1 hB1 e I HM7
        go_wp2_with fail
        refine (HM9.out _).mono ?_
        rintro e w3 ⟨rfl, hw3⟩
        subst hw3
        go_wp2
        exact ⟨⟨k + 1, by omega, by go_num, rfl, J3.out⟩, by simp [intOf]; omega⟩
      · have e7 : (zs ++ List.replicate 5 (-1007 : Int))[k]'(by rw [hll]; exact hlt) = -1007 := by
          rw [List.getElem_append_right (by omega), List.getElem_replicate]
        rw [e7] at c0
        have y2 : ¬ (k : Int) < (zs.length : Int) := by omega
        clear ob1 lf1 hB1 I HM7 e7
        go_wp2_with fail
        refine (HM9.out _).mono ?_
        rintro e w3 ⟨rfl, hw3⟩
        subst hw3
        go_wp2
        exact ⟨⟨k + 1, by omega, by go_num, rfl, J3.out⟩, by simp [intOf]; omega⟩
    · have hB := I.out.2.2.1
      go_wp2
      go_ret
      exact ⟨rfl, hB⟩
end Go.Proofs.YtnohadlihgjppaaGreatDoor
