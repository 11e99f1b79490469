/- Texts that follow one another, joined. -/
import Derived.Test.YtaclpkdfbbnocaaGreatDoorJoin27
/- lentInts and wholeInts: a list of the same with marks in its spare room, in new memory, and it is as it was; nothing old in memory turns. -/
namespace Go.Proofs.YtaclpkdfbbnocaaGreatDoor
open Go.RowKit

def ZvAt (L : List Int) (g : Nat) (w : World) : Prop := ∀ i (h : i < L.length), w.cell? ⟨g, i, none⟩ = some (.int .i64 L[i])
theorem ZvAt.below {L : List Int} {g : Nat} {w w' : World} {B : Nat} (h : ZvAt L g w) (hb : Below B w w') (hg : g < B) : ZvAt L g w' := fun i hi => by
  rw [hb.cell hg]; exact h i hi
theorem ZvAt.zo {L zs : List Int} {g : Nat} {w : World} (h : ZvAt (zs ++ L) g w) (hg : g < w.heap.size) : ZoAt zs (some ⟨g, 0, none⟩) w := fun i hi => by
  have h1 := h i (by rw [List.length_append]; omega)
  rw [List.getElem_append_left hi] at h1
  exact ⟨g, 0, rfl, hg, by simpa using h1⟩
theorem ZvAt.snoc {L : List Int} {g m : Nat} {w : World} (h : ZvAt L g w) (ho : OwnB g m w) (z : Int) (hm : L.length < m) : ZvAt (L ++ [z]) g (w.setCell ⟨g, L.length, none⟩ (.int .i64 z)) := fun i hi => by
  rw [List.length_append, List.length_singleton] at hi
  by_cases hk : i < L.length
  · rw [List.getElem_append_left hk, World.cell?_setCell_other _ _ _ _ (addr_ne (by omega))]
    exact h i hk
  · obtain rfl : i = L.length := by omega
    rw [List.getElem_append_right (Nat.le_refl _)]
    simp only [Nat.sub_self, List.getElem_cons_zero]
    obtain ⟨u, hu⟩ := ho.cell L.length hm
    rw [World.cell?_setCell_same _ _ _ hu]
def zC (zs : List Int) : List Value := zs.map (.int .i64 ·)
theorem zC_len (zs : List Int) : (zC zs).length = zs.length := by simp [zC]
theorem zC_one (zs : List Int) : ∀ u ∈ zC zs, u.oneCell' = true := fun u hu => by
  obtain ⟨z, _, rfl⟩ := List.mem_map.mp hu; rfl
theorem zo_src {zs : List Int} {ad : Addr} {w : World} (h : ZoAt zs (some ad) w) : ∀ j v, (zC zs)[j]? = some v → w.cell? (ad.add j) = some v := fun j v hj => by
  have hl : j < (zC zs).length := (List.getElem?_eq_some_iff.1 hj).1
  rw [zC_len] at hl
  obtain ⟨g, o, e, _, h1⟩ := h j hl
  obtain rfl : ad = ⟨g, o, none⟩ := by simpa using e
  rw [Addr.add_lit, h1]
  simp [zC, List.getElem?_eq_getElem hl] at hj
  rw [← hj]
theorem owns_ownB1 {w : World} {B : Nat} {e : TypeId} {g n : Nat} {xs : List Value} (h : w.ownsRow B e 1 (.slice (some ⟨g, 0, none⟩) n n) n xs) : OwnB g n w ∧ g < w.heap.size := by
  rcases h.2 with ⟨h2, _⟩ | ⟨g', cap, cur, hv, hB, hg, hc, hm, hsz, ht⟩
  · cases h2
  · simp only [Value.slice.injEq, Option.some.injEq, Addr.mk.injEq, and_true, true_and] at hv
    obtain ⟨rfl, rfl⟩ := hv
    refine ⟨fun j hj => ⟨?_, Lib.frozen_of_heap hg j⟩, ?_⟩
    · rw [Lib.cell_of_heap hg]; simp; omega
    · rcases Nat.lt_or_ge g w.heap.size with h' | h'
      · exact h'
      · simp [Array.getElem?_eq_none h'] at hg
theorem own_copied1 {g m : Nat} {w : World} (h : OwnB g m w) (zs : List Int) (hl : zs.length ≤ m) : OwnB g m (w.setCells g 0 (zC zs)) ∧ ZvAt zs g (w.setCells g 0 (zC zs)) := by
  have hin := World.cell?_setCells_in g (zC zs) 0 w (fun j hj => by rw [zC_len] at hj; simpa using (h j (by omega)).1)
  have hin' : ∀ j (hj : j < (zC zs).length), (w.setCells g 0 (zC zs)).cell? ⟨g, j, none⟩ = some (zC zs)[j] := fun j hj => by simpa using hin j hj
  constructor
  · intro j hj
    refine ⟨?_, by rw [World.frozen?_setCells]; exact (h j hj).2⟩
    by_cases hk : j < (zC zs).length
    · rw [hin' j hk]; rfl
    · rw [World.cell?_setCells_out g (zC zs) 0 w ⟨g, j, none⟩ (fun _ _ => by right; simpa using Nat.le_of_not_lt hk)]; exact (h j hj).1
  · intro i hi
    rw [hin' i (by rw [zC_len]; exact hi)]
    simp [zC]
theorem Tryz.infoI : (Tryz.prog.info? 3).map (fun i => (i.zero, i.size, i.bytes)) = some (some (.int .i64 0), 1, 8) := by kernel_rfl
def ZfAt (L : List Int) (k g : Nat) (w : World) : Prop := ∀ i (h : i < L.length), k ≤ i → w.cell? ⟨g, i, none⟩ = some (.int .i64 L[i])
theorem ZfAt.next {L : List Int} {k g : Nat} {w : World} (h : ZfAt L k g w) (u : Value) : ZfAt L (k + 1) g (w.setCell ⟨g, k, none⟩ u) := fun i hi hk => by
  rw [World.cell?_setCell_other _ _ _ _ (addr_ne (by omega))]
  exact h i hi (by omega)
end Go.Proofs.YtaclpkdfbbnocaaGreatDoor

/- The two lists that are lent to Print: handed out, and as they were behind it; nothing old in memory turns. -/
namespace Go.Proofs.YtaclpkdfbbnocaaGreatDoor
open Go.RowKit

theorem FoAt.nil' (a : Option Addr) (w : World) : FoAt [] a w := fun i hi => absurd hi (by simp)
theorem ZoAt.nil' (a : Option Addr) (w : World) : ZoAt [] a w := fun i hi => absurd hi (by simp)
theorem set_far {g g2 k : Nat} {W : World} {v : Value} (h : g ≠ g2) (j : Nat) : (W.setCell ⟨g, k, none⟩ v).cell? ⟨g2, j, none⟩ = W.cell? ⟨g2, j, none⟩ :=
  World.cell?_setCell_other _ _ _ _ (fun e => by simp only [Addr.mk.injEq] at e; first | exact h e.1 | exact h e.1.symm)
set_option maxRecDepth 100000 in
set_option maxHeartbeats 1000000 in
theorem pPrint_any (m t : ByteArray) (fs : List Pr2) (a : Option Addr) (ca : Nat) (body : ByteArray) (how : Int) (zs : List Int) (b : Option Addr) (cb : Nat) (w : World) (hf : FoAt fs a w) (hzo : ZoAt zs b w) (hn : fs.length ≤ 1000000000) (hnz : zs.length ≤ 1000000000) (hm : m.size ≤ 1000000000) (ht : t.size ≤ 1000000000) (hb : body.size ≤ 1000000000)
    (hz : ∀ i (h : i < fs.length), fs[i].1.size ≤ 1000000000 ∧ fs[i].2.size ≤ 1000000000) (hfz : (fldsL fs).length ≤ 10000000000)
    (htb : Lib.TabBelow Tryz.prog w.heap.size w "internal/strconv.uint64pow10" .u64 Lib.pow10Tab) (h15 : w.cell? ⟨6, 15, none⟩ = some (.int .u8 4)) :
    Calls Tryz.prog 13 #[.agg #[.string m, .string t, .slice a fs.length ca, .string body], .int .i64 how, .slice b zs.length cb] w fun e w' => e = .returned (.tuple #[.string ⟨(printS m.data.toList t.data.toList fs body.data.toList how zs).1.toArray⟩, .int .i64 (printS m.data.toList t.data.toList fs body.data.toList how zs).2]) ∧ Below w.heap.size w w' := by
  have hA := (Below.refl w.heap.size w).alloc (Nat.le_refl _) (.cells #[.string m, .string t, .slice a fs.length ca, .string body] 24)
  have HW := hid (wPrint_any m t fs a ca body how zs b cb _ (hf.below hA) (hzo.below hA) hn hnz hm ht hb hz hfz (fun W hW => htb W (bel_of hA hW)) (cell_later hA h15))
  have HA := hid hA
  clear hf htb hA hzo h15 hz
  generalize printS m.data.toList t.data.toList fs body.data.toList how zs = PS at *
  go_enter Tryz.func13, Tryz.ntmps13
  go_wp2_with fail
  refine HW.out.mono ?_
  rintro e w1 ⟨rfl, hb1⟩
  have hB1 := bel_of HA.out hb1
  go_wp2
  go_ret2
  exact ⟨rfl, hB1⟩
end Go.Proofs.YtaclpkdfbbnocaaGreatDoor
