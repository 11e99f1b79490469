/- Texts that follow one another, joined. -/
import Derived.Test.YtaekbmfcnkpelaaGreatDoorJoin16
import Derived.Laws.IdiomCopy
import Derived.Lib.SlBuf
import Derived.OwnWalk
import Derived.Laws.Cover3
import Derived.Test.YtaekbmfcnkpelaaGreatDoorJoin21
import Derived.Laws.Bits64b
/- lentFields: a list of the same with marks in its spare room, in new memory; nothing old in memory turns. -/
namespace Go.Proofs.YtaekbmfcnkpelaaGreatDoor
open Go.RowKit

/- a block's first m cells are there and may be written -/
def OwnB (g m : Nat) (w : World) : Prop := ∀ j, j < m → (w.cell? ⟨g, j, none⟩).isSome = true ∧ w.frozen? ⟨g, j, none⟩ = false
theorem OwnB.below {g m : Nat} {w w' : World} {B : Nat} (h : OwnB g m w) (hb : Below B w w') (hg : g < B) : OwnB g m w' := fun j hj => by
  obtain ⟨h1, h2⟩ := h j hj
  exact ⟨by rw [hb.cell hg]; exact h1, by rw [hb.frozen hg]; exact h2⟩
theorem OwnB.set {g m : Nat} {w : World} (h : OwnB g m w) (k : Nat) (v : Value) : OwnB g m (w.setCell ⟨g, k, none⟩ v) := fun j hj => by
  obtain ⟨h1, h2⟩ := h j hj
  refine ⟨?_, by rw [World.frozen?_setCell]; exact h2⟩
  obtain ⟨u, hu⟩ := Option.isSome_iff_exists.mp h1
  obtain ⟨v', hv'⟩ := cell?_setCell_some (p := ⟨g, k, none⟩) (x := v) hu
  rw [hv']; rfl
theorem OwnB.cell {g m : Nat} {w : World} (h : OwnB g m w) (j : Nat) (hj : j < m) : ∃ v, w.cell? ⟨g, j, none⟩ = some v := Option.isSome_iff_exists.mp (h j hj).1
/- a list that was lent: its cells from the block's head on -/
def LvAt (L : List Pr2) (g : Nat) (w : World) : Prop :=
  ∀ i (h : i < L.length), w.cell? ⟨g, i * 2, none⟩ = some (.string L[i].1) ∧ w.cell? ⟨g, i * 2 + 1, none⟩ = some (.string L[i].2)
theorem LvAt.below {L : List Pr2} {g : Nat} {w w' : World} {B : Nat} (h : LvAt L g w) (hb : Below B w w') (hg : g < B) : LvAt L g w' := fun i hi => by
  obtain ⟨h1, h2⟩ := h i hi
  exact ⟨by rw [hb.cell hg]; exact h1, by rw [hb.cell hg]; exact h2⟩
theorem LvAt.fo {L fs : List Pr2} {g : Nat} {w : World} (h : LvAt (fs ++ L) g w) (hg : g < w.heap.size) : FoAt fs (some ⟨g, 0, none⟩) w := fun i hi => by
  obtain ⟨h1, h2⟩ := h i (by rw [List.length_append]; omega)
  rw [List.getElem_append_left hi] at h1 h2
  exact ⟨g, 0, rfl, hg, by simpa using h1, by simpa using h2⟩
theorem addr_ne {g i j : Nat} (h : i ≠ j) : (⟨g, i, none⟩ : Addr) ≠ ⟨g, j, none⟩ := fun e => by
  simp only [Addr.mk.injEq, and_true, true_and] at e; exact h e
theorem LvAt.snoc {L : List Pr2} {g m : Nat} {w : World} (h : LvAt L g w) (ho : OwnB g m w) (f : Pr2) (hm : L.length * 2 + 1 < m) :
    LvAt (L ++ [f]) g ((w.setCell ⟨g, L.length * 2, none⟩ (.string f.1)).setCell ⟨g, L.length * 2 + 1, none⟩ (.string f.2)) := fun i hi => by
  rw [List.length_append, List.length_singleton] at hi
  by_cases hk : i < L.length
  · obtain ⟨h1, h2⟩ := h i hk
    rw [List.getElem_append_left hk]
    rw [World.cell?_setCell_other _ _ _ _ (addr_ne (by omega)), World.cell?_setCell_other _ _ _ _ (addr_ne (by omega)), World.cell?_setCell_other _ _ _ _ (addr_ne (by omega)), World.cell?_setCell_other _ _ _ _ (addr_ne (by omega))]
    exact ⟨h1, h2⟩
  · obtain rfl : i = L.length := by omega
    rw [List.getElem_append_right (Nat.le_refl _)]
    simp only [Nat.sub_self, List.getElem_cons_zero]
    obtain ⟨u, hu⟩ := ho.cell (L.length * 2) (by omega)
    obtain ⟨v, hv⟩ := (ho.set (L.length * 2) (.string f.1)).cell (L.length * 2 + 1) hm
    exact ⟨by rw [World.cell?_setCell_other _ _ _ _ (addr_ne (by omega)), World.cell?_setCell_same _ _ _ hu], by rw [World.cell?_setCell_same _ _ _ hv]⟩
def flC (fs : List Pr2) : List Value := fs.flatMap fun f => [.string f.1, .string f.2]
theorem flC_len (fs : List Pr2) : (flC fs).length = fs.length * 2 := by
  induction fs with
  | nil => rfl
  | cons a r ih => simp [flC] at ih ⊢; omega
theorem flC_one (ps : List Pr2) : ∀ u ∈ flC ps, u.oneCell' = true := fun u hu => by
  unfold flC at hu
  obtain ⟨f, _, hf⟩ := List.mem_flatMap.mp hu
  simp at hf
  rcases hf with rfl | rfl <;> rfl
theorem flC_get : ∀ (fs : List Pr2) (i : Nat) (h : i < fs.length), (flC fs)[i * 2]? = some (.string fs[i].1) ∧ (flC fs)[i * 2 + 1]? = some (.string fs[i].2)
  | f :: fs, 0, _ => by simp [flC]
  | f :: fs, i + 1, h => by
    have := flC_get fs i (by simpa using h)
    have e : flC (f :: fs) = (.string f.1) :: (.string f.2) :: flC fs := by simp [flC]
    rw [e, show (i + 1) * 2 = i * 2 + 1 + 1 from by omega, List.getElem?_cons_succ, List.getElem?_cons_succ, show i * 2 + 1 + 1 + 1 = (i * 2 + 1) + 1 + 1 from by omega, List.getElem?_cons_succ, List.getElem?_cons_succ]
    exact this
theorem fo_src {fs : List Pr2} {ad : Addr} {w : World} (h : FoAt fs (some ad) w) : ∀ j v, (flC fs)[j]? = some v → w.cell? (ad.add j) = some v := fun j v hj => by
  have hl : j < (flC fs).length := (List.getElem?_eq_some_iff.1 hj).1
  rw [flC_len] at hl
  obtain ⟨g, o, e, _, h1, h2⟩ := h (j / 2) (by omega)
  obtain rfl : ad = ⟨g, o, none⟩ := by simpa using e
  obtain ⟨k1, k2⟩ := flC_get fs (j / 2) (by omega)
  rw [Addr.add_lit]
  rcases Nat.mod_two_eq_zero_or_one j with hm | hm
  · rw [show j / 2 * 2 = j from by omega] at k1 h1
    rw [hj] at k1
    rw [h1]; exact k1.symm
  · rw [show j / 2 * 2 + 1 = j from by omega] at k2
    rw [show o + j / 2 * 2 + 1 = o + j from by omega] at h2
    rw [hj] at k2
    rw [h2]; exact k2.symm
theorem owns_ownB {w : World} {B : Nat} {e : TypeId} {g n : Nat} {xs : List Value} (h : w.ownsRow B e 2 (.slice (some ⟨g, 0, none⟩) n n) n xs) : OwnB g (n * 2) w ∧ g < w.heap.size := by
  rcases h.2 with ⟨h2, _⟩ | ⟨g', cap, cur, hv, hB, hg, hc, hm, hsz, ht⟩
  · cases h2
  · simp only [Value.slice.injEq, Option.some.injEq, Addr.mk.injEq, and_true, true_and] at hv
    obtain ⟨rfl, rfl⟩ := hv
    refine ⟨fun j hj => ⟨?_, Lib.frozen_of_heap hg j⟩, ?_⟩
    · rw [Lib.cell_of_heap hg]; simp; omega
    · rcases Nat.lt_or_ge g w.heap.size with h' | h'
      · exact h'
      · simp [Array.getElem?_eq_none h'] at hg
theorem own_copied {g m : Nat} {w : World} (h : OwnB g m w) (fs : List Pr2) (hl : fs.length * 2 ≤ m) : OwnB g m (w.setCells g 0 (flC fs)) ∧ LvAt fs g (w.setCells g 0 (flC fs)) := by
  have hin := World.cell?_setCells_in g (flC fs) 0 w (fun j hj => by rw [flC_len] at hj; simpa using (h j (by omega)).1)
  have hin' : ∀ j (hj : j < (flC fs).length), (w.setCells g 0 (flC fs)).cell? ⟨g, j, none⟩ = some (flC fs)[j] := fun j hj => by simpa using hin j hj
  constructor
  · intro j hj
    refine ⟨?_, by rw [World.frozen?_setCells]; exact (h j hj).2⟩
    by_cases hk : j < (flC fs).length
    · rw [hin' j hk]; rfl
    · rw [World.cell?_setCells_out g (flC fs) 0 w ⟨g, j, none⟩ (fun _ _ => by right; simpa using Nat.le_of_not_lt hk)]; exact (h j hj).1
  · intro i hi
    obtain ⟨k1, k2⟩ := flC_get fs i hi
    have l := flC_len fs
    constructor
    · rw [hin' (i * 2) (by omega)]; rw [List.getElem?_eq_getElem (by omega)] at k1; exact k1
    · rw [hin' (i * 2 + 1) (by omega)]; rw [List.getElem?_eq_getElem (by omega)] at k2; exact k2
section
variable {P : Program}
theorem run_copy_wide (w : World) (dT sT ty elem : TypeId) (sz b o dLen dCap : Nat) (a : Addr) (sLen sCap : Nat) (cs : List Value)
    (hu : P.underlying dT = some (.slice elem)) (hs : (P.info? elem).map (·.size) = some sz) (hn : cs.length = Nat.min sLen dLen * sz)
    (hsrc : ∀ j v, cs[j]? = some v → w.cell? (a.add j) = some v) (hc : ∀ j, j < cs.length → (w.cell? ⟨b, o + j, none⟩).isSome = true) (hf : ∀ j, j < cs.length → w.frozen? ⟨b, o + j, none⟩ = false) (h1 : ∀ v ∈ cs, v.oneCell' = true) :
    (Builtin.copy_ #[dT, sT] ty #[.slice (some ⟨b, o, none⟩) dLen dCap, .slice (some a) sLen sCap]).run P w = .ok (goInt (Nat.min sLen dLen)) (w.setCells b o cs) := by
  have hl := run_loadCells_list (P := P) w a cs hsrc
  have hst := run_storeCells_cells (P := P) b o cs 0 w (by simpa using hc) (by simpa using hf) h1
  cases hq : P.info? elem with
  | none => simp [hq] at hs
  | some i =>
    have hi : i.size = sz := by simpa [hq] using hs
    simp [Builtin.copy_, run_underlying hu, Builtin.lenOf, Builtin.firstCells, sizeOf, typeInfo, hq, hi, ← hn, hl, hst]
end
section
variable {P : Program}
theorem run_eql_nil (w : World) (t e : TypeId) (a : Option Addr) (l c : Nat) (h : P.underlying t = some (.slice e)) : (binOp .eql t (.slice a l c) (.slice none 0 0)).run P w = .ok (.bool a.isNone) w := by
  simp only [binOp]
  simp [run_equal_slice_nil w t e a l c h]
end
theorem Tryz.infoF : (Tryz.prog.info? 31).map (fun i => (i.zero, i.size, i.bytes)) = some (some (.agg #[.string ⟨#[]⟩, .string ⟨#[]⟩]), 2, 32) := by kernel_rfl
def mkN (n : Nat) : Pr2 := (⟨#[109, 97, 114, 107, 32, digC n]⟩, ⟨#[46]⟩)
theorem mkN_app (n : Nat) : (⟨#[109, 97, 114, 107, 32]⟩ : ByteArray) ++ ⟨#[digC n]⟩ = (mkN n).1 := by
  apply ByteArray.ext
  rw [ByteArray.data_append]; rfl
end Go.Proofs.YtaekbmfcnkpelaaGreatDoor

/- The library's FormatInt at base sixteen; nothing old in memory turns. -/
namespace Go.Proofs.YtaekbmfcnkpelaaGreatDoor
open Go.RowKit

set_option maxHeartbeats 400000 in
theorem pow16_any (w : World) : Calls Tryz.prog 96 #[.int .i64 16] w fun e w' => e = .returned (.bool true) ∧ w' = w := by
  go_enter Tryz.func96, Tryz.ntmps96
  go_wp2
  go_ret
  exact ⟨rfl, rfl⟩
set_option maxHeartbeats 400000 in
theorem tz64_any (w : World) (h : w.cell? ⟨6, 15, none⟩ = some (.int .u8 4)) : Calls Tryz.prog 110 #[.int .u64 16] w fun e w' => e = .returned (.int .i64 4) ∧ w' = w := by
  have hb : bits .and .u64 16 (IntKind.u64.wrap (-16)) = 16 := by
    rw [show IntKind.u64.wrap (-16) = ((18446744073709551600 : Nat) : Int) from by decide, show (16 : Int) = ((16 : Nat) : Int) from rfl, bits_and_u64_nat 16 18446744073709551600 (by omega) (by omega)]
    decide
  have hm : IntKind.u64.wrap 4573923408821661840 = 4573923408821661840 := by decide
  go_enter Tryz.func110, Tryz.ntmps110
  go_wp2
  go_ret
  exact ⟨rfl, rfl⟩
set_option maxHeartbeats 400000 in
theorem tz_any (w : World) (h : w.cell? ⟨6, 15, none⟩ = some (.int .u8 4)) : Calls Tryz.prog 97 #[.int .u64 16] w fun e w' => e = .returned (.int .i64 4) ∧ w' = w := by
  have HT := hid (tz64_any w h)
  go_enter Tryz.func97, Tryz.ntmps97
  go_wp2_with fail
  refine HT.out.mono ?_
  rintro e w1 ⟨rfl, hw1⟩
  subst hw1
  go_wp2
  go_ret
  exact ⟨rfl, rfl⟩
def BytAt (g o : Nat) (ds : List UInt8) (w : World) : Prop := ∀ j (h : j < ds.length), w.cell? ⟨g, o + j, none⟩ = some (.int .u8 (ds[j].toNat : Int))
theorem lit36 : ∀ (d : Nat) (h : d < 16), (⟨#[48, 49, 50, 51, 52, 53, 54, 55, 56, 57, 97, 98, 99, 100, 101, 102, 103, 104, 105, 106, 107, 108, 109, 110, 111, 112, 113, 114, 115, 116, 117, 118, 119, 120, 121, 122]⟩ : ByteArray)[d]'(Nat.lt_trans h (by decide)) = digC d := by decide
theorem BytAt.cons {g k : Nat} {ds : List UInt8} {w : World} (hk : k ≤ 60) (h : BytAt g (65 - k) ds w) (ho : OwnB g 65 w) (c : UInt8) : BytAt g (65 - k - 1) (c :: ds) (w.setCell ⟨g, 65 - k - 1, none⟩ (.int .u8 (c.toNat : Int))) := fun j hj => by
  match j, hj with
  | 0, _ =>
    obtain ⟨u, hu⟩ := ho.cell (65 - k - 1) (by omega)
    rw [Nat.add_zero, World.cell?_setCell_same _ _ _ hu]; rfl
  | j + 1, hj =>
    rw [World.cell?_setCell_other _ _ _ _ (addr_ne (by omega)), show 65 - k - 1 + (j + 1) = 65 - k + j from by omega]
    exact h j (by simpa using hj)
theorem bytes_str {P : Program} {src e dst : TypeId} (hs : P.underlying src = some (.slice e)) (he : P.underlying e = some (.int .u8)) (hd : P.underlying dst = some .string) {g o : Nat} {ds : List UInt8} {w : World} (h : BytAt g o ds w) (n cap : Nat) (hn : ds.length = n) :
    (convert src dst (.slice (some ⟨g, o, none⟩) n cap)).run P w = .ok (.string ⟨ds.toArray⟩) w := by
  have := run_convert_bytes_arg (P := P) w src e hs he g o n cap (ds.map (fun c => (c.toNat : Int))) (by rw [List.length_map, hn]) (fun i hi => by
    rw [h i (by omega)]
    simp [List.getD_eq_getElem?_getD, List.getElem?_map, List.getElem?_eq_getElem (show i < ds.length by omega)]) dst hd
  rw [this]
  congr 2
  unfold strOfNums
  rw [List.map_map]
  congr 2
  exact (List.map_congr_left (fun c _ => by simp)).trans (List.map_id _)
set_option maxRecDepth 100000 in
set_option maxHeartbeats 1000000 in
theorem formatBits_any (n : Nat) (hn : n ≤ 9223372036854775807) (w : World) (h : w.cell? ⟨6, 15, none⟩ = some (.int .u8 4)) :
    Calls Tryz.prog 78 #[.slice none 0 0, .int .u64 n, .int .i64 16, .bool false, .bool false] w fun e w' => e = .returned (.tuple #[.slice none 0 0, .string ⟨(natT 16 n).toArray⟩]) ∧ Below w.heap.size w w' := by
  have HT := hid (fun W (hW : Below w.heap.size w W) => tz_any W (cell_later hW h))
  have HP := hid (fun W => pow16_any W)
  clear h
  go_enter Tryz.func78, Tryz.ntmps78
  have hA := (Below.refl w.heap.size w).alloc (Nat.le_refl _) (.cells Tryz.zeroCells127 127)
  have hz : Tryz.zeroCells127.size = 65 := by kernel_rfl
  have ob : OwnB w.heap.size 65 (w.alloc (.cells Tryz.zeroCells127 127)) := fun j hj => by
    have hb := heap_alloc_new w (.cells Tryz.zeroCells127 127)
    exact ⟨by rw [Lib.cell_of_heap hb, Array.getElem?_eq_getElem (by omega)]; rfl, Lib.frozen_of_heap hb j⟩
  have al : w.heap.size < (w.alloc (.cells Tryz.zeroCells127 127)).heap.size := by simp
  go_wp2_with fail
  generalize w.alloc (.cells Tryz.zeroCells127 127) = w1 at *
  refine (HP.out _).mono ?_
  rintro e w2 ⟨rfl, hw2⟩
  subst hw2
  go_wp2_with fail
  refine (HT.out _ hA).mono ?_
  rintro e w3 ⟨rfl, hw3⟩
  subst hw3
  have J0 := hid (And.intro ob (And.intro hA al))
  clear ob hA al HT HP hz
  go_wp2_with fail
  go_loopw [1, 13] (fun u i wr => ∃ (k v : Nat) (ds : List UInt8), k ≤ 15 ∧ i = .int .i64 ((65 - k : Nat) : Int) ∧ u = .int .u64 v ∧ v < 16 ^ (16 - k) ∧ Hid (natT 16 n = natT 16 v ++ ds ∧ ds.length = k) ∧ Hid (OwnB w.heap.size 65 wr ∧ BytAt w.heap.size (65 - k) ds wr ∧ Below w.heap.size w wr ∧ w.heap.size < wr.heap.size)) (fun u _ _ => (intOf u).toNat)
  case atStart => exact ⟨0, n, [], by omega, rfl, rfl, by omega, ⟨by simp, rfl⟩, J0.out.1, fun j hj => absurd hj (by simp), J0.out.2.1, J0.out.2.2⟩
  case round =>
    clear J0
    obtain ⟨k, v, ds, hk, rfl, rfl, hv, H, I⟩ := hrel
    have hi : ((65 - k : Nat) : Int) = 65 - (k : Int) := by omega
    rw [hi]
    by_cases h16 : 16 ≤ v
    · have hand : bits .and .u64 (v : Int) 15 = ((v % 16 : Nat) : Int) := by
        rw [show (15 : Int) = ((15 : Nat) : Int) from rfl, bits_and_u64_nat v 15 (by have : 16 ^ (16 - k) ≤ 16 ^ 16 := Nat.pow_le_pow_right (by omega) (by omega); omega) (by omega)]
        congr 1
        exact Nat.and_two_pow_sub_one_eq_mod v 4
      have hd : v % 16 < 16 := Nat.mod_lt _ (by omega)
      have hk14 : k ≤ 14 := by
        rcases Nat.lt_or_ge k 15 with h | h
        · omega
        · have : k = 15 := by omega
          subst this
          simp at hv; omega
      obtain ⟨x0, hx0⟩ := I.out.1.cell (65 - k - 1) (by omega)
      have fz := (I.out.1 (65 - k - 1) (by omega)).2
      have y0 : (65 : Int) - (k : Int) - 1 < 65 := by omega
      have y1 : (0 : Int) ≤ (65 : Int) - (k : Int) - 1 := by omega
      have gl := I.out.2.2.2
      have h16' : (16 : Int) ≤ (v : Int) := by omega
      have HN := hid (natT_big (b := 16) (u := v) (by omega) (by omega))
      have hlit := lit36 (v % 16) hd
      have hvd : v / 16 < 16 ^ (16 - (k + 1)) := by
        have e : 16 ^ (16 - k) = 16 ^ (16 - (k + 1)) * 16 := by rw [← Nat.pow_succ]; congr 1; omega
        rw [Nat.div_lt_iff_lt_mul (by omega), ← e]; exact hv
      have hsh : ((v / 16 : Nat) : Int) = (v : Int) / 16 := by omega
      generalize hdd : v % 16 = d at *
      have J1 : Hid (OwnB w.heap.size 65 (wr.setCell ⟨w.heap.size, 65 - k - 1, none⟩ (.int .u8 ((digC d).toNat : Int))) ∧ BytAt w.heap.size (65 - k - 1) (digC d :: ds) (wr.setCell ⟨w.heap.size, 65 - k - 1, none⟩ (.int .u8 ((digC d).toNat : Int))) ∧ Below w.heap.size w (wr.setCell ⟨w.heap.size, 65 - k - 1, none⟩ (.int .u8 ((digC d).toNat : Int))) ∧ w.heap.size < (wr.setCell ⟨w.heap.size, 65 - k - 1, none⟩ (.int .u8 ((digC d).toNat : Int))).heap.size) :=
        ⟨I.out.1.set _ _, I.out.2.1.cons (by omega) I.out.1 _, I.out.2.2.1.setCell (Nat.le_refl _) _, by simpa using I.out.2.2.2⟩
      have HD : Hid (natT 16 n = natT 16 (v / 16) ++ (digC d :: ds) ∧ (digC d :: ds).length = k + 1) := by
        refine ⟨?_, by rw [List.length_cons, H.out.2]⟩
        rw [H.out.1, HN.out, List.append_assoc]; rfl
      clear I H HN
      go_wp2
      refine ⟨⟨k + 1, v / 16, digC d :: ds, by omega, ?_, ?_, hvd, HD.out, ?_⟩, ?_⟩
      · rw [show ((65 - (k + 1) : Nat) : Int) = 65 - (k : Int) - 1 from by omega]
      · rw [hsh]
      · rw [show 65 - (k + 1) = 65 - k - 1 from by omega]; exact J1.out
      · simp only [intOf]; omega
    · have h16' : ¬ (16 : Int) ≤ (v : Int) := by omega
      obtain ⟨x0, hx0⟩ := I.out.1.cell (65 - k - 1) (by omega)
      have fz := (I.out.1 (65 - k - 1) (by omega)).2
      have y0 : (65 : Int) - (k : Int) - 1 < 65 := by omega
      have y1 : (0 : Int) ≤ (65 : Int) - (k : Int) - 1 := by omega
      have y2 : (65 : Int) - (k : Int) - 1 ≤ 65 := by omega
      have gl := I.out.2.2.2
      have y3 : (v : Int) < 36 := by omega
      have hlit := lit36 v (by omega)
      have HN := hid (natT_small (b := 16) (u := v) (by omega))
      have hal : Tryz.prog.arrayLen 127 = 65 := by simp [Program.arrayLen, Tryz.underlying127]
      have hsl : ∀ W, (Instr.sliceAt 127 (.pointer (some ⟨w.heap.size, 0, none⟩)) (some (.int .i64 (65 - (k : Int) - 1))) none none).run Tryz.prog W = .ok (.slice (some ⟨w.heap.size, 65 - k - 1, none⟩) (k + 1) (k + 1)) W := fun W => by
        rw [run_sliceAt_array_l W 127 ⟨w.heap.size, 0, none⟩ (by simp [Program.arrayLen, Program.elem, Tryz.underlying127]) .i64 (65 - (k : Int) - 1) (by omega) (by rw [hal]; omega)]
        go_simp
        omega
      have by1 := I.out.2.1.cons (by omega) I.out.1 (digC v)
      have hcv := bytes_str (P := Tryz.prog) (src := 45) (e := 5) (dst := 9) Tryz.underlying45 Tryz.underlying5 Tryz.underlying9 by1 (k + 1) (k + 1) (by rw [List.length_cons, H.out.2])
      have HD : Hid (natT 16 n = digC v :: ds) := by unfold Hid; rw [H.out.1, HN.out]; rfl
      have hB1 : Below w.heap.size w (wr.setCell ⟨w.heap.size, 65 - k - 1, none⟩ (.int .u8 ((digC v).toNat : Int))) := I.out.2.2.1.setCell (Nat.le_refl _) _
      have HB := hid hB1
      clear I H HN by1 hB1
      go_wp2
      go_ret2
      exact ⟨by rw [HD.out]; rfl, HB.out⟩
set_option maxHeartbeats 400000 in
theorem iFormat_any (n : Nat) (hn : n ≤ 9223372036854775807) (w : World) (h : w.cell? ⟨6, 15, none⟩ = some (.int .u8 4)) :
    Calls Tryz.prog 56 #[.int .i64 n, .int .i64 16] w fun e w' => e = .returned (.string ⟨(natT 16 n).toArray⟩) ∧ Below w.heap.size w w' := by
  have HF := hid (formatBits_any n hn w h)
  generalize (⟨(natT 16 n).toArray⟩ : ByteArray) = T at *
  go_enter Tryz.func56, Tryz.ntmps56
  go_wp2_with fail
  refine HF.out.mono ?_
  rintro e w1 ⟨rfl, hb1⟩
  go_wp2
  go_ret
  exact ⟨rfl, hb1⟩
set_option maxHeartbeats 400000 in
theorem format16_any (n : Nat) (hn : n ≤ 9223372036854775807) (w : World) (h : w.cell? ⟨6, 15, none⟩ = some (.int .u8 4)) :
    Calls Tryz.prog 36 #[.int .i64 n, .int .i64 16] w fun e w' => e = .returned (.string ⟨(natT 16 n).toArray⟩) ∧ Below w.heap.size w w' := by
  have HF := hid (iFormat_any n hn w h)
  generalize (⟨(natT 16 n).toArray⟩ : ByteArray) = T at *
  go_enter Tryz.func36, Tryz.ntmps36
  go_wp2_with fail
  refine HF.out.mono ?_
  rintro e w1 ⟨rfl, hb1⟩
  go_wp2
  go_ret
  exact ⟨rfl, hb1⟩
end Go.Proofs.YtaekbmfcnkpelaaGreatDoor
