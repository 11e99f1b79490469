/- The library's FormatInt at base sixteen; nothing old in memory turns. -/
import Derived.Test.YtnohadlihgjppaaGreatDoorPrE
import Derived.Test.YtnohadlihgjppaaGreatDoorRnF
import Derived.Laws.Bits64b
namespace Go.Proofs.YtnohadlihgjppaaGreatDoor
open Go.RowKit

set_option maxHeartbeats 400000 in
theorem pow16_any (w : World) : Calls Tryz.prog 133 #[.int .i64 16] w fun e w' => e = .returned (.bool true) ∧ w' = w := by
  go_enter Tryz.func133, Tryz.ntmps133
  go_wp2
  go_ret
  exact ⟨rfl, rfl⟩
set_option maxHeartbeats 400000 in
theorem tz64_any (w : World) (h : w.cell? ⟨5, 15, none⟩ = some (.int .u8 4)) : Calls Tryz.prog 147 #[.int .u64 16] w fun e w' => e = .returned (.int .i64 4) ∧ w' = w := by
  have hb : bits .and .u64 16 (IntKind.u64.wrap (-16)) = 16 := by
    rw [show IntKind.u64.wrap (-16) = ((18446744073709551600 : Nat) : Int) from by decide, show (16 : Int) = ((16 : Nat) : Int) from rfl, bits_and_u64_nat 16 18446744073709551600 (by omega) (by omega)]
    decide
  have hm : IntKind.u64.wrap 4573923408821661840 = 4573923408821661840 := by decide
  go_enter Tryz.func147, Tryz.ntmps147
  go_wp2
  go_ret
  exact ⟨rfl, rfl⟩
set_option maxHeartbeats 400000 in
theorem tz_any (w : World) (h : w.cell? ⟨5, 15, none⟩ = some (.int .u8 4)) : Calls Tryz.prog 134 #[.int .u64 16] w fun e w' => e = .returned (.int .i64 4) ∧ w' = w := by
  have HT := hid (tz64_any w h)
  go_enter Tryz.func134, Tryz.ntmps134
  go_wp2_with fail
  refine HT.out.mono ?_
  rintro e w1 ⟨rfl, hw1⟩
  subst hw1
  go_wp2
  go_ret
  exact ⟨rfl, rfl⟩
def BytAt (g o : Nat) (ds : List UInt8) (w : World) : Prop := ∀ j (h : j < ds.length), w.cell? ⟨g, o + j, none⟩ = some (.int .u8 (ds[j].toNat : Int))
theorem lit36 : ∀ (d : Nat) (h : d < 16), (⟨#[48, 49, 50, 51, 52, 53, 54, 55, 56, 57, 97, 98, 99, 100, 101, 102, 103, 104, 105, 106, 107, 108, 109, 110, 111, 112, 113, 114, 115, 116, 117, 118, 119, 120, 121, 122]⟩ : ByteArray)[d]'(Nat.lt_trans h (by decide)) = digC d := by decide
theorem BytAt.cons {g k : Nat} {ds : List UInt8} {w : World} (hk : k ≤ 60) (h : BytAt g (65 - k) ds w) (ho : OwnB g 65 w) (c : UInt8) : BytAt g (65 - k - 1) (c :: ds) (w.setCell ⟨g, 65 - k - 1, none⟩ (.int .u8 (c.toNat : Int))) := fun j hj => by
  match j, hj with
  | 0, _ =>
    obtain ⟨u, hu⟩ := ho.cell (65 - k - 1) (by omega)
    rw [Nat.add_zero, World.cell?_setCell_same _ _ _ hu]; rfl
  | j + 1, hj =>
    rw [World.cell?_setCell_other _ _ _ _ (addr_ne (by omega)), show 65 - k - 1 + (j + 1) = 65 - k + j from by omega]
    exact h j (by simpa using hj)
theorem bytes_str {P : Program} {src e dst : TypeId} (hs : P.underlying src = some (.slice e)) (he : P.underlying e = some (.int .u8)) (hd : P.underlying dst = some .string) {g o : Nat} {ds : List UInt8} {w : World} (h : BytAt g o ds w) (n cap : Nat) (hn : ds.length = n) :
    (convert src dst (.slice (some ⟨g, o, none⟩) n cap)).run P w = .ok (.string ⟨ds.toArray⟩) w := by
  have := run_convert_bytes_arg (P := P) w src e hs he g o n cap (ds.map (fun c => (c.toNat : Int))) (by rw [List.length_map, hn]) (fun i hi => by
    rw [h i (by omega)]
    simp [List.getD_eq_getElem?_getD, List.getElem?_map, List.getElem?_eq_getElem (show i < ds.length by omega)]) dst hd
  rw [this]
  congr 2
  unfold strOfNums
  rw [List.map_map]
  congr 2
  exact (List.map_congr_left (fun c _ => by simp)).trans (List.map_id _)
set_option maxRecDepth 100000 in
set_option maxHeartbeats 1000000 in
theorem formatBits_any (n : Nat) (hn : n ≤ 9223372036854775807) (w : World) (h : w.cell? ⟨5, 15, none⟩ = some (.int .u8 4)) :
    Calls Tryz.prog 115 #[.slice none 0 0, .int .u64 n, .int .i64 16, .bool false, .bool false] w fun e w' => e = .returned (.tuple #[.slice none 0 0, .string ⟨(natT 16 n).toArray⟩]) ∧ Below w.heap.size w w' := by
  have HT := hid (fun W (hW : Below w.heap.size w W) => tz_any W (cell_later hW h))
  have HP := hid (fun W => pow16_any W)
  clear h
  go_enter Tryz.func115, Tryz.ntmps115
  have hA := (Below.refl w.heap.size w).alloc (Nat.le_refl _) (.cells Tryz.zeroCells157 157)
  have hz : Tryz.zeroCells157.size = 65 := by kernel_rfl
  have ob : OwnB w.heap.size 65 (w.alloc (.cells Tryz.zeroCells157 157)) := fun j hj => by
    have hb := heap_alloc_new w (.cells Tryz.zeroCells157 157)
    exact ⟨by rw [Lib.cell_of_heap hb, Array.getElem?_eq_getElem (by omega)]; rfl, Lib.frozen_of_heap hb j⟩
  have al : w.heap.size < (w.alloc (.cells Tryz.zeroCells157 157)).heap.size := by simp
  go_wp2_with fail
  generalize w.alloc (.cells Tryz.zeroCells157 157) = w1 at *
  refine (HP.out _).mono ?_
  rintro e w2 ⟨rfl, hw2⟩
  subst hw2
  go_wp2_with fail
  refine (HT.out _ hA).mono ?_
  rintro e w3 ⟨rfl, hw3⟩
  subst hw3
  have J0 := hid (And.intro ob (And.intro hA al))
  clear ob hA al HT HP hz
  go_wp2_with fail
  go_loopw [1, 13] (fun u i wr => ∃ (k v : Nat) (ds : List UInt8), k ≤ 15 ∧ i = .int .i64 ((65 - k : Nat) : Int) ∧ u = .int .u64 v ∧ v < 16 ^ (16 - k) ∧ Hid (natT 16 n = natT 16 v ++ ds ∧ ds.length = k) ∧ Hid (OwnB w.heap.size 65 wr ∧ BytAt w.heap.size (65 - k) ds wr ∧ Below w.heap.size w wr ∧ w.heap.size < wr.heap.size)) (fun u _ _ => (intOf u).toNat)
  case atStart => exact ⟨0, n, [], by omega, rfl, rfl, by omega, ⟨by simp, rfl⟩, J0.out.1, fun j hj => absurd hj (by simp), J0.out.2.1, J0.out.2.2⟩
  case round =>
    clear J0
    obtain ⟨k, v, ds, hk, rfl, rfl, hv, H, I⟩ := hrel
    have hi : ((65 - k : Nat) : Int) = 65 - (k : Int) := by omega
    rw [hi]
    by_cases h16 : 16 ≤ v
    · have hand : bits .and .u64 (v : Int) 15 = ((v % 16 : Nat) : Int) := by
        rw [show (15 : Int) = ((15 : Nat) : Int) from rfl, bits_and_u64_nat v 15 (by have : 16 ^ (16 - k) ≤ 16 ^ 16 := Nat.pow_le_pow_right (by omega) (by omega); omega) (by omega)]
        congr 1
        exact Nat.and_two_pow_sub_one_eq_mod v 4
      have hd : v % 16 < 16 := Nat.mod_lt _ (by omega)
      have hk14 : k ≤ 14 := by
        rcases Nat.lt_or_ge k 15 with h | h
        · omega
        · have : k = 15 := by omega
          subst this
          simp at hv; omega
      obtain ⟨x0, hx0⟩ := I.out.1.cell (65 - k - 1) (by omega)
      have fz := (I.out.1 (65 - k - 1) (by omega)).2
      have y0 : (65 : Int) - (k : Int) - 1 < 65 := by omega
      have y1 : (0 : Int) ≤ (65 : Int) - (k : Int) - 1 := by omega
      have gl := I.out.2.2.2
      have h16' : (16 : Int) ≤ (v : Int) := by omega
      have HN := hid (natT_big (b := 16) (u := v) (by omega) (by omega))
      have hlit := lit36 (v % 16) hd
      have hvd : v / 16 < 16 ^ (16 - (k + 1)) := by
        have e : 16 ^ (16 - k) = 16 ^ (16 - (k + 1)) * 16 := by rw [← Nat.pow_succ]; congr 1; omega
        rw [Nat.div_lt_iff_lt_mul (by omega), ← e]; exact hv
      have hsh : ((v / 16 : Nat) : Int) = (v : Int) / 16 := by omega
      generalize hdd : v % 16 = d at *
      have J1 : Hid (OwnB w.heap.size 65 (wr.setCell ⟨w.heap.size, 65 - k - 1, none⟩ (.int .u8 ((digC d).toNat : Int))) ∧ BytAt w.heap.size (65 - k - 1) (digC d :: ds) (wr.setCell ⟨w.heap.size, 65 - k - 1, none⟩ (.int .u8 ((digC d).toNat : Int))) ∧ Below w.heap.size w (wr.setCell ⟨w.heap.size, 65 - k - 1, none⟩ (.int .u8 ((digC d).toNat : Int))) ∧ w.heap.size < (wr.setCell ⟨w.heap.size, 65 - k - 1, none⟩ (.int .u8 ((digC d).toNat : Int))).heap.size) :=
        ⟨I.out.1.set _ _, I.out.2.1.cons (by omega) I.out.1 _, I.out.2.2.1.setCell (Nat.le_refl _) _, by simpa using I.out.2.2.2⟩
      have HD : Hid (natT 16 n = natT 16 (v / 16) ++ (digC d :: ds) ∧ (digC d :: ds).length = k + 1) := by
        refine ⟨?_, by rw [List.length_cons, H.out.2]⟩
        rw [H.out.1, HN.out, List.append_assoc]; rfl
      clear I H HN
      go_wp2
      refine ⟨⟨k + 1, v / 16, digC d :: ds, by omega, ?_, ?_, hvd, HD.out, ?_⟩, ?_⟩
      · rw [show ((65 - (k + 1) : Nat) : Int) = 65 - (k : Int) - 1 from by omega]
      · rw [hsh]
      · rw [show 65 - (k + 1) = 65 - k - 1 from by omega]; exact J1.out
      · simp only [intOf]; omega
    · have h16' : ¬ (16 : Int) ≤ (v : Int) := by omega
      obtain ⟨x0, hx0⟩ := I.out.1.cell (65 - k - 1) (by omega)
      have fz := (I.out.1 (65 - k - 1) (by omega)).2
      have y0 : (65 : Int) - (k : Int) - 1 < 65 := by omega
      have y1 : (0 : Int) ≤ (65 : Int) - (k : Int) - 1 := by omega
      have y2 : (65 : Int) - (k : Int) - 1 ≤ 65 := by omega
      have gl := I.out.2.2.2
      have y3 : (v : Int) < 36 := by omega
      have hlit := lit36 v (by omega)
      have HN := hid (natT_small (b := 16) (u := v) (by omega))
      have hal : Tryz.prog.arrayLen 157 = 65 := by simp [Program.arrayLen, Tryz.underlying157]
      have hsl : ∀ W, (Instr.sliceAt 157 (.pointer (some ⟨w.heap.size, 0, none⟩)) (some (.int .i64 (65 - (k : Int) - 1))) none none).run Tryz.prog W = .ok (.slice (some ⟨w.heap.size, 65 - k - 1, none⟩) (k + 1) (k + 1)) W := fun W => by
        rw [run_sliceAt_array_l W 157 ⟨w.heap.size, 0, none⟩ (by simp [Program.arrayLen, Program.elem, Tryz.underlying157]) .i64 (65 - (k : Int) - 1) (by omega) (by rw [hal]; omega)]
        go_simp
        omega
      have by1 := I.out.2.1.cons (by omega) I.out.1 (digC v)
      have hcv := bytes_str (P := Tryz.prog) (src := 86) (e := 5) (dst := 9) Tryz.underlying86 Tryz.underlying5 Tryz.underlying9 by1 (k + 1) (k + 1) (by rw [List.length_cons, H.out.2])
      have HD : Hid (natT 16 n = digC v :: ds) := by unfold Hid; rw [H.out.1, HN.out]; rfl
      have hB1 : Below w.heap.size w (wr.setCell ⟨w.heap.size, 65 - k - 1, none⟩ (.int .u8 ((digC v).toNat : Int))) := I.out.2.2.1.setCell (Nat.le_refl _) _
      have HB := hid hB1
      clear I H HN by1 hB1
      go_wp2
      go_ret2
      exact ⟨by rw [HD.out]; rfl, HB.out⟩
set_option maxHeartbeats 400000 in
theorem iFormat_any (n : Nat) (hn : n ≤ 9223372036854775807) (w : World) (h : w.cell? ⟨5, 15, none⟩ = some (.int .u8 4)) :
    Calls Tryz.prog 92 #[.int .i64 n, .int .i64 16] w fun e w' => e = .returned (.string ⟨(natT 16 n).toArray⟩) ∧ Below w.heap.size w w' := by
  have HF := hid (formatBits_any n hn w h)
  generalize (⟨(natT 16 n).toArray⟩ : ByteArray) = T at *
  go_enter Tryz.func92, Tryz.ntmps92
  go_wp2_with fail
  refine HF.out.mono ?_
  rintro e w1 ⟨rfl, hb1⟩
  go_wp2
  go_ret
  exact ⟨rfl, hb1⟩
set_option maxHeartbeats 400000 in
theorem format16_any (n : Nat) (hn : n ≤ 9223372036854775807) (w : World) (h : w.cell? ⟨5, 15, none⟩ = some (.int .u8 4)) :
    Calls Tryz.prog 71 #[.int .i64 n, .int .i64 16] w fun e w' => e = .returned (.string ⟨(natT 16 n).toArray⟩) ∧ Below w.heap.size w w' := by
  have HF := hid (iFormat_any n hn w h)
  generalize (⟨(natT 16 n).toArray⟩ : ByteArray) = T at *
  go_enter Tryz.func71, Tryz.ntmps71
  go_wp2_with fail
  refine HF.out.mono ?_
  rintro e w1 ⟨rfl, hb1⟩
  go_wp2
  go_ret
  exact ⟨rfl, hb1⟩
end Go.Proofs.YtnohadlihgjppaaGreatDoor
