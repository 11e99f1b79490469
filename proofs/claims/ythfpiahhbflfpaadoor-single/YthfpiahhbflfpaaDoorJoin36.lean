/- Texts that follow one another, joined. -/
import Derived.Test.YthfpiahhbflfpaaDoorJoin35
import Derived.Laws.Bits64b
import Derived.Test.YthfpiahhbflfpaaDoorJoin32
/- The library's FormatInt at base sixteen; nothing old in memory turns. -/
namespace Go.Proofs.YthfpiahhbflfpaaDoor
open Go.RowKit

def BytAt (g o : Nat) (ds : List UInt8) (w : World) : Prop := ∀ j (h : j < ds.length), w.cell? ⟨g, o + j, none⟩ = some (.int .u8 (ds[j].toNat : Int))
theorem lit36 : ∀ (d : Nat) (h : d < 16), (⟨#[48, 49, 50, 51, 52, 53, 54, 55, 56, 57, 97, 98, 99, 100, 101, 102, 103, 104, 105, 106, 107, 108, 109, 110, 111, 112, 113, 114, 115, 116, 117, 118, 119, 120, 121, 122]⟩ : ByteArray)[d]'(Nat.lt_trans h (by decide)) = digC d := by decide
theorem BytAt.cons {g k : Nat} {ds : List UInt8} {w : World} (hk : k ≤ 60) (h : BytAt g (65 - k) ds w) (ho : OwnB g 65 w) (c : UInt8) : BytAt g (65 - k - 1) (c :: ds) (w.setCell ⟨g, 65 - k - 1, none⟩ (.int .u8 (c.toNat : Int))) := fun j hj => by
  match j, hj with
  | 0, _ =>
    obtain ⟨u, hu⟩ := ho.cell (65 - k - 1) (by omega)
    rw [Nat.add_zero, World.cell?_setCell_same _ _ _ hu]; rfl
  | j + 1, hj =>
    rw [World.cell?_setCell_other _ _ _ _ (addr_ne (by omega)), show 65 - k - 1 + (j + 1) = 65 - k + j from by omega]
    exact h j (by simpa using hj)
theorem bytes_str {P : Program} {src e dst : TypeId} (hs : P.underlying src = some (.slice e)) (he : P.underlying e = some (.int .u8)) (hd : P.underlying dst = some .string) {g o : Nat} {ds : List UInt8} {w : World} (h : BytAt g o ds w) (n cap : Nat) (hn : ds.length = n) :
    (convert src dst (.slice (some ⟨g, o, none⟩) n cap)).run P w = .ok (.string ⟨ds.toArray⟩) w := by
  have := run_convert_bytes_arg (P := P) w src e hs he g o n cap (ds.map (fun c => (c.toNat : Int))) (by rw [List.length_map, hn]) (fun i hi => by
    rw [h i (by omega)]
    simp [List.getD_eq_getElem?_getD, List.getElem?_map, List.getElem?_eq_getElem (show i < ds.length by omega)]) dst hd
  rw [this]
  congr 2
  unfold strOfNums
  rw [List.map_map]
  congr 2
  exact (List.map_congr_left (fun c _ => by simp)).trans (List.map_id _)
end Go.Proofs.YthfpiahhbflfpaaDoor

/- The walks of porterkeep's small helpers: pick, upTo, drawn, bare, number, after; nothing old in memory turns. -/
namespace Go.Proofs.YthfpiahhbflfpaaDoor
open Go.RowKit

theorem own_bytes {w : World} {B : Nat} {v : Value} {n : Nat} {l : List UInt8} (h : w.ownsRow B 5 1 v n (Lib.byteCells l)) : (convert 55 9 v).run Tryd.prog w = .ok (.string ⟨l.toArray⟩) w := by
  obtain ⟨h1, h2⟩ := h
  have hl : l.length = n := by simpa [Lib.byteCells] using h1
  rcases h2 with ⟨rfl, hn⟩ | ⟨g, cap, cur, rfl, _, hg, _, _, _, hc⟩
  · have e : l = [] := List.eq_nil_of_length_eq_zero (by omega)
    subst e
    exact run_convert_bytes_nil w 55 5 Tryd.underlying55 Tryd.underlying5 0 0 9 Tryd.underlying9
  · refine bytes_str Tryd.underlying55 Tryd.underlying5 Tryd.underlying9 (fun j hj => ?_) n cap hl
    rw [Lib.cell_of_heap hg]
    have h3 : (Lib.byteCells l)[j]? = some (.int .u8 (l[j].toNat : Int)) := by simp [Lib.byteCells, List.getElem?_map, List.getElem?_eq_getElem hj]
    rw [← hc, List.getElem?_take_of_lt (by omega)] at h3
    simpa using h3

theorem infoU8 : (Tryd.prog.info? 5).map (fun i => (i.zero, i.size, i.bytes)) = some (some (.int .u8 0), 1, 1) := by kernel_rfl
theorem infoInt : (Tryd.prog.info? 3).map (fun i => (i.zero, i.size, i.bytes)) = some (some (.int .i64 0), 1, 8) := by kernel_rfl
theorem getD_byte (ab : ByteArray) (r : Nat) (h : r < ab.size) : ab.data.toList.getD r 0 = ab[r] := by
  rw [List.getD_eq_getElem?_getD, List.getElem?_eq_getElem (by simpa using h)]
  rfl
end Go.Proofs.YthfpiahhbflfpaaDoor
