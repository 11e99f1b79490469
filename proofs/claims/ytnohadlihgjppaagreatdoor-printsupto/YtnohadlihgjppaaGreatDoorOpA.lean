/- Lists of pairs of texts among what a call is handed: opened as one list; what their bulk tells. -/
import Derived.Test.YtnohadlihgjppaaGreatDoorRnD
import Derived.Test.YtnohadlihgjppaaGreatDoorRows
import Derived.ChangeArms
import Derived.ChangeSame
import Derived.ChangeOld
namespace Go.Proofs.YtnohadlihgjppaaGreatDoor
open Go.RowKit Go.ChangeShapes

def pairD {H : Type} (f : Pr2) : DataW H := .agg [.lit (.string f.1.data.toList), .lit (.string f.2.data.toList)]
section
variable {H : Type} {enc : TypeId × Value → H} {P : Program} {w : World} {base : Nat} {spare : Nat → Bool} {held : Bool}
def pairOf (y : DataW H × List MemPlace) : Pr2 := match y.1 with
  | .agg [.lit (.string a), .lit (.string b)] => (⟨a.toArray⟩, ⟨b.toArray⟩)
  | _ => (⟨#[]⟩, ⟨#[]⟩)
theorem pairOf_mk (f : Pr2) (ps : List MemPlace) : pairOf ((pairD f, ps) : DataW H × List MemPlace) = f := by
  obtain ⟨⟨⟨a⟩⟩, ⟨⟨b⟩⟩⟩ := f; rfl
theorem open_pairs {t e s : TypeId} {f0 f1 : Field} {fuel : Nat} {cs : List Value} {x : DataW H × List MemPlace} (ht : P.underlying t = some (.slice e)) (he : P.underlying e = some (.struct #[f0, f1])) (hs : P.underlying s = some .string)
    (h0 : f0.type = s ∧ f0.offset = 0) (h1 : f1.type = s ∧ f1.offset = 1) (hce : P.cellsOf e = 2) (hcs : P.cellsOf s = 1)
    (h : DataW.trod enc P w base spare held fuel t cs = some x) :
    (cs = [.slice none 0 0] ∧ x = (.nil, [])) ∨
    ∃ (a : Addr) (cap : Nat) (fs : List Pr2) (rest : List (DataW H)), cs = [.slice (some a) fs.length cap] ∧ x.1 = .slice (fs.map pairD) rest ∧ FoAt fs (some a) w := by
  rcases DataW.trod_slice ht h with h | ⟨a, len, cap, elems, rest, n, _, rfl, rfl, hb, hl, hm, hlen, hel, hsp, hns⟩
  · exact .inl h
  right
  have each : ∀ i y, elems[i]? = some y → ∃ f : Pr2, y.1 = pairD f ∧ pairOf y = f ∧ w.cell? ((a.add (i * 2)).add 0) = some (.string f.1) ∧ w.cell? ((a.add (i * 2)).add 1) = some (.string f.2) := fun i y hy => by
    have hi : i < len := by rw [← hlen]; exact (List.getElem?_eq_some_iff.1 hy).1
    have hE := hel i hi
    rw [hce, hy, Option.bind_eq_some_iff] at hE
    obtain ⟨cs', hc1, hc2⟩ := hE
    obtain ⟨_, hl2, hcell⟩ := World.cells?_some hc1
    obtain ⟨y0, y1, m, rfl, _, k0, k1⟩ := trod_struct2 he hc2
    rw [h0.1, h0.2, hcs] at k0
    rw [h1.1, h1.2, hcs] at k1
    obtain ⟨s0, e0, rfl, _⟩ := DataW.trod_string hs k0
    obtain ⟨s1, e1, rfl, _⟩ := DataW.trod_string hs k1
    have g0 : cs'[0]? = some (.string s0) := by
      have := congrArg (·[0]?) e0
      simpa [List.getElem?_take, List.getElem?_drop] using this
    have g1 : cs'[1]? = some (.string s1) := by
      have := congrArg (·[0]?) e1
      simpa [List.getElem?_take, List.getElem?_drop] using this
    exact ⟨(s0, s1), rfl, pairOf_mk (s0, s1) _, by rw [hcell 0 (by omega), g0], by rw [hcell 1 (by omega), g1]⟩
  refine ⟨a, cap, elems.map pairOf, rest.map (·.1), by rw [List.length_map, hlen], ?_, fun i hi => ?_⟩
  · show DataW.slice _ _ = _
    congr 1
    rw [List.map_map]
    apply List.map_congr_left
    intro y hy
    obtain ⟨i, hi⟩ := List.getElem?_of_mem hy
    obtain ⟨f, hf1, hf2, _⟩ := each i y hi
    show y.1 = pairD (pairOf y)
    rw [hf2, hf1]
  · rw [List.length_map] at hi
    obtain ⟨f, _, hf2, c0, c1⟩ := each i elems[i] (List.getElem?_eq_getElem hi)
    obtain ⟨f', _, _, d0, _⟩ := each 0 elems[0] (List.getElem?_eq_getElem (by omega))
    have hsp : a.spot = none := by simpa [Addr.add] using World.cell?_spot d0
    obtain ⟨b, o, sp⟩ := a
    obtain rfl : sp = none := hsp
    rw [Addr.add_lit, Addr.add_lit] at c0 c1
    rw [List.getElem_map, hf2]
    exact ⟨b, o, rfl, block_lt_of_cell c0, by simpa using c0, c1⟩
end
theorem bulk_pairs {H : Type} (fs : List Pr2) : fs.length ≤ Rows.uptoBulkAll (H := H) (fs.map pairD) ∧ (fldsL fs).length ≤ 2 * Rows.uptoBulkAll (H := H) (fs.map pairD) := by
  induction fs with
  | nil => simp [fldsL]
  | cons f r ih =>
    have e : fldsL (f :: r) = fldL f.1.data.toList f.2.data.toList ++ fldsL r := by simp [fldsL]
    rw [e, List.map_cons, List.length_cons, List.length_append]
    simp only [Rows.uptoBulkAll, pairD, Rows.uptoBulk]
    have hl : (fldL f.1.data.toList f.2.data.toList).length = f.1.data.toList.length + f.2.data.toList.length + 4 := by simp [fldL]; omega
    rw [hl]
    omega
end Go.Proofs.YtnohadlihgjppaaGreatDoor
