/- Texts that follow one another, joined. -/
import Derived.Test.YthfpiahhbflfpaaDoorJoin08
import Derived.Deep.RegionWith
/- The program's versions, names that are alike, fields and copies of texts: each call answers what the plain mathematics says; nothing old in memory turns. -/
namespace Go.Proofs.YthfpiahhbflfpaaDoor
open Go.RowKit

theorem ver_all {x y z : UInt8} (h1 : Pm.digB x = true) (h2 : (y.toNat : Int) = 46) : Pm.digB z = Pm.verTail [x, y, z] := by
  have hy : y = 46 := UInt8.toNat_inj.1 (by show y.toNat = 46; omega)
  simp [Pm.verTail, h1, hy]
theorem ver_no1 {x y z : UInt8} (h1 : ¬ Pm.digB x = true) : false = Pm.verTail [x, y, z] := by
  simp [Pm.verTail, h1]
theorem ver_no2 {x y z : UInt8} (h2 : ¬ (y.toNat : Int) = 46) : false = Pm.verTail [x, y, z] := by
  have hy : ¬ y = 46 := fun h => h2 (by rw [h]; rfl)
  simp [Pm.verTail, hy]

end Go.Proofs.YthfpiahhbflfpaaDoor

/- The program's fields and copies of texts: each call answers what the plain mathematics says; nothing old in memory turns. -/
namespace Go.Proofs.YthfpiahhbflfpaaDoor
open Go.RowKit

set_option maxHeartbeats 400000 in
theorem clone_any (s : ByteArray) (w : World) (hs : s.size ≤ 281474976710656) :
    Calls Tryd.prog 32 #[.string s] w fun e w' => e = .returned (.string s) ∧ Below w.heap.size w w' := by
  go_enter Tryd.func32, Tryd.ntmps32
  go_wp2_with (go_at_call 43; refine (Tryd.stringslite_Clone _ _ hs).mono ?_; rintro e w1 ⟨rfl, hb1⟩)
  go_ret
  exact ⟨rfl, hb1⟩

theorem bcell {W w1 : World} (hb : Below W.heap.size W w1) : (∀ b o, b < W.heap.size → w1.cell? ⟨b, o, none⟩ = W.cell? ⟨b, o, none⟩) ∧ (∀ b o, b < W.heap.size → w1.frozen? ⟨b, o, none⟩ = W.frozen? ⟨b, o, none⟩) :=
  ⟨fun b o h => hb.cell (p := ⟨b, o, none⟩) h, fun b o h => hb.frozen (p := ⟨b, o, none⟩) h⟩

theorem bel_of {w W w3 : World} (h1 : Below w.heap.size w W) (h3 : Below W.heap.size W w3) : Below w.heap.size w w3 := h1.trans (h3.mono h1.size)
theorem field_eq {n v : ByteArray} (h1 : Pm.isTok n.data.toList = true) (h2 : Pm.allP Pm.valB v.data.toList = true) :
    (Lib.trimS v.data.toList Pm.blanks == v.toList) = Pm.isField n.data.toList v.data.toList := by
  unfold Pm.isField Pm.isValue; rw [h1, h2, ByteArray.toList_eq]; rfl

end Go.Proofs.YthfpiahhbflfpaaDoor
