/- The program's fields and copies of texts: each call answers what the plain mathematics says; nothing old in memory turns. -/
import Derived.Test.YtgpjjkihihiocaaDoorWalkI
namespace Go.Proofs.YtgpjjkihihiocaaDoor
open Go.RowKit

theorem bcell {W w1 : World} (hb : Below W.heap.size W w1) : (∀ b o, b < W.heap.size → w1.cell? ⟨b, o, none⟩ = W.cell? ⟨b, o, none⟩) ∧ (∀ b o, b < W.heap.size → w1.frozen? ⟨b, o, none⟩ = W.frozen? ⟨b, o, none⟩) :=
  ⟨fun b o h => hb.cell (p := ⟨b, o, none⟩) h, fun b o h => hb.frozen (p := ⟨b, o, none⟩) h⟩

theorem bel_of {w W w3 : World} (h1 : Below w.heap.size w W) (h3 : Below W.heap.size W w3) : Below w.heap.size w w3 := h1.trans (h3.mono h1.size)
theorem field_eq {n v : ByteArray} (h1 : Pm.isTok n.data.toList = true) (h2 : Pm.allP Pm.valB v.data.toList = true) :
    (Lib.trimS v.data.toList Pm.blanks == v.toList) = Pm.isField n.data.toList v.data.toList := by
  unfold Pm.isField Pm.isValue; rw [h1, h2, ByteArray.toList_eq]; rfl

end Go.Proofs.YtgpjjkihihiocaaDoor
