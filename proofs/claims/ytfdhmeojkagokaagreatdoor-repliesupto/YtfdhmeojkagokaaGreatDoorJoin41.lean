/- Texts that follow one another, joined. -/
import Derived.Test.YtfdhmeojkagokaaGreatDoorJoin40
/- The program's writeChunks: a body told in chunks; nothing old in memory turns but the Builder. -/
namespace Go.Proofs.YtfdhmeojkagokaaGreatDoor
open Go.RowKit

end Go.Proofs.YtfdhmeojkagokaaGreatDoor

/- The program's Print: the bytes that the plain mathematics tells; nothing old in memory turns. -/
namespace Go.Proofs.YtfdhmeojkagokaaGreatDoor
open Go.RowKit

end Go.Proofs.YtfdhmeojkagokaaGreatDoor

/- The reference's Print: the same bytes; nothing old in memory turns. -/
namespace Go.Proofs.YtfdhmeojkagokaaGreatDoor
open Go.RowKit

end Go.Proofs.YtfdhmeojkagokaaGreatDoor

/- wholeFields: a list that was lent and is as it was; nothing turns but that list. -/
namespace Go.Proofs.YtfdhmeojkagokaaGreatDoor
open Go.RowKit

def LfAt (L : List Pr2) (k g : Nat) (w : World) : Prop :=
  ∀ i (h : i < L.length), k ≤ i → w.cell? ⟨g, i * 2, none⟩ = some (.string L[i].1) ∧ w.cell? ⟨g, i * 2 + 1, none⟩ = some (.string L[i].2)
theorem LfAt.below {L : List Pr2} {k g : Nat} {w w' : World} {B : Nat} (h : LfAt L k g w) (hb : Below B w w') (hg : g < B) : LfAt L k g w' := fun i hi hk => by
  obtain ⟨h1, h2⟩ := h i hi hk
  exact ⟨by rw [hb.cell hg]; exact h1, by rw [hb.cell hg]; exact h2⟩
theorem LfAt.next {L : List Pr2} {k g : Nat} {w : World} (h : LfAt L k g w) (u v : Value) : LfAt L (k + 1) g ((w.setCell ⟨g, k * 2, none⟩ u).setCell ⟨g, k * 2 + 1, none⟩ v) := fun i hi hk => by
  obtain ⟨h1, h2⟩ := h i hi (by omega)
  rw [World.cell?_setCell_other _ _ _ _ (addr_ne (by omega)), World.cell?_setCell_other _ _ _ _ (addr_ne (by omega)), World.cell?_setCell_other _ _ _ _ (addr_ne (by omega)), World.cell?_setCell_other _ _ _ _ (addr_ne (by omega))]
  exact ⟨h1, h2⟩
set_option maxHeartbeats 400000 in
theorem wholeFields_nil (v : Value) (w : World) :
    Calls Tryz.prog 11 #[v, .slice none 0 0] w fun e w' => e = .returned (.bool true) ∧ w' = w := by
  have hq := fun W => run_eql_nil (P := Tryz.prog) W 28 70 none 0 0 Tryz.underlying28
  go_enter Tryz.func11, Tryz.ntmps11
  go_wp2
  go_ret
  exact ⟨rfl, rfl⟩
end Go.Proofs.YtfdhmeojkagokaaGreatDoor
