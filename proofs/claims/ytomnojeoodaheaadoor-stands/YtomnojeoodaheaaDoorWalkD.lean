/- The reference's numbers: number, Decimal and Hex answer what the plain mathematics says; nothing old in memory turns. -/
import Derived.Test.YtomnojeoodaheaaDoorWalkB
import Derived.Test.YtomnojeoodaheaaDoorWalkC
import Derived.Deep.QuietTactic
import Derived.BigQuiet
namespace Go.Proofs.YtomnojeoodaheaaDoor
open Go.RowKit

theorem dig_at {base : Int} (hb : base = 10 ∨ base = 16) (d : ByteArray) (hd : d.data.toList = Pm.digs16.take base.toNat) (c : UInt8) :
    Lib.indexByte d.data.toList (Pm.small c) = if Pm.dval c < base then Pm.dval c else -1 := by
  rw [hd]
  rcases hb with rfl | rfl
  · exact Pm.dig_at10 c
  · exact Pm.dig_at16 c

theorem numM_neg {base most : Int} {l : List UInt8} (hb : 0 ≤ base) (hb2 : base ≤ 16) (hm : most ≤ 9) (h : Pm.numM base most l < 0) : Pm.numN base most l = 0 ∧ Pm.numE base most l = 1 := by
  unfold Pm.numM at h
  split at h
  · rename_i h1
    have h2 := h1
    simp only [Pm.numOk, Bool.and_eq_true, decide_eq_true_eq] at h1
    have := Pm.numv_bd base l hb hb2 h1.2 (by omega); omega
  · rename_i h1
    simp [Pm.numN, Pm.numE, h1]
theorem numM_pos {base most : Int} {l : List UInt8} (h : 0 ≤ Pm.numM base most l) : Pm.numN base most l = Pm.numM base most l ∧ Pm.numE base most l = 0 := by
  unfold Pm.numM at h ⊢
  split at h
  · rename_i h1
    simp [Pm.numN, Pm.numE, h1]
  · omega

end Go.Proofs.YtomnojeoodaheaaDoor
