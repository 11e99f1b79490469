/- The program's own token calls: each call answers what the plain mathematics says, and the world is as it was. -/
import Derived.Test.YtgpjjkihihiocaaDoorPlain
import Derived.Test.YtgpjjkihihiocaaDoorShelf
import Derived.Test.YtgpjjkihihiocaaDoorRows
import Derived.WalkKit
import Derived.WalkSpells
import Derived.WalkLawsBesides
namespace Go.Proofs.YtgpjjkihihiocaaDoor
open Go.RowKit

theorem ret_bool {a b : Bool} (h : a = b) : Ending.returned (.bool a) = .returned (.bool b) := by rw [h]
theorem ret_int {k : IntKind} {a b : Int} (h : a = b) : Ending.returned (.int k a) = .returned (.int k b) := by rw [h]

theorem digB_true {c : UInt8} (h : Pm.digB c = true) : 48 ≤ (c.toNat : Int) ∧ (c.toNat : Int) ≤ 57 := by simpa [Pm.digB] using h
theorem digB_false {c : UInt8} (h : Pm.digB c = false) : (c.toNat : Int) < 48 ∨ 57 < (c.toNat : Int) := by
  have h' : ¬ Pm.digB c = true := by simp [h]
  simp only [Pm.digB, Bool.and_eq_true, decide_eq_true_eq] at h'; omega
theorem dval1 {c : UInt8} (h : Pm.digB c = true) : ((c.toNat : Int) - 48) % 256 = Pm.dval c := by
  have := digB_true h; unfold Pm.dval; rw [if_pos (by omega)]; omega
theorem dval2 {c : UInt8} (h : Pm.digB c = false) (h1 : 97 ≤ (c.toNat : Int)) (h2 : (c.toNat : Int) ≤ 102) : (c.toNat : Int) - 97 + 10 = Pm.dval c := by
  have := digB_false h; unfold Pm.dval; rw [if_neg (by omega), if_pos (by omega)]
theorem dval3 {c : UInt8} (h : Pm.digB c = false) (h1 : 65 ≤ (c.toNat : Int)) (h2 : (c.toNat : Int) ≤ 70) : (c.toNat : Int) - 65 + 10 = Pm.dval c := by
  have := digB_false h; unfold Pm.dval; rw [if_neg (by omega), if_neg (by omega), if_pos (by omega)]
theorem dval4 {c : UInt8} (h : Pm.digB c = false) (h1 : (c.toNat : Int) < 97 ∨ 102 < (c.toNat : Int)) (h2 : (c.toNat : Int) < 65 ∨ 70 < (c.toNat : Int)) : 16 = Pm.dval c := by
  have := digB_false h; unfold Pm.dval; rw [if_neg (by omega), if_neg (by omega), if_neg (by omega)]

end Go.Proofs.YtgpjjkihihiocaaDoor
