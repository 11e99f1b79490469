/- The program's versions, names that are alike, fields and copies of texts: each call answers what the plain mathematics says; nothing old in memory turns. -/
import Derived.Test.YtgpjjkihihiocaaDoorWalkH
import Derived.Deep.RegionWith
namespace Go.Proofs.YtgpjjkihihiocaaDoor
open Go.RowKit

theorem ver_all {x y z : UInt8} (h1 : Pm.digB x = true) (h2 : (y.toNat : Int) = 46) : Pm.digB z = Pm.verTail [x, y, z] := by
  have hy : y = 46 := UInt8.toNat_inj.1 (by show y.toNat = 46; omega)
  simp [Pm.verTail, h1, hy]
theorem ver_no1 {x y z : UInt8} (h1 : ¬ Pm.digB x = true) : false = Pm.verTail [x, y, z] := by
  simp [Pm.verTail, h1]
theorem ver_no2 {x y z : UInt8} (h2 : ¬ (y.toNat : Int) = 46) : false = Pm.verTail [x, y, z] := by
  have hy : ¬ y = 46 := fun h => h2 (by rw [h]; rfl)
  simp [Pm.verTail, hy]

end Go.Proofs.YtgpjjkihihiocaaDoor
