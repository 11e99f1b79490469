/- The program's own numbers: number, Decimal and Hex answer what the plain mathematics says, and the world is as it was. -/
import Derived.Test.YtgpjjkihihiocaaDoorWalkA
namespace Go.Proofs.YtgpjjkihihiocaaDoor
open Go.RowKit

theorem ret_two {j k : IntKind} {a b c d : Int} (h : a = b) (h' : c = d) : Ending.returned (.tuple #[.int j a, .int k c]) = .returned (.tuple #[.int j b, .int k d]) := by rw [h, h']

end Go.Proofs.YtgpjjkihihiocaaDoor
