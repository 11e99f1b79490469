/- The program's small forms: methods, targets, versions, fields and names that are alike: each call answers what the plain mathematics says; nothing old in memory turns. -/
import Derived.Test.YtgpjjkihihiocaaDoorPlainC
import Derived.Test.YtgpjjkihihiocaaDoorWalkF
namespace Go.Proofs.YtgpjjkihihiocaaDoor
open Go.RowKit

end Go.Proofs.YtgpjjkihihiocaaDoor
