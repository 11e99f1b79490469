/- The closed facts of Serves' row. -/
import Derived.Test.YtbiggccolpchcaaGreatDoorRows
import Derived.JoinedCond
import Derived.KernelRfl
import Derived.Test.YtbiggccolpchcaaGreatDoorJoin00
set_option maxRecDepth 100000
set_option maxHeartbeats 40000000
namespace Go.Proofs.YtbiggccolpchcaaGreatDoor.serves
open Go _root_.Go.Proofs.Tryz
theorem c4F:joinedFacts Tryz.pinned.checked.prog 4 Tryz.f4 (Rows.OpenSpec.upto Rows.servesSpec).bare Rows.servesUptoRow=true:=by
 unfold joinedFacts
 repeat' (with_reducible refine Bool.and_eq_true_iff.2 ⟨?_,?_⟩)
 all_goals as_aux_lemma=>kernel_rfl
end Go.Proofs.YtbiggccolpchcaaGreatDoor.serves
