/- What Stands calls first: the document's own request is framed. The listed variable holds the widest limits. -/
import Derived.Test.YtnohadlihgjppaaDoorWalkX
import Derived.Test.YtnohadlihgjppaaDoorWalkW
namespace Go.Proofs.YtnohadlihgjppaaDoor
open Go.RowKit

def knowB : ByteArray := ⟨#[71, 69, 84, 32, 47, 104, 105, 47, 121, 111, 117, 32, 72, 84, 84, 80, 47, 49, 46, 49, 13, 10, 72, 111, 115, 116, 58, 32, 97, 13, 10, 13, 10]⟩
def knowR : FrameR := (0, [71, 69, 84], [47, 104, 105, 47, 121, 111, 117], [([72, 111, 115, 116], [97])], [], 33)
theorem know_frame : frameS knowB.data.toList 500 200 = knowR := by kernel_rfl

set_option maxRecDepth 100000 in
set_option maxHeartbeats 1000000 in
theorem knows_any (mx : Int) (w : World) (h0 : w.cell? ⟨0, 0, none⟩ = some (.int .i64 500)) (h1 : w.cell? ⟨0, 1, none⟩ = some (.int .i64 200)) (hm : w.cell? ⟨1, 0, none⟩ = some (.int .i64 mx)) :
    Calls Tryd.prog 6 #[] w fun e w' => e = .returned (.bool true) ∧ Below w.heap.size w w' := by
  have HC := hid (pFrame_any 500 200 knowB mx w (by decide) (by omega) (by omega) (by omega) (by omega) hm)
  rw [know_frame] at HC
  go_enter Tryd.func6, Tryd.ntmps6
  go_wp2_with fail
  refine HC.out.mono ?_
  rintro e w2 ⟨⟨v, rfl, ow⟩, hb2⟩
  obtain ⟨a, c, rfl, hf⟩ := flat_at (fs := [([72, 111, 115, 116], [97])]) ow
  have BL := hid hb2
  clear HC ow hf hb2
  unfold knowR
  go_wp2
  go_ret
  exact ⟨rfl, BL.out.alloc BL.out.size _⟩
end Go.Proofs.YtnohadlihgjppaaDoor
