/- The reference's small calls: At, made, IsToken, Small answer what the plain mathematics says. -/
import Derived.Test.YtomnojeoodaheaaDoorWalkA
namespace Go.Proofs.YtomnojeoodaheaaDoor
open Go.RowKit

theorem isTok_t {s : ByteArray} (h : Pm.allTok s.data.toList = true) : decide (0 < s.size) = Pm.isTok s.data.toList := by
  unfold Pm.isTok; rw [h, Bool.and_true]
  have h1 : s.data.toList.length = s.size := by simp
  cases hl : s.data.toList with
  | nil => rw [hl] at h1; simp at h1; simp [← h1]
  | cons a l => rw [hl] at h1; simp at h1; simp [← h1]
theorem isTok_f {s : ByteArray} (h : ¬ Pm.allTok s.data.toList = true) : false = Pm.isTok s.data.toList := by
  unfold Pm.isTok; simp [h]
theorem step_no {s q : ByteArray} {k : Nat} (hlt : k < s.size) (H : q.data.toList = (s.data.toList.take k).map Pm.small) (hb : Pm.gidx s[k] < 0) :
    (q ++ s.extract k (k + 1)).data.toList = (s.data.toList.take (k + 1)).map Pm.small := by
  rw [Pm.take_snoc s k hlt, List.map_append, ByteArray.data_append, Array.toList_append, H, Lib.extract_data]
  simp only [List.map_cons, List.map_nil, Pm.small_no _ hb, List.append_cancel_left_eq]
  rw [Pm.one_at s k hlt]
theorem step_yes {s q sm : ByteArray} {k j : Nat} (hlt : k < s.size) (H : q.data.toList = (s.data.toList.take k).map Pm.small) (hb : Pm.gidx s[k] = j) (hsm : sm.data.toList = Pm.smalls) :
    (q ++ sm.extract j (j + 1)).data.toList = (s.data.toList.take (k + 1)).map Pm.small := by
  rw [Pm.take_snoc s k hlt, List.map_append, ByteArray.data_append, Array.toList_append, H, Lib.extract_data, hsm]
  simp only [List.map_cons, List.map_nil, List.append_cancel_left_eq]
  rw [← Pm.small_yes _ j hb]; simp

end Go.Proofs.YtomnojeoodaheaaDoor
