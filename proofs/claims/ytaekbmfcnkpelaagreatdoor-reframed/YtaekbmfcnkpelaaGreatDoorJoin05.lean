/- Texts that follow one another, joined. -/
import Derived.Test.YtaekbmfcnkpelaaGreatDoorJoin04
import Derived.Deep.QuietTactic
import Derived.BigQuiet
/- The reference's small calls: At, made, IsToken, Small answer what the plain mathematics says. -/
namespace Go.Proofs.YtaekbmfcnkpelaaGreatDoor
open Go.RowKit

theorem isTok_t {s : ByteArray} (h : Pm.allTok s.data.toList = true) : decide (0 < s.size) = Pm.isTok s.data.toList := by
  unfold Pm.isTok; rw [h, Bool.and_true]
  have h1 : s.data.toList.length = s.size := by simp
  cases hl : s.data.toList with
  | nil => rw [hl] at h1; simp at h1; simp [← h1]
  | cons a l => rw [hl] at h1; simp at h1; simp [← h1]
theorem isTok_f {s : ByteArray} (h : ¬ Pm.allTok s.data.toList = true) : false = Pm.isTok s.data.toList := by
  unfold Pm.isTok; simp [h]
theorem step_no {s q : ByteArray} {k : Nat} (hlt : k < s.size) (H : q.data.toList = (s.data.toList.take k).map Pm.small) (hb : Pm.gidx s[k] < 0) :
    (q ++ s.extract k (k + 1)).data.toList = (s.data.toList.take (k + 1)).map Pm.small := by
  rw [Pm.take_snoc s k hlt, List.map_append, ByteArray.data_append, Array.toList_append, H, Lib.extract_data]
  simp only [List.map_cons, List.map_nil, Pm.small_no _ hb, List.append_cancel_left_eq]
  rw [Pm.one_at s k hlt]
theorem step_yes {s q sm : ByteArray} {k j : Nat} (hlt : k < s.size) (H : q.data.toList = (s.data.toList.take k).map Pm.small) (hb : Pm.gidx s[k] = j) (hsm : sm.data.toList = Pm.smalls) :
    (q ++ sm.extract j (j + 1)).data.toList = (s.data.toList.take (k + 1)).map Pm.small := by
  rw [Pm.take_snoc s k hlt, List.map_append, ByteArray.data_append, Array.toList_append, H, Lib.extract_data, hsm]
  simp only [List.map_cons, List.map_nil, List.append_cancel_left_eq]
  rw [← Pm.small_yes _ j hb]; simp

end Go.Proofs.YtaekbmfcnkpelaaGreatDoor

/- The reference's numbers: number, Decimal and Hex answer what the plain mathematics says; nothing old in memory turns. -/
namespace Go.Proofs.YtaekbmfcnkpelaaGreatDoor
open Go.RowKit

theorem dig_at {base : Int} (hb : base = 10 ∨ base = 16) (d : ByteArray) (hd : d.data.toList = Pm.digs16.take base.toNat) (c : UInt8) :
    Lib.indexByte d.data.toList (Pm.small c) = if Pm.dval c < base then Pm.dval c else -1 := by
  rw [hd]
  rcases hb with rfl | rfl
  · exact Pm.dig_at10 c
  · exact Pm.dig_at16 c

theorem numM_neg {base most : Int} {l : List UInt8} (hb : 0 ≤ base) (hb2 : base ≤ 16) (hm : most ≤ 9) (h : Pm.numM base most l < 0) : Pm.numN base most l = 0 ∧ Pm.numE base most l = 1 := by
  unfold Pm.numM at h
  split at h
  · rename_i h1
    have h2 := h1
    simp only [Pm.numOk, Bool.and_eq_true, decide_eq_true_eq] at h1
    have := Pm.numv_bd base l hb hb2 h1.2 (by omega); omega
  · rename_i h1
    simp [Pm.numN, Pm.numE, h1]
theorem numM_pos {base most : Int} {l : List UInt8} (h : 0 ≤ Pm.numM base most l) : Pm.numN base most l = Pm.numM base most l ∧ Pm.numE base most l = 0 := by
  unfold Pm.numM at h ⊢
  split at h
  · rename_i h1
    simp [Pm.numN, Pm.numE, h1]
  · omega

end Go.Proofs.YtaekbmfcnkpelaaGreatDoor
