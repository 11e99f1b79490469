/- Texts that follow one another, joined. -/
import Derived.Test.YtbphabgjhoifbaaGreatDoorJoin00
import Derived.Test.YtbphabgjhoifbaaGreatDoorJoin03
import Derived.Test.YtbphabgjhoifbaaGreatDoorJoin08
import Derived.Test.YtbphabgjhoifbaaGreatDoorJoin04
import Derived.Test.YtbphabgjhoifbaaGreatDoorJoin01
/- The reference's small forms: methods, paths, targets, values, names that are alike: each call answers what the plain mathematics says; nothing old in memory turns. -/
namespace Go.Proofs.YtbphabgjhoifbaaGreatDoor
open Go.RowKit

theorem hasP_none {s : ByteArray} (h : ¬ 0 < s.size) : Lib.hasPrefix s.data.toList [47] = false := by
  obtain ⟨⟨l⟩⟩ := s
  cases l with
  | nil => rfl
  | cons a r => exact absurd (by simp [ByteArray.size]) h
theorem hasP_at {s : ByteArray} (h : 0 < s.size) : Lib.hasPrefix s.data.toList [47] = ((s[0].toNat : Int) == 47) := by
  obtain ⟨⟨l⟩⟩ := s
  cases l with
  | nil => exact absurd h (by simp [ByteArray.size])
  | cons a r =>
    show ([47] : List UInt8).isPrefixOf (a :: r) = ((a.toNat : Int) == 47)
    have h2 : ([47] : List UInt8).isPrefixOf (a :: r) = (47 == a) := by simp [List.isPrefixOf]
    rw [h2]
    have := Pm.all256 (p := fun a => ((47 : UInt8) == a) == ((a.toNat : Int) == 47)) (by decide +kernel) a
    simpa using this

theorem bl_t32 {c : UInt8} (h : ((c.toNat : Int) == 32) = true) : Pm.isBl c = true := by simp at h; simp [Pm.isBl, h]
theorem bl_t9 {c : UInt8} (h : ((c.toNat : Int) == 9) = true) : Pm.isBl c = true := by simp at h; simp [Pm.isBl, h]
theorem bl_f {c : UInt8} (h : ((c.toNat : Int) == 32) = false) (h' : ((c.toNat : Int) == 9) = false) : Pm.isBl c = false := by
  rw [beq_eq_false_iff_ne] at h h'; simp [Pm.isBl]; omega

end Go.Proofs.YtbphabgjhoifbaaGreatDoor

/- The reference's pieces: whether one is fixed or a rest, and its name; nothing old in memory turns. -/
namespace Go.Proofs.YtbphabgjhoifbaaGreatDoor
open Go.RowKit

theorem kind_cons {s : ByteArray} (h : 0 < s.size) : Pm.pieceK s.data.toList = if ((s[0].toNat : Int) == 58) = true then 1 else if ((s[0].toNat : Int) == 42) = true then 2 else 0 := by
  obtain ⟨⟨l⟩⟩ := s
  cases l with
  | nil => exact absurd h (by simp [ByteArray.size])
  | cons a r =>
    show (if ([58] : List UInt8).isPrefixOf (a :: r) = true then (1 : Int) else if ([42] : List UInt8).isPrefixOf (a :: r) = true then 2 else 0) = (if ((a.toNat : Int) == 58) = true then 1 else if ((a.toNat : Int) == 42) = true then 2 else 0)
    have h2 : ([58] : List UInt8).isPrefixOf (a :: r) = (58 == a) := by simp [List.isPrefixOf]
    have h3 : ([42] : List UInt8).isPrefixOf (a :: r) = (42 == a) := by simp [List.isPrefixOf]
    rw [h2, h3]
    have e1 := Pm.all256 (p := fun a => ((58 : UInt8) == a) == ((a.toNat : Int) == 58)) (by decide +kernel) a
    have e2 := Pm.all256 (p := fun a => ((42 : UInt8) == a) == ((a.toNat : Int) == 42)) (by decide +kernel) a
    have e1' : ((58 : UInt8) == a) = ((a.toNat : Int) == 58) := by simpa using e1
    have e2' : ((42 : UInt8) == a) = ((a.toNat : Int) == 42) := by simpa using e2
    rw [e1', e2']
theorem toList_nil {s : ByteArray} (h : ¬ 0 < s.size) : s.data.toList = [] := by
  have hl : s.data.toList.length = s.size := by simp
  exact List.eq_nil_of_length_eq_zero (by omega)
theorem kind_nil {s : ByteArray} (h : ¬ 0 < s.size) : Pm.pieceK s.data.toList = 0 := by
  rw [toList_nil h]; rfl
theorem empt_cons {s : ByteArray} (h : 0 < s.size) : s.toList.isEmpty = false := by
  have hl : s.data.toList.length = s.size := by simp
  rw [ByteArray.toList_eq]
  cases hd : s.data.toList with
  | nil => rw [hd] at hl; simp at hl; omega
  | cons => rfl
theorem empt_nil {s : ByteArray} (h : ¬ 0 < s.size) : s.toList.isEmpty = true := by
  rw [ByteArray.toList_eq, toList_nil h]; rfl
def nameOf (s : ByteArray) : ByteArray := if Pm.pieceK s.data.toList = 0 then ⟨#[]⟩ else s.extract 1 s.size

end Go.Proofs.YtbphabgjhoifbaaGreatDoor

/- The reference's values of the fields that are named alike, in new memory; nothing old in memory turns. -/
namespace Go.Proofs.YtbphabgjhoifbaaGreatDoor
open Go.RowKit

end Go.Proofs.YtbphabgjhoifbaaGreatDoor

/- The reference's Pieces, in new memory; nothing old in memory turns. -/
namespace Go.Proofs.YtbphabgjhoifbaaGreatDoor
open Go.RowKit

def pcs (l : List UInt8) : List (List UInt8) := if l = [] then [] else Lib.split (l.drop 1) [47]
theorem pcs_step {l : List UInt8} (h : l ≠ []) : pcs l = Pm.ahead 47 (l.drop 1) :: pcs (Pm.behind 47 (l.drop 1)) := by
  rw [pcs, if_neg h]
  rcases Pm.behind_cases 47 (l.drop 1) with hb | ⟨r, hb⟩
  · rw [Pm.split_none hb, hb, pcs, if_pos rfl, (Pm.index_no hb).2]
  · rw [Pm.split_some hb, hb, pcs, if_neg (by simp)]; rfl
theorem behind_le (c : UInt8) (l : List UInt8) : (Pm.behind c l).length ≤ l.length := by
  have h := congrArg List.length (Pm.ahead_behind c l)
  rw [List.length_append] at h; omega
def szOf : Value → Nat
  | .string b => b.size
  | _ => 0
theorem data_ne {s : ByteArray} (h : 0 < s.size) : s.data.toList ≠ [] := fun h' => by
  have hl : s.data.toList.length = s.size := by simp
  rw [h'] at hl; simp at hl; omega

end Go.Proofs.YtbphabgjhoifbaaGreatDoor

/- The reference's takes; nothing old in memory turns. -/
namespace Go.Proofs.YtbphabgjhoifbaaGreatDoor
open Go.RowKit

def tkR (p s : ByteArray) : Bool := if Pm.pieceK p.data.toList = 0 then p.toList == s.toList else ((Pm.pieceK p.data.toList == 2) || !s.toList.isEmpty)
end Go.Proofs.YtbphabgjhoifbaaGreatDoor
