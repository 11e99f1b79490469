/- Texts that follow one another, joined. -/
import Derived.Test.YtpfendckgeoonaaGreatDoorJoin19
import Derived.OwnWalk
/- routes.Overlap: whether two patterns meet, or that one is none; nothing old in memory turns. -/
namespace Go.Proofs.YtpfendckgeoonaaGreatDoor
open Go.RowKit

def overlapS (a b : List UInt8) : Bool × Int :=
  match patternOf a with
  | none => (false, 8)
  | some ps => match patternOf b with
    | none => (false, 8)
    | some qs => (ovl ps qs, 0)
theorem patB_length : ∀ (ts : List (List UInt8)) (acc ps : List (Int × ByteArray)), patB ts acc = some ps → ps.length = acc.length + ts.length
  | [], acc, ps, h => by rw [patB] at h; cases h; simp
  | t :: r, acc, ps, h => by
    rw [patB] at h
    split at h
    · have := patB_length r _ _ h; simp at this; simp; omega
    · cases h
theorem patternOf_length {s : ByteArray} {ps : List (Int × ByteArray)} (h : patternOf s.data.toList = some ps) : ps.length ≤ 1000000 := by
  unfold patternOf at h
  split at h
  · rename_i hc
    have h1 := patB_length _ _ _ h
    have hdat := Lib.splitB_data ⟨#[47]⟩ 0 (Lib.countB (s.extract 1 s.size) ⟨#[47]⟩) (s.extract 1 s.size)
    have hex : (s.extract 1 s.size).data.toList = s.data.toList.drop 1 := by rw [Lib.extract_data, List.take_of_length_le (by simp)]
    have hlen : (Lib.splitB ⟨#[47]⟩ 0 (Lib.countB (s.extract 1 s.size) ⟨#[47]⟩) (s.extract 1 s.size)).length = Lib.countB (s.extract 1 s.size) ⟨#[47]⟩ + 1 := Lib.splitB_all _ (by decide) _ _ _ rfl
    have hcnt := Lib.countB_le ⟨#[47]⟩ (by decide) _ (s.extract 1 s.size) (Nat.le_refl _)
    have hd : (Lib.splitB ⟨#[47]⟩ 0 (Lib.countB (s.extract 1 s.size) ⟨#[47]⟩) (s.extract 1 s.size)).map (·.data.toList) = Lib.split (s.extract 1 s.size).data.toList [47] := Lib.splitB_data _ _ _ _
    rw [hex] at hd
    rw [← hd, List.length_map, hlen] at h1
    have := hc.1
    simp at hcnt this h1
    omega
  · cases h
end Go.Proofs.YtpfendckgeoonaaGreatDoor

/- porter.Overlap: the same. -/
namespace Go.Proofs.YtpfendckgeoonaaGreatDoor
open Go.RowKit
end Go.Proofs.YtpfendckgeoonaaGreatDoor
