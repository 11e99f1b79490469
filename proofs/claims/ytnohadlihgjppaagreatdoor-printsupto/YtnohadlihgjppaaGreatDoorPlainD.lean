/- Plain mathematics, fourth part: a line of a head, told by what is left of the bytes and by how far its end may be. -/
import Derived.Test.YtnohadlihgjppaaGreatDoorPlainC
import Derived.Lib.Split
import Derived.Lib.SplitLaws
namespace Go.Proofs.YtnohadlihgjppaaGreatDoor.Pm

/- the error, the line, and how many bytes it takes -/
def lineS (l : List UInt8) (lim : Nat) (long : Int) : Int × List UInt8 × Nat :=
  if (behind 10 (l.take lim)).isEmpty = true then (if l.length < lim then 2 else long, [], 0)
  else if Lib.hasSuffix (ahead 10 (l.take lim)) [13] = true then (0, Lib.trimSuffix (ahead 10 (l.take lim)) [13], (ahead 10 (l.take lim)).length + 1)
  else (3, [], 0)

theorem lineS_none {l : List UInt8} {lim : Nat} {long : Int} (h : behind 10 (l.take lim) = []) : lineS l lim long = (if l.length < lim then 2 else long, [], 0) := by
  unfold lineS; rw [h]; rfl
theorem lineS_cr {l r : List UInt8} {lim : Nat} {long : Int} (h : behind 10 (l.take lim) = 10 :: r) (hs : Lib.hasSuffix (ahead 10 (l.take lim)) [13] = true) :
    lineS l lim long = (0, Lib.trimSuffix (ahead 10 (l.take lim)) [13], (ahead 10 (l.take lim)).length + 1) := by
  unfold lineS; rw [h, hs]; rfl
theorem lineS_no {l r : List UInt8} {lim : Nat} {long : Int} (h : behind 10 (l.take lim) = 10 :: r) (hs : Lib.hasSuffix (ahead 10 (l.take lim)) [13] = false) :
    lineS l lim long = (3, [], 0) := by
  unfold lineS; rw [h, hs]; rfl
theorem near_eq (s : ByteArray) (k e : Nat) (hk : k ≤ s.size) : (s.extract k (min e s.size)).data.toList = (s.data.toList.drop k).take (e - k) := by
  obtain ⟨⟨l⟩⟩ := s
  rw [ByteArray.extract_mk]
  show (l.drop k).take (min e l.length - k) = (l.drop k).take (e - k)
  rw [List.take_eq_take_iff]
  simp only [List.length_drop]
  have : k ≤ l.length := hk
  omega

/- the first line: the error, the method, the target -/
def http11 : List UInt8 := [72, 84, 84, 80, 47, 49, 46, 49]
def firstS (l : List UInt8) : Int × List UInt8 × List UInt8 := match Lib.split l [32] with
  | [a, b, c] => if (isMethod a && (isTarget b && isVersion c)) = true then (if c = http11 then (0, a, b) else (7, [], [])) else (3, [], [])
  | _ => (3, [], [])
def partsB (s : ByteArray) : List ByteArray := Lib.splitB ⟨#[32]⟩ 0 (Lib.countB s ⟨#[32]⟩) s
theorem partsB_data (s : ByteArray) : (partsB s).map (·.data.toList) = Lib.split s.data.toList [32] := Lib.splitB_data _ _ _ _
theorem partsB_length (s : ByteArray) : (partsB s).length = Lib.countB s ⟨#[32]⟩ + 1 := Lib.splitB_all _ (by decide) _ _ _ rfl
theorem splitB_le (sep : ByteArray) : ∀ (k : Nat) (s x : ByteArray), x ∈ Lib.splitB sep 0 k s → x.size ≤ s.size
  | 0, s, x, h => by
    simp only [Lib.splitB, List.mem_singleton] at h; rw [h]; exact Nat.le_refl _
  | k + 1, s, x, h => by
    unfold Lib.splitB at h
    split at h
    · simp only [List.mem_singleton] at h; rw [h]; exact Nat.le_refl _
    · simp only [List.mem_cons] at h
      rcases h with rfl | h
      · simp; omega
      · have := splitB_le sep k _ x h
        simp at this; omega
theorem partsB_le {s x : ByteArray} (h : x ∈ partsB s) : x.size ≤ s.size := splitB_le _ _ _ _ h
theorem firstS_len {s : ByteArray} (h : ¬ (partsB s).length = 3) : firstS s.data.toList = (3, [], []) := by
  unfold firstS
  rw [← partsB_data]
  match hp : partsB s, h with
  | [], _ => rfl
  | [_], _ => rfl
  | [_, _], _ => rfl
  | [_, _, _], h => exact absurd rfl h
  | _ :: _ :: _ :: _ :: _, _ => rfl
theorem firstS_three {s a b c : ByteArray} (h : partsB s = [a, b, c]) : firstS s.data.toList = if (isMethod a.data.toList && (isTarget b.data.toList && isVersion c.data.toList)) = true then (if c.data.toList = http11 then (0, a.data.toList, b.data.toList) else (7, [], [])) else (3, [], []) := by
  unfold firstS
  rw [← partsB_data, h]; rfl

end Go.Proofs.YtnohadlihgjppaaGreatDoor.Pm
