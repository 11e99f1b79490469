/- Texts that follow one another, joined. -/
import Derived.Test.YtnohadlihgjppaaDoorJoin01
import Derived.Lib.Split
import Derived.Lib.SplitLaws
/- Plain mathematics, fourth part: a line of a head, told by what is left of the bytes and by how far its end may be. -/
namespace Go.Proofs.YtnohadlihgjppaaDoor.Pm

/- the error, the line, and how many bytes it takes -/
def lineS (l : List UInt8) (lim : Nat) (long : Int) : Int × List UInt8 × Nat :=
  if (behind 10 (l.take lim)).isEmpty = true then (if l.length < lim then 2 else long, [], 0)
  else if Lib.hasSuffix (ahead 10 (l.take lim)) [13] = true then (0, Lib.trimSuffix (ahead 10 (l.take lim)) [13], (ahead 10 (l.take lim)).length + 1)
  else (3, [], 0)

theorem lineS_none {l : List UInt8} {lim : Nat} {long : Int} (h : behind 10 (l.take lim) = []) : lineS l lim long = (if l.length < lim then 2 else long, [], 0) := by
  unfold lineS; rw [h]; rfl
theorem lineS_cr {l r : List UInt8} {lim : Nat} {long : Int} (h : behind 10 (l.take lim) = 10 :: r) (hs : Lib.hasSuffix (ahead 10 (l.take lim)) [13] = true) :
    lineS l lim long = (0, Lib.trimSuffix (ahead 10 (l.take lim)) [13], (ahead 10 (l.take lim)).length + 1) := by
  unfold lineS; rw [h, hs]; rfl
theorem lineS_no {l r : List UInt8} {lim : Nat} {long : Int} (h : behind 10 (l.take lim) = 10 :: r) (hs : Lib.hasSuffix (ahead 10 (l.take lim)) [13] = false) :
    lineS l lim long = (3, [], 0) := by
  unfold lineS; rw [h, hs]; rfl
theorem near_eq (s : ByteArray) (k e : Nat) (hk : k ≤ s.size) : (s.extract k (min e s.size)).data.toList = (s.data.toList.drop k).take (e - k) := by
  obtain ⟨⟨l⟩⟩ := s
  rw [ByteArray.extract_mk]
  show (l.drop k).take (min e l.length - k) = (l.drop k).take (e - k)
  rw [List.take_eq_take_iff]
  simp only [List.length_drop]
  have : k ≤ l.length := hk
  omega

/- the first line: the error, the method, the target -/
def http11 : List UInt8 := [72, 84, 84, 80, 47, 49, 46, 49]
def firstS (l : List UInt8) : Int × List UInt8 × List UInt8 := match Lib.split l [32] with
  | [a, b, c] => if (isMethod a && (isTarget b && isVersion c)) = true then (if c = http11 then (0, a, b) else (7, [], [])) else (3, [], [])
  | _ => (3, [], [])
def partsB (s : ByteArray) : List ByteArray := Lib.splitB ⟨#[32]⟩ 0 (Lib.countB s ⟨#[32]⟩) s
theorem partsB_data (s : ByteArray) : (partsB s).map (·.data.toList) = Lib.split s.data.toList [32] := Lib.splitB_data _ _ _ _
theorem partsB_length (s : ByteArray) : (partsB s).length = Lib.countB s ⟨#[32]⟩ + 1 := Lib.splitB_all _ (by decide) _ _ _ rfl
theorem splitB_le (sep : ByteArray) : ∀ (k : Nat) (s x : ByteArray), x ∈ Lib.splitB sep 0 k s → x.size ≤ s.size
  | 0, s, x, h => by
    simp only [Lib.splitB, List.mem_singleton] at h; rw [h]; exact Nat.le_refl _
  | k + 1, s, x, h => by
    unfold Lib.splitB at h
    split at h
    · simp only [List.mem_singleton] at h; rw [h]; exact Nat.le_refl _
    · simp only [List.mem_cons] at h
      rcases h with rfl | h
      · simp; omega
      · have := splitB_le sep k _ x h
        simp at this; omega
theorem partsB_le {s x : ByteArray} (h : x ∈ partsB s) : x.size ≤ s.size := splitB_le _ _ _ _ h
theorem firstS_len {s : ByteArray} (h : ¬ (partsB s).length = 3) : firstS s.data.toList = (3, [], []) := by
  unfold firstS
  rw [← partsB_data]
  match hp : partsB s, h with
  | [], _ => rfl
  | [_], _ => rfl
  | [_, _], _ => rfl
  | [_, _, _], h => exact absurd rfl h
  | _ :: _ :: _ :: _ :: _, _ => rfl
theorem firstS_three {s a b c : ByteArray} (h : partsB s = [a, b, c]) : firstS s.data.toList = if (isMethod a.data.toList && (isTarget b.data.toList && isVersion c.data.toList)) = true then (if c.data.toList = http11 then (0, a.data.toList, b.data.toList) else (7, [], [])) else (3, [], []) := by
  unfold firstS
  rw [← partsB_data, h]; rfl

end Go.Proofs.YtnohadlihgjppaaDoor.Pm

/- Plain mathematics, fifth part: the number that all values tell. -/
namespace Go.Proofs.YtnohadlihgjppaaDoor.Pm

def onePre (l : List (List UInt8)) : Int := match l with
  | [] => 0
  | x :: _ => numv 10 x
def oneOk (l : List (List UInt8)) : Bool := l.all fun v => numOk 10 9 v && (numv 10 v == onePre l)
def oneN (l : List (List UInt8)) : Int := if oneOk l = true then onePre l else 0
def oneE (l : List (List UInt8)) : Int := if oneOk l = true then 0 else 3

theorem onePre_take {l : List (List UInt8)} {k : Nat} (h : 0 < k) : onePre (l.take k) = onePre l := by
  cases l with
  | nil => simp
  | cons x r => cases k with
    | zero => omega
    | succ k => rfl
theorem oneOk_bad1 {l : List (List UInt8)} {k : Nat} (h : k < l.length) (hn : numOk 10 9 l[k] = false) : oneOk l = false := by
  cases hc : oneOk l
  · rfl
  · have := List.all_eq_true.1 hc l[k] (List.getElem_mem h)
    rw [hn] at this; simp at this
theorem oneOk_bad2 {l : List (List UInt8)} {k : Nat} (h : k < l.length) (hk : 0 < k) (hn : numv 10 l[k] ≠ onePre (l.take k)) : oneOk l = false := by
  cases hc : oneOk l
  · rfl
  · have := List.all_eq_true.1 hc l[k] (List.getElem_mem h)
    rw [onePre_take hk] at hn
    simp at this; exact absurd this.2 hn
theorem onePre_step0 {l : List (List UInt8)} (h : 0 < l.length) : onePre (l.take 1) = numv 10 l[0] := by
  cases l with
  | nil => simp at h
  | cons x r => rfl
theorem oneOk_step {l : List (List UInt8)} {k : Nat} (h : k < l.length) (ho : oneOk (l.take k) = true) (hn : numOk 10 9 l[k] = true) (he : k = 0 ∨ numv 10 l[k] = onePre (l.take k)) :
    oneOk (l.take (k + 1)) = true ∧ onePre (l.take (k + 1)) = numv 10 l[k] := by
  by_cases hk : k = 0
  · subst hk
    have h1 := onePre_step0 h
    refine ⟨?_, h1⟩
    unfold oneOk
    rw [h1, List.take_succ_eq_append_getElem h]
    simp [hn]
  · have he' : numv 10 l[k] = onePre (l.take k) := he.resolve_left hk
    have e1 : onePre (l.take (k + 1)) = onePre (l.take k) := by rw [onePre_take (by omega), onePre_take (by omega)]
    refine ⟨?_, by rw [e1, he']⟩
    unfold oneOk at ho ⊢
    rw [e1, List.take_succ_eq_append_getElem h, List.all_append, ho, Bool.true_and]
    simp [hn, he']

end Go.Proofs.YtnohadlihgjppaaDoor.Pm
