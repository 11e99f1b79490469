/- Plain mathematics on lists of bytes, second part: what stands ahead of a byte; escaped bytes; the reasons of a status. -/
import Derived.Test.YtnohadlihgjppaaGreatDoorPlain
namespace Go.Proofs.YtnohadlihgjppaaGreatDoor.Pm

theorem ahead_behind (c : UInt8) (l : List UInt8) : ahead c l ++ behind c l = l := List.takeWhile_append_dropWhile
theorem ahead_free (c : UInt8) (l : List UInt8) : ∀ x ∈ ahead c l, x ≠ c := by
  induction l with
  | nil => intro x hx; simp [ahead] at hx
  | cons b l ih =>
    intro x hx
    by_cases hb : b = c
    · simp [ahead, hb] at hx
    · have hb' : (b != c) = true := by simpa using hb
      simp only [ahead, List.takeWhile_cons, hb', if_true, List.mem_cons] at hx
      rcases hx with rfl | hx
      · exact hb
      · exact ih x hx
theorem behind_cases (c : UInt8) (l : List UInt8) : behind c l = [] ∨ ∃ r, behind c l = c :: r := by
  induction l with
  | nil => left; rfl
  | cons b l ih =>
    by_cases hb : b = c
    · right; exact ⟨l, by simp [behind, hb]⟩
    · have hb' : (b != c) = true := by simpa using hb
      have h1 : behind c (b :: l) = behind c l := by simp only [behind, List.dropWhile_cons, hb', if_true]
      rw [h1]; exact ih
theorem index_yes {c : UInt8} {l r : List UInt8} (h : behind c l = c :: r) : Lib.indexByte l c = (ahead c l).length := by
  have h1 := ahead_behind c l
  rw [h] at h1
  have h2 := index_at (ahead c l) r c (ahead_free c l)
  rw [h1] at h2; exact h2
theorem index_no {c : UInt8} {l : List UInt8} (h : behind c l = []) : Lib.indexByte l c = -1 ∧ ahead c l = l := by
  have h1 := ahead_behind c l
  rw [h, List.append_nil] at h1
  refine ⟨?_, h1⟩
  have h2 := index_free (ahead c l) c (ahead_free c l)
  rwa [h1] at h2
theorem take_ahead (c : UInt8) (l : List UInt8) : l.take (ahead c l).length = ahead c l := by
  have h := congrArg (List.take (ahead c l).length) (ahead_behind c l)
  rw [List.take_left] at h; exact h.symm
theorem drop_ahead (c : UInt8) (l : List UInt8) : l.drop (ahead c l).length = behind c l := by
  have h := congrArg (List.drop (ahead c l).length) (ahead_behind c l)
  rw [List.drop_left] at h; exact h.symm

/- two digits -/
theorem numv_two (a b : UInt8) (h : digsB 16 [a, b] = true) : 0 ≤ numv 16 [a, b] ∧ numv 16 [a, b] ≤ 255 := by
  simp only [digsB, List.all_cons, List.all_nil, Bool.and_true, Bool.and_eq_true, decide_eq_true_eq] at h
  have h1 := dval_bd a
  have h2 := dval_bd b
  simp only [numv, List.foldl_cons, List.foldl_nil]
  omega
theorem numOk_two (most : Int) (a b : UInt8) (h : 2 ≤ most) : numOk 16 most [a, b] = digsB 16 [a, b] := by
  have h1 : decide ((([a, b] : List UInt8).length : Int) ≤ most) = true := decide_eq_true (by simpa using h)
  unfold numOk; rw [h1]; rfl

/- how far an escaped text has been read: all = the rest, behind what is out already -/
def Read (all out rest : List UInt8) : Prop := unesc all = (unesc rest).map (fun r => out ++ r)
theorem Read.start (l : List UInt8) : Read l [] l := by simp [Read]
theorem Read.plain {all out : List UInt8} {c : UInt8} {r : List UInt8} (h : Read all out (c :: r)) (hc : c ≠ 37) : Read all (out ++ [c]) r := by
  unfold Read at *; rw [h, unesc_plain c r hc]; simp [Function.comp_def]
theorem Read.esc {all out : List UInt8} {a b : UInt8} {r : List UInt8} (h : Read all out (37 :: a :: b :: r)) (hd : digsB 16 [a, b] = true) : Read all (out ++ [(numv 16 [a, b]).toNat.toUInt8]) r := by
  unfold Read at *; rw [h, unesc_esc, if_pos hd]; simp [Function.comp_def]
theorem Read.bad {all out : List UInt8} {a b : UInt8} {r : List UInt8} (h : Read all out (37 :: a :: b :: r)) (hd : digsB 16 [a, b] = false) : unesc all = none := by
  unfold Read at h; rw [h, unesc_esc, if_neg (by simp [hd])]; rfl
theorem Read.short {all out r : List UInt8} (h : Read all out (37 :: r)) (hr : r.length < 2) : unesc all = none := by
  unfold Read at h; rw [h, unesc_short r hr]; rfl
theorem Read.done {all out : List UInt8} (h : Read all out []) : unesc all = some out := by
  unfold Read at h; rw [h]; simp [unesc]
theorem Read.ahead {all out r : List UInt8} (h : Read all out r) : Read all (out ++ Pm.ahead 37 r) (behind 37 r) := by
  unfold Read at *; rw [h, unesc_ahead r]; simp [Function.comp_def]

/- what a call answers: the text, and the number of the error -/
def unT (l : List UInt8) : ByteArray := ⟨((unesc l).getD []).toArray⟩
def unE (l : List UInt8) : Int := if (unesc l).isSome then 0 else 3
theorem unT_some {l o : List UInt8} (h : unesc l = some o) : unT l = ⟨o.toArray⟩ := by simp [unT, h]
theorem unT_none {l : List UInt8} (h : unesc l = none) : unT l = ⟨#[]⟩ := by simp [unT, h]
theorem unE_some {l o : List UInt8} (h : unesc l = some o) : unE l = 0 := by simp [unE, h]
theorem unE_none {l : List UInt8} (h : unesc l = none) : unE l = 3 := by simp [unE, h]

theorem drop_at (s : ByteArray) (k : Nat) (h : k < s.size) : s.data.toList.drop k = s[k] :: s.data.toList.drop (k + 1) := by
  rw [List.drop_eq_getElem_cons (by simpa using h)]; rfl
theorem two_at (s : ByteArray) (k : Nat) (h : k + 2 < s.size) : (s.extract (k + 1) (k + 3)).data.toList = [s[k + 1], s[k + 2]] := by
  obtain ⟨⟨l⟩⟩ := s
  have h' : k + 2 < l.length := h
  rw [ByteArray.extract_mk]
  show (l.drop (k + 1)).take (k + 3 - (k + 1)) = _
  rw [List.drop_eq_getElem_cons (by omega), List.drop_eq_getElem_cons (by omega), show k + 3 - (k + 1) = 2 from by omega]
  rfl

/- the words of a status -/
def look : List (Int × List UInt8) → Int → List UInt8
  | [], _ => [83, 116, 97, 116, 117, 115]
  | (c, t) :: r, n => if c = n then t else look r n
def codes : List (Int × List UInt8) := [(200, [79, 75]),
  (301, [77, 111, 118, 101, 100, 32, 80, 101, 114, 109, 97, 110, 101, 110, 116, 108, 121]),
  (308, [80, 101, 114, 109, 97, 110, 101, 110, 116, 32, 82, 101, 100, 105, 114, 101, 99, 116]),
  (400, [66, 97, 100, 32, 82, 101, 113, 117, 101, 115, 116]),
  (403, [70, 111, 114, 98, 105, 100, 100, 101, 110]),
  (404, [78, 111, 116, 32, 70, 111, 117, 110, 100]),
  (405, [77, 101, 116, 104, 111, 100, 32, 78, 111, 116, 32, 65, 108, 108, 111, 119, 101, 100]),
  (413, [67, 111, 110, 116, 101, 110, 116, 32, 84, 111, 111, 32, 76, 97, 114, 103, 101]),
  (431, [82, 101, 113, 117, 101, 115, 116, 32, 72, 101, 97, 100, 101, 114, 32, 70, 105, 101, 108, 100, 115, 32, 84, 111, 111, 32, 76, 97, 114, 103, 101]),
  (500, [73, 110, 116, 101, 114, 110, 97, 108, 32, 83, 101, 114, 118, 101, 114, 32, 69, 114, 114, 111, 114]),
  (501, [78, 111, 116, 32, 73, 109, 112, 108, 101, 109, 101, 110, 116, 101, 100]),
  (505, [72, 84, 84, 80, 32, 86, 101, 114, 115, 105, 111, 110, 32, 78, 111, 116, 32, 83, 117, 112, 112, 111, 114, 116, 101, 100])]
def reasonB (n : Int) : ByteArray := ⟨(look codes n).toArray⟩

end Go.Proofs.YtnohadlihgjppaaGreatDoor.Pm
