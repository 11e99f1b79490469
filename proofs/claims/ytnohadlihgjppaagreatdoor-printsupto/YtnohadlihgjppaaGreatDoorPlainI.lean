/- Plain mathematics, ninth part: blanks at both ends, taken off one by one; great letters and small ones. -/
import Derived.Test.YtnohadlihgjppaaGreatDoorPlainC
import Derived.Lib.SlTrimSet
namespace Go.Proofs.YtnohadlihgjppaaGreatDoor.Pm

def inB (al : List UInt8) (c : UInt8) : Bool := decide (0 ≤ Lib.indexByte al c)
theorem small_low (c : UInt8) : small c = low c := by
  have := all256 (p := fun c => small c == low c) (by decide +kernel) c
  simpa using this
theorem map_small (l : List UInt8) : l.map small = l.map low := List.map_congr_left fun c _ => small_low c
def isBl (c : UInt8) : Bool := decide ((c.toNat : Int) = 32) || decide ((c.toNat : Int) = 9)
theorem isBl_iff (c : UInt8) : blanks.contains c = isBl c := by
  have := all256 (p := fun c => blanks.contains c == isBl c) (by decide +kernel) c
  simpa using this
theorem trimR_cons (c : UInt8) (t : List UInt8) : Lib.trimRightS (c :: t) blanks = if Lib.trimRightS t blanks = [] ∧ isBl c = true then [] else c :: Lib.trimRightS t blanks := by
  unfold Lib.trimRightS
  rw [List.reverse_cons, List.dropWhile_append]
  cases h : (t.reverse.dropWhile (blanks.contains ·)) with
  | nil =>
    simp only [List.isEmpty_nil, if_true, List.reverse_nil, true_and]
    cases hb : isBl c
    · simp only [List.dropWhile_cons, isBl_iff, hb]; simp
    · simp only [List.dropWhile_cons, isBl_iff, hb]; simp
  | cons a r => simp
theorem trim_front {c : UInt8} (t : List UInt8) (h : isBl c = true) : Lib.trimS (c :: t) blanks = Lib.trimS t blanks := by
  unfold Lib.trimS
  rw [trimR_cons]
  by_cases h1 : Lib.trimRightS t blanks = []
  · rw [if_pos ⟨h1, h⟩, h1]
  · rw [if_neg (fun h2 => h1 h2.1)]
    unfold Lib.trimLeftS
    rw [List.dropWhile_cons, isBl_iff, h, if_pos rfl]
theorem trim_back {c : UInt8} (t : List UInt8) (h : isBl c = true) : Lib.trimS (t ++ [c]) blanks = Lib.trimS t blanks := by
  unfold Lib.trimS Lib.trimRightS
  rw [List.reverse_append, List.reverse_singleton, List.singleton_append, List.dropWhile_cons, isBl_iff, h, if_pos rfl]
theorem trim_nil : Lib.trimS [] blanks = [] := rfl
theorem trim_done (l : List UInt8) (h1 : ∀ c, l.head? = some c → isBl c = false) (h2 : ∀ c, l.getLast? = some c → isBl c = false) : Lib.trimS l blanks = l := by
  have hr : Lib.trimRightS l blanks = l := by
    unfold Lib.trimRightS
    cases hl : l.reverse with
    | nil => simp at hl; subst hl; rfl
    | cons a r =>
      have ha : l.getLast? = some a := by rw [← List.head?_reverse, hl]; rfl
      rw [List.dropWhile_cons, isBl_iff, h2 a ha]
      simp only [Bool.false_eq_true, if_false]
      rw [← hl, List.reverse_reverse]
  unfold Lib.trimS
  rw [hr]
  unfold Lib.trimLeftS
  cases l with
  | nil => rfl
  | cons a r => rw [List.dropWhile_cons, isBl_iff, h1 a rfl]; rfl
/- the same, by the bytes of a text -/
theorem bare_front (s : ByteArray) (h : 0 < s.size) (hb : isBl s[0] = true) : Lib.trimS s.data.toList blanks = Lib.trimS (s.extract 1 s.size).data.toList blanks := by
  obtain ⟨⟨l⟩⟩ := s
  cases l with
  | nil => exact absurd h (by simp [ByteArray.size])
  | cons a r =>
    have hb' : isBl a = true := hb
    rw [Lib.extract_data]
    simp only
    rw [trim_front r hb', List.drop_one, List.tail_cons, List.take_of_length_le (by simp [ByteArray.size])]
theorem bare_back (s : ByteArray) (h : 0 < s.size) (hb : isBl s[s.size - 1] = true) : Lib.trimS s.data.toList blanks = Lib.trimS (s.extract 0 (s.size - 1)).data.toList blanks := by
  have e : s.data.toList = s.data.toList.take (s.size - 1) ++ [s[s.size - 1]] := by
    have := take_snoc s (s.size - 1) (by omega)
    rw [show s.size - 1 + 1 = s.size from by omega, List.take_of_length_le (by simp)] at this
    exact this
  rw [e, trim_back _ hb, Lib.extract_data]
  simp
theorem bare_done (s : ByteArray) (h1 : ∀ h : 0 < s.size, isBl s[0] = false) (h2 : ∀ h : 0 < s.size, isBl s[s.size - 1] = false) : Lib.trimS s.data.toList blanks = s.data.toList := by
  obtain ⟨⟨l⟩⟩ := s
  refine trim_done l ?_ ?_
  · intro c hc
    cases l with
    | nil => simp at hc
    | cons a r =>
      obtain rfl : a = c := by simpa using hc
      exact h1 (by simp [ByteArray.size])
  · intro c hc
    have hp : 0 < l.length := by cases l with
      | nil => simp at hc
      | cons a r => simp
    have h3 := h2 hp
    rw [List.getLast?_eq_getElem?] at hc
    have : (⟨⟨l⟩⟩ : ByteArray)[(⟨⟨l⟩⟩ : ByteArray).size - 1]'(by simp [ByteArray.size]; omega) = c := by
      have h4 : l[l.length - 1]'(by omega) = c := by
        rw [List.getElem?_eq_getElem (by omega)] at hc; exact Option.some.inj hc
      exact h4
    rw [← this]; exact h3
end Go.Proofs.YtnohadlihgjppaaGreatDoor.Pm
