/- Texts that follow one another, joined. -/
import Derived.Test.YtnohadlihgjppaaDoorJoin00
import Derived.Lib.Strings
import Derived.Lib.SlTrimSet
/- Plain mathematics on lists of bytes, third part: methods, targets, versions, fields, names that are alike. -/
namespace Go.Proofs.YtnohadlihgjppaaDoor.Pm

def allP (p : UInt8 → Bool) (l : List UInt8) : Bool := l.all p
theorem allP_snoc (p : UInt8 → Bool) (l : List UInt8) (c : UInt8) : allP p (l ++ [c]) = (allP p l && p c) := by simp [allP]
theorem allP_take {p : UInt8 → Bool} {l : List UInt8} {k : Nat} (h : allP p (l.take k) = false) : allP p l = false := by
  cases hc : allP p l
  · rfl
  · have h2 : allP p (l.take k) = true := List.all_eq_true.2 fun x hx => List.all_eq_true.1 hc x (List.mem_of_mem_take hx)
    rw [h] at h2; exact h2.symm

def tgtB (c : UInt8) : Bool := decide (33 ≤ (c.toNat : Int)) && decide ((c.toNat : Int) ≤ 126) && decide ((c.toNat : Int) ≠ 35)
def valB (c : UInt8) : Bool := decide ((c.toNat : Int) = 9) || (decide (32 ≤ (c.toNat : Int)) && decide ((c.toNat : Int) ≠ 127))
def low (c : UInt8) : UInt8 := if 65 ≤ c.toNat ∧ c.toNat ≤ 90 then c + 32 else c
theorem low_nat (c : UInt8) : (low c).toNat = if 65 ≤ c.toNat ∧ c.toNat ≤ 90 then c.toNat + 32 else c.toNat := by
  have := all256 (p := fun c => (low c).toNat == if 65 ≤ c.toNat ∧ c.toNat ≤ 90 then c.toNat + 32 else c.toNat) (by decide +kernel) c
  simpa using this
def alike (a b : List UInt8) : Bool := a.map low == b.map low
def isMethod (l : List UInt8) : Bool := decide (l.length ≤ 16) && isTok l
def isTarget (l : List UInt8) : Bool := Lib.hasPrefix l [47] && (allP tgtB l && (unesc (ahead 63 l)).isSome)
def http : List UInt8 := [72, 84, 84, 80, 47]
def verTail (l : List UInt8) : Bool := match l with
  | [a, b, c] => digB a && (b == 46 && digB c)
  | _ => false
def isVersion (l : List UInt8) : Bool := Lib.hasPrefix l http && verTail (Lib.trimPrefix l http)
def blanks : List UInt8 := [32, 9]
def isValue (v : List UInt8) : Bool := allP valB v && (Lib.trimS v blanks == v)
def isField (n v : List UInt8) : Bool := isTok n && isValue v
/- the field that a line is -/
def fieldS (l : List UInt8) : Option (List UInt8 × List UInt8) :=
  if (!(behind 58 l).isEmpty && isField (ahead 58 l) (Lib.trimS ((behind 58 l).drop 1) blanks)) = true then some (ahead 58 l, Lib.trimS ((behind 58 l).drop 1) blanks) else none

def isPath (l : List UInt8) : Bool := (unesc l).isSome && Lib.hasPrefix l [47]
theorem isTarget_path (l : List UInt8) : isTarget l = (isPath (ahead 63 l) && allP tgtB l) := by
  have h : Lib.hasPrefix (ahead 63 l) [47] = Lib.hasPrefix l [47] := by
    cases l with
    | nil => rfl
    | cons c l =>
      unfold ahead Lib.hasPrefix
      by_cases hc : c = 63
      · subst hc; simp [List.isPrefixOf]
      · rw [List.takeWhile_cons_of_pos (by simpa using hc)]; simp [List.isPrefixOf]
  unfold isTarget isPath
  rw [h]
  cases Lib.hasPrefix l [47] <;> cases allP tgtB l <;> cases (unesc (ahead 63 l)).isSome <;> rfl
theorem unE_iff (l : List UInt8) : decide (unE l = 0) = (unesc l).isSome := by
  unfold unE; cases (unesc l).isSome <;> simp
theorem take_eq_of {a b : List UInt8} {k : Nat} (hl : a.length = b.length) (h : a.length ≤ k) (he : (a.take k).map low = (b.take k).map low) : alike a b = true := by
  rw [List.take_of_length_le h, List.take_of_length_le (by omega)] at he
  simp [alike, he]
theorem alike_ne {a b : List UInt8} (h : a.length ≠ b.length) : alike a b = false := by
  rw [alike, beq_eq_false_iff_ne]; intro he; have := congrArg List.length he; simp at this; exact h this
theorem alike_at {a b : ByteArray} {k : Nat} (ha : k < a.size) (hb : k < b.size) (h : low a[k] ≠ low b[k]) : alike a.data.toList b.data.toList = false := by
  rw [alike, beq_eq_false_iff_ne]; intro he
  have h1 : (a.data.toList.map low)[k]? = (b.data.toList.map low)[k]? := by rw [he]
  rw [List.getElem?_map, List.getElem?_map, List.getElem?_eq_getElem (by simpa using ha), List.getElem?_eq_getElem (by simpa using hb)] at h1
  simp only [Option.map_some, Option.some.injEq] at h1
  exact h h1
theorem mapLow_snoc {a b : ByteArray} {k : Nat} (ha : k < a.size) (hb : k < b.size) (h : low a[k] = low b[k]) (he : (a.data.toList.take k).map low = (b.data.toList.take k).map low) :
    (a.data.toList.take (k + 1)).map low = (b.data.toList.take (k + 1)).map low := by
  rw [take_snoc a k ha, take_snoc b k hb, List.map_append, List.map_append, he]; simp [h]

end Go.Proofs.YtnohadlihgjppaaDoor.Pm

/- Plain mathematics, ninth part: blanks at both ends, taken off one by one; great letters and small ones. -/
namespace Go.Proofs.YtnohadlihgjppaaDoor.Pm

def inB (al : List UInt8) (c : UInt8) : Bool := decide (0 ≤ Lib.indexByte al c)
theorem small_low (c : UInt8) : small c = low c := by
  have := all256 (p := fun c => small c == low c) (by decide +kernel) c
  simpa using this
theorem map_small (l : List UInt8) : l.map small = l.map low := List.map_congr_left fun c _ => small_low c
def isBl (c : UInt8) : Bool := decide ((c.toNat : Int) = 32) || decide ((c.toNat : Int) = 9)
theorem isBl_iff (c : UInt8) : blanks.contains c = isBl c := by
  have := all256 (p := fun c => blanks.contains c == isBl c) (by decide +kernel) c
  simpa using this
theorem trimR_cons (c : UInt8) (t : List UInt8) : Lib.trimRightS (c :: t) blanks = if Lib.trimRightS t blanks = [] ∧ isBl c = true then [] else c :: Lib.trimRightS t blanks := by
  unfold Lib.trimRightS
  rw [List.reverse_cons, List.dropWhile_append]
  cases h : (t.reverse.dropWhile (blanks.contains ·)) with
  | nil =>
    simp only [List.isEmpty_nil, if_true, List.reverse_nil, true_and]
    cases hb : isBl c
    · simp only [List.dropWhile_cons, isBl_iff, hb]; simp
    · simp only [List.dropWhile_cons, isBl_iff, hb]; simp
  | cons a r => simp
theorem trim_front {c : UInt8} (t : List UInt8) (h : isBl c = true) : Lib.trimS (c :: t) blanks = Lib.trimS t blanks := by
  unfold Lib.trimS
  rw [trimR_cons]
  by_cases h1 : Lib.trimRightS t blanks = []
  · rw [if_pos ⟨h1, h⟩, h1]
  · rw [if_neg (fun h2 => h1 h2.1)]
    unfold Lib.trimLeftS
    rw [List.dropWhile_cons, isBl_iff, h, if_pos rfl]
theorem trim_back {c : UInt8} (t : List UInt8) (h : isBl c = true) : Lib.trimS (t ++ [c]) blanks = Lib.trimS t blanks := by
  unfold Lib.trimS Lib.trimRightS
  rw [List.reverse_append, List.reverse_singleton, List.singleton_append, List.dropWhile_cons, isBl_iff, h, if_pos rfl]
theorem trim_nil : Lib.trimS [] blanks = [] := rfl
theorem trim_done (l : List UInt8) (h1 : ∀ c, l.head? = some c → isBl c = false) (h2 : ∀ c, l.getLast? = some c → isBl c = false) : Lib.trimS l blanks = l := by
  have hr : Lib.trimRightS l blanks = l := by
    unfold Lib.trimRightS
    cases hl : l.reverse with
    | nil => simp at hl; subst hl; rfl
    | cons a r =>
      have ha : l.getLast? = some a := by rw [← List.head?_reverse, hl]; rfl
      rw [List.dropWhile_cons, isBl_iff, h2 a ha]
      simp only [Bool.false_eq_true, if_false]
      rw [← hl, List.reverse_reverse]
  unfold Lib.trimS
  rw [hr]
  unfold Lib.trimLeftS
  cases l with
  | nil => rfl
  | cons a r => rw [List.dropWhile_cons, isBl_iff, h1 a rfl]; rfl
/- the same, by the bytes of a text -/
theorem bare_front (s : ByteArray) (h : 0 < s.size) (hb : isBl s[0] = true) : Lib.trimS s.data.toList blanks = Lib.trimS (s.extract 1 s.size).data.toList blanks := by
  obtain ⟨⟨l⟩⟩ := s
  cases l with
  | nil => exact absurd h (by simp [ByteArray.size])
  | cons a r =>
    have hb' : isBl a = true := hb
    rw [Lib.extract_data]
    simp only
    rw [trim_front r hb', List.drop_one, List.tail_cons, List.take_of_length_le (by simp [ByteArray.size])]
theorem bare_back (s : ByteArray) (h : 0 < s.size) (hb : isBl s[s.size - 1] = true) : Lib.trimS s.data.toList blanks = Lib.trimS (s.extract 0 (s.size - 1)).data.toList blanks := by
  have e : s.data.toList = s.data.toList.take (s.size - 1) ++ [s[s.size - 1]] := by
    have := take_snoc s (s.size - 1) (by omega)
    rw [show s.size - 1 + 1 = s.size from by omega, List.take_of_length_le (by simp)] at this
    exact this
  rw [e, trim_back _ hb, Lib.extract_data]
  simp
theorem bare_done (s : ByteArray) (h1 : ∀ h : 0 < s.size, isBl s[0] = false) (h2 : ∀ h : 0 < s.size, isBl s[s.size - 1] = false) : Lib.trimS s.data.toList blanks = s.data.toList := by
  obtain ⟨⟨l⟩⟩ := s
  refine trim_done l ?_ ?_
  · intro c hc
    cases l with
    | nil => simp at hc
    | cons a r =>
      obtain rfl : a = c := by simpa using hc
      exact h1 (by simp [ByteArray.size])
  · intro c hc
    have hp : 0 < l.length := by cases l with
      | nil => simp at hc
      | cons a r => simp
    have h3 := h2 hp
    rw [List.getLast?_eq_getElem?] at hc
    have : (⟨⟨l⟩⟩ : ByteArray)[(⟨⟨l⟩⟩ : ByteArray).size - 1]'(by simp [ByteArray.size]; omega) = c := by
      have h4 : l[l.length - 1]'(by omega) = c := by
        rw [List.getElem?_eq_getElem (by omega)] at hc; exact Option.some.inj hc
      exact h4
    rw [← this]; exact h3
end Go.Proofs.YtnohadlihgjppaaDoor.Pm
