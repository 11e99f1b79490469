/- Texts that follow one another, joined. -/
import Derived.Lib.Bytealg
/- Plain mathematics on lists of bytes: tokens, digits, numbers, escaped bytes; no program is named. -/
namespace Go.Proofs.YtnohadlihgjppaaDoor.Pm

/- the byte is one of a list -/
def marks : List UInt8 := [33, 35, 36, 37, 38, 39, 42, 43, 45, 46, 94, 95, 124, 126, 96]
def digB (c : UInt8) : Bool := decide (48 ≤ (c.toNat : Int)) && decide ((c.toNat : Int) ≤ 57)
def letB (c : UInt8) : Bool := (decide (65 ≤ (c.toNat : Int)) && decide ((c.toNat : Int) ≤ 90)) || (decide (97 ≤ (c.toNat : Int)) && decide ((c.toNat : Int) ≤ 122))
def tokB (c : UInt8) : Bool := letB c || digB c || decide (0 ≤ Lib.indexByte marks c)
def allTok (l : List UInt8) : Bool := l.all tokB
def isTok (l : List UInt8) : Bool := !l.isEmpty && allTok l

theorem allTok_snoc (l : List UInt8) (c : UInt8) : allTok (l ++ [c]) = (allTok l && tokB c) := by simp [allTok]
theorem allTok_take {l : List UInt8} {k : Nat} (h : allTok (l.take k) = false) : allTok l = false := by
  cases hc : allTok l
  · rfl
  · have h2 : allTok (l.take k) = true := List.all_eq_true.2 fun x hx => List.all_eq_true.1 hc x (List.mem_of_mem_take hx)
    rw [h] at h2; exact h2.symm

/- a digit's value; 16: none -/
def dval (c : UInt8) : Int :=
  if 48 ≤ c.toNat ∧ c.toNat ≤ 57 then (c.toNat : Int) - 48
  else if 97 ≤ c.toNat ∧ c.toNat ≤ 102 then (c.toNat : Int) - 97 + 10
  else if 65 ≤ c.toNat ∧ c.toNat ≤ 70 then (c.toNat : Int) - 65 + 10 else 16
def digsB (base : Int) (l : List UInt8) : Bool := l.all fun c => decide (dval c < base)
def numv (base : Int) (l : List UInt8) : Int := l.foldl (fun n c => n * base + dval c) 0

theorem dval_bd (c : UInt8) : 0 ≤ dval c ∧ dval c ≤ 16 := by
  unfold dval; split
  · omega
  · split
    · omega
    · split <;> omega

theorem numv_snoc (base : Int) (l : List UInt8) (c : UInt8) : numv base (l ++ [c]) = numv base l * base + dval c := by
  simp [numv]
theorem digsB_snoc (base : Int) (l : List UInt8) (c : UInt8) : digsB base (l ++ [c]) = (digsB base l && decide (dval c < base)) := by
  simp [digsB]

theorem numv_rev (base : Int) (r : List UInt8) (hb : 0 ≤ base) (hb2 : base ≤ 16) (h : digsB base r.reverse = true) :
    0 ≤ numv base r.reverse ∧ numv base r.reverse < 16 ^ r.length := by
  induction r with
  | nil => simp [numv]
  | cons c r ih =>
    rw [List.reverse_cons] at h ⊢
    rw [digsB_snoc, Bool.and_eq_true] at h
    have i := ih h.1
    have hd : dval c < base := by simpa using h.2
    have d0 := (dval_bd c).1
    rw [numv_snoc, List.length_cons, Int.pow_succ]
    refine ⟨by have := Int.mul_nonneg i.1 hb; omega, ?_⟩
    have h1 : numv base r.reverse * base ≤ (16 ^ r.length - 1) * 16 :=
      Int.le_trans (Int.mul_le_mul_of_nonneg_left hb2 i.1) (Int.mul_le_mul_of_nonneg_right (by omega) (by omega))
    have h2 : ((16 : Int) ^ r.length - 1) * 16 = 16 ^ r.length * 16 - 16 := by rw [Int.sub_mul]; omega
    omega
theorem numv_bd (base : Int) (l : List UInt8) (hb : 0 ≤ base) (hb2 : base ≤ 16) (h : digsB base l = true) (hl : l.length ≤ 9) :
    0 ≤ numv base l ∧ numv base l < 68719476736 := by
  have := numv_rev base l.reverse hb hb2 (by simpa using h)
  simp only [List.reverse_reverse, List.length_reverse] at this
  refine ⟨this.1, Int.lt_of_lt_of_le this.2 ?_⟩
  have hp : (16 : Int) ^ l.length ≤ 16 ^ 9 := by have := Nat.pow_le_pow_right (n := 16) (by omega) hl; exact_mod_cast this
  exact Int.le_trans hp (by decide)

def numOk (base most : Int) (l : List UInt8) : Bool := decide (1 ≤ l.length) && decide ((l.length : Int) ≤ most) && digsB base l
def numN (base most : Int) (l : List UInt8) : Int := if numOk base most l = true then numv base l else 0
def numE (base most : Int) (l : List UInt8) : Int := if numOk base most l = true then 0 else 1
def numM (base most : Int) (l : List UInt8) : Int := if numOk base most l = true then numv base l else -1
theorem digsB_take {base : Int} {l : List UInt8} {k : Nat} (h : digsB base (l.take k) = false) : digsB base l = false := by
  cases hc : digsB base l
  · rfl
  · have h2 : digsB base (l.take k) = true := List.all_eq_true.2 fun x hx => List.all_eq_true.1 hc x (List.mem_of_mem_take hx)
    rw [h] at h2; exact h2.symm
theorem numOk_no1 {base most : Int} {l : List UInt8} (h : (l.length : Int) < 1 ∨ most < l.length) : numOk base most l = false := by
  cases hc : numOk base most l
  · rfl
  · simp only [numOk, Bool.and_eq_true, decide_eq_true_eq] at hc; omega
theorem numOk_no2 {base most : Int} {l : List UInt8} (h : digsB base l = false) : numOk base most l = false := by simp [numOk, h]
theorem numOk_yes {base most : Int} {l : List UInt8} (h1 : 1 ≤ (l.length : Int)) (h2 : (l.length : Int) ≤ most) (h : digsB base l = true) : numOk base most l = true := by
  simp only [numOk, Bool.and_eq_true, decide_eq_true_eq]; exact ⟨⟨by omega, h2⟩, h⟩
theorem numM_bd {base most : Int} {l : List UInt8} (hb : 0 ≤ base) (hb2 : base ≤ 16) (hm : most ≤ 9) : -1 ≤ numM base most l ∧ numM base most l < 68719476736 := by
  unfold numM; split
  · rename_i h
    simp only [numOk, Bool.and_eq_true, decide_eq_true_eq] at h
    have := numv_bd base l hb hb2 h.2 (by omega); omega
  · omega

/- the reference's alphabet, and its way to a digit -/
def alpha : List UInt8 := [48, 49, 50, 51, 52, 53, 54, 55, 56, 57, 97, 98, 99, 100, 101, 102, 103, 104, 105, 106, 107, 108, 109, 110, 111, 112, 113, 114, 115, 116, 117, 118, 119, 120, 121, 122, 65, 66, 67, 68, 69, 70, 71, 72, 73, 74, 75, 76, 77, 78, 79, 80, 81, 82, 83, 84, 85, 86, 87, 88, 89, 90, 33, 35, 36, 37, 38, 39, 42, 43, 45, 46, 94, 95, 124, 126, 96]
def greats : List UInt8 := [65, 66, 67, 68, 69, 70, 71, 72, 73, 74, 75, 76, 77, 78, 79, 80, 81, 82, 83, 84, 85, 86, 87, 88, 89, 90]
def digs16 : List UInt8 := [48, 49, 50, 51, 52, 53, 54, 55, 56, 57, 97, 98, 99, 100, 101, 102]
def smalls : List UInt8 := [97, 98, 99, 100, 101, 102, 103, 104, 105, 106, 107, 108, 109, 110, 111, 112, 113, 114, 115, 116, 117, 118, 119, 120, 121, 122]
def gidx (c : UInt8) : Int := Lib.indexByte greats c
def small (c : UInt8) : UInt8 := if 0 ≤ gidx c then c + 32 else c

theorem all256 {p : UInt8 → Bool} (h : (List.range 256).all (fun n => p n.toUInt8) = true) (c : UInt8) : p c = true := by
  have := List.all_eq_true.1 h c.toNat (by simpa using c.toNat_lt)
  simpa using this
theorem gidx_bd (c : UInt8) : -1 ≤ gidx c ∧ gidx c ≤ 25 := by
  have := all256 (p := fun c => decide (-1 ≤ gidx c ∧ gidx c ≤ 25)) (by decide +kernel) c
  simpa using this
theorem small_no (c : UInt8) (h : gidx c < 0) : small c = c := by unfold small; rw [if_neg (by omega)]
theorem small_yes (c : UInt8) (j : Nat) (h : gidx c = j) : ((smalls.drop j).take 1) = [small c] := by
  have := all256 (p := fun c => decide (gidx c < 0) || (((smalls.drop (gidx c).toNat).take 1) == [small c])) (by decide +kernel) c
  have h2 : decide (gidx c < 0) = false := decide_eq_false (by omega)
  rw [h2, h] at this
  simpa using this
theorem tok_alpha (c : UInt8) : decide (0 ≤ Lib.indexByte alpha c) = tokB c := by
  have := all256 (p := fun c => decide (0 ≤ Lib.indexByte alpha c) == tokB c) (by decide +kernel) c
  simpa using this
theorem dig_at10 (c : UInt8) : Lib.indexByte (digs16.take 10) (small c) = if dval c < 10 then dval c else -1 := by
  have := all256 (p := fun c => Lib.indexByte (digs16.take 10) (small c) == if dval c < 10 then dval c else -1) (by decide +kernel) c
  simpa using this
theorem dig_at16 (c : UInt8) : Lib.indexByte digs16 (small c) = if dval c < 16 then dval c else -1 := by
  have := all256 (p := fun c => Lib.indexByte digs16 (small c) == if dval c < 16 then dval c else -1) (by decide +kernel) c
  simpa using this

/- escaped bytes -/
def unesc : List UInt8 → Option (List UInt8)
  | [] => some []
  | c :: a :: b :: r => if c = 37 then (if digsB 16 [a, b] = true then (unesc r).map (fun l => (numv 16 [a, b]).toNat.toUInt8 :: l) else none) else (unesc (a :: b :: r)).map (fun l => c :: l)
  | [c] => if c = 37 then none else some [c]
  | [c, a] => if c = 37 then none else if a = 37 then none else some [c, a]

theorem unesc_plain (c : UInt8) (r : List UInt8) (h : c ≠ 37) : unesc (c :: r) = (unesc r).map (fun l => c :: l) := by
  match r with
  | [] => simp [unesc, h]
  | [a] => by_cases ha : a = 37 <;> simp [unesc, h, ha]
  | a :: b :: r => rw [unesc, if_neg h]
theorem unesc_short (r : List UInt8) (h : r.length < 2) : unesc (37 :: r) = none := by
  match r, h with
  | [], _ => rfl
  | [a], _ => rfl
theorem unesc_esc (a b : UInt8) (r : List UInt8) : unesc (37 :: a :: b :: r) = if digsB 16 [a, b] = true then (unesc r).map (fun l => (numv 16 [a, b]).toNat.toUInt8 :: l) else none := by
  rw [unesc, if_pos rfl]

def ahead (c : UInt8) (l : List UInt8) : List UInt8 := l.takeWhile (· != c)
def behind (c : UInt8) (l : List UInt8) : List UInt8 := l.dropWhile (· != c)
theorem unesc_ahead (l : List UInt8) : unesc l = (unesc (behind 37 l)).map (fun r => ahead 37 l ++ r) := by
  induction l with
  | nil => simp [unesc, ahead, behind]
  | cons c l ih =>
    by_cases h : c = 37
    · subst h; simp [ahead, behind]
    · rw [unesc_plain c l h, ih]
      have hc : (c != 37) = true := by simpa using h
      simp [ahead, behind, hc, Function.comp_def]

theorem take_snoc (s : ByteArray) (k : Nat) (h : k < s.size) : s.data.toList.take (k + 1) = s.data.toList.take k ++ [s[k]] := by
  rw [List.take_succ_eq_append_getElem (by simpa using h)]; rfl

theorem one_at (s : ByteArray) (k : Nat) (h : k < s.size) : (s.data.toList.drop k).take (k + 1 - k) = [s[k]] := by
  have h2 : k < s.data.toList.length := by simpa using h
  rw [List.drop_eq_getElem_cons h2, show k + 1 - k = 1 from by omega]; rfl

/- the first place of a byte, read from the front -/
def noneTo (c : UInt8) (k : Nat) (l : List UInt8) : Prop := ∀ x ∈ l.take k, x ≠ c
theorem noneTo_zero (c : UInt8) (l : List UInt8) : noneTo c 0 l := by intro x hx; simp at hx
theorem noneTo_succ (s : ByteArray) (c : UInt8) (k : Nat) (h : k < s.size) (hn : noneTo c k s.data.toList) (he : ¬ s[k] = c) : noneTo c (k + 1) s.data.toList := by
  intro x hx
  rw [take_snoc s k h, List.mem_append] at hx
  rcases hx with hx | hx
  · exact hn x hx
  · simp at hx; subst hx; exact he
theorem index_free (l : List UInt8) (c : UInt8) (h : ∀ x ∈ l, x ≠ c) : Lib.indexByte l c = -1 := by
  induction l with
  | nil => rfl
  | cons b l ih =>
    have hb : (b == c) = false := by simpa using h b (by simp)
    have hi := ih fun x hx => h x (by simp [hx])
    simp [Lib.indexByte, hb, hi]
theorem index_at (l r : List UInt8) (c : UInt8) (h : ∀ x ∈ l, x ≠ c) : Lib.indexByte (l ++ c :: r) c = l.length := by
  induction l with
  | nil => simp [Lib.indexByte]
  | cons b l ih =>
    have hb : (b == c) = false := by simpa using h b (by simp)
    have hi := ih fun x hx => h x (by simp [hx])
    have hn : ((l.length : Int) == -1) = false := by rw [beq_eq_false_iff_ne]; omega
    simp [Lib.indexByte, hb, hi, hn]
theorem index_hit (s : ByteArray) (c : UInt8) (k : Nat) (h : k < s.size) (hn : noneTo c k s.data.toList) (he : s[k] = c) : (k : Int) = Lib.indexByte s.data.toList c := by
  have h1 : s.data.toList = s.data.toList.take k ++ c :: s.data.toList.drop (k + 1) := by
    have h2 := (List.take_append_drop (k + 1) s.data.toList).symm
    rw [take_snoc s k h, he] at h2
    simpa using h2
  rw [h1, index_at _ _ _ hn]
  simp; omega
theorem index_none (s : ByteArray) (c : UInt8) (h : noneTo c s.size s.data.toList) : Lib.indexByte s.data.toList c = -1 := by
  refine index_free _ _ ?_
  unfold noneTo at h
  rwa [List.take_of_length_le (by simp)] at h

end Go.Proofs.YtnohadlihgjppaaDoor.Pm

/- Plain mathematics on lists of bytes, second part: what stands ahead of a byte; escaped bytes; the reasons of a status. -/
namespace Go.Proofs.YtnohadlihgjppaaDoor.Pm

theorem ahead_behind (c : UInt8) (l : List UInt8) : ahead c l ++ behind c l = l := List.takeWhile_append_dropWhile
theorem ahead_free (c : UInt8) (l : List UInt8) : ∀ x ∈ ahead c l, x ≠ c := by
  induction l with
  | nil => intro x hx; simp [ahead] at hx
  | cons b l ih =>
    intro x hx
    by_cases hb : b = c
    · simp [ahead, hb] at hx
    · have hb' : (b != c) = true := by simpa using hb
      simp only [ahead, List.takeWhile_cons, hb', if_true, List.mem_cons] at hx
      rcases hx with rfl | hx
      · exact hb
      · exact ih x hx
theorem behind_cases (c : UInt8) (l : List UInt8) : behind c l = [] ∨ ∃ r, behind c l = c :: r := by
  induction l with
  | nil => left; rfl
  | cons b l ih =>
    by_cases hb : b = c
    · right; exact ⟨l, by simp [behind, hb]⟩
    · have hb' : (b != c) = true := by simpa using hb
      have h1 : behind c (b :: l) = behind c l := by simp only [behind, List.dropWhile_cons, hb', if_true]
      rw [h1]; exact ih
theorem index_yes {c : UInt8} {l r : List UInt8} (h : behind c l = c :: r) : Lib.indexByte l c = (ahead c l).length := by
  have h1 := ahead_behind c l
  rw [h] at h1
  have h2 := index_at (ahead c l) r c (ahead_free c l)
  rw [h1] at h2; exact h2
theorem index_no {c : UInt8} {l : List UInt8} (h : behind c l = []) : Lib.indexByte l c = -1 ∧ ahead c l = l := by
  have h1 := ahead_behind c l
  rw [h, List.append_nil] at h1
  refine ⟨?_, h1⟩
  have h2 := index_free (ahead c l) c (ahead_free c l)
  rwa [h1] at h2
theorem take_ahead (c : UInt8) (l : List UInt8) : l.take (ahead c l).length = ahead c l := by
  have h := congrArg (List.take (ahead c l).length) (ahead_behind c l)
  rw [List.take_left] at h; exact h.symm
theorem drop_ahead (c : UInt8) (l : List UInt8) : l.drop (ahead c l).length = behind c l := by
  have h := congrArg (List.drop (ahead c l).length) (ahead_behind c l)
  rw [List.drop_left] at h; exact h.symm

/- two digits -/
theorem numv_two (a b : UInt8) (h : digsB 16 [a, b] = true) : 0 ≤ numv 16 [a, b] ∧ numv 16 [a, b] ≤ 255 := by
  simp only [digsB, List.all_cons, List.all_nil, Bool.and_true, Bool.and_eq_true, decide_eq_true_eq] at h
  have h1 := dval_bd a
  have h2 := dval_bd b
  simp only [numv, List.foldl_cons, List.foldl_nil]
  omega
theorem numOk_two (most : Int) (a b : UInt8) (h : 2 ≤ most) : numOk 16 most [a, b] = digsB 16 [a, b] := by
  have h1 : decide ((([a, b] : List UInt8).length : Int) ≤ most) = true := decide_eq_true (by simpa using h)
  unfold numOk; rw [h1]; rfl

/- how far an escaped text has been read: all = the rest, behind what is out already -/
def Read (all out rest : List UInt8) : Prop := unesc all = (unesc rest).map (fun r => out ++ r)
theorem Read.start (l : List UInt8) : Read l [] l := by simp [Read]
theorem Read.plain {all out : List UInt8} {c : UInt8} {r : List UInt8} (h : Read all out (c :: r)) (hc : c ≠ 37) : Read all (out ++ [c]) r := by
  unfold Read at *; rw [h, unesc_plain c r hc]; simp [Function.comp_def]
theorem Read.esc {all out : List UInt8} {a b : UInt8} {r : List UInt8} (h : Read all out (37 :: a :: b :: r)) (hd : digsB 16 [a, b] = true) : Read all (out ++ [(numv 16 [a, b]).toNat.toUInt8]) r := by
  unfold Read at *; rw [h, unesc_esc, if_pos hd]; simp [Function.comp_def]
theorem Read.bad {all out : List UInt8} {a b : UInt8} {r : List UInt8} (h : Read all out (37 :: a :: b :: r)) (hd : digsB 16 [a, b] = false) : unesc all = none := by
  unfold Read at h; rw [h, unesc_esc, if_neg (by simp [hd])]; rfl
theorem Read.short {all out r : List UInt8} (h : Read all out (37 :: r)) (hr : r.length < 2) : unesc all = none := by
  unfold Read at h; rw [h, unesc_short r hr]; rfl
theorem Read.done {all out : List UInt8} (h : Read all out []) : unesc all = some out := by
  unfold Read at h; rw [h]; simp [unesc]
theorem Read.ahead {all out r : List UInt8} (h : Read all out r) : Read all (out ++ Pm.ahead 37 r) (behind 37 r) := by
  unfold Read at *; rw [h, unesc_ahead r]; simp [Function.comp_def]

/- what a call answers: the text, and the number of the error -/
def unT (l : List UInt8) : ByteArray := ⟨((unesc l).getD []).toArray⟩
def unE (l : List UInt8) : Int := if (unesc l).isSome then 0 else 3
theorem unT_some {l o : List UInt8} (h : unesc l = some o) : unT l = ⟨o.toArray⟩ := by simp [unT, h]
theorem unT_none {l : List UInt8} (h : unesc l = none) : unT l = ⟨#[]⟩ := by simp [unT, h]
theorem unE_some {l o : List UInt8} (h : unesc l = some o) : unE l = 0 := by simp [unE, h]
theorem unE_none {l : List UInt8} (h : unesc l = none) : unE l = 3 := by simp [unE, h]

theorem drop_at (s : ByteArray) (k : Nat) (h : k < s.size) : s.data.toList.drop k = s[k] :: s.data.toList.drop (k + 1) := by
  rw [List.drop_eq_getElem_cons (by simpa using h)]; rfl
theorem two_at (s : ByteArray) (k : Nat) (h : k + 2 < s.size) : (s.extract (k + 1) (k + 3)).data.toList = [s[k + 1], s[k + 2]] := by
  obtain ⟨⟨l⟩⟩ := s
  have h' : k + 2 < l.length := h
  rw [ByteArray.extract_mk]
  show (l.drop (k + 1)).take (k + 3 - (k + 1)) = _
  rw [List.drop_eq_getElem_cons (by omega), List.drop_eq_getElem_cons (by omega), show k + 3 - (k + 1) = 2 from by omega]
  rfl

/- the words of a status -/
def look : List (Int × List UInt8) → Int → List UInt8
  | [], _ => [83, 116, 97, 116, 117, 115]
  | (c, t) :: r, n => if c = n then t else look r n
def codes : List (Int × List UInt8) := [(200, [79, 75]),
  (301, [77, 111, 118, 101, 100, 32, 80, 101, 114, 109, 97, 110, 101, 110, 116, 108, 121]),
  (308, [80, 101, 114, 109, 97, 110, 101, 110, 116, 32, 82, 101, 100, 105, 114, 101, 99, 116]),
  (400, [66, 97, 100, 32, 82, 101, 113, 117, 101, 115, 116]),
  (403, [70, 111, 114, 98, 105, 100, 100, 101, 110]),
  (404, [78, 111, 116, 32, 70, 111, 117, 110, 100]),
  (405, [77, 101, 116, 104, 111, 100, 32, 78, 111, 116, 32, 65, 108, 108, 111, 119, 101, 100]),
  (413, [67, 111, 110, 116, 101, 110, 116, 32, 84, 111, 111, 32, 76, 97, 114, 103, 101]),
  (431, [82, 101, 113, 117, 101, 115, 116, 32, 72, 101, 97, 100, 101, 114, 32, 70, 105, 101, 108, 100, 115, 32, 84, 111, 111, 32, 76, 97, 114, 103, 101]),
  (500, [73, 110, 116, 101, 114, 110, 97, 108, 32, 83, 101, 114, 118, 101, 114, 32, 69, 114, 114, 111, 114]),
  (501, [78, 111, 116, 32, 73, 109, 112, 108, 101, 109, 101, 110, 116, 101, 100]),
  (505, [72, 84, 84, 80, 32, 86, 101, 114, 115, 105, 111, 110, 32, 78, 111, 116, 32, 83, 117, 112, 112, 111, 114, 116, 101, 100])]
def reasonB (n : Int) : ByteArray := ⟨(look codes n).toArray⟩

end Go.Proofs.YtnohadlihgjppaaDoor.Pm
