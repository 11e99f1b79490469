/- Plain mathematics on lists of bytes: tokens, digits, numbers, escaped bytes; no program is named. -/
import Derived.Lib.Bytealg
namespace Go.Proofs.YtnohadlihgjppaaGreatDoor.Pm

/- the byte is one of a list -/
def marks : List UInt8 := [33, 35, 36, 37, 38, 39, 42, 43, 45, 46, 94, 95, 124, 126, 96]
def digB (c : UInt8) : Bool := decide (48 ≤ (c.toNat : Int)) && decide ((c.toNat : Int) ≤ 57)
def letB (c : UInt8) : Bool := (decide (65 ≤ (c.toNat : Int)) && decide ((c.toNat : Int) ≤ 90)) || (decide (97 ≤ (c.toNat : Int)) && decide ((c.toNat : Int) ≤ 122))
def tokB (c : UInt8) : Bool := letB c || digB c || decide (0 ≤ Lib.indexByte marks c)
def allTok (l : List UInt8) : Bool := l.all tokB
def isTok (l : List UInt8) : Bool := !l.isEmpty && allTok l

theorem allTok_snoc (l : List UInt8) (c : UInt8) : allTok (l ++ [c]) = (allTok l && tokB c) := by simp [allTok]
theorem allTok_take {l : List UInt8} {k : Nat} (h : allTok (l.take k) = false) : allTok l = false := by
  cases hc : allTok l
  · rfl
  · have h2 : allTok (l.take k) = true := List.all_eq_true.2 fun x hx => List.all_eq_true.1 hc x (List.mem_of_mem_take hx)
    rw [h] at h2; exact h2.symm

/- a digit's value; 16: none -/
def dval (c : UInt8) : Int :=
  if 48 ≤ c.toNat ∧ c.toNat ≤ 57 then (c.toNat : Int) - 48
  else if 97 ≤ c.toNat ∧ c.toNat ≤ 102 then (c.toNat : Int) - 97 + 10
  else if 65 ≤ c.toNat ∧ c.toNat ≤ 70 then (c.toNat : Int) - 65 + 10 else 16
def digsB (base : Int) (l : List UInt8) : Bool := l.all fun c => decide (dval c < base)
def numv (base : Int) (l : List UInt8) : Int := l.foldl (fun n c => n * base + dval c) 0

theorem dval_bd (c : UInt8) : 0 ≤ dval c ∧ dval c ≤ 16 := by
  unfold dval; split
  · omega
  · split
    · omega
    · split <;> omega

theorem numv_snoc (base : Int) (l : List UInt8) (c : UInt8) : numv base (l ++ [c]) = numv base l * base + dval c := by
  simp [numv]
theorem digsB_snoc (base : Int) (l : List UInt8) (c : UInt8) : digsB base (l ++ [c]) = (digsB base l && decide (dval c < base)) := by
  simp [digsB]

theorem numv_rev (base : Int) (r : List UInt8) (hb : 0 ≤ base) (hb2 : base ≤ 16) (h : digsB base r.reverse = true) :
    0 ≤ numv base r.reverse ∧ numv base r.reverse < 16 ^ r.length := by
  induction r with
  | nil => simp [numv]
  | cons c r ih =>
    rw [List.reverse_cons] at h ⊢
    rw [digsB_snoc, Bool.and_eq_true] at h
    have i := ih h.1
    have hd : dval c < base := by simpa using h.2
    have d0 := (dval_bd c).1
    rw [numv_snoc, List.length_cons, Int.pow_succ]
    refine ⟨by have := Int.mul_nonneg i.1 hb; omega, ?_⟩
    have h1 : numv base r.reverse * base ≤ (16 ^ r.length - 1) * 16 :=
      Int.le_trans (Int.mul_le_mul_of_nonneg_left hb2 i.1) (Int.mul_le_mul_of_nonneg_right (by omega) (by omega))
    have h2 : ((16 : Int) ^ r.length - 1) * 16 = 16 ^ r.length * 16 - 16 := by rw [Int.sub_mul]; omega
    omega
theorem numv_bd (base : Int) (l : List UInt8) (hb : 0 ≤ base) (hb2 : base ≤ 16) (h : digsB base l = true) (hl : l.length ≤ 9) :
    0 ≤ numv base l ∧ numv base l < 68719476736 := by
  have := numv_rev base l.reverse hb hb2 (by simpa using h)
  simp only [List.reverse_reverse, List.length_reverse] at this
  refine ⟨this.1, Int.lt_of_lt_of_le this.2 ?_⟩
  have hp : (16 : Int) ^ l.length ≤ 16 ^ 9 := by have := Nat.pow_le_pow_right (n := 16) (by omega) hl; exact_mod_cast this
  exact Int.le_trans hp (by decide)

def numOk (base most : Int) (l : List UInt8) : Bool := decide (1 ≤ l.length) && decide ((l.length : Int) ≤ most) && digsB base l
def numN (base most : Int) (l : List UInt8) : Int := if numOk base most l = true then numv base l else 0
def numE (base most : Int) (l : List UInt8) : Int := if numOk base most l = true then 0 else 1
def numM (base most : Int) (l : List UInt8) : Int := if numOk base most l = true then numv base l else -1
theorem digsB_take {base : Int} {l : List UInt8} {k : Nat} (h : digsB base (l.take k) = false) : digsB base l = false := by
  cases hc : digsB base l
  · rfl
  · have h2 : digsB base (l.take k) = true := List.all_eq_true.2 fun x hx => List.all_eq_true.1 hc x (List.mem_of_mem_take hx)
    rw [h] at h2; exact h2.symm
theorem numOk_no1 {base most : Int} {l : List UInt8} (h : (l.length : Int) < 1 ∨ most < l.length) : numOk base most l = false := by
  cases hc : numOk base most l
  · rfl
  · simp only [numOk, Bool.and_eq_true, decide_eq_true_eq] at hc; omega
theorem numOk_no2 {base most : Int} {l : List UInt8} (h : digsB base l = false) : numOk base most l = false := by simp [numOk, h]
theorem numOk_yes {base most : Int} {l : List UInt8} (h1 : 1 ≤ (l.length : Int)) (h2 : (l.length : Int) ≤ most) (h : digsB base l = true) : numOk base most l = true := by
  simp only [numOk, Bool.and_eq_true, decide_eq_true_eq]; exact ⟨⟨by omega, h2⟩, h⟩
theorem numM_bd {base most : Int} {l : List UInt8} (hb : 0 ≤ base) (hb2 : base ≤ 16) (hm : most ≤ 9) : -1 ≤ numM base most l ∧ numM base most l < 68719476736 := by
  unfold numM; split
  · rename_i h
    simp only [numOk, Bool.and_eq_true, decide_eq_true_eq] at h
    have := numv_bd base l hb hb2 h.2 (by omega); omega
  · omega

/- the reference's alphabet, and its way to a digit -/
def alpha : List UInt8 := [48, 49, 50, 51, 52, 53, 54, 55, 56, 57, 97, 98, 99, 100, 101, 102, 103, 104, 105, 106, 107, 108, 109, 110, 111, 112, 113, 114, 115, 116, 117, 118, 119, 120, 121, 122, 65, 66, 67, 68, 69, 70, 71, 72, 73, 74, 75, 76, 77, 78, 79, 80, 81, 82, 83, 84, 85, 86, 87, 88, 89, 90, 33, 35, 36, 37, 38, 39, 42, 43, 45, 46, 94, 95, 124, 126, 96]
def greats : List UInt8 := [65, 66, 67, 68, 69, 70, 71, 72, 73, 74, 75, 76, 77, 78, 79, 80, 81, 82, 83, 84, 85, 86, 87, 88, 89, 90]
def digs16 : List UInt8 := [48, 49, 50, 51, 52, 53, 54, 55, 56, 57, 97, 98, 99, 100, 101, 102]
def smalls : List UInt8 := [97, 98, 99, 100, 101, 102, 103, 104, 105, 106, 107, 108, 109, 110, 111, 112, 113, 114, 115, 116, 117, 118, 119, 120, 121, 122]
def gidx (c : UInt8) : Int := Lib.indexByte greats c
def small (c : UInt8) : UInt8 := if 0 ≤ gidx c then c + 32 else c

theorem all256 {p : UInt8 → Bool} (h : (List.range 256).all (fun n => p n.toUInt8) = true) (c : UInt8) : p c = true := by
  have := List.all_eq_true.1 h c.toNat (by simpa using c.toNat_lt)
  simpa using this
theorem gidx_bd (c : UInt8) : -1 ≤ gidx c ∧ gidx c ≤ 25 := by
  have := all256 (p := fun c => decide (-1 ≤ gidx c ∧ gidx c ≤ 25)) (by decide +kernel) c
  simpa using this
theorem small_no (c : UInt8) (h : gidx c < 0) : small c = c := by unfold small; rw [if_neg (by omega)]
theorem small_yes (c : UInt8) (j : Nat) (h : gidx c = j) : ((smalls.drop j).take 1) = [small c] := by
  have := all256 (p := fun c => decide (gidx c < 0) || (((smalls.drop (gidx c).toNat).take 1) == [small c])) (by decide +kernel) c
  have h2 : decide (gidx c < 0) = false := decide_eq_false (by omega)
  rw [h2, h] at this
  simpa using this
theorem tok_alpha (c : UInt8) : decide (0 ≤ Lib.indexByte alpha c) = tokB c := by
  have := all256 (p := fun c => decide (0 ≤ Lib.indexByte alpha c) == tokB c) (by decide +kernel) c
  simpa using this
theorem dig_at10 (c : UInt8) : Lib.indexByte (digs16.take 10) (small c) = if dval c < 10 then dval c else -1 := by
  have := all256 (p := fun c => Lib.indexByte (digs16.take 10) (small c) == if dval c < 10 then dval c else -1) (by decide +kernel) c
  simpa using this
theorem dig_at16 (c : UInt8) : Lib.indexByte digs16 (small c) = if dval c < 16 then dval c else -1 := by
  have := all256 (p := fun c => Lib.indexByte digs16 (small c) == if dval c < 16 then dval c else -1) (by decide +kernel) c
  simpa using this

/- escaped bytes -/
def unesc : List UInt8 → Option (List UInt8)
  | [] => some []
  | c :: a :: b :: r => if c = 37 then (if digsB 16 [a, b] = true then (unesc r).map (fun l => (numv 16 [a, b]).toNat.toUInt8 :: l) else none) else (unesc (a :: b :: r)).map (fun l => c :: l)
  | [c] => if c = 37 then none else some [c]
  | [c, a] => if c = 37 then none else if a = 37 then none else some [c, a]

theorem unesc_plain (c : UInt8) (r : List UInt8) (h : c ≠ 37) : unesc (c :: r) = (unesc r).map (fun l => c :: l) := by
  match r with
  | [] => simp [unesc, h]
  | [a] => by_cases ha : a = 37 <;> simp [unesc, h, ha]
  | a :: b :: r => rw [unesc, if_neg h]
theorem unesc_short (r : List UInt8) (h : r.length < 2) : unesc (37 :: r) = none := by
  match r, h with
  | [], _ => rfl
  | [a], _ => rfl
theorem unesc_esc (a b : UInt8) (r : List UInt8) : unesc (37 :: a :: b :: r) = if digsB 16 [a, b] = true then (unesc r).map (fun l => (numv 16 [a, b]).toNat.toUInt8 :: l) else none := by
  rw [unesc, if_pos rfl]

def ahead (c : UInt8) (l : List UInt8) : List UInt8 := l.takeWhile (· != c)
def behind (c : UInt8) (l : List UInt8) : List UInt8 := l.dropWhile (· != c)
theorem unesc_ahead (l : List UInt8) : unesc l = (unesc (behind 37 l)).map (fun r => ahead 37 l ++ r) := by
  induction l with
  | nil => simp [unesc, ahead, behind]
  | cons c l ih =>
    by_cases h : c = 37
    · subst h; simp [ahead, behind]
    · rw [unesc_plain c l h, ih]
      have hc : (c != 37) = true := by simpa using h
      simp [ahead, behind, hc, Function.comp_def]

theorem take_snoc (s : ByteArray) (k : Nat) (h : k < s.size) : s.data.toList.take (k + 1) = s.data.toList.take k ++ [s[k]] := by
  rw [List.take_succ_eq_append_getElem (by simpa using h)]; rfl

theorem one_at (s : ByteArray) (k : Nat) (h : k < s.size) : (s.data.toList.drop k).take (k + 1 - k) = [s[k]] := by
  have h2 : k < s.data.toList.length := by simpa using h
  rw [List.drop_eq_getElem_cons h2, show k + 1 - k = 1 from by omega]; rfl

/- the first place of a byte, read from the front -/
def noneTo (c : UInt8) (k : Nat) (l : List UInt8) : Prop := ∀ x ∈ l.take k, x ≠ c
theorem noneTo_zero (c : UInt8) (l : List UInt8) : noneTo c 0 l := by intro x hx; simp at hx
theorem noneTo_succ (s : ByteArray) (c : UInt8) (k : Nat) (h : k < s.size) (hn : noneTo c k s.data.toList) (he : ¬ s[k] = c) : noneTo c (k + 1) s.data.toList := by
  intro x hx
  rw [take_snoc s k h, List.mem_append] at hx
  rcases hx with hx | hx
  · exact hn x hx
  · simp at hx; subst hx; exact he
theorem index_free (l : List UInt8) (c : UInt8) (h : ∀ x ∈ l, x ≠ c) : Lib.indexByte l c = -1 := by
  induction l with
  | nil => rfl
  | cons b l ih =>
    have hb : (b == c) = false := by simpa using h b (by simp)
    have hi := ih fun x hx => h x (by simp [hx])
    simp [Lib.indexByte, hb, hi]
theorem index_at (l r : List UInt8) (c : UInt8) (h : ∀ x ∈ l, x ≠ c) : Lib.indexByte (l ++ c :: r) c = l.length := by
  induction l with
  | nil => simp [Lib.indexByte]
  | cons b l ih =>
    have hb : (b == c) = false := by simpa using h b (by simp)
    have hi := ih fun x hx => h x (by simp [hx])
    have hn : ((l.length : Int) == -1) = false := by rw [beq_eq_false_iff_ne]; omega
    simp [Lib.indexByte, hb, hi, hn]
theorem index_hit (s : ByteArray) (c : UInt8) (k : Nat) (h : k < s.size) (hn : noneTo c k s.data.toList) (he : s[k] = c) : (k : Int) = Lib.indexByte s.data.toList c := by
  have h1 : s.data.toList = s.data.toList.take k ++ c :: s.data.toList.drop (k + 1) := by
    have h2 := (List.take_append_drop (k + 1) s.data.toList).symm
    rw [take_snoc s k h, he] at h2
    simpa using h2
  rw [h1, index_at _ _ _ hn]
  simp; omega
theorem index_none (s : ByteArray) (c : UInt8) (h : noneTo c s.size s.data.toList) : Lib.indexByte s.data.toList c = -1 := by
  refine index_free _ _ ?_
  unfold noneTo at h
  rwa [List.take_of_length_le (by simp)] at h

end Go.Proofs.YtnohadlihgjppaaGreatDoor.Pm
