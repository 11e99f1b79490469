/- Plain mathematics: a request told as bytes. -/
import Derived.Test.YtnohadlihgjppaaGreatDoorRnE
import Derived.Test.YtnohadlihgjppaaGreatDoorWalkP
namespace Go.Proofs.YtnohadlihgjppaaGreatDoor

def okF (f : Pr2) : Bool := Pm.isField f.1.data.toList f.2.data.toList && (!(Pm.alike f.1.data.toList nLength) && !(Pm.alike f.1.data.toList nCoding))
def pOk (m t : List UInt8) (fs : List Pr2) : Bool := Pm.isMethod m && (Pm.isTarget t && (fs.all okF && decide ((valsOf fs nHost).length = 1)))
theorem vals_none (fs : List Pr2) (n : List UInt8) : decide ((valsOf fs n).length = 0) = fs.all (fun f => !(Pm.alike f.1.data.toList n)) := by
  unfold valsOf
  rw [List.length_map, Bool.eq_iff_iff, decide_eq_true_iff, List.length_eq_zero_iff, List.filter_eq_nil_iff, List.all_eq_true]
  constructor
  · intro h f hf; have := h f hf; simpa using this
  · intro h f hf; have := h f hf; simpa using this
theorem all_okF (fs : List Pr2) : fs.all okF = (fs.all (fun f => Pm.isField f.1.data.toList f.2.data.toList) && (decide ((valsOf fs nLength).length = 0) && decide ((valsOf fs nCoding).length = 0))) := by
  rw [vals_none, vals_none]
  induction fs with
  | nil => rfl
  | cons f r ih =>
    rw [List.all_cons, List.all_cons, List.all_cons, List.all_cons, ih]
    unfold okF
    generalize Pm.isField f.1.data.toList f.2.data.toList = a
    generalize (!(Pm.alike f.1.data.toList nLength)) = b
    generalize (!(Pm.alike f.1.data.toList nCoding)) = c
    generalize r.all (fun f => Pm.isField f.1.data.toList f.2.data.toList) = a'
    generalize r.all (fun f => !(Pm.alike f.1.data.toList nLength)) = b'
    generalize r.all (fun f => !(Pm.alike f.1.data.toList nCoding)) = c'
    cases a <;> cases b <;> cases c <;> cases a' <;> cases b' <;> cases c' <;> rfl

/- sizes of chunks -/
def sizesOk : List Int → Int → Bool
  | [], n => n == 0
  | s :: r, n => if s < 1 ∨ n < s then false else sizesOk r (n - s)
theorem sizesOk_iff : ∀ (l : List Int) (n : Int), 0 ≤ n → (sizesOk l n = true ↔ (∀ s ∈ l, 1 ≤ s) ∧ l.sum = n)
  | [], n, _ => by
    unfold sizesOk
    simp only [beq_iff_eq, List.not_mem_nil, false_implies, implies_true, true_and, List.sum_nil]
    exact ⟨Eq.symm, Eq.symm⟩
  | s :: r, n, hn => by
    rw [sizesOk, List.sum_cons]
    have pos : ∀ (l : List Int), (∀ s ∈ l, 1 ≤ s) → 0 ≤ l.sum := by
      intro l
      induction l with
      | nil => intro _; simp
      | cons a l ih =>
        intro h
        have h1 := h a (by simp)
        have h2 := ih (fun x hx => h x (by simp [hx]))
        rw [List.sum_cons]; omega
    by_cases hs : s < 1 ∨ n < s
    · rw [if_pos hs]
      refine ⟨fun h => Bool.noConfusion h, fun ⟨h1, h2⟩ => ?_⟩
      have h3 := h1 s (by simp)
      have h4 := pos r (fun x hx => h1 x (by simp [hx]))
      omega
    · rw [if_neg hs, sizesOk_iff r (n - s) (by omega)]
      constructor
      · rintro ⟨h1, h2⟩
        refine ⟨fun x hx => ?_, by omega⟩
        rcases List.mem_cons.mp hx with rfl | hx
        · omega
        · exact h1 x hx
      · rintro ⟨h1, h2⟩
        exact ⟨fun x hx => h1 x (by simp [hx]), by omega⟩
theorem sum_pos : ∀ (l : List Int), (∀ s ∈ l, 1 ≤ s) → 0 ≤ l.sum
  | [], _ => by simp
  | a :: l, h => by
    have h1 := h a (by simp)
    have h2 := sum_pos l (fun x hx => h x (by simp [hx]))
    rw [List.sum_cons]; omega
/- the chunks of a body -/
def endC : List UInt8 := [48, 13, 10, 13, 10]
def chL : List Int → List UInt8 → List UInt8
  | [], _ => endC
  | s :: r, b => numT 16 s ++ [13, 10] ++ b.take s.toNat ++ [13, 10] ++ chL r (b.drop s.toNat)
def cCod : List UInt8 := [84, 114, 97, 110, 115, 102, 101, 114, 45, 69, 110, 99, 111, 100, 105, 110, 103]
def cChu : List UInt8 := [99, 104, 117, 110, 107, 101, 100]
def lineL (m t : List UInt8) : List UInt8 := m ++ [32] ++ t ++ [32, 72, 84, 84, 80, 47, 49, 46, 49, 13, 10]
def printL (m t : List UInt8) (fs : List Pr2) (body : List UInt8) (how : Int) (sizes : List Int) : List UInt8 :=
  lineL m t ++ fldsL fs ++ (if how = 0 then fldL cLen (numT 10 body.length) ++ [13, 10] ++ body else fldL cCod cChu ++ [13, 10] ++ chL sizes body)
def howOk (how : Int) (sizes : List Int) (n : Int) : Bool := if how = 0 then sizes.isEmpty else if how = 1 then sizesOk sizes n else false
def printS (m t : List UInt8) (fs : List Pr2) (body : List UInt8) (how : Int) (sizes : List Int) : List UInt8 × Int :=
  if (pOk m t fs && howOk how sizes body.length) = true then (printL m t fs body how sizes, 0) else ([], 1)
theorem chL_len : ∀ (l : List Int) (b : List UInt8), (∀ s ∈ l, 1 ≤ s ∧ s ≤ 9223372036854775807) → (chL l b).length ≤ 69 * l.length + b.length + 5
  | [], b, _ => by simp [chL, endC]
  | s :: r, b, h => by
    have h1 := h s (by simp)
    have h2 := chL_len r (b.drop s.toNat) (fun x hx => h x (by simp [hx]))
    have h3 := numT_le (b := 16) (n := s) (by omega) (by omega) h1.2
    rw [chL]
    simp only [List.length_append, List.length_cons, List.length_nil, List.length_take, List.length_drop] at *
    omega
end Go.Proofs.YtnohadlihgjppaaGreatDoor
