/- Texts that follow one another, joined. -/
import Derived.Test.YtpilfanbfpbldaaGreatDoorJoin05
import Derived.Test.YtpilfanbfpbldaaGreatDoorJoin03
/- Plain mathematics, eleventh part: a text split at a byte, piece by piece; the first line as the reference reads it. -/
namespace Go.Proofs.YtpilfanbfpbldaaGreatDoor.Pm

theorem index1 (c : UInt8) (l : List UInt8) : Lib.index l [c] = if behind c l = [] then -1 else ((ahead c l).length : Int) := by
  induction l with
  | nil => rfl
  | cons b l ih =>
    rw [Lib.index]
    by_cases h : b = c
    · subst h
      unfold behind ahead
      simp [List.isPrefixOf]
    · have hp : ([c] : List UInt8).isPrefixOf (b :: l) = false := by simp [List.isPrefixOf, Ne.symm h]
      have h1 : behind c (b :: l) = behind c l := by unfold behind; rw [List.dropWhile_cons_of_pos (by simpa using h)]
      have h2 : ahead c (b :: l) = b :: ahead c l := by unfold ahead; rw [List.takeWhile_cons_of_pos (by simpa using h)]
      rw [hp, h1, h2, ih]
      by_cases h3 : behind c l = []
      · simp [h3]
      · rw [if_neg h3, if_neg h3]
        simp only [Bool.false_eq_true, if_false]
        rw [if_neg (by simp <;> omega)]; simp
theorem split_none {c : UInt8} {l : List UInt8} (h : behind c l = []) : Lib.split l [c] = [l] := by
  unfold Lib.split
  cases Lib.count l [c] with
  | zero => rfl
  | succ k => rw [Lib.splitK, index1, if_pos h]; rfl
theorem split_some {c : UInt8} {l r : List UInt8} (h : behind c l = c :: r) : Lib.split l [c] = ahead c l :: Lib.split r [c] := by
  have hi : Lib.index l [c] = ((ahead c l).length : Int) := by rw [index1, if_neg (by rw [h]; simp)]
  have hd : l.drop ((ahead c l).length + 1) = r := by
    rw [← List.drop_drop, drop_ahead, h]; rfl
  have hc : Lib.count l [c] = 1 + Lib.count r [c] := by
    have := Lib.count_hit (s := l) (sub := [c]) (by simp) hi
    rw [List.length_singleton, hd] at this; exact this
  unfold Lib.split
  rw [hc, Nat.add_comm, Lib.splitK, hi, if_neg (by simp <;> omega)]
  simp only [Int.toNat_natCast, Nat.add_zero, List.length_singleton]
  rw [hd, take_ahead]

/- the first line, as it is read from its blanks on -/
end Go.Proofs.YtpilfanbfpbldaaGreatDoor.Pm

/- Plain mathematics, thirteenth part: the pieces of a pattern. -/
namespace Go.Proofs.YtpilfanbfpbldaaGreatDoor.Pm

def fixMarks : List UInt8 := [45, 46, 95, 126]
def fixB (c : UInt8) : Bool := letB c || digB c || decide (0 ≤ Lib.indexByte fixMarks c)
def nameB (c : UInt8) : Bool := (decide (97 ≤ (c.toNat : Int)) && decide ((c.toNat : Int) ≤ 122)) || digB c
def isName (l : List UInt8) : Bool := !l.isEmpty && allP nameB l
/- a piece: its kind (0 fixed, 1 a parameter, 2 a rest), its text, and whether it is one -/
def pieceK (l : List UInt8) : Int := if Lib.hasPrefix l [58] = true then 1 else if Lib.hasPrefix l [42] = true then 2 else 0
def pieceT (l : List UInt8) : List UInt8 := if Lib.hasPrefix l [58] = true then l.drop 1 else if Lib.hasPrefix l [42] = true then l.drop 1 else l
def pieceOk (l : List UInt8) : Bool := if pieceK l = 0 then allP fixB l else isName (pieceT l)
end Go.Proofs.YtpilfanbfpbldaaGreatDoor.Pm

/- Plain mathematics, seventh part: the lines behind the last chunk. -/
namespace Go.Proofs.YtpilfanbfpbldaaGreatDoor.Pm

/- the error, and how many bytes are used up -/
def trailS : Nat → List UInt8 → Nat → Nat → Int × Nat
  | 0, _, _, _ => (2, 0)
  | f + 1, l, lim, u =>
    if (lineS l lim 5).1 ≠ 0 then ((lineS l lim 5).1, 0)
    else if (lineS l lim 5).2.1 = [] then (0, u + (lineS l lim 5).2.2)
    else if (fieldS (lineS l lim 5).2.1).isSome = true then trailS f (l.drop (lineS l lim 5).2.2) (lim - (lineS l lim 5).2.2) (u + (lineS l lim 5).2.2)
    else (3, 0)
theorem trailS_succ (f : Nat) (l : List UInt8) (lim u : Nat) : trailS (f + 1) l lim u =
    if (lineS l lim 5).1 ≠ 0 then ((lineS l lim 5).1, 0)
    else if (lineS l lim 5).2.1 = [] then (0, u + (lineS l lim 5).2.2)
    else if (fieldS (lineS l lim 5).2.1).isSome = true then trailS f (l.drop (lineS l lim 5).2.2) (lim - (lineS l lim 5).2.2) (u + (lineS l lim 5).2.2)
    else (3, 0) := rfl

end Go.Proofs.YtpilfanbfpbldaaGreatDoor.Pm

/- ReadField tells the field that a line is; own copies a field: each answers what the plain mathematics says; nothing old in memory turns. -/
namespace Go.Proofs.YtpilfanbfpbldaaGreatDoor
open Go.RowKit

theorem trim_le (l : List UInt8) : (Lib.trimS l Pm.blanks).length ≤ l.length := by
  unfold Lib.trimS Lib.trimLeftS Lib.trimRightS
  have h1 := (List.dropWhile_sublist (fun x => Pm.blanks.contains x) (l := l.reverse)).length_le
  have h2 := (List.dropWhile_sublist (fun x => Pm.blanks.contains x) (l := (l.reverse.dropWhile (fun x => Pm.blanks.contains x)).reverse)).length_le
  rw [List.length_reverse] at h1 h2
  omega

theorem cell_old {w : World} {o : Obj} {a : Addr} {v : Value} (h : w.cell? a = some v) : (w.alloc o).cell? a = some v := cell_later ((Below.refl _ _).alloc (Nat.le_refl _) _) h

def fldV (o : Option (List UInt8 × List UInt8)) : Value := match o with
  | some (n, v) => .agg #[.string ⟨n.toArray⟩, .string ⟨v.toArray⟩]
  | none => .agg #[.string ⟨#[]⟩, .string ⟨#[]⟩]

set_option maxHeartbeats 800000 in
theorem wReadField_any (s : ByteArray) (w : World) (hs : s.size ≤ maxLen) :
    Calls Tryz.prog 81 #[.string s] w fun e w' => e = .returned (.tuple #[fldV (Pm.fieldS s.data.toList), .bool (Pm.fieldS s.data.toList).isSome]) ∧ Below w.heap.size w w' := by
  go_enter Tryz.func81, Tryz.ntmps81
  go_wp2_with fail
  refine (cut1_any s 58 _ hs).mono ?_
  rintro e w1 ⟨⟨a, b, rfl, ha, hb⟩, nd, rfl⟩
  have has : a.size ≤ maxLen := by
    have h3 := congrArg List.length (Pm.ahead_behind 58 s.data.toList)
    rw [List.length_append, ← ha] at h3
    simp at h3; omega
  have hbs : b.size ≤ maxLen := by
    have h3 := congrArg List.length (Pm.ahead_behind 58 s.data.toList)
    have h4 := size_of hb
    rw [List.length_append] at h3
    simp at h3 h4; omega
  have hts : (⟨(Lib.trimS b.data.toList Pm.blanks).toArray⟩ : ByteArray).size ≤ maxLen := by
    have h3 := trim_le b.data.toList
    have h4 : b.data.toList.length = b.size := by simp
    have h5 : (⟨(Lib.trimS b.data.toList Pm.blanks).toArray⟩ : ByteArray).size = (Lib.trimS b.data.toList Pm.blanks).length := by simp [ByteArray.size]
    omega
  have HF : Hid (Pm.fieldS s.data.toList = if (!(Pm.behind 58 s.data.toList).isEmpty && Pm.isField a.data.toList (Lib.trimS b.data.toList Pm.blanks)) = true then some (a.data.toList, Lib.trimS b.data.toList Pm.blanks) else none) := by
    unfold Hid Pm.fieldS; rw [ha, hb]
  clear ha hb
  cases hf : (Pm.behind 58 s.data.toList).isEmpty
  all_goals
    rw [hf] at HF
    clear hf
  · cases hi : Pm.isField a.data.toList (Lib.trimS b.data.toList Pm.blanks)
    all_goals
      rw [hi] at HF
      go_wp2_with fail
      refine (trim_any _ _ hbs).mono ?_
      rintro e w2 ⟨rfl, hb2⟩
      have hB2 := bel_of (below_drewN ((Below.refl _ w).alloc (Nat.le_refl _) _) _) hb2
      have q0 := cell_later hb2 (a := ⟨w.heap.size, 0, none⟩) (v := .string ⟨#[]⟩) (by simp)
      have q1 := cell_later hb2 (a := ⟨w.heap.size, 1, none⟩) (v := .string ⟨#[]⟩) (by simp)
      obtain ⟨hc2, hf2⟩ := bcell hb2
      have hz2 : w.heap.size < w2.heap.size := by have := hb2.size; simp at this; omega
      clear hb2
      go_wp2_with fail
      refine (wIsField_any _ _ _ has hts).mono ?_
      rintro e w3 ⟨rfl, hb3⟩
      rw [show (⟨(Lib.trimS b.data.toList Pm.blanks).toArray⟩ : ByteArray).data.toList = Lib.trimS b.data.toList Pm.blanks from rfl, hi]
      clear hi
      have hB3 := bel_of (hB2.alloc (Nat.le_of_lt hz2) _) hb3
      have r0 := cell_later hb3 (a := ⟨w.heap.size, 0, none⟩) (cell_old q0)
      have r1 := cell_later hb3 (a := ⟨w.heap.size, 1, none⟩) (cell_old q1)
      obtain ⟨hc3, hf3⟩ := bcell hb3
      have hz3 : w2.heap.size < w3.heap.size := by have := hb3.size; simp at this; omega
      clear hb3 hB2
      go_wp2
    · refine bodyPost_ret (v := .tuple #[.agg #[.string ⟨#[]⟩, .string ⟨#[]⟩], .bool false]) (by simp [results, Tryz.results81, go_sem, r0, r1]) rfl ⟨by rw [HF.out]; rfl, (hB3.setCell (Nat.le_refl _) _).setCell (Nat.le_refl _) _⟩
    · refine bodyPost_ret (v := .tuple #[.agg #[.string a, .string ⟨(Lib.trimS b.data.toList Pm.blanks).toArray⟩], .bool true]) (by simp [results, Tryz.results81, go_sem, r0, r1]) rfl ⟨by rw [HF.out]; simp [fldV], (hB3.setCell (Nat.le_refl _) _).setCell (Nat.le_refl _) _⟩
  · go_wp2_with fail
    refine (trim_any _ _ hbs).mono ?_
    rintro e w2 ⟨rfl, hb2⟩
    have hB2 := bel_of (below_drewN ((Below.refl _ w).alloc (Nat.le_refl _) _) _) hb2
    have q0 := cell_later hb2 (a := ⟨w.heap.size, 0, none⟩) (v := .string ⟨#[]⟩) (by simp)
    have q1 := cell_later hb2 (a := ⟨w.heap.size, 1, none⟩) (v := .string ⟨#[]⟩) (by simp)
    obtain ⟨hc2, hf2⟩ := bcell hb2
    have hz2 : w.heap.size < w2.heap.size := by have := hb2.size; simp at this; omega
    clear hb2
    go_wp2
    refine bodyPost_ret (v := .tuple #[.agg #[.string ⟨#[]⟩, .string ⟨#[]⟩], .bool false]) (by simp [results, Tryz.results81, go_sem, q0, q1, hz2]) rfl ⟨by rw [HF.out]; rfl, ((hB2.setCell (Nat.le_refl _) _).setCell (Nat.le_refl _) _).alloc (by simp; omega) _⟩

set_option maxHeartbeats 800000 in
theorem own_any (n v : ByteArray) (w : World) (hn : n.size ≤ 281474976710656) (hv : v.size ≤ 281474976710656) :
    Calls Tryz.prog 82 #[.agg #[.string n, .string v]] w fun e w' => e = .returned (.agg #[.string n, .string v]) ∧ Below w.heap.size w w' := by
  go_enter Tryz.func82, Tryz.ntmps82
  go_wp2
  go_region_with (first | (go_at_call_of 26 (Value.string n); refine (clone_any _ _ hn).mono ?_; rintro e w1 ⟨rfl, hb1⟩; obtain ⟨hc1, hf1⟩ := bcell hb1; have q0 := cell_later hb1 (a := ⟨w.heap.size + 1, 0, none⟩) (v := .string ⟨#[]⟩) (by simp); have q1 := cell_later hb1 (a := ⟨w.heap.size + 1, 1, none⟩) (v := .string ⟨#[]⟩) (by simp); have hz1 : w.heap.size + 1 < w1.heap.size := by (have := hb1.size; (try simp at this); omega)) | (go_at_call_of 26 (Value.string v); refine (clone_any _ _ hv).mono ?_; rintro e w2 ⟨rfl, hb2⟩; obtain ⟨hc2, hf2⟩ := bcell hb2; have r0 := cell_later hb2 q0; have r1 := cell_later hb2 q1; have hz2 : w.heap.size + 1 < w2.heap.size := by (have := hb2.size; (try simp at this); omega)))
  all_goals
    go_wp2
    refine bodyPost_ret (v := .agg #[.string n, .string v]) (by simp [results, Tryz.results82, go_sem, r0, r1]) rfl ⟨rfl, ?_⟩
    exact ((bel_of (bel_of (((Below.refl _ w).alloc (Nat.le_refl _) _).alloc (by simp) _).drew hb1) hb2).setCell (by simp) _).setCell (by simp) _
end Go.Proofs.YtpilfanbfpbldaaGreatDoor
