/- The program's Render: the bytes that the plain mathematics tells; nothing old in memory turns. -/
import Derived.Test.YtnohadlihgjppaaGreatDoorRnC
import Derived.Test.YtnohadlihgjppaaGreatDoorWalkN
import Derived.Lib.AppendIntMem
import Derived.Deep.Cut
namespace Go.Proofs.YtnohadlihgjppaaGreatDoor
open Go.RowKit

abbrev Pr2 := ByteArray × ByteArray
def FoAt (fs : List Pr2) (a : Option Addr) (w : World) : Prop :=
  ∀ i (h : i < fs.length), ∃ g o, a = some ⟨g, o, none⟩ ∧ g < w.heap.size ∧ w.cell? ⟨g, o + i * 2, none⟩ = some (.string fs[i].1) ∧ w.cell? ⟨g, o + i * 2 + 1, none⟩ = some (.string fs[i].2)
theorem FoAt.below {fs : List Pr2} {a : Option Addr} {w w' : World} (h : FoAt fs a w) (hb : Below w.heap.size w w') : FoAt fs a w' := fun i hi => by
  obtain ⟨g, o, h1, h2, h3, h4⟩ := h i hi
  exact ⟨g, o, h1, Nat.lt_of_lt_of_le h2 hb.size, cell_later hb h3, cell_later hb h4⟩
def fldsL (fs : List Pr2) : List UInt8 := fs.flatMap (fun f => fldL f.1.data.toList f.2.data.toList)
theorem fldsL_next (fs : List Pr2) (k : Nat) (h : k < fs.length) : fldsL (fs.take (k + 1)) = fldsL (fs.take k) ++ fldL fs[k].1.data.toList fs[k].2.data.toList := by
  unfold fldsL; rw [List.take_succ_eq_append_getElem h, List.flatMap_append]; simp
theorem fldsL_le (fs : List Pr2) (k : Nat) : (fldsL (fs.take k)).length ≤ (fldsL fs).length := by
  have h : fldsL fs = fldsL (fs.take k ++ fs.drop k) := by rw [List.take_append_drop]
  rw [h]; unfold fldsL; rw [List.flatMap_append, List.length_append]; omega
def cLen : List UInt8 := [67, 111, 110, 116, 101, 110, 116, 45, 76, 101, 110, 103, 116, 104]
def cCon : List UInt8 := [67, 111, 110, 110, 101, 99, 116, 105, 111, 110]
def cClose : List UInt8 := [99, 108, 111, 115, 101]
def cHead : List UInt8 := [72, 69, 65, 68]
def preL (st : Int) : List UInt8 := [72, 84, 84, 80, 47, 49, 46, 49, 32] ++ numT 10 st ++ [32] ++ (Pm.reasonB st).data.toList ++ [13, 10]
def endL (m : List UInt8) (body : List UInt8) (cl : Bool) : List UInt8 :=
  fldL cLen (numT 10 body.length) ++ (if cl = true then fldL cCon cClose else []) ++ [13, 10] ++ (if m = cHead then [] else body)
def rendL (m : List UInt8) (st : Int) (fs : List Pr2) (body : List UInt8) (cl : Bool) : List UInt8 := preL st ++ fldsL fs ++ endL m body cl
theorem look_le : ∀ (l : List (Int × List UInt8)) (n : Int), (∀ x ∈ l, x.2.length ≤ 40) → (Pm.look l n).length ≤ 40
  | [], _, _ => by simp [Pm.look]
  | (c, t) :: r, n, h => by
    rw [Pm.look]
    split
    · exact h (c, t) (by simp)
    · exact look_le r n (fun x hx => h x (by simp [hx]))
theorem reason_le (n : Int) : (Pm.reasonB n).size ≤ 40 := look_le Pm.codes n (by decide)
theorem bu_below {T e : TypeId} {B g : Nat} {bs : List Value} {w w' : World} (h : Lib.IsBuilder T e B g bs w) (hb : Below w.heap.size w w') : Lib.IsBuilder T e B g bs w' := by
  have hl : ∀ {o : Obj}, w.heap[g]? = some o → w'.heap[g]? = some o := fun {o} ho => by
    rw [hb.block g ?_]
    · exact ho
    · rcases Nat.lt_or_ge g w.heap.size with h' | h'
      · exact h'
      · simp [Array.getElem?_eq_none h'] at ho
  rcases h with ⟨hB, v, hg, ho, hn⟩ | ⟨hB, v, hg, ho, hn⟩
  · exact .inl ⟨hB, v, hl hg, owns_below ho hb, hn⟩
  · exact .inr ⟨hB, v, hl hg, owns_below ho hb, hn⟩
theorem itoa_any (n : Int) (h0 : -9223372036854775808 ≤ n) (h1 : n ≤ 9223372036854775807) (w : World) (ht : Lib.TabIs Tryz.prog w "internal/strconv.uint64pow10" .u64 Lib.pow10Tab) :
    Calls Tryz.prog 49 #[.int .i64 n] w fun e w' => e = .returned (.string ⟨(numT 10 n).toArray⟩) ∧ Below w.heap.size w w' := by
  refine (Tryz.strconv_Itoa n h0 h1 w ht).mono ?_
  rintro e w' ⟨rfl, k, os, rfl⟩
  exact ⟨by rw [numT_ten], Lib.below_grow _ _ (Nat.le_refl _) _ _⟩
/- the answer's block -/
set_option maxHeartbeats 400000 in
theorem pre_write (B g : Nat) (st : Int) (it rs : ByteArray) (W : World) (hp : preL st = [72, 84, 84, 80, 47, 49, 46, 49, 32] ++ it.data.toList ++ [32] ++ rs.data.toList ++ [13, 10]) (hi : it.size ≤ 65) (hr : rs.size ≤ 40) (h1 : BuAt B g [] W) (h2 : B ≤ W.heap.size) :
    Calls Tryz.prog 47 #[.pointer (some ⟨g, 0, none⟩), .string (⟨#[72, 84, 84, 80, 47, 49, 46, 49, 32]⟩ ++ it ++ ⟨#[32]⟩ ++ rs ++ ⟨#[13, 10]⟩)] W fun e w' => (∃ n, e = .returned (.tuple #[.int .i64 n, .nilIface])) ∧ BuAt B g (preL st) w' ∧ Below B W w' := by
  obtain ⟨x, hx⟩ : ∃ x : ByteArray, x = ⟨#[72, 84, 84, 80, 47, 49, 46, 49, 32]⟩ ++ it ++ ⟨#[32]⟩ ++ rs ++ ⟨#[13, 10]⟩ := ⟨_, rfl⟩
  have hz : x.size ≤ 200 := by
    have e1 : (⟨#[72, 84, 84, 80, 47, 49, 46, 49, 32]⟩ : ByteArray).size = 9 := rfl
    have e2 : (⟨#[32]⟩ : ByteArray).size = 1 := rfl
    have e3 : (⟨#[13, 10]⟩ : ByteArray).size = 2 := rfl
    rw [hx]; simp only [ByteArray.size_append]; omega
  have hd : x.data.toList = preL st := by
    rw [hx, hp]; simp only [ByteArray.data_append, Array.toList_append]
  rw [← hx]
  refine (Tryz.Builder_WriteString _ _ _ x _ h1 (by rw [bcells_len, List.length_nil]; omega) h2).mono ?_
  rintro e w' ⟨rfl, h3, h4⟩
  refine ⟨⟨_, rfl⟩, ?_, h4⟩
  have := bu_next h3
  rw [hd, List.nil_append] at this
  exact this

end Go.Proofs.YtnohadlihgjppaaGreatDoor
