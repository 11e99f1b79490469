/- Texts that follow one another, joined. -/
import Derived.Test.YtbphabgjhoifbaaGreatDoorJoin00
import Derived.Test.YtbphabgjhoifbaaGreatDoorJoin02
import Derived.Test.YtbphabgjhoifbaaGreatDoorJoin25
import Derived.Test.YtbphabgjhoifbaaGreatDoorJoin03
import Derived.Lib.ItoaMem
import Derived.Test.YtbphabgjhoifbaaGreatDoorJoin04
import Derived.Lib.AppendIntMem
import Derived.Deep.Cut
import Derived.Test.YtbphabgjhoifbaaGreatDoorJoin01
/- Reason, the program's and the reference's: both answer the words of the status. -/
namespace Go.Proofs.YtbphabgjhoifbaaGreatDoor
open Go.RowKit

theorem ret_str {a b : ByteArray} (h : a = b) : Ending.returned (.string a) = .returned (.string b) := by rw [h]

theorem reason_yes {n c : Int} {b : ByteArray} (h : (n == c) = true) (hr : Pm.reasonB c = b) : b = Pm.reasonB n := by
  have : n = c := by simpa using h
  rw [this, hr]
theorem reason_no {n : Int} (h200 : (n == 200) = false) (h301 : (n == 301) = false) (h308 : (n == 308) = false) (h400 : (n == 400) = false) (h403 : (n == 403) = false) (h404 : (n == 404) = false) (h405 : (n == 405) = false) (h413 : (n == 413) = false) (h431 : (n == 431) = false) (h500 : (n == 500) = false) (h501 : (n == 501) = false) (h505 : (n == 505) = false) : (⟨#[83, 116, 97, 116, 117, 115]⟩ : ByteArray) = Pm.reasonB n := by
  have e : ∀ c : Int, (n == c) = false → ¬ c = n := fun c h h2 => by rw [h2] at h; simp at h
  unfold Pm.reasonB Pm.codes Pm.look
  rw [if_neg (e _ h200)]
  rw [Pm.look, if_neg (e _ h301)]
  rw [Pm.look, if_neg (e _ h308)]
  rw [Pm.look, if_neg (e _ h400)]
  rw [Pm.look, if_neg (e _ h403)]
  rw [Pm.look, if_neg (e _ h404)]
  rw [Pm.look, if_neg (e _ h405)]
  rw [Pm.look, if_neg (e _ h413)]
  rw [Pm.look, if_neg (e _ h431)]
  rw [Pm.look, if_neg (e _ h500)]
  rw [Pm.look, if_neg (e _ h501)]
  rw [Pm.look, if_neg (e _ h505)]
  rfl
theorem hit_of {n c : Int} {k : Nat} {t : List UInt8} {r : List (Int × List UInt8)} (hH : Pm.look Pm.codes n = Pm.look (Pm.codes.drop k) n) (hd : Pm.codes.drop k = (c, t) :: r) (h : (c == n) = true) : (⟨t.toArray⟩ : ByteArray) = Pm.reasonB n := by
  have : c = n := by simpa using h
  unfold Pm.reasonB; rw [hH, hd, Pm.look, if_pos this]
theorem miss_of {n c : Int} {k : Nat} {t : List UInt8} {r : List (Int × List UInt8)} (hH : Pm.look Pm.codes n = Pm.look (Pm.codes.drop k) n) (hd : Pm.codes.drop k = (c, t) :: r) (h : (c == n) = false) : Pm.look Pm.codes n = Pm.look r n := by
  have : ¬ c = n := by simpa using h
  rw [hH, hd, Pm.look, if_neg this]

set_option maxHeartbeats 800000 in
theorem wReason_any (n : Int) (w : World) :
    Calls Tryz.prog 52 #[.int .i64 n] w fun e w' => e = .returned (.string (Pm.reasonB n)) ∧ w' = w := by
  go_enter Tryz.func52, Tryz.ntmps52
  go_wp2
  all_goals
    go_ret
    refine ⟨ret_str ?_, rfl⟩
    first
      | exact reason_yes (c := 200) (by assumption) rfl
      | exact reason_yes (c := 301) (by assumption) rfl
      | exact reason_yes (c := 308) (by assumption) rfl
      | exact reason_yes (c := 400) (by assumption) rfl
      | exact reason_yes (c := 403) (by assumption) rfl
      | exact reason_yes (c := 404) (by assumption) rfl
      | exact reason_yes (c := 405) (by assumption) rfl
      | exact reason_yes (c := 413) (by assumption) rfl
      | exact reason_yes (c := 431) (by assumption) rfl
      | exact reason_yes (c := 500) (by assumption) rfl
      | exact reason_yes (c := 501) (by assumption) rfl
      | exact reason_yes (c := 505) (by assumption) rfl
      | exact reason_no (by assumption) (by assumption) (by assumption) (by assumption) (by assumption) (by assumption) (by assumption) (by assumption) (by assumption) (by assumption) (by assumption) (by assumption)

end Go.Proofs.YtbphabgjhoifbaaGreatDoor

/- The program's Render and what it calls; nothing old in memory turns. -/
namespace Go.Proofs.YtbphabgjhoifbaaGreatDoor
open Go.RowKit

def fldL (n v : List UInt8) : List UInt8 := n ++ [58, 32] ++ v ++ [13, 10]
abbrev BuAt (B g : Nat) (l : List UInt8) (w : World) : Prop := Lib.IsBuilder 126 5 B g (Lib.byteCells l) w
theorem bu_next {B g : Nat} {l : List UInt8} {s : ByteArray} {w : World} (h : Lib.BuilderAt 126 5 B g (.pointer (some ⟨g, 0, none⟩)) (Lib.byteCells l ++ Lib.strCells s) w) : BuAt B g (l ++ s.data.toList) w := by
  unfold BuAt
  rw [Lib.byteCells_append]
  exact .inr h
theorem bcells_len (l : List UInt8) : (Lib.byteCells l).length = l.length := by simp [Lib.byteCells]

set_option maxHeartbeats 1000000 in
theorem writeField_any (B g : Nat) (l : List UInt8) (n v : ByteArray) (w : World) (h : BuAt B g l w) (hl : l.length + n.size + v.size + 4 ≤ 140737488355328) (hB : B ≤ w.heap.size) :
    Calls Tryz.prog 53 #[.pointer (some ⟨g, 0, none⟩), .string n, .string v] w fun e w' => e = .returned (.tuple #[]) ∧ BuAt B g (l ++ fldL n.data.toList v.data.toList) w' ∧ Below B w w' := by
  have c58 : (⟨#[58, 32]⟩ : ByteArray).size = 2 := rfl
  have c13 : (⟨#[13, 10]⟩ : ByteArray).size = 2 := rfl
  have HL := hid (@bcells_len)
  go_enter Tryz.func53, Tryz.ntmps53
  go_wp2_with fail
  refine (Tryz.Builder_WriteString _ _ _ n _ h (by rw [HL.out]; omega) hB).mono ?_
  rintro e w1 ⟨rfl, h1, hb1⟩
  have b1 := bu_next h1
  have s1 := hb1.size
  go_wp2_with fail
  refine (Tryz.Builder_WriteString _ _ _ ⟨#[58, 32]⟩ _ b1 (by rw [HL.out]; simp; omega) (by omega)).mono ?_
  rintro e w2 ⟨rfl, h2, hb2⟩
  have b2 := bu_next h2
  have s2 := hb2.size
  go_wp2_with fail
  refine (Tryz.Builder_WriteString _ _ _ v _ b2 (by rw [HL.out]; simp; omega) (by omega)).mono ?_
  rintro e w3 ⟨rfl, h3, hb3⟩
  have b3 := bu_next h3
  have s3 := hb3.size
  go_wp2_with fail
  refine (Tryz.Builder_WriteString _ _ _ ⟨#[13, 10]⟩ _ b3 (by rw [HL.out]; simp; omega) (by omega)).mono ?_
  rintro e w4 ⟨rfl, h4, hb4⟩
  have b4 := bu_next h4
  have BF : Hid (BuAt B g (l ++ fldL n.data.toList v.data.toList) w4 ∧ Below B w w4) := by
    refine ⟨?_, ((hb1.trans hb2).trans hb3).trans hb4⟩
    unfold fldL
    simpa [List.append_assoc] using b4
  clear b1 b2 b3 b4 h1 h2 h3 h4 hb1 hb2 hb3 hb4 h
  go_wp2
  refine bodyPost_end (v := .tuple #[]) (by simp [results, Tryz.results53, go_sem]) rfl ?_
  exact ⟨rfl, BF.out.1, BF.out.2⟩
end Go.Proofs.YtbphabgjhoifbaaGreatDoor

/- The program's Render: the bytes that the plain mathematics tells; nothing old in memory turns. -/
namespace Go.Proofs.YtbphabgjhoifbaaGreatDoor
open Go.RowKit

abbrev Pr2 := ByteArray × ByteArray
def FoAt (fs : List Pr2) (a : Option Addr) (w : World) : Prop :=
  ∀ i (h : i < fs.length), ∃ g o, a = some ⟨g, o, none⟩ ∧ g < w.heap.size ∧ w.cell? ⟨g, o + i * 2, none⟩ = some (.string fs[i].1) ∧ w.cell? ⟨g, o + i * 2 + 1, none⟩ = some (.string fs[i].2)
theorem FoAt.below {fs : List Pr2} {a : Option Addr} {w w' : World} (h : FoAt fs a w) (hb : Below w.heap.size w w') : FoAt fs a w' := fun i hi => by
  obtain ⟨g, o, h1, h2, h3, h4⟩ := h i hi
  exact ⟨g, o, h1, Nat.lt_of_lt_of_le h2 hb.size, cell_later hb h3, cell_later hb h4⟩
def fldsL (fs : List Pr2) : List UInt8 := fs.flatMap (fun f => fldL f.1.data.toList f.2.data.toList)
theorem fldsL_next (fs : List Pr2) (k : Nat) (h : k < fs.length) : fldsL (fs.take (k + 1)) = fldsL (fs.take k) ++ fldL fs[k].1.data.toList fs[k].2.data.toList := by
  unfold fldsL; rw [List.take_succ_eq_append_getElem h, List.flatMap_append]; simp
theorem fldsL_le (fs : List Pr2) (k : Nat) : (fldsL (fs.take k)).length ≤ (fldsL fs).length := by
  have h : fldsL fs = fldsL (fs.take k ++ fs.drop k) := by rw [List.take_append_drop]
  rw [h]; unfold fldsL; rw [List.flatMap_append, List.length_append]; omega
def cLen : List UInt8 := [67, 111, 110, 116, 101, 110, 116, 45, 76, 101, 110, 103, 116, 104]
def cCon : List UInt8 := [67, 111, 110, 110, 101, 99, 116, 105, 111, 110]
def cClose : List UInt8 := [99, 108, 111, 115, 101]
def cHead : List UInt8 := [72, 69, 65, 68]
def preL (st : Int) : List UInt8 := [72, 84, 84, 80, 47, 49, 46, 49, 32] ++ numT 10 st ++ [32] ++ (Pm.reasonB st).data.toList ++ [13, 10]
def endL (m : List UInt8) (body : List UInt8) (cl : Bool) : List UInt8 :=
  fldL cLen (numT 10 body.length) ++ (if cl = true then fldL cCon cClose else []) ++ [13, 10] ++ (if m = cHead then [] else body)
def rendL (m : List UInt8) (st : Int) (fs : List Pr2) (body : List UInt8) (cl : Bool) : List UInt8 := preL st ++ fldsL fs ++ endL m body cl
theorem look_le : ∀ (l : List (Int × List UInt8)) (n : Int), (∀ x ∈ l, x.2.length ≤ 40) → (Pm.look l n).length ≤ 40
  | [], _, _ => by simp [Pm.look]
  | (c, t) :: r, n, h => by
    rw [Pm.look]
    split
    · exact h (c, t) (by simp)
    · exact look_le r n (fun x hx => h x (by simp [hx]))
theorem reason_le (n : Int) : (Pm.reasonB n).size ≤ 40 := look_le Pm.codes n (by decide)
theorem bu_below {T e : TypeId} {B g : Nat} {bs : List Value} {w w' : World} (h : Lib.IsBuilder T e B g bs w) (hb : Below w.heap.size w w') : Lib.IsBuilder T e B g bs w' := by
  have hl : ∀ {o : Obj}, w.heap[g]? = some o → w'.heap[g]? = some o := fun {o} ho => by
    rw [hb.block g ?_]
    · exact ho
    · rcases Nat.lt_or_ge g w.heap.size with h' | h'
      · exact h'
      · simp [Array.getElem?_eq_none h'] at ho
  rcases h with ⟨hB, v, hg, ho, hn⟩ | ⟨hB, v, hg, ho, hn⟩
  · exact .inl ⟨hB, v, hl hg, owns_below ho hb, hn⟩
  · exact .inr ⟨hB, v, hl hg, owns_below ho hb, hn⟩
theorem itoa_any (n : Int) (h0 : -9223372036854775808 ≤ n) (h1 : n ≤ 9223372036854775807) (w : World) (ht : Lib.TabIs Tryz.prog w "internal/strconv.uint64pow10" .u64 Lib.pow10Tab) :
    Calls Tryz.prog 51 #[.int .i64 n] w fun e w' => e = .returned (.string ⟨(numT 10 n).toArray⟩) ∧ Below w.heap.size w w' := by
  refine (Tryz.strconv_Itoa n h0 h1 w ht).mono ?_
  rintro e w' ⟨rfl, k, os, rfl⟩
  exact ⟨by rw [numT_ten], Lib.below_grow _ _ (Nat.le_refl _) _ _⟩
/- the answer's block -/
def AnAt (g : Nat) (st : Int) (v : Value) (body : ByteArray) (cl : Bool) (w : World) : Prop := w.heap[g]? = some (.cells #[.int .i64 st, v, .string body, .bool cl] 64 (0, 0))
theorem AnAt.below {g : Nat} {st : Int} {v : Value} {body : ByteArray} {cl : Bool} {w w' : World} (h : AnAt g st v body cl w) {B : Nat} (hb : Below B w w') (hg : g < B) : AnAt g st v body cl w' := by
  unfold AnAt at *; rw [hb.block g hg]; exact h
theorem AnAt.cells {g : Nat} {st : Int} {v : Value} {body : ByteArray} {cl : Bool} {w : World} (h : AnAt g st v body cl w) : w.cell? ⟨g, 0, none⟩ = some (.int .i64 st) ∧ w.cell? ⟨g, 1, none⟩ = some v ∧ w.cell? ⟨g, 2, none⟩ = some (.string body) ∧ w.cell? ⟨g, 3, none⟩ = some (.bool cl) := by
  refine ⟨?_, ?_, ?_, ?_⟩ <;> (rw [Lib.cell_of_heap h]; rfl)
theorem AnAt.lt {g : Nat} {st : Int} {v : Value} {body : ByteArray} {cl : Bool} {w : World} (h : AnAt g st v body cl w) : g < w.heap.size := by
  rcases Nat.lt_or_ge g w.heap.size with h' | h'
  · exact h'
  · unfold AnAt at h; simp [Array.getElem?_eq_none h'] at h

set_option maxHeartbeats 400000 in
theorem pre_write (B g : Nat) (st : Int) (it rs : ByteArray) (W : World) (hp : preL st = [72, 84, 84, 80, 47, 49, 46, 49, 32] ++ it.data.toList ++ [32] ++ rs.data.toList ++ [13, 10]) (hi : it.size ≤ 65) (hr : rs.size ≤ 40) (h1 : BuAt B g [] W) (h2 : B ≤ W.heap.size) :
    Calls Tryz.prog 50 #[.pointer (some ⟨g, 0, none⟩), .string (⟨#[72, 84, 84, 80, 47, 49, 46, 49, 32]⟩ ++ it ++ ⟨#[32]⟩ ++ rs ++ ⟨#[13, 10]⟩)] W fun e w' => (∃ n, e = .returned (.tuple #[.int .i64 n, .nilIface])) ∧ BuAt B g (preL st) w' ∧ Below B W w' := by
  obtain ⟨x, hx⟩ : ∃ x : ByteArray, x = ⟨#[72, 84, 84, 80, 47, 49, 46, 49, 32]⟩ ++ it ++ ⟨#[32]⟩ ++ rs ++ ⟨#[13, 10]⟩ := ⟨_, rfl⟩
  have hz : x.size ≤ 200 := by
    have e1 : (⟨#[72, 84, 84, 80, 47, 49, 46, 49, 32]⟩ : ByteArray).size = 9 := rfl
    have e2 : (⟨#[32]⟩ : ByteArray).size = 1 := rfl
    have e3 : (⟨#[13, 10]⟩ : ByteArray).size = 2 := rfl
    rw [hx]; simp only [ByteArray.size_append]; omega
  have hd : x.data.toList = preL st := by
    rw [hx, hp]; simp only [ByteArray.data_append, Array.toList_append]
  rw [← hx]
  refine (Tryz.Builder_WriteString _ _ _ x _ h1 (by rw [bcells_len, List.length_nil]; omega) h2).mono ?_
  rintro e w' ⟨rfl, h3, h4⟩
  refine ⟨⟨_, rfl⟩, ?_, h4⟩
  have := bu_next h3
  rw [hd, List.nil_append] at this
  exact this

set_option maxRecDepth 100000 in
set_option maxHeartbeats 6000000 in
theorem wRender_any (m : ByteArray) (st : Int) (fs : List Pr2) (a : Option Addr) (ca : Nat) (body : ByteArray) (cl : Bool) (w : World)
    (s0 : -9223372036854775808 ≤ st) (s1 : st ≤ 9223372036854775807) (hf : FoAt fs a w) (hn : fs.length ≤ 1000000000) (hz : (fldsL fs).length + body.size ≤ 4398046511104)
    (ht : Lib.TabBelow Tryz.prog w.heap.size w "internal/strconv.uint64pow10" .u64 Lib.pow10Tab) :
    Calls Tryz.prog 36 #[.string m, .agg #[.int .i64 st, .slice a fs.length ca, .string body, .bool cl]] w fun e w' => e = .returned (.string ⟨(rendL m.data.toList st fs body.data.toList cl).toArray⟩) ∧ Below w.heap.size w w' := by
  have HF := hid hf
  have HT := hid ht
  clear hf ht
  have hB1 := (Below.refl w.heap.size w).alloc (Nat.le_refl _) (.cells #[.int .i64 st, .slice a fs.length ca, .string body, .bool cl] 64)
  have hB2 := hB1.alloc hB1.size (.cells #[.pointer none, .slice none 0 0] 126)
  have an1 : AnAt w.heap.size st (.slice a fs.length ca) body cl (w.alloc (.cells #[.int .i64 st, .slice a fs.length ca, .string body, .bool cl] 64)) := heap_alloc_new w _
  have z1 : (w.alloc (.cells #[.int .i64 st, .slice a fs.length ca, .string body, .bool cl] 64)).heap.size = w.heap.size + 1 := by simp
  have an2 := an1.below ((Below.refl _ _).alloc (Nat.le_refl _) (.cells #[.pointer none, .slice none 0 0] 126)) an1.lt
  have bu2 : BuAt (w.heap.size + 1) (w.heap.size + 1) [] ((w.alloc (.cells #[.int .i64 st, .slice a fs.length ca, .string body, .bool cl] 64)).alloc (.cells #[.pointer none, .slice none 0 0] 126)) := by
    have := Lib.fresh_isBuilder 126 5 (w.alloc (.cells #[.int .i64 st, .slice a fs.length ca, .string body, .bool cl] 64))
    rw [z1] at this; exact this
  have z2 : w.heap.size + 2 ≤ ((w.alloc (.cells #[.int .i64 st, .slice a fs.length ca, .string body, .bool cl] 64)).alloc (.cells #[.pointer none, .slice none 0 0] 126)).heap.size := by simp
  have HI := hid (fun W (hW : Below w.heap.size w W) => itoa_any st s0 s1 W (HT.out W hW))
  have hil := numT_le (b := 10) (n := st) (by omega) s0 s1
  have hrl := reason_le st
  generalize hIT : (⟨(numT 10 st).toArray⟩ : ByteArray) = it at *
  have hitd : it.data.toList = numT 10 st := by rw [← hIT]
  have hitz : it.size ≤ 65 := by
    have : it.data.toList.length = it.size := by simp
    rw [hitd] at this; omega
  have HR := hid (fun W => wReason_any st W)
  have HPRE : Hid (preL st = [72, 84, 84, 80, 47, 49, 46, 49, 32] ++ it.data.toList ++ [32] ++ (Pm.reasonB st).data.toList ++ [13, 10]) := by unfold Hid preL; rw [hitd]
  have hpl : (preL st).length ≤ 200 := by
    rw [HPRE.out]
    have h1 : it.data.toList.length = it.size := by simp
    have h2 : (Pm.reasonB st).data.toList.length = (Pm.reasonB st).size := by simp
    simp only [List.length_append, List.length_cons, List.length_nil]; omega
  clear hIT hitd hB1 an1 z1 hil
  generalize Pm.reasonB st = rs at *
  have HWS := hid (fun W h1 h2 => pre_write (w.heap.size + 1) (w.heap.size + 1) st it rs W HPRE.out hitz hrl h1 h2)
  go_enter Tryz.func36, Tryz.ntmps36
  go_wp2_with fail
  generalize (w.alloc (.cells #[.int .i64 st, .slice a fs.length ca, .string body, .bool cl] 64)).alloc (.cells #[.pointer none, .slice none 0 0] 126) = w2 at *
  have c0 := an2.cells.1
  have al2 := an2.lt
  have BU := hid bu2
  have AN := hid an2
  have HB2 := hid hB2
  have Z2 := hid z2
  clear bu2 an2 hB2 z2 HPRE
  go_cut [4] from 8 (fun r wx => r = .string ⟨#[]⟩ ∧ Hid (AnAt w.heap.size st (.slice a fs.length ca) body cl wx ∧ BuAt (w.heap.size + 1) (w.heap.size + 1) (preL st) wx ∧ Below w.heap.size w wx ∧ w.heap.size + 2 ≤ wx.heap.size))
  case first =>
    go_region_with (first
      | (go_at_call 51; refine (HI.out _ HB2.out.drew).mono ?_; rintro e w3 ⟨rfl, hb3⟩; have c03 := cell_later hb3 (show w2.drew.cell? _ = _ from c0); have al3 : w.heap.size < w3.heap.size := Nat.lt_of_lt_of_le al2 (by simpa using hb3.size); have D3 := hid (bel_of (Below.refl w2.heap.size w2).drew hb3); clear hb3)
      | (go_at_call 52; refine (HR.out _).mono ?_; rintro e w4 ⟨rfl, rfl⟩)
      | (go_at_call 50; refine (HWS.out _ (bu_below BU.out D3.out) (Nat.le_trans (Nat.le_trans (Nat.le_succ _) Z2.out) D3.out.size)).mono ?_; rintro e w5 ⟨⟨n5, rfl⟩, h5, hb5⟩; have H5 := hid (And.intro h5 hb5); clear h5 hb5))
    all_goals (try go_wp2_with fail)
    all_goals go_meet
    all_goals exact ⟨rfl, (AN.out.below D3.out al2).below H5.out.2 (Nat.lt_succ_self _), H5.out.1, (HB2.out.trans (D3.out.mono HB2.out.size)).trans (H5.out.2.mono (Nat.le_succ _)), Nat.le_trans Z2.out (Nat.le_trans D3.out.size H5.out.2.size)⟩
  case rest =>
    clear HWS HR HI AN BU HB2 Z2 al2 c0
    obtain ⟨rfl, hc⟩ := hcut
    obtain ⟨an, bu, hB, hs⟩ := hc.out
    have c1 := an.cells.2.1
    have al := an.lt
    have J0 := hid (And.intro an (And.intro bu (And.intro hB hs)))
    clear an bu hB hs hc
    go_wp2_with fail
    go_loopw [7, 22] (fun _ i wr => ∃ k : Nat, k ≤ fs.length ∧ i = .int .i64 k ∧ Hid (AnAt w.heap.size st (.slice a fs.length ca) body cl wr ∧ BuAt (w.heap.size + 1) (w.heap.size + 1) (preL st ++ fldsL (fs.take k)) wr ∧ Below w.heap.size w wr ∧ w.heap.size + 2 ≤ wr.heap.size)) (fun _ i _ => fs.length - (intOf i).toNat)
    case atStart => exact ⟨0, Nat.zero_le _, rfl, J0.out.1, by simpa [fldsL] using J0.out.2.1, J0.out.2.2⟩
    case round =>
      clear J0
      obtain ⟨k, hk, rfl, I⟩ := hrel
      by_cases hlt : k < fs.length
      · obtain ⟨g, o, rfl, hg, hc1, hc2⟩ := (HF.out.below I.out.2.2.1) k hlt
        have HN := hid (fldsL_next fs k hlt)
        have hle := fldsL_le fs (k + 1)
        rw [HN.out, List.length_append] at hle
        generalize fs[k].1 = nm at *
        generalize fs[k].2 = vl at *
        have hfl : (fldL nm.data.toList vl.data.toList).length = nm.size + vl.size + 4 := by simp [fldL]; omega
        have hA := (Below.refl wr.heap.size wr).alloc (Nat.le_refl _) (.cells #[.string nm, .string vl] 133)
        have HWF := hid (writeField_any (w.heap.size + 1) (w.heap.size + 1) (preL st ++ fldsL (fs.take k)) nm vl _ (bu_below I.out.2.1 hA) (by rw [List.length_append]; omega) (Nat.le_trans (Nat.le_trans (Nat.le_succ _) I.out.2.2.2) hA.size))
        have I2 : Hid (AnAt w.heap.size st (.slice (some ⟨g, o, none⟩) fs.length ca) body cl (wr.alloc (.cells #[.string nm, .string vl] 133)) ∧ Below w.heap.size w (wr.alloc (.cells #[.string nm, .string vl] 133)) ∧ w.heap.size + 2 ≤ (wr.alloc (.cells #[.string nm, .string vl] 133)).heap.size) := ⟨I.out.1.below hA I.out.1.lt, bel_of I.out.2.2.1 hA, Nat.le_trans I.out.2.2.2 hA.size⟩
        clear hA hle hfl
        go_wp2_with fail
        refine HWF.out.mono ?_
        rintro e w1 ⟨rfl, bu1, hb1⟩
        have J1 : Hid (AnAt w.heap.size st (.slice (some ⟨g, o, none⟩) fs.length ca) body cl w1 ∧ BuAt (w.heap.size + 1) (w.heap.size + 1) (preL st ++ fldsL (fs.take (k + 1))) w1 ∧ Below w.heap.size w w1 ∧ w.heap.size + 2 ≤ w1.heap.size) := by
          refine ⟨I2.out.1.below hb1 (Nat.lt_succ_self _), ?_, I2.out.2.1.trans (hb1.mono (Nat.le_succ _)), Nat.le_trans I2.out.2.2 hb1.size⟩
          rw [HN.out, ← List.append_assoc]; exact bu1
        clear HWF I I2 bu1 hb1 HN
        go_wp2
        exact ⟨⟨k + 1, by omega, by go_num, J1.out⟩, by simp [intOf]; omega⟩
      · have HTK : Hid (fs.take k = fs) := List.take_of_length_le (by omega)
        rw [HTK.out] at I
        obtain ⟨an, bu, hB, hs⟩ := I.out
        obtain ⟨c0, c1, c2, c3⟩ := an.cells
        have al := an.lt
        clear HTK I
        have hbl : body.data.toList.length = body.size := by simp
        have HI := hid (fun W (hW : Below w.heap.size w W) => itoa_any (body.size : Int) (by omega) (by omega) W (HT.out W hW))
        have hll := numT_le (b := 10) (n := (body.size : Int)) (by omega) (by omega) (by omega)
        generalize hLT : (⟨(numT 10 (body.size : Int)).toArray⟩ : ByteArray) = lt at *
        have hld : lt.data.toList = numT 10 (body.data.toList.length : Int) := by rw [← hLT, hbl]
        have hlz : lt.size ≤ 65 := by
          have : lt.data.toList.length = lt.size := by simp
          rw [hld, hbl] at this; omega
        have HR : Hid (rendL m.data.toList st fs body.data.toList cl = ((preL st ++ fldsL fs ++ fldL cLen lt.data.toList) ++ (if cl = true then fldL cCon cClose else [])) ++ [13, 10] ++ (if m.data.toList = cHead then [] else body.data.toList)) := by
          unfold Hid rendL endL; rw [hld]; simp only [List.append_assoc]
        clear hLT hld hll
        go_wp2_with fail
        refine (HI.out _ hB).mono ?_
        rintro e w1 ⟨rfl, hb1⟩
        have bu1 := bu_below bu hb1
        have s1 := hb1.size
        go_wp2_with fail
        refine (writeField_any _ _ _ _ lt _ bu1 (show _ + 14 + _ + 4 ≤ _ by rw [List.length_append]; omega) (by omega)).mono ?_
        rintro e w3 ⟨rfl, bu3, hb3⟩
        have an3 := (an.below hb1 al).below hb3 (Nat.lt_succ_self _)
        have hB3 : Below w.heap.size w w3 := (hB.trans (hb1.mono hB.size)).trans (hb3.mono (Nat.le_succ _))
        have s3 := hb3.size
        have B3 : BuAt (w.heap.size + 1) (w.heap.size + 1) (preL st ++ fldsL fs ++ fldL cLen lt.data.toList) w3 := bu3
        obtain ⟨d0, d1, d2, d3⟩ := an3.cells
        have al3 := an3.lt
        have hfl : (fldL cLen lt.data.toList).length = lt.size + 18 := by simp [fldL, cLen]
        clear c0 c1 c2 c3 bu bu1 bu3 an hb1 hb3 hB HI
        cases cl
        · simp only [Bool.false_eq_true, if_false, List.append_nil] at HR
          go_wp2_with fail
          refine (Tryz.Builder_WriteString _ _ _ _ _ B3 (show _ + 2 ≤ _ by rw [bcells_len, List.length_append, List.length_append]; omega) (by omega)).mono ?_
          rintro e w4 ⟨rfl, h4, hb4⟩
          have bu4 := bu_next h4
          have an4 := an3.below hb4 (Nat.lt_succ_self _)
          have hB4 : Below w.heap.size w w4 := hB3.trans (hb4.mono (Nat.le_succ _))
          have s4 := hb4.size
          obtain ⟨e0, e1, e2, e3⟩ := an4.cells
          have al4 := an4.lt
          clear d0 d1 d2 d3 h4 hb4 an3 hB3 B3 an4
          by_cases hm : m.data.toList = cHead
          · have hmb : (m.toList == [72, 69, 65, 68]) = true := by rw [ByteArray.toList_eq, hm]; rfl
            rw [if_pos hm, List.append_nil] at HR
            clear hm
            go_wp2_with fail
            refine (Tryz.Builder_String_any _ _ _ _ bu4 (by omega)).mono ?_
            rintro e w5 ⟨rfl, hb5⟩
            go_wp2
            go_ret
            exact ⟨ret_strL (by rw [HR.out]; simp [List.append_assoc]), hB4.trans (hb5.mono (Nat.le_succ _))⟩
          · have hmb : (m.toList == [72, 69, 65, 68]) = false := by rw [ByteArray.toList_eq, beq_eq_false_iff_ne]; exact hm
            rw [if_neg hm] at HR
            clear hm
            go_wp2_with fail
            refine (Tryz.Builder_WriteString _ _ _ body _ bu4 (by rw [bcells_len, List.length_append, List.length_append, List.length_append]; show _ + 2 + _ ≤ _; omega) (by omega)).mono ?_
            rintro e w5 ⟨rfl, h5, hb5⟩
            have bu5 := bu_next h5
            have s5 := hb5.size
            have hB5 : Below w.heap.size w w5 := hB4.trans (hb5.mono (Nat.le_succ _))
            clear h5 bu4 hB4 hb5 e0 e1 e2 e3
            go_wp2_with fail
            refine (Tryz.Builder_String_any _ _ _ _ bu5 (by omega)).mono ?_
            rintro e w6 ⟨rfl, hb6⟩
            go_wp2
            go_ret
            exact ⟨ret_strL (by rw [HR.out]; simp [List.append_assoc]), hB5.trans (hb6.mono (Nat.le_succ _))⟩
        · simp only [if_true] at HR
          go_wp2_with fail
          refine (writeField_any _ _ _ _ _ _ B3 (show _ + 10 + 5 + 4 ≤ _ by rw [List.length_append, List.length_append]; omega) (by omega)).mono ?_
          rintro e w35 ⟨rfl, bu35, hb35⟩
          have B35 : BuAt (w.heap.size + 1) (w.heap.size + 1) (preL st ++ fldsL fs ++ fldL cLen lt.data.toList ++ fldL cCon cClose) w35 := bu35
          have an35 := an3.below hb35 (Nat.lt_succ_self _)
          have hB35 : Below w.heap.size w w35 := hB3.trans (hb35.mono (Nat.le_succ _))
          have s35 := hb35.size
          have hcl : (fldL cCon cClose).length = 19 := rfl
          clear bu35 hb35 hB3 an3 B3 d0 d1 d2 d3
          go_wp2_with fail
          refine (Tryz.Builder_WriteString _ _ _ _ _ B35 (show _ + 2 ≤ _ by rw [bcells_len, List.length_append, List.length_append, List.length_append]; omega) (by omega)).mono ?_
          rintro e w4 ⟨rfl, h4, hb4⟩
          have bu4 := bu_next h4
          have an4 := an35.below hb4 (Nat.lt_succ_self _)
          have hB4 : Below w.heap.size w w4 := hB35.trans (hb4.mono (Nat.le_succ _))
          have s4 := hb4.size
          obtain ⟨e0, e1, e2, e3⟩ := an4.cells
          have al4 := an4.lt
          clear h4 hb4 an35 hB35 B35 an4
          by_cases hm : m.data.toList = cHead
          · have hmb : (m.toList == [72, 69, 65, 68]) = true := by rw [ByteArray.toList_eq, hm]; rfl
            rw [if_pos hm, List.append_nil] at HR
            clear hm
            go_wp2_with fail
            refine (Tryz.Builder_String_any _ _ _ _ bu4 (by omega)).mono ?_
            rintro e w5 ⟨rfl, hb5⟩
            go_wp2
            go_ret
            exact ⟨ret_strL (by rw [HR.out]; simp [List.append_assoc]), hB4.trans (hb5.mono (Nat.le_succ _))⟩
          · have hmb : (m.toList == [72, 69, 65, 68]) = false := by rw [ByteArray.toList_eq, beq_eq_false_iff_ne]; exact hm
            rw [if_neg hm] at HR
            clear hm
            go_wp2_with fail
            refine (Tryz.Builder_WriteString _ _ _ body _ bu4 (by rw [bcells_len, List.length_append, List.length_append, List.length_append, List.length_append]; show _ + 2 + _ ≤ _; omega) (by omega)).mono ?_
            rintro e w5 ⟨rfl, h5, hb5⟩
            have bu5 := bu_next h5
            have s5 := hb5.size
            have hB5 : Below w.heap.size w w5 := hB4.trans (hb5.mono (Nat.le_succ _))
            clear h5 bu4 hB4 hb5 e0 e1 e2 e3
            go_wp2_with fail
            refine (Tryz.Builder_String_any _ _ _ _ bu5 (by omega)).mono ?_
            rintro e w6 ⟨rfl, hb6⟩
            go_wp2
            go_ret
            exact ⟨ret_strL (by rw [HR.out]; simp [List.append_assoc]), hB5.trans (hb6.mono (Nat.le_succ _))⟩
end Go.Proofs.YtbphabgjhoifbaaGreatDoor

/- Plain mathematics, twelfth part: the form of a version, byte by byte; lists of names that differ in the case of letters alone. -/
namespace Go.Proofs.YtbphabgjhoifbaaGreatDoor.Pm

theorem ver_form {w : List UInt8} (h : isVersion w = true) : ∃ a b c, w = [72, 84, 84, 80, 47, a, b, c] := by
  unfold isVersion at h
  rw [Bool.and_eq_true] at h
  obtain ⟨h1, h2⟩ := h
  unfold Lib.hasPrefix at h1
  obtain ⟨r, hr⟩ := List.isPrefixOf_iff_prefix.1 h1
  subst hr
  have h3 : Lib.trimPrefix (http ++ r) http = r := by
    unfold Lib.trimPrefix Lib.hasPrefix
    rw [if_pos (List.isPrefixOf_iff_prefix.2 ⟨r, rfl⟩)]
    simp
  rw [h3] at h2
  unfold verTail at h2
  match r, h2 with
  | [a, b, c], _ => exact ⟨a, b, c, rfl⟩
theorem ver_at (a b c : UInt8) : isVersion [72, 84, 84, 80, 47, a, b, c] = (digB a && (b == 46 && digB c)) := by
  unfold isVersion Lib.trimPrefix Lib.hasPrefix http
  simp [List.isPrefixOf, verTail]
theorem num_in (c : UInt8) : inB [48, 49, 50, 51, 52, 53, 54, 55, 56, 57] c = digB c := by
  have := all256 (p := fun c => inB [48, 49, 50, 51, 52, 53, 54, 55, 56, 57] c == digB c) (by decide +kernel) c
  simpa using this
theorem b46 (b : UInt8) : (b == 46) = !((b.toNat : Int) != 46) := by
  have := all256 (p := fun b => (b == 46) == !((b.toNat : Int) != 46)) (by decide +kernel) b
  simpa using this
/- nine bytes that begin as a version does -/
theorem nine {v : List UInt8} (h : v.length = 9) (h6 : v.take 6 = [32, 72, 84, 84, 80, 47]) : ∃ a b c, v = [32, 72, 84, 84, 80, 47, a, b, c] := by
  match v, h with
  | [x0, x1, x2, x3, x4, x5, a, b, c], _ =>
    simp at h6
    obtain ⟨rfl, rfl, rfl, rfl, rfl, rfl⟩ := h6
    exact ⟨a, b, c, rfl⟩
end Go.Proofs.YtbphabgjhoifbaaGreatDoor.Pm

/- Plain mathematics, tenth part: a line, told byte by byte. -/
namespace Go.Proofs.YtbphabgjhoifbaaGreatDoor.Pm

def noLF (l : List UInt8) (j : Nat) : Prop := ∀ x ∈ l.take j, x ≠ 10
theorem noLF_zero (l : List UInt8) : noLF l 0 := fun x hx => by simp at hx
theorem noLF_succ {l : List UInt8} {j : Nat} (h : j < l.length) (hn : noLF l j) (hc : l[j] ≠ 10) : noLF l (j + 1) := by
  intro x hx
  rw [List.take_succ_eq_append_getElem h, List.mem_append] at hx
  rcases hx with hx | hx
  · exact hn x hx
  · simp at hx; subst hx; exact hc
theorem noLF_split {l : List UInt8} (h : ∀ x ∈ l, x ≠ 10) : ahead 10 l = l ∧ behind 10 l = [] := by
  induction l with
  | nil => exact ⟨rfl, rfl⟩
  | cons c l ih =>
    have hc : c ≠ 10 := h c (by simp)
    obtain ⟨h1, h2⟩ := ih fun x hx => h x (by simp [hx])
    unfold ahead behind at *
    rw [List.takeWhile_cons_of_pos (by simpa using hc), List.dropWhile_cons_of_pos (by simpa using hc), h1, h2]
    exact ⟨rfl, rfl⟩
theorem LF_split {a r : List UInt8} (h : ∀ x ∈ a, x ≠ 10) : ahead 10 (a ++ 10 :: r) = a ∧ behind 10 (a ++ 10 :: r) = 10 :: r := by
  induction a with
  | nil => unfold ahead behind; exact ⟨by simp, by simp⟩
  | cons c l ih =>
    have hc : c ≠ 10 := h c (by simp)
    obtain ⟨h1, h2⟩ := ih fun x hx => h x (by simp [hx])
    unfold ahead behind at *
    rw [List.cons_append, List.takeWhile_cons_of_pos (by simpa using hc), List.dropWhile_cons_of_pos (by simpa using hc), h1, h2]
    exact ⟨rfl, rfl⟩
theorem line_over {l : List UInt8} {lim : Nat} {long : Int} (hn : noLF l lim) (h : lim ≤ l.length) : lineS l lim long = (long, [], 0) := by
  rw [lineS_none (noLF_split hn).2, if_neg (by omega)]
theorem line_more {l : List UInt8} {lim : Nat} {long : Int} (hn : noLF l l.length) (h : l.length < lim) : lineS l lim long = (2, [], 0) := by
  unfold noLF at hn
  rw [List.take_of_length_le (Nat.le_refl _)] at hn
  rw [lineS_none (by rw [List.take_of_length_le (by omega)]; exact (noLF_split hn).2), if_pos h]
theorem line_at {l : List UInt8} {j lim : Nat} (hn : noLF l j) (h : j < l.length) (hc : l[j] = 10) (hl : j < lim) :
    ahead 10 (l.take lim) = l.take j ∧ ∃ r, behind 10 (l.take lim) = 10 :: r := by
  have e : l.take lim = l.take j ++ 10 :: ((l.drop (j + 1)).take (lim - (j + 1))) := by
    have h1 : l = l.take j ++ 10 :: l.drop (j + 1) := by
      rw [← hc, List.getElem_cons_drop, List.take_append_drop]
    have hj : (l.take j).length = j := by simp; omega
    conv => lhs; rw [h1]
    rw [List.take_append, hj, List.take_of_length_le (by omega : (l.take j).length ≤ lim)]
    rw [show lim - j = (lim - (j + 1)) + 1 from by omega, List.take_succ_cons]
  rw [e]
  obtain ⟨h1, h2⟩ := LF_split (r := (l.drop (j + 1)).take (lim - (j + 1))) hn
  exact ⟨h1, _, h2⟩
theorem line_bad0 {l : List UInt8} {lim : Nat} {long : Int} (h : 0 < l.length) (hc : l[0] = 10) (hl : 0 < lim) : lineS l lim long = (3, [], 0) := by
  obtain ⟨h1, r, h2⟩ := line_at (noLF_zero l) h hc hl
  exact lineS_no h2 (by rw [h1]; rfl)
theorem suf13 {l : List UInt8} {j : Nat} (h : j < l.length) : Lib.hasSuffix (l.take (j + 1)) [13] = (l[j] == 13) := by
  rw [List.take_succ_eq_append_getElem h]
  unfold Lib.hasSuffix
  rw [Bool.eq_iff_iff, List.isSuffixOf_iff_suffix]
  constructor
  · intro ⟨t, ht⟩
    have := (List.append_inj' ht rfl).2
    simp at this; simp [← this]
  · intro h2
    simp at h2; rw [h2]; exact ⟨_, rfl⟩
theorem line_bad {l : List UInt8} {j lim : Nat} {long : Int} (hn : noLF l (j + 1)) (h : j + 1 < l.length) (hc : l[j + 1] = 10) (hl : j + 1 < lim) (hr : l[j] ≠ 13) : lineS l lim long = (3, [], 0) := by
  obtain ⟨h1, r, h2⟩ := line_at hn h hc hl
  exact lineS_no h2 (by rw [h1, suf13 (by omega)]; simpa using hr)
theorem line_good {l : List UInt8} {j lim : Nat} {long : Int} (hn : noLF l (j + 1)) (h : j + 1 < l.length) (hc : l[j + 1] = 10) (hl : j + 1 < lim) (hr : l[j] = 13) : lineS l lim long = (0, l.take j, j + 2) := by
  obtain ⟨h1, r, h2⟩ := line_at hn h hc hl
  have hs : Lib.hasSuffix (ahead 10 (l.take lim)) [13] = true := by rw [h1, suf13 (by omega)]; simpa using hr
  rw [lineS_cr h2 hs]
  unfold Lib.trimSuffix
  rw [if_pos hs, h1]
  have hj : (l.take (j + 1)).length = j + 1 := by simp; omega
  rw [hj, List.take_take]
  simp only [List.length_singleton]
  rw [show min (j + 1 - 1) (j + 1) = j from by omega]
end Go.Proofs.YtbphabgjhoifbaaGreatDoor.Pm
