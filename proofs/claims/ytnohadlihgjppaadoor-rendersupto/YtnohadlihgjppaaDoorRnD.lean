/- The program's Render: the bytes that the plain mathematics tells; nothing old in memory turns. -/
import Derived.Test.YtnohadlihgjppaaDoorRnC
import Derived.Test.YtnohadlihgjppaaDoorWalkN
import Derived.Lib.AppendIntMem
import Derived.Deep.Cut
namespace Go.Proofs.YtnohadlihgjppaaDoor
open Go.RowKit

abbrev Pr2 := ByteArray × ByteArray
def FoAt (fs : List Pr2) (a : Option Addr) (w : World) : Prop :=
  ∀ i (h : i < fs.length), ∃ g o, a = some ⟨g, o, none⟩ ∧ g < w.heap.size ∧ w.cell? ⟨g, o + i * 2, none⟩ = some (.string fs[i].1) ∧ w.cell? ⟨g, o + i * 2 + 1, none⟩ = some (.string fs[i].2)
theorem FoAt.below {fs : List Pr2} {a : Option Addr} {w w' : World} (h : FoAt fs a w) (hb : Below w.heap.size w w') : FoAt fs a w' := fun i hi => by
  obtain ⟨g, o, h1, h2, h3, h4⟩ := h i hi
  exact ⟨g, o, h1, Nat.lt_of_lt_of_le h2 hb.size, cell_later hb h3, cell_later hb h4⟩
def fldsL (fs : List Pr2) : List UInt8 := fs.flatMap (fun f => fldL f.1.data.toList f.2.data.toList)
theorem fldsL_next (fs : List Pr2) (k : Nat) (h : k < fs.length) : fldsL (fs.take (k + 1)) = fldsL (fs.take k) ++ fldL fs[k].1.data.toList fs[k].2.data.toList := by
  unfold fldsL; rw [List.take_succ_eq_append_getElem h, List.flatMap_append]; simp
theorem fldsL_le (fs : List Pr2) (k : Nat) : (fldsL (fs.take k)).length ≤ (fldsL fs).length := by
  have h : fldsL fs = fldsL (fs.take k ++ fs.drop k) := by rw [List.take_append_drop]
  rw [h]; unfold fldsL; rw [List.flatMap_append, List.length_append]; omega
def cLen : List UInt8 := [67, 111, 110, 116, 101, 110, 116, 45, 76, 101, 110, 103, 116, 104]
def cCon : List UInt8 := [67, 111, 110, 110, 101, 99, 116, 105, 111, 110]
def cClose : List UInt8 := [99, 108, 111, 115, 101]
def cHead : List UInt8 := [72, 69, 65, 68]
def preL (st : Int) : List UInt8 := [72, 84, 84, 80, 47, 49, 46, 49, 32] ++ numT 10 st ++ [32] ++ (Pm.reasonB st).data.toList ++ [13, 10]
def endL (m : List UInt8) (body : List UInt8) (cl : Bool) : List UInt8 :=
  fldL cLen (numT 10 body.length) ++ (if cl = true then fldL cCon cClose else []) ++ [13, 10] ++ (if m = cHead then [] else body)
def rendL (m : List UInt8) (st : Int) (fs : List Pr2) (body : List UInt8) (cl : Bool) : List UInt8 := preL st ++ fldsL fs ++ endL m body cl
theorem look_le : ∀ (l : List (Int × List UInt8)) (n : Int), (∀ x ∈ l, x.2.length ≤ 40) → (Pm.look l n).length ≤ 40
  | [], _, _ => by simp [Pm.look]
  | (c, t) :: r, n, h => by
    rw [Pm.look]
    split
    · exact h (c, t) (by simp)
    · exact look_le r n (fun x hx => h x (by simp [hx]))
theorem reason_le (n : Int) : (Pm.reasonB n).size ≤ 40 := look_le Pm.codes n (by decide)
theorem bu_below {T e : TypeId} {B g : Nat} {bs : List Value} {w w' : World} (h : Lib.IsBuilder T e B g bs w) (hb : Below w.heap.size w w') : Lib.IsBuilder T e B g bs w' := by
  have hl : ∀ {o : Obj}, w.heap[g]? = some o → w'.heap[g]? = some o := fun {o} ho => by
    rw [hb.block g ?_]
    · exact ho
    · rcases Nat.lt_or_ge g w.heap.size with h' | h'
      · exact h'
      · simp [Array.getElem?_eq_none h'] at ho
  rcases h with ⟨hB, v, hg, ho, hn⟩ | ⟨hB, v, hg, ho, hn⟩
  · exact .inl ⟨hB, v, hl hg, owns_below ho hb, hn⟩
  · exact .inr ⟨hB, v, hl hg, owns_below ho hb, hn⟩
theorem itoa_any (n : Int) (h0 : -9223372036854775808 ≤ n) (h1 : n ≤ 9223372036854775807) (w : World) (ht : Lib.TabIs Tryd.prog w "internal/strconv.uint64pow10" .u64 Lib.pow10Tab) :
    Calls Tryd.prog 62 #[.int .i64 n] w fun e w' => e = .returned (.string ⟨(numT 10 n).toArray⟩) ∧ Below w.heap.size w w' := by
  refine (Tryd.strconv_Itoa n h0 h1 w ht).mono ?_
  rintro e w' ⟨rfl, k, os, rfl⟩
  exact ⟨by rw [numT_ten], Lib.below_grow _ _ (Nat.le_refl _) _ _⟩
/- the answer's block -/
def AnAt (g : Nat) (st : Int) (v : Value) (body : ByteArray) (cl : Bool) (w : World) : Prop := w.heap[g]? = some (.cells #[.int .i64 st, v, .string body, .bool cl] 46 (0, 0))
theorem AnAt.below {g : Nat} {st : Int} {v : Value} {body : ByteArray} {cl : Bool} {w w' : World} (h : AnAt g st v body cl w) {B : Nat} (hb : Below B w w') (hg : g < B) : AnAt g st v body cl w' := by
  unfold AnAt at *; rw [hb.block g hg]; exact h
theorem AnAt.cells {g : Nat} {st : Int} {v : Value} {body : ByteArray} {cl : Bool} {w : World} (h : AnAt g st v body cl w) : w.cell? ⟨g, 0, none⟩ = some (.int .i64 st) ∧ w.cell? ⟨g, 1, none⟩ = some v ∧ w.cell? ⟨g, 2, none⟩ = some (.string body) ∧ w.cell? ⟨g, 3, none⟩ = some (.bool cl) := by
  refine ⟨?_, ?_, ?_, ?_⟩ <;> (rw [Lib.cell_of_heap h]; rfl)
theorem AnAt.lt {g : Nat} {st : Int} {v : Value} {body : ByteArray} {cl : Bool} {w : World} (h : AnAt g st v body cl w) : g < w.heap.size := by
  rcases Nat.lt_or_ge g w.heap.size with h' | h'
  · exact h'
  · unfold AnAt at h; simp [Array.getElem?_eq_none h'] at h

set_option maxHeartbeats 400000 in
theorem pre_write (B g : Nat) (st : Int) (it rs : ByteArray) (W : World) (hp : preL st = [72, 84, 84, 80, 47, 49, 46, 49, 32] ++ it.data.toList ++ [32] ++ rs.data.toList ++ [13, 10]) (hi : it.size ≤ 65) (hr : rs.size ≤ 40) (h1 : BuAt B g [] W) (h2 : B ≤ W.heap.size) :
    Calls Tryd.prog 61 #[.pointer (some ⟨g, 0, none⟩), .string (⟨#[72, 84, 84, 80, 47, 49, 46, 49, 32]⟩ ++ it ++ ⟨#[32]⟩ ++ rs ++ ⟨#[13, 10]⟩)] W fun e w' => (∃ n, e = .returned (.tuple #[.int .i64 n, .nilIface])) ∧ BuAt B g (preL st) w' ∧ Below B W w' := by
  obtain ⟨x, hx⟩ : ∃ x : ByteArray, x = ⟨#[72, 84, 84, 80, 47, 49, 46, 49, 32]⟩ ++ it ++ ⟨#[32]⟩ ++ rs ++ ⟨#[13, 10]⟩ := ⟨_, rfl⟩
  have hz : x.size ≤ 200 := by
    have e1 : (⟨#[72, 84, 84, 80, 47, 49, 46, 49, 32]⟩ : ByteArray).size = 9 := rfl
    have e2 : (⟨#[32]⟩ : ByteArray).size = 1 := rfl
    have e3 : (⟨#[13, 10]⟩ : ByteArray).size = 2 := rfl
    rw [hx]; simp only [ByteArray.size_append]; omega
  have hd : x.data.toList = preL st := by
    rw [hx, hp]; simp only [ByteArray.data_append, Array.toList_append]
  rw [← hx]
  refine (Tryd.Builder_WriteString _ _ _ x _ h1 (by rw [bcells_len, List.length_nil]; omega) h2).mono ?_
  rintro e w' ⟨rfl, h3, h4⟩
  refine ⟨⟨_, rfl⟩, ?_, h4⟩
  have := bu_next h3
  rw [hd, List.nil_append] at this
  exact this

set_option maxRecDepth 100000 in
set_option maxHeartbeats 6000000 in
theorem wRender_any (m : ByteArray) (st : Int) (fs : List Pr2) (a : Option Addr) (ca : Nat) (body : ByteArray) (cl : Bool) (w : World)
    (s0 : -9223372036854775808 ≤ st) (s1 : st ≤ 9223372036854775807) (hf : FoAt fs a w) (hn : fs.length ≤ 1000000000) (hz : (fldsL fs).length + body.size ≤ 4398046511104)
    (ht : Lib.TabBelow Tryd.prog w.heap.size w "internal/strconv.uint64pow10" .u64 Lib.pow10Tab) :
    Calls Tryd.prog 42 #[.string m, .agg #[.int .i64 st, .slice a fs.length ca, .string body, .bool cl]] w fun e w' => e = .returned (.string ⟨(rendL m.data.toList st fs body.data.toList cl).toArray⟩) ∧ Below w.heap.size w w' := by
  have HF := hid hf
  have HT := hid ht
  clear hf ht
  have hB1 := (Below.refl w.heap.size w).alloc (Nat.le_refl _) (.cells #[.int .i64 st, .slice a fs.length ca, .string body, .bool cl] 46)
  have hB2 := hB1.alloc hB1.size (.cells #[.pointer none, .slice none 0 0] 103)
  have an1 : AnAt w.heap.size st (.slice a fs.length ca) body cl (w.alloc (.cells #[.int .i64 st, .slice a fs.length ca, .string body, .bool cl] 46)) := heap_alloc_new w _
  have z1 : (w.alloc (.cells #[.int .i64 st, .slice a fs.length ca, .string body, .bool cl] 46)).heap.size = w.heap.size + 1 := by simp
  have an2 := an1.below ((Below.refl _ _).alloc (Nat.le_refl _) (.cells #[.pointer none, .slice none 0 0] 103)) an1.lt
  have bu2 : BuAt (w.heap.size + 1) (w.heap.size + 1) [] ((w.alloc (.cells #[.int .i64 st, .slice a fs.length ca, .string body, .bool cl] 46)).alloc (.cells #[.pointer none, .slice none 0 0] 103)) := by
    have := Lib.fresh_isBuilder 103 5 (w.alloc (.cells #[.int .i64 st, .slice a fs.length ca, .string body, .bool cl] 46))
    rw [z1] at this; exact this
  have z2 : w.heap.size + 2 ≤ ((w.alloc (.cells #[.int .i64 st, .slice a fs.length ca, .string body, .bool cl] 46)).alloc (.cells #[.pointer none, .slice none 0 0] 103)).heap.size := by simp
  have HI := hid (fun W (hW : Below w.heap.size w W) => itoa_any st s0 s1 W (HT.out W hW))
  have hil := numT_le (b := 10) (n := st) (by omega) s0 s1
  have hrl := reason_le st
  generalize hIT : (⟨(numT 10 st).toArray⟩ : ByteArray) = it at *
  have hitd : it.data.toList = numT 10 st := by rw [← hIT]
  have hitz : it.size ≤ 65 := by
    have : it.data.toList.length = it.size := by simp
    rw [hitd] at this; omega
  have HR := hid (fun W => wReason_any st W)
  have HPRE : Hid (preL st = [72, 84, 84, 80, 47, 49, 46, 49, 32] ++ it.data.toList ++ [32] ++ (Pm.reasonB st).data.toList ++ [13, 10]) := by unfold Hid preL; rw [hitd]
  have hpl : (preL st).length ≤ 200 := by
    rw [HPRE.out]
    have h1 : it.data.toList.length = it.size := by simp
    have h2 : (Pm.reasonB st).data.toList.length = (Pm.reasonB st).size := by simp
    simp only [List.length_append, List.length_cons, List.length_nil]; omega
  clear hIT hitd hB1 an1 z1 hil
  generalize Pm.reasonB st = rs at *
  have HWS := hid (fun W h1 h2 => pre_write (w.heap.size + 1) (w.heap.size + 1) st it rs W HPRE.out hitz hrl h1 h2)
  go_enter Tryd.func42, Tryd.ntmps42
  go_wp2_with fail
  generalize (w.alloc (.cells #[.int .i64 st, .slice a fs.length ca, .string body, .bool cl] 46)).alloc (.cells #[.pointer none, .slice none 0 0] 103) = w2 at *
  have c0 := an2.cells.1
  have al2 := an2.lt
  have BU := hid bu2
  have AN := hid an2
  have HB2 := hid hB2
  have Z2 := hid z2
  clear bu2 an2 hB2 z2 HPRE
  go_cut [4] from 8 (fun r wx => r = .string ⟨#[]⟩ ∧ Hid (AnAt w.heap.size st (.slice a fs.length ca) body cl wx ∧ BuAt (w.heap.size + 1) (w.heap.size + 1) (preL st) wx ∧ Below w.heap.size w wx ∧ w.heap.size + 2 ≤ wx.heap.size))
  case first =>
    go_region_with (first
      | (go_at_call 62; refine (HI.out _ HB2.out.drew).mono ?_; rintro e w3 ⟨rfl, hb3⟩; have c03 := cell_later hb3 (show w2.drew.cell? _ = _ from c0); have al3 : w.heap.size < w3.heap.size := Nat.lt_of_lt_of_le al2 (by simpa using hb3.size); have D3 := hid (bel_of (Below.refl w2.heap.size w2).drew hb3); clear hb3)
      | (go_at_call 63; refine (HR.out _).mono ?_; rintro e w4 ⟨rfl, rfl⟩)
      | (go_at_call 61; refine (HWS.out _ (bu_below BU.out D3.out) (Nat.le_trans (Nat.le_trans (Nat.le_succ _) Z2.out) D3.out.size)).mono ?_; rintro e w5 ⟨⟨n5, rfl⟩, h5, hb5⟩; have H5 := hid (And.intro h5 hb5); clear h5 hb5))
    all_goals (try go_wp2_with fail)
    all_goals go_meet
    all_goals exact ⟨rfl, (AN.out.below D3.out al2).below H5.out.2 (Nat.lt_succ_self _), H5.out.1, (HB2.out.trans (D3.out.mono HB2.out.size)).trans (H5.out.2.mono (Nat.le_succ _)), Nat.le_trans Z2.out (Nat.le_trans D3.out.size H5.out.2.size)⟩
  case rest =>
    clear HWS HR HI AN BU HB2 Z2 al2 c0
    obtain ⟨rfl, hc⟩ := hcut
    obtain ⟨an, bu, hB, hs⟩ := hc.out
    have c1 := an.cells.2.1
    have al := an.lt
    have J0 := hid (And.intro an (And.intro bu (And.intro hB hs)))
    clear an bu hB hs hc
    go_wp2_with fail
    go_loopw [7, 22] (fun _ i wr => ∃ k : Nat, k ≤ fs.length ∧ i = .int .i64 k ∧ Hid (AnAt w.heap.size st (.slice a fs.length ca) body cl wr ∧ BuAt (w.heap.size + 1) (w.heap.size + 1) (preL st ++ fldsL (fs.take k)) wr ∧ Below w.heap.size w wr ∧ w.heap.size + 2 ≤ wr.heap.size)) (fun _ i _ => fs.length - (intOf i).toNat)
    case atStart => exact ⟨0, Nat.zero_le _, rfl, J0.out.1, by simpa [fldsL] using J0.out.2.1, J0.out.2.2⟩
    case round =>
      clear J0
      obtain ⟨k, hk, rfl, I⟩ := hrel
      by_cases hlt : k < fs.length
      · obtain ⟨g, o, rfl, hg, hc1, hc2⟩ := (HF.out.below I.out.2.2.1) k hlt
        have HN := hid (fldsL_next fs k hlt)
        have hle := fldsL_le fs (k + 1)
        rw [HN.out, List.length_append] at hle
        generalize fs[k].1 = nm at *
        generalize fs[k].2 = vl at *
        have hfl : (fldL nm.data.toList vl.data.toList).length = nm.size + vl.size + 4 := by simp [fldL]; omega
        have hA := (Below.refl wr.heap.size wr).alloc (Nat.le_refl _) (.cells #[.string nm, .string vl] 34)
        have HWF := hid (writeField_any (w.heap.size + 1) (w.heap.size + 1) (preL st ++ fldsL (fs.take k)) nm vl _ (bu_below I.out.2.1 hA) (by rw [List.length_append]; omega) (Nat.le_trans (Nat.le_trans (Nat.le_succ _) I.out.2.2.2) hA.size))
        have I2 : Hid (AnAt w.heap.size st (.slice (some ⟨g, o, none⟩) fs.length ca) body cl (wr.alloc (.cells #[.string nm, .string vl] 34)) ∧ Below w.heap.size w (wr.alloc (.cells #[.string nm, .string vl] 34)) ∧ w.heap.size + 2 ≤ (wr.alloc (.cells #[.string nm, .string vl] 34)).heap.size) := ⟨I.out.1.below hA I.out.1.lt, bel_of I.out.2.2.1 hA, Nat.le_trans I.out.2.2.2 hA.size⟩
        clear hA hle hfl
        go_wp2_with fail
        refine HWF.out.mono ?_
        rintro e w1 ⟨rfl, bu1, hb1⟩
        have J1 : Hid (AnAt w.heap.size st (.slice (some ⟨g, o, none⟩) fs.length ca) body cl w1 ∧ BuAt (w.heap.size + 1) (w.heap.size + 1) (preL st ++ fldsL (fs.take (k + 1))) w1 ∧ Below w.heap.size w w1 ∧ w.heap.size + 2 ≤ w1.heap.size) := by
          refine ⟨I2.out.1.below hb1 (Nat.lt_succ_self _), ?_, I2.out.2.1.trans (hb1.mono (Nat.le_succ _)), Nat.le_trans I2.out.2.2 hb1.size⟩
          rw [HN.out, ← List.append_assoc]; exact bu1
        clear HWF I I2 bu1 hb1 HN
        go_wp2
        exact ⟨⟨k + 1, by omega, by go_num, J1.out⟩, by simp [intOf]; omega⟩
      · have HTK : Hid (fs.take k = fs) := List.take_of_length_le (by omega)
        rw [HTK.out] at I
        obtain ⟨an, bu, hB, hs⟩ := I.out
        obtain ⟨c0, c1, c2, c3⟩ := an.cells
        have al := an.lt
        clear HTK I
        have hbl : body.data.toList.length = body.size := by simp
        have HI := hid (fun W (hW : Below w.heap.size w W) => itoa_any (body.size : Int) (by omega) (by omega) W (HT.out W hW))
        have hll := numT_le (b := 10) (n := (body.size : Int)) (by omega) (by omega) (by omega)
        generalize hLT : (⟨(numT 10 (body.size : Int)).toArray⟩ : ByteArray) = lt at *
        have hld : lt.data.toList = numT 10 (body.data.toList.length : Int) := by rw [← hLT, hbl]
        have hlz : lt.size ≤ 65 := by
          have : lt.data.toList.length = lt.size := by simp
          rw [hld, hbl] at this; omega
        have HR : Hid (rendL m.data.toList st fs body.data.toList cl = ((preL st ++ fldsL fs ++ fldL cLen lt.data.toList) ++ (if cl = true then fldL cCon cClose else [])) ++ [13, 10] ++ (if m.data.toList = cHead then [] else body.data.toList)) := by
          unfold Hid rendL endL; rw [hld]; simp only [List.append_assoc]
        clear hLT hld hll
        go_wp2_with fail
        refine (HI.out _ hB).mono ?_
        rintro e w1 ⟨rfl, hb1⟩
        have bu1 := bu_below bu hb1
        have s1 := hb1.size
        go_wp2_with fail
        refine (writeField_any _ _ _ _ lt _ bu1 (show _ + 14 + _ + 4 ≤ _ by rw [List.length_append]; omega) (by omega)).mono ?_
        rintro e w3 ⟨rfl, bu3, hb3⟩
        have an3 := (an.below hb1 al).below hb3 (Nat.lt_succ_self _)
        have hB3 : Below w.heap.size w w3 := (hB.trans (hb1.mono hB.size)).trans (hb3.mono (Nat.le_succ _))
        have s3 := hb3.size
        have B3 : BuAt (w.heap.size + 1) (w.heap.size + 1) (preL st ++ fldsL fs ++ fldL cLen lt.data.toList) w3 := bu3
        obtain ⟨d0, d1, d2, d3⟩ := an3.cells
        have al3 := an3.lt
        have hfl : (fldL cLen lt.data.toList).length = lt.size + 18 := by simp [fldL, cLen]
        clear c0 c1 c2 c3 bu bu1 bu3 an hb1 hb3 hB HI
        cases cl
        · simp only [Bool.false_eq_true, if_false, List.append_nil] at HR
          go_wp2_with fail
          refine (Tryd.Builder_WriteString _ _ _ _ _ B3 (show _ + 2 ≤ _ by rw [bcells_len, List.length_append, List.length_append]; omega) (by omega)).mono ?_
          rintro e w4 ⟨rfl, h4, hb4⟩
          have bu4 := bu_next h4
          have an4 := an3.below hb4 (Nat.lt_succ_self _)
          have hB4 : Below w.heap.size w w4 := hB3.trans (hb4.mono (Nat.le_succ _))
          have s4 := hb4.size
          obtain ⟨e0, e1, e2, e3⟩ := an4.cells
          have al4 := an4.lt
          clear d0 d1 d2 d3 h4 hb4 an3 hB3 B3 an4
          by_cases hm : m.data.toList = cHead
          · have hmb : (m.toList == [72, 69, 65, 68]) = true := by rw [ByteArray.toList_eq, hm]; rfl
            rw [if_pos hm, List.append_nil] at HR
            clear hm
            go_wp2_with fail
            refine (Tryd.Builder_String_any _ _ _ _ bu4 (by omega)).mono ?_
            rintro e w5 ⟨rfl, hb5⟩
            go_wp2
            go_ret
            exact ⟨ret_strL (by rw [HR.out]; simp [List.append_assoc]), hB4.trans (hb5.mono (Nat.le_succ _))⟩
          · have hmb : (m.toList == [72, 69, 65, 68]) = false := by rw [ByteArray.toList_eq, beq_eq_false_iff_ne]; exact hm
            rw [if_neg hm] at HR
            clear hm
            go_wp2_with fail
            refine (Tryd.Builder_WriteString _ _ _ body _ bu4 (by rw [bcells_len, List.length_append, List.length_append, List.length_append]; show _ + 2 + _ ≤ _; omega) (by omega)).mono ?_
            rintro e w5 ⟨rfl, h5, hb5⟩
            have bu5 := bu_next h5
            have s5 := hb5.size
            have hB5 : Below w.heap.size w w5 := hB4.trans (hb5.mono (Nat.le_succ _))
            clear h5 bu4 hB4 hb5 e0 e1 e2 e3
            go_wp2_with fail
            refine (Tryd.Builder_String_any _ _ _ _ bu5 (by omega)).mono ?_
            rintro e w6 ⟨rfl, hb6⟩
            go_wp2
            go_ret
            exact ⟨ret_strL (by rw [HR.out]; simp [List.append_assoc]), hB5.trans (hb6.mono (Nat.le_succ _))⟩
        · simp only [if_true] at HR
          go_wp2_with fail
          refine (writeField_any _ _ _ _ _ _ B3 (show _ + 10 + 5 + 4 ≤ _ by rw [List.length_append, List.length_append]; omega) (by omega)).mono ?_
          rintro e w35 ⟨rfl, bu35, hb35⟩
          have B35 : BuAt (w.heap.size + 1) (w.heap.size + 1) (preL st ++ fldsL fs ++ fldL cLen lt.data.toList ++ fldL cCon cClose) w35 := bu35
          have an35 := an3.below hb35 (Nat.lt_succ_self _)
          have hB35 : Below w.heap.size w w35 := hB3.trans (hb35.mono (Nat.le_succ _))
          have s35 := hb35.size
          have hcl : (fldL cCon cClose).length = 19 := rfl
          clear bu35 hb35 hB3 an3 B3 d0 d1 d2 d3
          go_wp2_with fail
          refine (Tryd.Builder_WriteString _ _ _ _ _ B35 (show _ + 2 ≤ _ by rw [bcells_len, List.length_append, List.length_append, List.length_append]; omega) (by omega)).mono ?_
          rintro e w4 ⟨rfl, h4, hb4⟩
          have bu4 := bu_next h4
          have an4 := an35.below hb4 (Nat.lt_succ_self _)
          have hB4 : Below w.heap.size w w4 := hB35.trans (hb4.mono (Nat.le_succ _))
          have s4 := hb4.size
          obtain ⟨e0, e1, e2, e3⟩ := an4.cells
          have al4 := an4.lt
          clear h4 hb4 an35 hB35 B35 an4
          by_cases hm : m.data.toList = cHead
          · have hmb : (m.toList == [72, 69, 65, 68]) = true := by rw [ByteArray.toList_eq, hm]; rfl
            rw [if_pos hm, List.append_nil] at HR
            clear hm
            go_wp2_with fail
            refine (Tryd.Builder_String_any _ _ _ _ bu4 (by omega)).mono ?_
            rintro e w5 ⟨rfl, hb5⟩
            go_wp2
            go_ret
            exact ⟨ret_strL (by rw [HR.out]; simp [List.append_assoc]), hB4.trans (hb5.mono (Nat.le_succ _))⟩
          · have hmb : (m.toList == [72, 69, 65, 68]) = false := by rw [ByteArray.toList_eq, beq_eq_false_iff_ne]; exact hm
            rw [if_neg hm] at HR
            clear hm
            go_wp2_with fail
            refine (Tryd.Builder_WriteString _ _ _ body _ bu4 (by rw [bcells_len, List.length_append, List.length_append, List.length_append, List.length_append]; show _ + 2 + _ ≤ _; omega) (by omega)).mono ?_
            rintro e w5 ⟨rfl, h5, hb5⟩
            have bu5 := bu_next h5
            have s5 := hb5.size
            have hB5 : Below w.heap.size w w5 := hB4.trans (hb5.mono (Nat.le_succ _))
            clear h5 bu4 hB4 hb5 e0 e1 e2 e3
            go_wp2_with fail
            refine (Tryd.Builder_String_any _ _ _ _ bu5 (by omega)).mono ?_
            rintro e w6 ⟨rfl, hb6⟩
            go_wp2
            go_ret
            exact ⟨ret_strL (by rw [HR.out]; simp [List.append_assoc]), hB5.trans (hb6.mono (Nat.le_succ _))⟩
end Go.Proofs.YtnohadlihgjppaaDoor
