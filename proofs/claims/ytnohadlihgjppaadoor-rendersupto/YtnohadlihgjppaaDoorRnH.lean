/- renders and Renders: what the program's Render tells is what the reference's tells, and the list that was lent is as it was. -/
import Derived.Test.YtnohadlihgjppaaDoorRnE
import Derived.Test.YtnohadlihgjppaaDoorRnG
namespace Go.Proofs.YtnohadlihgjppaaDoor
open Go.RowKit

abbrev Tab10 (w : World) : Prop := Lib.TabBelow Tryd.prog w.heap.size w "internal/strconv.uint64pow10" .u64 Lib.pow10Tab
theorem tab_below {w w' : World} (h : Tab10 w) (hb : Below w.heap.size w w') : Tab10 w' := fun W hW => h W (bel_of hb hW)
theorem FoAt.nil (a : Option Addr) (w : World) : FoAt [] a w := fun i hi => absurd hi (by simp)

set_option maxHeartbeats 1000000 in
theorem pRender_any (m : ByteArray) (st : Int) (fs : List Pr2) (a : Option Addr) (ca : Nat) (body : ByteArray) (cl : Bool) (w : World)
    (s0 : -9223372036854775808 ≤ st) (s1 : st ≤ 9223372036854775807) (hf : FoAt fs a w) (hn : fs.length ≤ 1000000000) (hz : (fldsL fs).length + body.size ≤ 4398046511104) (ht : Tab10 w) :
    Calls Tryd.prog 27 #[.string m, .agg #[.int .i64 st, .slice a fs.length ca, .string body, .bool cl]] w fun e w' => e = .returned (.string ⟨(rendL m.data.toList st fs body.data.toList cl).toArray⟩) ∧ Below w.heap.size w w' := by
  have hA := (Below.refl w.heap.size w).alloc (Nat.le_refl _) (.cells #[.int .i64 st, .slice a fs.length ca, .string body, .bool cl] 46)
  have HW := hid (wRender_any m st fs a ca body cl _ s0 s1 (hf.below hA) hn hz (tab_below ht hA))
  have HA := hid hA
  clear hf ht hA
  generalize rendL m.data.toList st fs body.data.toList cl = RL at *
  go_enter Tryd.func27, Tryd.ntmps27
  go_wp2_with fail
  refine HW.out.mono ?_
  rintro e w1 ⟨rfl, hb1⟩
  have hB1 := bel_of HA.out hb1
  go_wp2
  go_ret
  exact ⟨rfl, hB1⟩

set_option maxRecDepth 100000 in
set_option maxHeartbeats 1000000 in
theorem renders_some (m : ByteArray) (st : Int) (fs : List Pr2) (ad : Addr) (ca : Nat) (body : ByteArray) (cl : Bool) (w : World)
    (s0 : -9223372036854775808 ≤ st) (s1 : st ≤ 9223372036854775807) (hf : FoAt fs (some ad) w) (hn : fs.length ≤ 1000000000) (hz : (fldsL fs).length + body.size ≤ 4398046511104) (ht : Tab10 w) :
    Calls Tryd.prog 13 #[.string m, .agg #[.int .i64 st, .slice (some ad) fs.length ca, .string body, .bool cl]] w fun e w' => e = .returned (.bool true) ∧ Below w.heap.size w w' := by
  have hA := (Below.refl w.heap.size w).alloc (Nat.le_refl _) (.cells #[.int .i64 st, .slice (some ad) fs.length ca, .string body, .bool cl] 46)
  have an1 : AnAt w.heap.size st (.slice (some ad) fs.length ca) body cl (w.alloc (.cells #[.int .i64 st, .slice (some ad) fs.length ca, .string body, .bool cl] 46)) := heap_alloc_new w _
  have HF := hid hf
  have HT := hid ht
  clear hf ht
  obtain ⟨c0, c1, c2, c3⟩ := an1.cells
  have al1 := an1.lt
  go_enter Tryd.func13, Tryd.ntmps13
  go_wp2_with fail
  generalize w.alloc (.cells #[.int .i64 st, .slice (some ad) fs.length ca, .string body, .bool cl] 46) = w1 at *
  have HF1 := hid (HF.out.below hA)
  refine (lentFields_any fs ad ca w1 HF1.out hn).mono ?_
  rintro e w2 ⟨g, rfl, hg, hgl, ob2, lv2, hb2⟩
  have an2 := an1.below hb2 al1
  have hB2 := bel_of hA hb2
  obtain ⟨d0, d1, d2, d3⟩ := an2.cells
  have al2 := an2.lt
  have HP := hid (pRender_any m st fs (some ⟨g, 0, none⟩) (fs.length + 5) body cl w2 s0 s1 (lv2.fo hgl) hn hz (tab_below HT.out hB2))
  have J2 := hid (And.intro ob2 (And.intro lv2 hb2))
  clear c0 c1 c2 c3 an1 ob2 lv2 hb2
  go_wp2_with fail
  refine HP.out.mono ?_
  rintro e w3 ⟨rfl, hb3⟩
  have an3 := an2.below hb3 al2
  have hB3 := bel_of hB2 hb3
  obtain ⟨e0, e1, e2, e3⟩ := an3.cells
  have al3 := an3.lt
  have HR := hid (rRender_any m st fs (some ad) ca body cl w3 s0 s1 (HF.out.below hB3) hn hz)
  have hgl3 := Nat.lt_of_lt_of_le hgl hb3.size
  have J3 : Hid (OwnB g ((fs.length + 5) * 2) w3 ∧ LvAt (fs ++ List.replicate 5 (mkN 7)) g w3 ∧ Below w1.heap.size w1 w3) := ⟨J2.out.1.below hb3 hgl, J2.out.2.1.below hb3 hgl, bel_of J2.out.2.2 hb3⟩
  clear d0 d1 d2 d3 an2 al2 hB2 hb3 J2 HP
  generalize rendL m.data.toList st fs body.data.toList cl = RL at *
  go_wp2_with fail
  refine HR.out.mono ?_
  rintro e w4 ⟨rfl, hb4⟩
  have an4 := an3.below hb4 al3
  have hB4 := bel_of hB3 hb4
  obtain ⟨k0, k1, k2, k3⟩ := an4.cells
  have al4 := an4.lt
  have hgl4 := Nat.lt_of_lt_of_le hgl3 hb4.size
  have HWH := hid (wholeFields_any fs ad ca g w1 w4 HF1.out hn (bel_of J3.out.2.2 hb4) hg hgl4 (J3.out.1.below hb4 hgl3) (J3.out.2.1.below hb4 hgl3))
  clear e0 e1 e2 e3 an3 al3 hB3 hb4 J3 HR
  go_wp2_with fail
  refine HWH.out.mono ?_
  rintro e w5 ⟨rfl, hb5⟩
  have BL := hid (bel_of hA hb5)
  clear k0 k1 k2 k3 an4 hB4 hb5 HWH HF HF1 HT hA
  generalize (⟨RL.toArray⟩ : ByteArray) = T at *
  go_wp2
  go_ret
  exact ⟨rfl, BL.out⟩
set_option maxRecDepth 100000 in
set_option maxHeartbeats 1000000 in
theorem renders_nil (m : ByteArray) (st : Int) (body : ByteArray) (cl : Bool) (w : World)
    (s0 : -9223372036854775808 ≤ st) (s1 : st ≤ 9223372036854775807) (hz : body.size ≤ 4398046511104) (ht : Tab10 w) :
    Calls Tryd.prog 13 #[.string m, .agg #[.int .i64 st, .slice none 0 0, .string body, .bool cl]] w fun e w' => e = .returned (.bool true) ∧ Below w.heap.size w w' := by
  have hA := (Below.refl w.heap.size w).alloc (Nat.le_refl _) (.cells #[.int .i64 st, .slice none 0 0, .string body, .bool cl] 46)
  have an1 : AnAt w.heap.size st (.slice none 0 0) body cl (w.alloc (.cells #[.int .i64 st, .slice none 0 0, .string body, .bool cl] 46)) := heap_alloc_new w _
  have HT := hid ht
  clear ht
  obtain ⟨c0, c1, c2, c3⟩ := an1.cells
  have al1 := an1.lt
  have hz0 : (fldsL []).length + body.size ≤ 4398046511104 := by simpa [fldsL] using hz
  go_enter Tryd.func13, Tryd.ntmps13
  go_wp2_with fail
  generalize w.alloc (.cells #[.int .i64 st, .slice none 0 0, .string body, .bool cl] 46) = w1 at *
  refine (lentFields_nil w1).mono ?_
  rintro e w2 ⟨rfl, hw2⟩
  subst hw2
  have HP := hid (pRender_any m st [] none 0 body cl w2 s0 s1 (FoAt.nil _ _) (by simp) hz0 (tab_below HT.out hA))
  go_wp2_with fail
  refine HP.out.mono ?_
  rintro e w3 ⟨rfl, hb3⟩
  have an3 := an1.below hb3 al1
  have hB3 := bel_of hA hb3
  obtain ⟨e0, e1, e2, e3⟩ := an3.cells
  have al3 := an3.lt
  have HR := hid (rRender_any m st [] none 0 body cl w3 s0 s1 (FoAt.nil _ _) (by simp) hz0)
  clear c0 c1 c2 c3 an1 hA hb3 HP al1
  generalize rendL m.data.toList st [] body.data.toList cl = RL at *
  go_wp2_with fail
  refine HR.out.mono ?_
  rintro e w4 ⟨rfl, hb4⟩
  have an4 := an3.below hb4 al3
  have hB4 := bel_of hB3 hb4
  obtain ⟨k0, k1, k2, k3⟩ := an4.cells
  have al4 := an4.lt
  clear e0 e1 e2 e3 an3 al3 hB3 hb4 HR
  go_wp2_with fail
  refine (wholeFields_nil _ w4).mono ?_
  rintro e w5 ⟨rfl, hw5⟩
  subst hw5
  generalize (⟨RL.toArray⟩ : ByteArray) = T at *
  go_wp2
  go_ret
  exact ⟨rfl, hB4⟩
theorem renders_law (m : ByteArray) (st : Int) (fs : List Pr2) (a : Option Addr) (ca : Nat) (body : ByteArray) (cl : Bool) (w : World)
    (s0 : -9223372036854775808 ≤ st) (s1 : st ≤ 9223372036854775807) (hf : FoAt fs a w) (ha : a = none → fs = [] ∧ ca = 0) (hn : fs.length ≤ 1000000000) (hz : (fldsL fs).length + body.size ≤ 4398046511104) (ht : Tab10 w) :
    Calls Tryd.prog 5 #[.string m, .agg #[.int .i64 st, .slice a fs.length ca, .string body, .bool cl]] w fun e w' => e = .returned (.bool true) ∧ Below w.heap.size w w' := by
  have hA := (Below.refl w.heap.size w).alloc (Nat.le_refl _) (.cells #[.int .i64 st, .slice a fs.length ca, .string body, .bool cl] 46)
  have HW : Hid (Calls Tryd.prog 13 #[.string m, .agg #[.int .i64 st, .slice a fs.length ca, .string body, .bool cl]] (w.alloc (.cells #[.int .i64 st, .slice a fs.length ca, .string body, .bool cl] 46)) fun e w' => e = .returned (.bool true) ∧ Below (w.alloc (.cells #[.int .i64 st, .slice a fs.length ca, .string body, .bool cl] 46)).heap.size (w.alloc (.cells #[.int .i64 st, .slice a fs.length ca, .string body, .bool cl] 46)) w') := by
    cases a with
    | none =>
      obtain ⟨rfl, rfl⟩ := ha rfl
      exact renders_nil m st body cl _ s0 s1 (by omega) (tab_below ht hA)
    | some ad => exact renders_some m st fs ad ca body cl _ s0 s1 (hf.below hA) hn hz (tab_below ht hA)
  have HA := hid hA
  clear hf ht hA ha
  go_enter Tryd.func5, Tryd.ntmps5
  go_wp2_with fail
  refine HW.out.mono ?_
  rintro e w1 ⟨rfl, hb1⟩
  have hB1 := bel_of HA.out hb1
  go_wp2
  go_ret
  exact ⟨rfl, hB1⟩
end Go.Proofs.YtnohadlihgjppaaDoor
