/- Texts that follow one another, joined. -/
import Derived.Test.YtfdhmeojkagokaaGreatDoorJoin18
import Derived.Test.YtfdhmeojkagokaaGreatDoorJoin20
import Derived.Test.YtfdhmeojkagokaaGreatDoorJoin17
import Derived.Deep.AppendLies
/- The reference's small calls behind Reply: stands, holds, clean, closing. -/
namespace Go.Proofs.YtfdhmeojkagokaaGreatDoor
open Go.RowKit

set_option maxRecDepth 100000 in
set_option maxHeartbeats 400000 in
theorem rstands_any (ps : List Prm) (pa : Option Addr) (pc : Nat) (n : ByteArray) (w : World) (h : FlAt ps pa w) (hnp : ps.length ≤ 1000000) :
    Calls Tryz.prog 124 #[.slice pa ps.length pc, .string n] w fun x w' => x = .returned (.string (stG n.data.toList ps)) ∧ Below w.heap.size w w' := by
  have HP := hid h
  generalize hRES : stG n.data.toList ps = RES
  have HRES : Hid (stG n.data.toList (ps.drop 0) = RES) := hRES
  clear h hRES
  go_enter Tryz.func124, Tryz.ntmps124
  go_wp2_with fail
  go_loopw [5] (fun i wr => ∃ k : Nat, k ≤ ps.length ∧ i = .int .i64 k ∧ Hid (stG n.data.toList (ps.drop k) = RES) ∧ Below w.heap.size w wr) (fun i _ => ps.length - (intOf i).toNat)
  case atStart => exact ⟨0, Nat.zero_le _, rfl, HRES, Below.refl _ _⟩
  case round =>
    obtain ⟨k, hk, rfl, HK, hbw⟩ := hrel
    by_cases hlt : k < ps.length
    · obtain ⟨g, rfl, hg, hc1, hc2⟩ := (HP.out.below hbw) k hlt
      have hs := HK.out
      rw [← List.getElem_cons_drop hlt, stG] at hs
      have HS := hid hs
      generalize ps[k] = p at *
      obtain ⟨pn, pv⟩ := p
      simp only at hc1 hc2 HS
      have hbe := bne_lists pn n
      clear hs HK HRES
      by_cases he : pn.data.toList = n.data.toList
      · have hs := HS.out
        rw [if_pos he] at hs
        subst hs
        rw [decide_eq_true he] at hbe
        clear HS
        go_wp2_with fail
        go_ret
        exact ⟨rfl, hbw⟩
      · have hs := HS.out
        rw [if_neg he] at hs
        have HS2 := hid hs
        rw [decide_eq_false he] at hbe
        clear HS hs
        go_wp2_with fail
        exact ⟨⟨k + 1, by omega, by go_num, HS2, hbw⟩, by simp [intOf]; omega⟩
    · have hne : ¬ (k : Int) < (ps.length : Int) := by omega
      have hs := HK.out
      rw [List.drop_eq_nil_of_le (by omega), stG] at hs
      subst hs
      clear HK HRES
      go_wp2_with fail
      go_ret
      exact ⟨rfl, hbw⟩
def holG (l : List ByteArray) (s : List UInt8) : Bool := l.any fun x => decide (x.data.toList = s)
set_option maxRecDepth 100000 in
set_option maxHeartbeats 400000 in
theorem rholds_any (l : List ByteArray) (a : Option Addr) (c : Nat) (s : ByteArray) (w : World) (h : StAt l a w) (hl : l.length ≤ 1000000) :
    Calls Tryz.prog 123 #[.slice a l.length c, .string s] w fun x w' => x = .returned (.bool (holG l s.data.toList)) ∧ Below w.heap.size w w' := by
  have HP := hid h
  generalize hRES : holG l s.data.toList = RES
  have HRES : Hid (holG (l.drop 0) s.data.toList = RES) := hRES
  clear h hRES
  go_enter Tryz.func123, Tryz.ntmps123
  go_wp2_with fail
  go_loopw [5] (fun i wr => ∃ k : Nat, k ≤ l.length ∧ i = .int .i64 k ∧ Hid (holG (l.drop k) s.data.toList = RES) ∧ Below w.heap.size w wr) (fun i _ => l.length - (intOf i).toNat)
  case atStart => exact ⟨0, Nat.zero_le _, rfl, HRES, Below.refl _ _⟩
  case round =>
    obtain ⟨k, hk, rfl, HK, hbw⟩ := hrel
    by_cases hlt : k < l.length
    · obtain ⟨g, rfl, hg, hc⟩ := (HP.out.below hbw) k hlt
      have hs := HK.out
      unfold holG at hs
      rw [← List.getElem_cons_drop hlt, List.any_cons] at hs
      have HS := hid hs
      generalize l[k] = x at *
      have hbe := bne_lists x s
      clear hs HK HRES
      by_cases he : x.data.toList = s.data.toList
      · have hs := HS.out
        rw [decide_eq_true he, Bool.true_or] at hs
        subst hs
        rw [decide_eq_true he] at hbe
        clear HS
        go_wp2_with fail
        go_ret
        exact ⟨rfl, hbw⟩
      · have hs := HS.out
        rw [decide_eq_false he, Bool.false_or] at hs
        have HS2 : Hid (holG (l.drop (k + 1)) s.data.toList = RES) := hs
        rw [decide_eq_false he] at hbe
        clear HS hs
        go_wp2_with fail
        exact ⟨⟨k + 1, by omega, by go_num, HS2, hbw⟩, by simp [intOf]; omega⟩
    · have hne : ¬ (k : Int) < (l.length : Int) := by omega
      have hs := HK.out
      unfold holG at hs
      rw [List.drop_eq_nil_of_le (by omega), List.any_nil] at hs
      subst hs
      clear HK HRES
      go_wp2_with fail
      go_ret
      exact ⟨rfl, hbw⟩
theorem end_at (v : ByteArray) : endG v = (decide (0 ≤ Lib.indexByte v.data.toList 13) || (decide (0 ≤ Lib.indexByte v.data.toList 10) || decide (0 ≤ Lib.indexByte v.data.toList 0))) := by
  rw [← Lib.contains_iff_indexByte, ← Lib.contains_iff_indexByte, ← Lib.contains_iff_indexByte]
  unfold endG
  rw [Bool.eq_iff_iff]
  simp only [List.any_eq_true, Bool.or_eq_true, beq_iff_eq, List.contains_iff_mem]
  constructor
  · rintro ⟨x, hx, (rfl | rfl) | rfl⟩
    · exact .inl hx
    · exact .inr (.inl hx)
    · exact .inr (.inr hx)
  · rintro (h | h | h)
    · exact ⟨_, h, .inl (.inl rfl)⟩
    · exact ⟨_, h, .inl (.inr rfl)⟩
    · exact ⟨_, h, .inr rfl⟩
theorem at_lit (s : ByteArray) (c : UInt8) (n : Int) (hn : (c.toNat : Int) = n) (w : World) (hs : s.size ≤ maxLen) :
    Calls Tryz.prog 119 #[.string s, .int .u8 n] w fun e w' => e = .returned (.int .i64 (Lib.indexByte s.data.toList c)) ∧ w' = w := by
  subst hn; exact rAt_any s c w hs
set_option maxRecDepth 100000 in
set_option maxHeartbeats 2000000 in
theorem rclean_any (l : List Prm) (a : Option Addr) (c : Nat) (w : World) (h : FlAt l a w) (hl : l.length ≤ 100000000) (hz : ∀ i (h : i < l.length), l[i].2.size ≤ maxLen) :
    Calls Tryz.prog 90 #[.slice a l.length c] w fun x w' => x = .returned (.bool (!(l.any fun p => endG p.2))) ∧ Below w.heap.size w w' := by
  have HP := hid h
  have HZ := hid hz
  generalize hRES : (l.any fun p => endG p.2) = RES
  have HRES : Hid (((l.drop 0).any fun p => endG p.2) = RES) := hRES
  clear h hRES hz
  go_enter Tryz.func90, Tryz.ntmps90
  go_wp2_with fail
  go_loopw [3, 4, 5, 6] (fun i _ _ _ wr => ∃ k : Nat, k ≤ l.length ∧ i = .int .i64 k ∧ Hid (((l.drop k).any fun p => endG p.2) = RES) ∧ Below w.heap.size w wr) (fun i _ _ _ _ => l.length - (intOf i).toNat)
  case atStart => exact ⟨0, Nat.zero_le _, rfl, HRES, Below.refl _ _⟩
  case round =>
    obtain ⟨k, hk, rfl, HK, hbw⟩ := hrel
    by_cases hlt : k < l.length
    · obtain ⟨g, rfl, hg, hc1, hc2⟩ := (HP.out.below hbw) k hlt
      have hs := HK.out
      rw [← List.getElem_cons_drop hlt, List.any_cons, end_at] at hs
      have HS := hid hs
      have hzk := HZ.out k hlt
      generalize l[k] = x at *
      obtain ⟨xn, xv⟩ := x
      simp only at hc1 hc2 HS hzk
      have R1 := hid (fun W => at_lit xv 13 13 rfl W hzk)
      have R2 := hid (fun W => at_lit xv 10 10 rfl W hzk)
      have R3 := hid (fun W => at_lit xv 0 0 rfl W hzk)
      generalize Lib.indexByte xv.data.toList 13 = I1 at *
      generalize Lib.indexByte xv.data.toList 10 = I2 at *
      generalize Lib.indexByte xv.data.toList 0 = I3 at *
      clear hs HK HRES
      go_wp2_with fail
      refine (R1.out _).mono ?_
      rintro e w1 ⟨rfl, hw1⟩
      rw [hw1]
      clear hw1 w1 R1
      go_wp2_with fail
      refine (R2.out _).mono ?_
      rintro e w1 ⟨rfl, hw1⟩
      rw [hw1]
      clear hw1 w1 R2
      go_wp2_with fail
      refine (R3.out _).mono ?_
      rintro e w1 ⟨rfl, hw1⟩
      rw [hw1]
      clear hw1 w1 R3
      by_cases n1 : 0 ≤ I1
      · have hs := HS.out
        rw [decide_eq_true n1, Bool.true_or, Bool.true_or] at hs
        subst hs
        clear HS
        go_wp2_with fail
        go_ret
        exact ⟨rfl, hbw⟩
      · by_cases n2 : 0 ≤ I2
        · have hs := HS.out
          rw [decide_eq_false n1, decide_eq_true n2, Bool.false_or, Bool.true_or, Bool.true_or] at hs
          subst hs
          clear HS
          go_wp2_with fail
          go_ret
          exact ⟨rfl, hbw⟩
        · by_cases n3 : 0 ≤ I3
          · have hs := HS.out
            rw [decide_eq_false n1, decide_eq_false n2, decide_eq_true n3, Bool.false_or, Bool.false_or, Bool.true_or] at hs
            subst hs
            clear HS
            go_wp2_with fail
            go_ret
            exact ⟨rfl, hbw⟩
          · have hs := HS.out
            rw [decide_eq_false n1, decide_eq_false n2, decide_eq_false n3, Bool.false_or, Bool.false_or, Bool.false_or] at hs
            have HS2 := hid hs
            clear HS hs
            go_wp2_with fail
            exact ⟨⟨k + 1, by omega, by go_num, HS2, hbw⟩, by simp [intOf]; omega⟩
    · have hne : ¬ (k : Int) < (l.length : Int) := by omega
      have hs := HK.out
      rw [List.drop_eq_nil_of_le (by omega), List.any_nil] at hs
      subst hs
      clear HK HRES
      go_wp2_with fail
      go_ret
      exact ⟨rfl, hbw⟩
end Go.Proofs.YtfdhmeojkagokaaGreatDoor

/- The reference's closing; blocks of memory; its handler's answer. -/
namespace Go.Proofs.YtfdhmeojkagokaaGreatDoor
open Go.RowKit

def connL : ByteArray := ⟨#[99, 111, 110, 110, 101, 99, 116, 105, 111, 110]⟩
set_option maxRecDepth 100000 in
set_option maxHeartbeats 2000000 in
theorem rclosing_any (qm qt qb : ByteArray) (fs : List Prm) (fa : Option Addr) (fc : Nat) (w : World) (hf : FoAt fs fa w) (hl : fs.length ≤ 1000000) (hz : ∀ i (h : i < fs.length), fs[i].1.size ≤ maxLen) (hz2 : ∀ x ∈ valsOf fs connB.data.toList, x.size ≤ maxLen) :
    Calls Tryz.prog 50 #[.agg #[.string qm, .string qt, .slice fa fs.length fc, .string qb]] w fun e w' => e = .returned (.bool (askG fs)) ∧ Below w.heap.size w w' := by
  have hA := (Below.refl w.heap.size w).alloc (Nat.le_refl _) (.cells #[.string qm, .string qt, .slice fa fs.length fc, .string qb] 30)
  have HV0 := rvaluesO_any fs fa fc connL _ (hf.below hA) (by omega) (by decide) hz
  rw [valsA fs (show connL.data.toList.map Pm.low = connB.data.toList.map Pm.low by decide)] at HV0
  have HV := hid HV0
  have hvl : (valsOf fs connB.data.toList).length ≤ 1000000 := Nat.le_trans (valsOf_le _ _) hl
  unfold askG
  generalize valsOf fs connB.data.toList = L at *
  unfold connL at HV
  unfold closeB
  have HZ := hid hz2
  have HRES0 : Hid (((L.drop 0).any fun x => Pm.alike x.data.toList (ByteArray.mk #[99, 108, 111, 115, 101]).data.toList) = L.any fun x => Pm.alike x.data.toList (ByteArray.mk #[99, 108, 111, 115, 101]).data.toList) := hid (by rw [List.drop_zero])
  generalize (L.any fun x => Pm.alike x.data.toList (ByteArray.mk #[99, 108, 111, 115, 101]).data.toList) = RES at *
  clear hf hl hz hz2 HV0
  go_enter Tryz.func50, Tryz.ntmps50
  go_wp2_with (go_at_call 91; refine HV.out.mono ?_; rintro e w1 ⟨⟨a', c', rfl, hst⟩, hb1⟩)
  have hB1 := bel_of hA hb1
  have HST := hid hst
  clear HV hst hA hb1
  go_loopw [4, 5] (fun i _ wr => ∃ k : Nat, k ≤ L.length ∧ i = .int .i64 k ∧ Hid (((L.drop k).any fun x => Pm.alike x.data.toList (ByteArray.mk #[99, 108, 111, 115, 101]).data.toList) = RES) ∧ Below w1.heap.size w1 wr) (fun i _ _ => L.length - (intOf i).toNat)
  case atStart => exact ⟨0, Nat.zero_le _, rfl, HRES0, Below.refl _ _⟩
  case round =>
    obtain ⟨k, hk, rfl, HK, hbw⟩ := hrel
    by_cases hlt : k < L.length
    · obtain ⟨g, rfl, hg, hc⟩ := (HST.out.below hbw) k hlt
      have hzk := HZ.out L[k] (List.getElem_mem hlt)
      have hs := HK.out
      rw [← List.getElem_cons_drop hlt, List.any_cons] at hs
      have HS := hid hs
      generalize L[k] = x at *
      have HAL := hid (fun W => rAlike_any x ⟨#[99, 108, 111, 115, 101]⟩ W hzk (by decide))
      generalize Pm.alike x.data.toList (ByteArray.mk #[99, 108, 111, 115, 101]).data.toList = b at *
      clear hs HK HRES0 hzk
      cases b
      · have hs := HS.out
        rw [Bool.false_or] at hs
        have HS2 := hid hs
        clear HS hs
        go_wp2_with (go_at_call 92; refine (HAL.out _).mono ?_; rintro e w2 ⟨rfl, rfl⟩)
        exact ⟨⟨k + 1, by omega, by go_num, HS2, hbw⟩, by simp [intOf]; omega⟩
      · have hs := HS.out
        rw [Bool.true_or] at hs
        subst hs
        clear HS
        go_wp2_with (go_at_call 92; refine (HAL.out _).mono ?_; rintro e w2 ⟨rfl, rfl⟩)
        go_ret
        exact ⟨rfl, bel_of hB1 hbw⟩
    · have hne : ¬ (k : Int) < (L.length : Int) := by omega
      have hs := HK.out
      rw [List.drop_eq_nil_of_le (by omega), List.any_nil] at hs
      subst hs
      clear HK HRES0
      go_wp2_with fail
      go_ret
      exact ⟨rfl, bel_of hB1 hbw⟩
/- a block of cells -/
def Bl (g : Nat) (cs : Array Value) (t : TypeId) (w : World) : Prop := w.heap[g]? = some (.cells cs t (0, 0))
theorem Bl.new (w : World) (cs : Array Value) (t : TypeId) : Bl w.heap.size cs t (w.alloc (.cells cs t)) := heap_alloc_new w _
theorem Bl.lt {g : Nat} {cs : Array Value} {t : TypeId} {w : World} (h : Bl g cs t w) : g < w.heap.size := by
  unfold Bl at h
  rcases Nat.lt_or_ge g w.heap.size with h' | h'
  · exact h'
  · simp [Array.getElem?_eq_none h'] at h
theorem Bl.below {g : Nat} {cs : Array Value} {t : TypeId} {w w' : World} (h : Bl g cs t w) (hb : Below w.heap.size w w') : Bl g cs t w' := by
  have := hb.block g h.lt; unfold Bl at *; rw [this]; exact h
theorem Bl.alloc {g : Nat} {cs : Array Value} {t : TypeId} {w : World} (h : Bl g cs t w) (o : Obj) : Bl g cs t (w.alloc o) := h.below ((Below.refl _ _).alloc (Nat.le_refl _) o)
theorem Bl.cell {g : Nat} {cs : Array Value} {t : TypeId} {w : World} (h : Bl g cs t w) (j : Nat) : w.cell? ⟨g, j, none⟩ = cs[j]? := Lib.cell_of_heap h j
theorem Bl.free {g : Nat} {cs : Array Value} {t : TypeId} {w : World} (h : Bl g cs t w) (j : Nat) : w.frozen? ⟨g, j, none⟩ = false := Lib.frozen_of_heap h j
theorem Bl.other {g b : Nat} {cs : Array Value} {t : TypeId} {w : World} (h : Bl g cs t w) (hn : g ≠ b) (j : Nat) (v : Value) : Bl g cs t (w.setCell ⟨b, j, none⟩ v) := by
  unfold Bl; rw [heap_setCell_other _ ⟨b, j, none⟩ g _ hn]; exact h
theorem Bl.otherA {g b : Nat} {cs : Array Value} {t : TypeId} {w : World} (h : Bl g cs t w) (hn : g ≠ b) (st : Int) (vv : Value) (bb : ByteArray) (cl : Bool) : Bl g cs t (setA b st vv bb cl w) :=
  (((h.other hn _ _).other hn _ _).other hn _ _).other hn _ _
theorem AnB.bl {g : Nat} {st : Int} {vv : Value} {b : ByteArray} {cl : Bool} {w : World} (h : AnB g st vv b cl w) : Bl g #[.int .i64 st, vv, .string b, .bool cl] 44 w := h
/- a handler's answer; false: it gives up -/
def HdPost (G : Option An) (w : World) (x : Ending) (w' : World) : Prop :=
  (match G with
    | none => x = .returned (.tuple #[.agg #[.int .i64 0, .slice none 0 0, .string ⟨#[]⟩, .bool false], .bool false])
    | some a => ∃ vv, x = .returned (.tuple #[.agg #[.int .i64 a.st, vv, .string a.b, .bool false], .bool true]) ∧ w'.ownsRow w.heap.size 70 2 vv a.fs.length (prCells a.fs)) ∧ Below w.heap.size w w'
theorem hand_mem (h0 q0 : Array Value) (w : World) :
    Below w.heap.size w (((w.alloc (.cells h0 79)).alloc (.cells q0 30)).alloc (.cells #[.int .i64 0, .slice none 0 0, .string ⟨#[]⟩, .bool false] 44)) ∧ Bl w.heap.size h0 79 (((w.alloc (.cells h0 79)).alloc (.cells q0 30)).alloc (.cells #[.int .i64 0, .slice none 0 0, .string ⟨#[]⟩, .bool false] 44)) ∧ Bl (w.heap.size + 1) q0 30 (((w.alloc (.cells h0 79)).alloc (.cells q0 30)).alloc (.cells #[.int .i64 0, .slice none 0 0, .string ⟨#[]⟩, .bool false] 44)) ∧ AnB (w.heap.size + 1 + 1) 0 (.slice none 0 0) ⟨#[]⟩ false (((w.alloc (.cells h0 79)).alloc (.cells q0 30)).alloc (.cells #[.int .i64 0, .slice none 0 0, .string ⟨#[]⟩, .bool false] 44)) := by
  have h1 := (Below.refl w.heap.size w).alloc (Nat.le_refl _) (.cells h0 79)
  have b1 := Bl.new w h0 79
  have z1 : (w.alloc (.cells h0 79)).heap.size = w.heap.size + 1 := by simp
  generalize w.alloc (.cells h0 79) = W1 at *
  have h2 := h1.alloc h1.size (.cells q0 30)
  have b2 := Bl.new W1 q0 30
  have k1 := b1.alloc (.cells q0 30)
  have z2 : (W1.alloc (.cells q0 30)).heap.size = w.heap.size + 1 + 1 := by simp [z1]
  rw [z1] at b2
  generalize W1.alloc (.cells q0 30) = W2 at *
  have b3 := Bl.new W2 #[.int .i64 0, .slice none 0 0, .string ⟨#[]⟩, .bool false] 44
  rw [z2] at b3
  exact ⟨h2.alloc h2.size _, k1.alloc _, b2.alloc _, b3⟩
end Go.Proofs.YtfdhmeojkagokaaGreatDoor

/- The reference's handler. -/
namespace Go.Proofs.YtfdhmeojkagokaaGreatDoor
open Go.RowKit

theorem AnB.setB {g : Nat} {st : Int} {vv : Value} {b : ByteArray} {cl : Bool} {w : World} (h : AnB g st vv b cl w) (b' : ByteArray) : AnB g st vv b' cl (w.setCell ⟨g, 2, none⟩ (.string b')) := by
  unfold AnB at *; rw [heap_setCell_same _ g 2 _ _ _ h]; rfl
theorem AnB.setV {g : Nat} {st : Int} {vv : Value} {b : ByteArray} {cl : Bool} {w : World} (h : AnB g st vv b cl w) (vv' : Value) : AnB g st vv' b cl (w.setCell ⟨g, 1, none⟩ vv') := by
  unfold AnB at *; rw [heap_setCell_same _ g 1 _ _ _ h]; rfl
theorem AnB.other {g b : Nat} {st : Int} {vv : Value} {bb : ByteArray} {cl : Bool} {w : World} (h : AnB g st vv bb cl w) (hn : g ≠ b) (j : Nat) (v : Value) : AnB g st vv bb cl (w.setCell ⟨b, j, none⟩ v) := h.bl.other hn j v
set_option maxRecDepth 100000 in
set_option maxHeartbeats 600000 in
theorem rhandled_any (hk hst : Int) (ht hn qm qt qb : ByteArray) (fa : Option Addr) (fn fc : Nat) (ps : List Prm) (pa : Option Addr) (pc : Nat) (w : World) (hp : FlAt ps pa w) (hl : ps.length ≤ 1000000) :
    Calls Tryz.prog 88 #[.agg #[.int .i64 hk, .int .i64 hst, .string ht, .string hn], .agg #[.string qm, .string qt, .slice fa fn fc, .string qb], .slice pa ps.length pc] w (HdPost (handG ⟨hk, hst, ht, hn⟩ qb ps) w) := by
  have HST := hid (fun W (hW : Below w.heap.size w W) => rstands_any ps pa pc hn W (hp.below hW) hl)
  obtain ⟨hA, H0, Q0, A0⟩ := hand_mem #[.int .i64 hk, .int .i64 hst, .string ht, .string hn] #[.string qm, .string qt, .slice fa fn fc, .string qb] w
  have hG : handG ⟨hk, hst, ht, hn⟩ qb ps = if hk = 0 then some ⟨hst, [], ht⟩ else if hk = 1 then some ⟨hst, [], qb⟩ else if hk = 2 then some ⟨hst, [], stG hn.data.toList ps⟩ else if hk = 3 then some ⟨hst, [(ht, stG hn.data.toList ps)], ⟨#[]⟩⟩ else none := rfl
  generalize handG ⟨hk, hst, ht, hn⟩ qb ps = G at *
  generalize stG hn.data.toList ps = SV at *
  have HG := hid hG
  have e3 := H0.cell 3
  have l0 := H0.lt
  simp only [List.getElem?_toArray] at e3
  clear hp hG
  go_enter Tryz.func88, Tryz.ntmps88
  go_wp2_with fail
  generalize ((w.alloc (.cells #[.int .i64 hk, .int .i64 hst, .string ht, .string hn] 79)).alloc (.cells #[.string qm, .string qt, .slice fa fn fc, .string qb] 30)).alloc (.cells #[.int .i64 0, .slice none 0 0, .string ⟨#[]⟩, .bool false] 44) = w1 at *
  refine (HST.out _ hA).mono ?_
  rintro x w2 ⟨rfl, hb2⟩
  have H2 := H0.below hb2
  have Q2 := Q0.below hb2
  have A2 := A0.below hb2
  have hB2 := bel_of hA hb2
  have la := A2.lt
  have b3 := (Below.refl w2.heap.size w2).alloc (Nat.le_refl _) (.cells #[.int .i64 hst, .slice none 0 0, .string ⟨#[]⟩, .bool false] 44)
  have C3 : AnB w2.heap.size hst (.slice none 0 0) ⟨#[]⟩ false (w2.alloc (.cells #[.int .i64 hst, .slice none 0 0, .string ⟨#[]⟩, .bool false] 44)) := heap_alloc_new w2 _
  have n1 : w.heap.size ≠ w2.heap.size := by omega
  have n2 : w.heap.size + 1 ≠ w2.heap.size := by omega
  have n3 : w.heap.size + 1 + 1 ≠ w2.heap.size := by omega
  have H3 := H2.below b3
  have Q3 := Q2.below b3
  have A3 := A2.below b3
  have hB3 := bel_of hB2 b3
  have e1 := H2.cell 1
  simp only [List.getElem?_toArray] at e1
  clear HST H0 Q0 A0 H2 Q2 A2 hb2 hA
  go_upto_region 3 with fail
  generalize w2.alloc (.cells #[.int .i64 hst, .slice none 0 0, .string ⟨#[]⟩, .bool false] 44) = w3 at *
  have k0 : w3.cell? ⟨w.heap.size, 0, none⟩ = some (.int .i64 hk) := (H3.cell 0).trans rfl
  have k2 : w3.cell? ⟨w.heap.size, 2, none⟩ = some (.string ht) := (H3.cell 2).trans rfl
  have q3 : w3.cell? ⟨w.heap.size + 1, 3, none⟩ = some (.string qb) := (Q3.cell 3).trans rfl
  have lh := H3.lt
  have lq := Q3.lt
  obtain ⟨c0, c1, c2, c3⟩ := C3.cells
  have f0 := C3.free 0
  have f1 := C3.free 1
  have f2 := C3.free 2
  have f3 := C3.free 3
  have lc := C3.lt
  have la3 := A3.lt
  have HA3 := hid A3
  have HC3 := hid C3
  clear e1 H3 Q3 A3 C3 e3
  have hhead : ∀ k : Int, k = 0 ∨ k = 1 ∨ k = 2 ∨ k = 3 ∨ (k ≠ 0 ∧ k ≠ 1 ∧ k ≠ 2 ∧ k ≠ 3) := fun k => by omega
  rcases hhead hk with rfl | rfl | rfl | rfl | ⟨m0, m1, m2, m3⟩
  · have hg := HG.out
    simp at hg
    subst hg
    have C4 := HC3.out.setB ht
    have A4 := HA3.out.other n3 2 (.string ht)
    have hB4 := hB3.setCell (p := ⟨w2.heap.size, 2, none⟩) hB2.size (.string ht)
    obtain ⟨x0, x1, x2, x3⟩ := C4.cells
    obtain ⟨y0, y1, y2, y3⟩ := A4.cells
    have g0 := A4.free 0
    have g1 := A4.free 1
    have g2 := A4.free 2
    have g3 := A4.free 3
    have lA := A4.lt
    have lC := C4.lt
    obtain ⟨d0, d1, d2, d3⟩ := (A4.set hst (.slice none 0 0) ht false).cells
    have HBZ := hid (below_setA (st := hst) (vv := .slice none 0 0) (b := ht) (cl := false) hB4 (show w.heap.size ≤ w.heap.size + 1 + 1 by omega))
    unfold setA at d0 d1 d2 d3 HBZ
    clear HG HA3 HC3 A4 C4 hB4
    go_wp2_with fail
    refine bodyPost_ret (v := .tuple #[.agg #[.int .i64 hst, .slice none 0 0, .string ht, .bool false], .bool true]) (by simp [results, Tryz.results88, go_sem, d0, d1, d2, d3]) rfl ?_
    exact ⟨⟨_, rfl, World.ownsRow_nil _ _ _ _⟩, HBZ.out⟩
  · have hg := HG.out
    simp at hg
    subst hg
    have C4 := HC3.out.setB qb
    have A4 := HA3.out.other n3 2 (.string qb)
    have hB4 := hB3.setCell (p := ⟨w2.heap.size, 2, none⟩) hB2.size (.string qb)
    obtain ⟨x0, x1, x2, x3⟩ := C4.cells
    obtain ⟨y0, y1, y2, y3⟩ := A4.cells
    have g0 := A4.free 0
    have g1 := A4.free 1
    have g2 := A4.free 2
    have g3 := A4.free 3
    have lA := A4.lt
    have lC := C4.lt
    obtain ⟨d0, d1, d2, d3⟩ := (A4.set hst (.slice none 0 0) qb false).cells
    have HBZ := hid (below_setA (st := hst) (vv := .slice none 0 0) (b := qb) (cl := false) hB4 (show w.heap.size ≤ w.heap.size + 1 + 1 by omega))
    unfold setA at d0 d1 d2 d3 HBZ
    clear HG HA3 HC3 A4 C4 hB4
    go_wp2_with fail
    refine bodyPost_ret (v := .tuple #[.agg #[.int .i64 hst, .slice none 0 0, .string qb, .bool false], .bool true]) (by simp [results, Tryz.results88, go_sem, d0, d1, d2, d3]) rfl ?_
    exact ⟨⟨_, rfl, World.ownsRow_nil _ _ _ _⟩, HBZ.out⟩
  · have hg := HG.out
    simp at hg
    subst hg
    have C4 := HC3.out.setB SV
    have A4 := HA3.out.other n3 2 (.string SV)
    have hB4 := hB3.setCell (p := ⟨w2.heap.size, 2, none⟩) hB2.size (.string SV)
    obtain ⟨x0, x1, x2, x3⟩ := C4.cells
    obtain ⟨y0, y1, y2, y3⟩ := A4.cells
    have g0 := A4.free 0
    have g1 := A4.free 1
    have g2 := A4.free 2
    have g3 := A4.free 3
    have lA := A4.lt
    have lC := C4.lt
    obtain ⟨d0, d1, d2, d3⟩ := (A4.set hst (.slice none 0 0) SV false).cells
    have HBZ := hid (below_setA (st := hst) (vv := .slice none 0 0) (b := SV) (cl := false) hB4 (show w.heap.size ≤ w.heap.size + 1 + 1 by omega))
    unfold setA at d0 d1 d2 d3 HBZ
    clear HG HA3 HC3 A4 C4 hB4
    go_wp2_with fail
    refine bodyPost_ret (v := .tuple #[.agg #[.int .i64 hst, .slice none 0 0, .string SV, .bool false], .bool true]) (by simp [results, Tryz.results88, go_sem, d0, d1, d2, d3]) rfl ?_
    exact ⟨⟨_, rfl, World.ownsRow_nil _ _ _ _⟩, HBZ.out⟩
  · have hg := HG.out
    simp at hg
    subst hg
    have zs : (w3.setCell ⟨w2.heap.size, 1, none⟩ (.slice (some ⟨w3.heap.size, 0, none⟩) 1 1)).heap.size = w3.heap.size := by simp [World.setCell]
    have C4 := HC3.out.setV (.slice (some ⟨w3.heap.size, 0, none⟩) 1 1)
    have A4 := HA3.out.other n3 1 (.slice (some ⟨w3.heap.size, 0, none⟩) 1 1)
    have hB4 := hB3.setCell (p := ⟨w2.heap.size, 1, none⟩) hB2.size (.slice (some ⟨w3.heap.size, 0, none⟩) 1 1)
    have b5 := (Below.refl w3.heap.size (w3.setCell ⟨w2.heap.size, 1, none⟩ (.slice (some ⟨w3.heap.size, 0, none⟩) 1 1))).alloc (Nat.le_of_eq zs.symm) (.cells #[.string ht, .string SV] 70)
    have OW := one_field ht SV w.heap.size (w3.setCell ⟨w2.heap.size, 1, none⟩ (.slice (some ⟨w3.heap.size, 0, none⟩) 1 1)) (by rw [zs]; exact hB3.size)
    rw [zs] at OW
    have C5 := C4.below (b5.mono (Nat.le_of_eq zs))
    have A5 := A4.below (b5.mono (Nat.le_of_eq zs))
    have hB5 := hB4.trans (b5.mono hB3.size)
    obtain ⟨x0, x1, x2, x3⟩ := C5.cells
    obtain ⟨y0, y1, y2, y3⟩ := A5.cells
    have g0 := A5.free 0
    have g1 := A5.free 1
    have g2 := A5.free 2
    have g3 := A5.free 3
    have lA := A5.lt
    have lC := C5.lt
    obtain ⟨d0, d1, d2, d3⟩ := (A5.set hst (.slice (some ⟨w3.heap.size, 0, none⟩) 1 1) ⟨#[]⟩ false).cells
    have neF : (Value.slice (some ⟨w3.heap.size, 0, none⟩) 1 1).ownBlock ≠ some (w.heap.size + 1 + 1) := by simp [Value.ownBlock]; omega
    have HBZ := hid (below_setA (st := hst) (vv := .slice (some ⟨w3.heap.size, 0, none⟩) 1 1) (b := ⟨#[]⟩) (cl := false) hB5 (show w.heap.size ≤ w.heap.size + 1 + 1 by omega))
    have HOZ := hid (owns_setA (g := w.heap.size + 1 + 1) (st := hst) (vv := .slice (some ⟨w3.heap.size, 0, none⟩) 1 1) (b := ⟨#[]⟩) (cl := false) OW neF)
    unfold setA at d0 d1 d2 d3 HBZ HOZ
    clear HG HA3 HC3 A4 C4 hB4 A5 C5 hB5 OW b5 zs
    go_upto_region 13 with fail
    generalize (w3.setCell ⟨w2.heap.size, 1, none⟩ (.slice (some ⟨w3.heap.size, 0, none⟩) 1 1)).alloc (.cells #[.string ht, .string SV] 70) = w5 at *
    clear c0 c1 c2 c3 f0 f1 f2 f3
    go_wp2_with fail
    refine bodyPost_ret (v := .tuple #[.agg #[.int .i64 hst, .slice (some ⟨w3.heap.size, 0, none⟩) 1 1, .string ⟨#[]⟩, .bool false], .bool true]) (by simp [results, Tryz.results88, go_sem, d0, d1, d2, d3]) rfl ?_
    exact ⟨⟨_, rfl, HOZ.out⟩, HBZ.out⟩
  · have hg := HG.out
    rw [if_neg m0, if_neg m1, if_neg m2, if_neg m3] at hg
    subst hg
    have j0 : (hk == 0) = false := by simpa using m0
    have j1 : (hk == 1) = false := by simpa using m1
    have j2 : (hk == 2) = false := by simpa using m2
    have j3 : (hk == 3) = false := by simpa using m3
    obtain ⟨y0, y1, y2, y3⟩ := HA3.out.cells
    have g0 := HA3.out.free 0
    have g1 := HA3.out.free 1
    have g2 := HA3.out.free 2
    have g3 := HA3.out.free 3
    obtain ⟨d0, d1, d2, d3⟩ := (HA3.out.set 0 (.slice none 0 0) ⟨#[]⟩ false).cells
    have HBZ := hid (below_setA (st := 0) (vv := .slice none 0 0) (b := ⟨#[]⟩) (cl := false) hB3 (show w.heap.size ≤ w.heap.size + 1 + 1 by omega))
    unfold setA at d0 d1 d2 d3 HBZ
    clear HG HA3 HC3 m0 m1 m2 m3
    go_wp2_with fail
    refine bodyPost_ret (v := .tuple #[.agg #[.int .i64 0, .slice none 0 0, .string ⟨#[]⟩, .bool false], .bool false]) (by simp [results, Tryz.results88, go_sem, d0, d1, d2, d3]) rfl ?_
    exact ⟨rfl, HBZ.out⟩
end Go.Proofs.YtfdhmeojkagokaaGreatDoor

/- Fields more. -/
namespace Go.Proofs.YtfdhmeojkagokaaGreatDoor
open Go.RowKit

theorem infoFd : (Tryz.prog.info? 70).map (fun i => (i.zero, i.size, i.bytes)) = some (some (.agg #[.string ⟨#[]⟩, .string ⟨#[]⟩]), 2, 32) := by kernel_rfl
theorem AnB.set1 {g : Nat} {st : Int} {vv : Value} {b : ByteArray} {cl : Bool} {w : World} (h : AnB g st vv b cl w) (v' : Value) : AnB g st v' b cl (w.setCell ⟨g, 1, none⟩ v') := by
  unfold AnB at *
  rw [heap_setCell_same _ g 1 _ _ _ h]; rfl
theorem AnB.keep {g : Nat} {st : Int} {vv : Value} {b : ByteArray} {cl : Bool} {w w' : World} (h : AnB g st vv b cl w) (hk : w'.heap[g]? = w.heap[g]?) : AnB g st vv b cl w' := by
  unfold AnB at *; rw [hk]; exact h
theorem StAt.keep {l : List ByteArray} {a : Option Addr} {w w' : World} (h : StAt l a w) (hz : w.heap.size ≤ w'.heap.size) (hk : ∀ g, a = some ⟨g, 0, none⟩ → w'.heap[g]? = w.heap[g]?) : StAt l a w' := fun i hi => by
  obtain ⟨g, h1, h2, h3⟩ := h i hi
  exact ⟨g, h1, Nat.lt_of_lt_of_le h2 hz, by rw [World.cell?_of_block (hk g h1)]; exact h3⟩
structure WfI (st : Int) (b n : ByteArray) (cl : Bool) (fs : List Prm) (vals : List ByteArray) (va : Option Addr) (B : Nat) (w : World) (k : Nat) (vk : Value) (wr : World) : Prop where
  a : AnB w.heap.size st vk b cl wr
  r : AnB (w.heap.size + 1) 0 (.slice none 0 0) ⟨#[]⟩ false wr
  o : wr.ownsRow B 70 2 vk (fs ++ (vals.take k).map (fun v => (n, v))).length (prCells (fs ++ (vals.take k).map (fun v => (n, v))))
  n1 : vk.ownBlock ≠ some w.heap.size
  n2 : vk.ownBlock ≠ some (w.heap.size + 1)
  nv : ∀ g, va = some ⟨g, 0, none⟩ → vk.ownBlock ≠ some g
  s : StAt vals va wr
  bl : Below B w wr
theorem WfI.next {st : Int} {b n : ByteArray} {cl : Bool} {fs : List Prm} {vals : List ByteArray} {va : Option Addr} {B : Nat} {w : World} {k : Nat} {vk : Value} {wr w4 : World} {gg cap N : Nat} {x : ByteArray} (h : WfI st b n cl fs vals va B w k vk wr) (hk : k < vals.length) (hx : vals[k] = x) (hlv : ∀ g, va = some ⟨g, 0, none⟩ → g < w.heap.size) (hB : B ≤ w.heap.size) {E : Obj}
    (hN : N = (fs ++ (vals.take k).map (fun v => (n, v))).length) (hgrow : (wr.alloc E).grownBy w4 vk.ownBlock)
    (hown : w4.ownsRow B 70 2 (.slice (some ⟨gg, 0, none⟩) (N + 1) cap) (N + 1) (prCells (fs ++ (vals.take k).map (fun v => (n, v))) ++ [.string n, .string x])) (hat : vk.ownBlock = some gg ∨ gg = wr.heap.size + 1) :
    WfI st b n cl fs vals va B w (k + 1) (.slice (some ⟨gg, 0, none⟩) (N + 1) cap) (w4.setCell ⟨w.heap.size, 1, none⟩ (.slice (some ⟨gg, 0, none⟩) (N + 1) cap)) ∧ w4.cell? ⟨w.heap.size, 1, none⟩ = some vk ∧ w4.frozen? ⟨w.heap.size, 1, none⟩ = false ∧ w.heap.size < w4.heap.size := by
  have hb3 : Below wr.heap.size wr (wr.alloc E) := (Below.refl _ _).alloc (Nat.le_refl _) E
  have la := h.a.lt
  have lr := h.r.lt
  have z2 := hb3.size
  have z3 := hgrow.size
  have zz : (wr.alloc E).heap.size = wr.heap.size + 1 := by simp
  have blk : ∀ g, g < wr.heap.size → vk.ownBlock ≠ some g → w4.heap[g]? = wr.heap[g]? := fun g hg hn => by
    rw [hgrow.block g (by omega) (fun e => hn e.symm), hb3.block g hg]
  have a4 := h.a.keep (blk _ la h.n1)
  have r4 := h.r.keep (blk _ lr h.n2)
  have hne : gg ≠ w.heap.size := by
    rcases hat with e | e
    · intro e2; rw [e2] at e; exact h.n1 e
    · omega
  have oth : ∀ g, g ≠ w.heap.size → (w4.setCell ⟨w.heap.size, 1, none⟩ (.slice (some ⟨gg, 0, none⟩) (N + 1) cap)).heap[g]? = w4.heap[g]? := fun g hg => heap_setCell_other w4 ⟨w.heap.size, 1, none⟩ g _ hg
  have e : fs ++ (vals.take (k + 1)).map (fun v => (n, v)) = (fs ++ (vals.take k).map (fun v => (n, v))) ++ [(n, x)] := by
    rw [List.take_succ_eq_append_getElem hk, List.map_append, hx, List.append_assoc]; rfl
  refine ⟨⟨a4.set1 _, r4.keep (oth _ (by omega)), ?_, by simp [Value.ownBlock, hne], ?_, ?_, ?_, ?_⟩, a4.cells.2.1, a4.free 1, a4.lt⟩
  · rw [e, List.length_append, prCells_snoc, ← hN]
    exact owns_not hown (by simp [Value.ownBlock, hne]) 1 _
  · rcases hat with q | q
    · have := h.n2; rw [q] at this; simpa [Value.ownBlock] using this
    · simp [Value.ownBlock]; omega
  · intro g hg
    rcases hat with q | q
    · have := h.nv g hg; rw [q] at this; simpa [Value.ownBlock] using this
    · have := hlv g hg
      simp [Value.ownBlock]; omega
  · refine h.s.keep (by simp; omega) (fun g hg => ?_)
    have hl := hlv g hg
    rw [oth g (by omega), blk g (by omega) (h.nv g hg)]
  · exact ((h.bl.trans (hb3.mono (by have := h.bl.size; omega))).grown hgrow (by have := h.bl.size; omega) (fun r hr => own_ge h.o r hr)).setCell hB _
set_option maxRecDepth 100000 in
set_option maxHeartbeats 4000000 in
theorem withFields_any (st : Int) (fs : List Prm) (vv : Value) (b n : ByteArray) (cl : Bool) (vals : List ByteArray) (va : Option Addr) (vc B : Nat) (w : World) (ho : w.ownsRow B 70 2 vv fs.length (prCells fs)) (hB : B ≤ w.heap.size) (hv : StAt vals va w) (hlv : ∀ g, va = some ⟨g, 0, none⟩ → g < w.heap.size) (hvb : ∀ g, va = some ⟨g, 0, none⟩ → vv.ownBlock ≠ some g) (hl : fs.length + vals.length ≤ 100000000) :
    Calls Tryz.prog 144 #[.agg #[.int .i64 st, vv, .string b, .bool cl], .string n, .slice va vals.length vc] w fun x w' => (∃ vv', x = .returned (.agg #[.int .i64 st, vv', .string b, .bool cl]) ∧ w'.ownsRow B 70 2 vv' (fs ++ vals.map (fun v => (n, v))).length (prCells (fs ++ vals.map (fun v => (n, v))))) ∧ Below B w w' := by
  obtain ⟨i0, hi, hz0, hz1, hz2⟩ := info_parts infoFd
  have hA1 := (Below.refl w.heap.size w).alloc (Nat.le_refl _) (.cells #[.int .i64 st, vv, .string b, .bool cl] 44)
  have hA := hA1.alloc hA1.size (.cells #[.int .i64 0, .slice none 0 0, .string ⟨#[]⟩, .bool false] 44)
  have z1 : (w.alloc (.cells #[.int .i64 st, vv, .string b, .bool cl] 44)).heap.size = w.heap.size + 1 := by simp
  have g0 : AnB w.heap.size st vv b cl (w.alloc (.cells #[.int .i64 st, vv, .string b, .bool cl] 44)) := heap_alloc_new w _
  have g1 := g0.below ((Below.refl _ _).alloc (Nat.le_refl _) (.cells #[.int .i64 0, .slice none 0 0, .string ⟨#[]⟩, .bool false] 44))
  have h0 : AnB (w.heap.size + 1) 0 (.slice none 0 0) ⟨#[]⟩ false ((w.alloc (.cells #[.int .i64 st, vv, .string b, .bool cl] 44)).alloc (.cells #[.int .i64 0, .slice none 0 0, .string ⟨#[]⟩, .bool false] 44)) := by
    rw [← z1]; exact heap_alloc_new _ _
  have I0 : Hid (WfI st b n cl fs vals va B w 0 vv ((w.alloc (.cells #[.int .i64 st, vv, .string b, .bool cl] 44)).alloc (.cells #[.int .i64 0, .slice none 0 0, .string ⟨#[]⟩, .bool false] 44))) :=
    ⟨g1, h0, by simpa using owns_below ho hA, fun e => by have := (own_ltw ho _ e); omega, fun e => by have := (own_ltw ho _ e); omega, hvb, hv.below hA, hA.mono hB⟩
  have HLV := hid hlv
  clear g0 g1 h0 z1 ho hv hvb hA1 hlv
  obtain ⟨av, cv, hvv⟩ : ∃ a c, vv = .slice a fs.length c := by
    have := I0.out.o
    simp only [List.take_zero, List.map_nil, List.append_nil] at this
    exact sl_of this
  subst hvv
  go_enter Tryz.func144, Tryz.ntmps144
  go_wp2_with fail
  generalize (w.alloc (.cells #[.int .i64 st, .slice av fs.length cv, .string b, .bool cl] 44)).alloc (.cells #[.int .i64 0, .slice none 0 0, .string ⟨#[]⟩, .bool false] 44) = w1 at *
  go_loopw [11] (fun i wr => ∃ (k : Nat) (vk : Value), k ≤ vals.length ∧ i = .int .i64 k ∧ Hid (WfI st b n cl fs vals va B w k vk wr)) (fun i _ => vals.length - (intOf i).toNat)
  case atStart => exact ⟨0, _, Nat.zero_le _, rfl, I0⟩
  case round =>
    clear I0
    obtain ⟨k, vk, hk, rfl, I⟩ := hrel
    have la := I.out.a.lt
    obtain ⟨x0, x1, x2, x3⟩ := I.out.a.cells
    by_cases hlt : k < vals.length
    · obtain ⟨g, rfl, hg, hc⟩ := I.out.s k hlt
      obtain ⟨xv, hxv⟩ : ∃ xv, vals[k] = xv := ⟨_, rfl⟩
      rw [hxv] at hc
      have HN := hid (fun N gg cap w4 E hN hgrow hown hat => I.out.next (x := xv) (N := N) (gg := gg) (cap := cap) (w4 := w4) (E := E) hlt hxv HLV.out hB hN hgrow hown hat)
      have ow := I.out.o
      have hlen : (fs ++ (vals.take k).map (fun v => (n, v))).length = fs.length + k := by simp; omega
      generalize hFS : fs ++ (vals.take k).map (fun v => (n, v)) = FS at *
      have hfz : FS.length ≤ 100000000 := by omega
      obtain ⟨ak, ck, rfl⟩ := sl_of ow
      have hbz := I.out.bl.size
      have hBr : B ≤ wr.heap.size := by omega
      clear I hxv hlen
      go_wp2_with (at_builtin; refine wpList_append_lies _ rfl _ _ 28 rfl B 70 i0 _ 2 32 Tryz.underlying28 hi hz0 hz1 hz2 rfl (by omega) (.slice ak FS.length ck) FS.length (prCells FS) rfl (ow.alloc _) ⟨wr.heap.size, 0, none⟩ 1 1 [.string n, .string xv] rfl rfl (World.news_of_block (cs := #[.string n, .string xv]) (t := 70) (fr := (0, 0)) (heap_alloc_new wr _)) (by simp [Value.oneCell']) (by omega) (by unfold maxLen; omega) (by omega) (by simp; omega) _ rfl ?_)
      intro gg cap wn hown hgrow hat hltn
      obtain ⟨r1, r2, r3, r4⟩ := HN.out _ gg cap wn _ rfl hgrow hown (hat.imp_right (fun h => by rw [h]; all_goals simp))
      have HR1 := hid r1
      clear r1 hown hgrow HN ow
      go_wp2_with fail
      exact ⟨⟨k + 1, _, by omega, by go_num, HR1⟩, by simp [intOf]; omega⟩
    · have hne : ¬ (k : Int) < (vals.length : Int) := by omega
      have hkk : vals.take k = vals := List.take_of_length_le (by omega)
      have ow := I.out.o
      rw [hkk] at ow
      obtain ⟨ak, ck, rfl⟩ := sl_of ow
      have hr := I.out.r
      obtain ⟨c0, c1, c2, c3⟩ := hr.cells
      have f0 := hr.free 0
      have f1 := hr.free 1
      have f2 := hr.free 2
      have f3 := hr.free 3
      have l1 := hr.lt
      have HF : Hid ((setA (w.heap.size + 1) st (.slice ak (fs ++ vals.map (fun v => (n, v))).length ck) b cl wr).ownsRow B 70 2 (.slice ak (fs ++ vals.map (fun v => (n, v))).length ck) (fs ++ vals.map (fun v => (n, v))).length (prCells (fs ++ vals.map (fun v => (n, v)))) ∧ Below B w (setA (w.heap.size + 1) st (.slice ak (fs ++ vals.map (fun v => (n, v))).length ck) b cl wr)) := ⟨owns_setA ow I.out.n2, below_setA I.out.bl (by omega)⟩
      obtain ⟨d0, d1, d2, d3⟩ := (hr.set st (.slice ak (fs ++ vals.map (fun v => (n, v))).length ck) b cl).cells
      unfold setA at d0 d1 d2 d3
      generalize hF2 : (fs ++ vals.map (fun v => (n, v))) = FS at *
      have HF2 := hid hF2
      clear hF2
      clear I ow hr
      go_wp2_with fail
      refine bodyPost_ret (v := .agg #[.int .i64 st, .slice ak FS.length ck, .string b, .bool cl]) (by simp [results, Tryz.results144, go_sem, d0, d1, d2, d3]) rfl ?_
      refine ⟨⟨_, rfl, ?_⟩, HF.out.2⟩
      have h := HF.out.1
      have e := HF2.out
      first
        | exact h
        | (subst e; simp only [List.length_append, List.length_map] at h ⊢; exact h)
end Go.Proofs.YtfdhmeojkagokaaGreatDoor
