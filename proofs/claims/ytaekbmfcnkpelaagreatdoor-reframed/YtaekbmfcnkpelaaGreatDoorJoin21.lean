/- Texts that follow one another, joined. -/
import Derived.Test.YtaekbmfcnkpelaaGreatDoorJoin20
/- The program's look at a request and at the sizes of its chunks; nothing old in memory turns. -/
namespace Go.Proofs.YtaekbmfcnkpelaaGreatDoor
open Go.RowKit

def ZoAt (zs : List Int) (a : Option Addr) (w : World) : Prop :=
  ∀ i (h : i < zs.length), ∃ g o, a = some ⟨g, o, none⟩ ∧ g < w.heap.size ∧ w.cell? ⟨g, o + i, none⟩ = some (.int .i64 zs[i])
theorem ZoAt.below {zs : List Int} {a : Option Addr} {w w' : World} (h : ZoAt zs a w) (hb : Below w.heap.size w w') : ZoAt zs a w' := fun i hi => by
  obtain ⟨g, o, h1, h2, h3⟩ := h i hi
  exact ⟨g, o, h1, Nat.lt_of_lt_of_le h2 hb.size, cell_later hb h3⟩
theorem sizesOk_bad {l : List Int} {k : Nat} {left n : Int} (h : sizesOk (l.drop k) left = sizesOk l n) (hk : k < l.length) (hs : l[k] < 1 ∨ left < l[k]) : sizesOk l n = false := by
  rw [← h, List.drop_eq_getElem_cons hk, sizesOk, if_pos hs]
theorem sizesOk_next {l : List Int} {k : Nat} {left n : Int} (h : sizesOk (l.drop k) left = sizesOk l n) (hk : k < l.length) (hs : ¬ (l[k] < 1 ∨ left < l[k])) : sizesOk (l.drop (k + 1)) (left - l[k]) = sizesOk l n := by
  rw [← h, List.drop_eq_getElem_cons hk, sizesOk, if_neg hs]

set_option maxHeartbeats 1000000 in
theorem rightSizes_any (how : Int) (zs : List Int) (a : Option Addr) (ca : Nat) (n : Nat) (w : World) (hf : ZoAt zs a w) (hl : zs.length ≤ 1000000000) (hn : n ≤ 1000000000000) :
    Calls Tryz.prog 20 #[.int .i64 how, .slice a zs.length ca, .int .i64 n] w fun e w' => e = .returned (.bool (howOk how zs n)) ∧ w' = w := by
  have HF := hid hf
  clear hf
  by_cases h0 : how = 0
  · have HH : Hid (howOk how zs n = zs.isEmpty) := by unfold Hid howOk; rw [if_pos h0]
    have h0' : (how == 0) = true := by rw [h0]; rfl
    have he : ((zs.length : Int) == 0) = zs.isEmpty := by cases zs <;> simp; omega
    have HE := hid he
    clear h0 he
    go_enter Tryz.func20, Tryz.ntmps20
    go_wp2
    go_ret
    exact ⟨ret_bool (by rw [HH.out]; exact HE.out), rfl⟩
  · have h0' : (how == 0) = false := by rw [beq_eq_false_iff_ne]; exact h0
    by_cases h1 : how = 1
    · have HH : Hid (howOk how zs n = sizesOk zs n) := by unfold Hid howOk; rw [if_neg h0, if_pos h1]
      have h1' : (how == 1) = true := by rw [h1]; rfl
      clear h0 h1
      go_enter Tryz.func20, Tryz.ntmps20
      go_wp2_with fail
      go_loop [7, 9, 21] (fun l _ i => ∃ (k : Nat) (left : Int), k ≤ zs.length ∧ i = .int .i64 k ∧ l = .int .i64 left ∧ 0 ≤ left ∧ left ≤ n ∧ Hid (sizesOk (zs.drop k) left = sizesOk zs n)) (fun _ _ i => zs.length - (intOf i).toNat)
      case atStart => exact ⟨0, n, Nat.zero_le _, rfl, rfl, by omega, by omega, rfl⟩
      case round =>
        obtain ⟨k, left, hk, rfl, rfl, hl0, hln, H⟩ := hrel
        by_cases hlt : k < zs.length
        · obtain ⟨g, o, rfl, hg, hc⟩ := HF.out k hlt
          by_cases hb : zs[k] < 1
          · have HN := hid (sizesOk_bad H.out hlt (.inl hb))
            generalize zs[k] = z at *
            go_wp2
            go_ret
            exact ⟨ret_bool (by rw [HH.out, HN.out]), rfl⟩
          · by_cases hb2 : left < zs[k]
            · have HN := hid (sizesOk_bad H.out hlt (.inr hb2))
              generalize zs[k] = z at *
              go_wp2
              go_ret
              exact ⟨ret_bool (by rw [HH.out, HN.out]), rfl⟩
            · have HN := hid (sizesOk_next H.out hlt (fun h => h.elim hb hb2))
              generalize zs[k] = z at *
              have hw : IntKind.i64.wrap (left - z) = left - z := by simp [IntKind.wrap, IntKind.bits, IntKind.signed]; omega
              go_wp2
              exact ⟨⟨k + 1, left - z, by omega, by go_num, rfl, by omega, by omega, HN.out⟩, by simp [intOf]; omega⟩
        · have HE : Hid ((left == 0) = sizesOk zs n) := by
            have := H.out
            rw [List.drop_eq_nil_of_le (by omega), sizesOk] at this
            exact this
          go_wp2
          go_ret
          exact ⟨ret_bool (by rw [HH.out]; exact HE.out), rfl⟩
    · have h1' : (how == 1) = false := by rw [beq_eq_false_iff_ne]; exact h1
      have HH : Hid (howOk how zs n = false) := by unfold Hid howOk; rw [if_neg h0, if_neg h1]
      clear h0 h1
      go_enter Tryz.func20, Tryz.ntmps20
      go_wp2
      go_ret
      exact ⟨ret_bool HH.out.symm, rfl⟩

/- a request's block -/
def RoAt (g : Nat) (m t : ByteArray) (v : Value) (body : ByteArray) (w : World) : Prop := w.heap[g]? = some (.cells #[.string m, .string t, v, .string body] 24 (0, 0))
theorem RoAt.below {g : Nat} {m t : ByteArray} {v : Value} {body : ByteArray} {w w' : World} (h : RoAt g m t v body w) {B : Nat} (hb : Below B w w') (hg : g < B) : RoAt g m t v body w' := by
  unfold RoAt at *; rw [hb.block g hg]; exact h
theorem RoAt.cells {g : Nat} {m t : ByteArray} {v : Value} {body : ByteArray} {w : World} (h : RoAt g m t v body w) : w.cell? ⟨g, 0, none⟩ = some (.string m) ∧ w.cell? ⟨g, 1, none⟩ = some (.string t) ∧ w.cell? ⟨g, 2, none⟩ = some v ∧ w.cell? ⟨g, 3, none⟩ = some (.string body) := by
  refine ⟨?_, ?_, ?_, ?_⟩ <;> (rw [Lib.cell_of_heap h]; rfl)
theorem RoAt.lt {g : Nat} {m t : ByteArray} {v : Value} {body : ByteArray} {w : World} (h : RoAt g m t v body w) : g < w.heap.size := by
  rcases Nat.lt_or_ge g w.heap.size with h' | h'
  · exact h'
  · unfold RoAt at h; simp [Array.getElem?_eq_none h'] at h
end Go.Proofs.YtaekbmfcnkpelaaGreatDoor

/- The program's printable and the reference's Printable: whether a request may be told; nothing old in memory turns. -/
namespace Go.Proofs.YtaekbmfcnkpelaaGreatDoor
open Go.RowKit

theorem host_next (fs : List Pr2) (k : Nat) (h : k < fs.length) : (valsOf (fs.take (k + 1)) nHost).length = (valsOf (fs.take k) nHost).length + (if Pm.alike fs[k].1.data.toList nHost = true then 1 else 0) := by
  cases hal : Pm.alike fs[k].1.data.toList nHost
  · rw [valsOf_no h hal]; simp
  · rw [valsOf_yes h hal]; simp
theorem all_next (fs : List Pr2) (k : Nat) (h : k < fs.length) : (fs.drop k).all okF = (okF fs[k] && (fs.drop (k + 1)).all okF) := by
  rw [List.drop_eq_getElem_cons h, List.all_cons]
set_option maxRecDepth 100000 in
set_option maxHeartbeats 2000000 in
theorem printable_any (m t : ByteArray) (fs : List Pr2) (a : Option Addr) (ca : Nat) (body : ByteArray) (w : World) (hf : FoAt fs a w) (hn : fs.length ≤ 1000000000) (hm : m.size ≤ 1000000000) (ht : t.size ≤ 1000000000) (hz : ∀ i (h : i < fs.length), fs[i].1.size ≤ 1000000000 ∧ fs[i].2.size ≤ 1000000000) :
    Calls Tryz.prog 19 #[.agg #[.string m, .string t, .slice a fs.length ca, .string body]] w fun e w' => e = .returned (.bool (pOk m.data.toList t.data.toList fs)) ∧ Below w.heap.size w w' := by
  have HF := hid hf
  have HZ := hid hz
  have hB1 := (Below.refl w.heap.size w).alloc (Nat.le_refl _) (.cells #[.string m, .string t, .slice a fs.length ca, .string body] 24)
  have ro1 : RoAt w.heap.size m t (.slice a fs.length ca) body (w.alloc (.cells #[.string m, .string t, .slice a fs.length ca, .string body] 24)) := heap_alloc_new w _
  clear hf hz
  have HM := hid (fun W => wIsMethod_any m W (by unfold maxLen; omega))
  have HT := hid (fun W => wIsTarget_any t W (by omega))
  have HP : Hid (pOk m.data.toList t.data.toList fs = (Pm.isMethod m.data.toList && (Pm.isTarget t.data.toList && (fs.all okF && decide ((valsOf fs nHost).length = 1))))) := rfl
  generalize pOk m.data.toList t.data.toList fs = PO at *
  generalize Pm.isMethod m.data.toList = im at *
  generalize Pm.isTarget t.data.toList = it at *
  obtain ⟨c0, c1, c2, c3⟩ := ro1.cells
  have al1 := ro1.lt
  go_enter Tryz.func19, Tryz.ntmps19
  go_wp2_with fail
  generalize w.alloc (.cells #[.string m, .string t, .slice a fs.length ca, .string body] 24) = w1 at *
  refine (HM.out _).mono ?_
  rintro e w2 ⟨rfl, hw2⟩
  subst hw2
  cases im
  · have HN : Hid (PO = false) := HP.out
    clear HP
    go_wp2
    go_ret
    exact ⟨ret_bool HN.out.symm, hB1⟩
  · go_wp2_with fail
    refine (HT.out _).mono ?_
    rintro e w3 ⟨rfl, hb3⟩
    have ro3 := ro1.below hb3 al1
    have hB3 := bel_of hB1 hb3
    cases it
    · have HN : Hid (PO = false) := HP.out
      clear HP
      go_wp2
      go_ret
      exact ⟨ret_bool HN.out.symm, hB3⟩
    · rw [Bool.true_and, Bool.true_and] at HP
      clear c0 c1 c2 c3 hb3 hB1 al1 HM HT ro1
      have d2 := ro3.cells.2.2.1
      have al3 := ro3.lt
      have J0 := hid hB3
      clear ro3 hB3
      go_wp2_with fail
      go_loopw [3, 5, 19] (fun h _ i wr => ∃ k : Nat, k ≤ fs.length ∧ i = .int .i64 k ∧ h = .int .i64 ((valsOf (fs.take k) nHost).length : Int) ∧ Hid (fs.all okF = (fs.drop k).all okF) ∧ Hid (Below w.heap.size w wr)) (fun _ _ i _ => fs.length - (intOf i).toNat)
      case atStart => exact ⟨0, Nat.zero_le _, rfl, rfl, rfl, J0.out⟩
      case round =>
        obtain ⟨k, hk, rfl, rfl, H, I⟩ := hrel
        clear J0
        have hvl := valsOf_le (fs.take k) nHost
        rw [List.length_take] at hvl
        by_cases hlt : k < fs.length
        · obtain ⟨g, o, rfl, hg, hc1, hc2⟩ := (HF.out.below I.out) k hlt
          have HA := hid (all_next fs k hlt)
          have HH := hid (host_next fs k hlt)
          obtain ⟨z1, z2⟩ := HZ.out k hlt
          have HO : Hid (okF fs[k] = (Pm.isField fs[k].1.data.toList fs[k].2.data.toList && (!(Pm.alike fs[k].1.data.toList nLength) && !(Pm.alike fs[k].1.data.toList nCoding)))) := rfl
          generalize okF fs[k] = ok at *
          generalize fs[k].1 = nm at *
          generalize fs[k].2 = vl at *
          have HIF := hid (fun W => wIsField_any nm vl W (by unfold maxLen; omega) (by unfold maxLen; omega))
          have HA1 : Hid (∀ W, Calls Tryz.prog 33 #[.string nm, .string ⟨#[67, 111, 110, 116, 101, 110, 116, 45, 76, 101, 110, 103, 116, 104]⟩] W fun e w' => e = .returned (.bool (Pm.alike nm.data.toList nLength)) ∧ Below W.heap.size W w') := fun W => wAlike_any nm ⟨#[67, 111, 110, 116, 101, 110, 116, 45, 76, 101, 110, 103, 116, 104]⟩ W (by unfold maxLen; omega)
          have HA2 : Hid (∀ W, Calls Tryz.prog 33 #[.string nm, .string ⟨#[84, 114, 97, 110, 115, 102, 101, 114, 45, 69, 110, 99, 111, 100, 105, 110, 103]⟩] W fun e w' => e = .returned (.bool (Pm.alike nm.data.toList nCoding)) ∧ Below W.heap.size W w') := fun W => wAlike_any nm ⟨#[84, 114, 97, 110, 115, 102, 101, 114, 45, 69, 110, 99, 111, 100, 105, 110, 103]⟩ W (by unfold maxLen; omega)
          have HA3 : Hid (∀ W, Calls Tryz.prog 33 #[.string nm, .string ⟨#[72, 111, 115, 116]⟩] W fun e w' => e = .returned (.bool (Pm.alike nm.data.toList nHost)) ∧ Below W.heap.size W w') := fun W => wAlike_any nm ⟨#[72, 111, 115, 116]⟩ W (by unfold maxLen; omega)
          generalize Pm.isField nm.data.toList vl.data.toList = b1 at *
          generalize Pm.alike nm.data.toList nLength = b2 at *
          generalize Pm.alike nm.data.toList nCoding = b3 at *
          generalize Pm.alike nm.data.toList nHost = b4 at *
          generalize (valsOf (fs.take k) nHost).length = hc at *
          have hA := (Below.refl wr.heap.size wr).alloc (Nat.le_refl _) (.cells #[.string nm, .string vl] 31)
          have hBA := bel_of I.out hA
          go_wp2_with fail
          refine (HIF.out _).mono ?_
          rintro e w4 ⟨rfl, hb4⟩
          have hB4 := bel_of hBA hb4
          have f0 := cell_later hb4 (a := ⟨wr.heap.size, 0, none⟩) (v := .string nm) (by simp)
          have fl : wr.heap.size < w4.heap.size := Nat.lt_of_lt_of_le (by simp) hb4.size
          clear HIF hA hBA hb4 hc1 hc2 I
          cases b1
          · have HN : Hid (PO = false) := by unfold Hid; rw [HP.out, H.out, HA.out, HO.out]; rfl
            clear HP H HA HH HO
            go_wp2
            go_ret
            exact ⟨ret_bool HN.out.symm, hB4⟩
          · go_wp2_with fail
            refine (HA1.out _).mono ?_
            rintro e w5 ⟨rfl, hb5⟩
            have hB5 := bel_of hB4 hb5
            have f05 := cell_later hb5 f0
            have fl5 : wr.heap.size < w5.heap.size := Nat.lt_of_lt_of_le fl hb5.size
            clear hB4 hb5 f0 fl
            cases b2
            · go_wp2_with fail
              refine (HA2.out _).mono ?_
              rintro e w6 ⟨rfl, hb6⟩
              have hB6 := bel_of hB5 hb6
              have f06 := cell_later hb6 f05
              have fl6 : wr.heap.size < w6.heap.size := Nat.lt_of_lt_of_le fl5 hb6.size
              clear hB5 hb6 f05 fl5
              cases b3
              · have HN : Hid (fs.all okF = (fs.drop (k + 1)).all okF) := by unfold Hid; rw [H.out, HA.out, HO.out]; rfl
                clear H HA HO
                go_wp2_with fail
                refine (HA3.out _).mono ?_
                rintro e w7 ⟨rfl, hb7⟩
                have hB7 := bel_of hB6 hb7
                clear hB6 hb7 f06 fl6
                cases b4
                · simp only [Bool.false_eq_true, if_false, Nat.add_zero] at HH
                  go_wp2
                  exact ⟨⟨k + 1, by omega, by go_num, by rw [HH.out], HN.out, hB7⟩, by simp [intOf]; omega⟩
                · simp only [if_true] at HH
                  go_wp2
                  exact ⟨⟨k + 1, by omega, by go_num, by rw [HH.out]; go_num, HN.out, hB7⟩, by simp [intOf]; omega⟩
              · have HN : Hid (PO = false) := by unfold Hid; rw [HP.out, H.out, HA.out, HO.out]; rfl
                clear HP H HA HH HO
                go_wp2
                go_ret
                exact ⟨ret_bool HN.out.symm, hB6⟩
            · have HN : Hid (PO = false) := by unfold Hid; rw [HP.out, H.out, HA.out, HO.out]; rfl
              clear HP H HA HH HO
              go_wp2
              go_ret
              exact ⟨ret_bool HN.out.symm, hB5⟩
        · have HE : Hid ((((valsOf (fs.take k) nHost).length : Int) == 1) = PO) := by
            unfold Hid
            rw [HP.out, H.out, List.drop_eq_nil_of_le (by omega), List.take_of_length_le (by omega)]
            rw [List.all_nil, Bool.true_and, Bool.eq_iff_iff, beq_iff_eq, decide_eq_true_iff]; omega
          generalize (valsOf (fs.take k) nHost).length = hc at *
          have hB := I.out
          go_wp2
          go_ret
          exact ⟨ret_bool HE.out, hB⟩
end Go.Proofs.YtaekbmfcnkpelaaGreatDoor
