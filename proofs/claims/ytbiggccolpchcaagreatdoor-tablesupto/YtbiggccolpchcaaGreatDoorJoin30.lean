/- Texts that follow one another, joined. -/
import Derived.Test.YtbiggccolpchcaaGreatDoorJoin22
import Derived.Test.YtbiggccolpchcaaGreatDoorJoin29
/- The reference's table in memory; its questions on patterns, in the program's words. -/
namespace Go.Proofs.YtbiggccolpchcaaGreatDoor
open Go.RowKit

theorem pat_good {s : List UInt8} {p : List (Int × ByteArray)} (h : patternOf s = some p) : p = (pcs s).map pcB ∧ pieces (pcs s) ∧ pcs s ≠ [] ∧ s.length ≤ 64 := by
  have ht : ((pcs s).map fun x => (⟨x.toArray⟩ : ByteArray)).map (·.data.toList) = pcs s := by rw [List.map_map]; simp [Function.comp_def]
  by_cases hg : GoodP s ((pcs s).map fun x => (⟨x.toArray⟩ : ByteArray))
  · have h2 := patternOf_good ht hg
    rw [h] at h2
    obtain ⟨g1, g2, g3⟩ := hg
    exact ⟨Option.some.inj h2, good_pieces ht g3, pcs_ne g2, g1⟩
  · rw [patternOf_bad ht hg] at h; cases h
theorem rIsPat_any (s : ByteArray) (w : World) (hs : s.size ≤ 4398046511104) :
    Calls Tryz.prog 104 #[.string s] w fun r w' => r = .returned (.bool (patternOf s.data.toList).isSome) ∧ Below w.heap.size w w' := by
  refine (rIsPattern_any s w hs).mono ?_
  rintro e w1 ⟨⟨b, ts, rfl, h1, hiff⟩, hb1⟩
  have hsl : s.data.toList.length = s.size := by simp
  refine ⟨?_, hb1⟩
  cases b
  · have hbad : ¬ GoodP s.data.toList ts := fun h => by
      have := hiff.mpr (by unfold GoodP at h; rw [hsl] at h; exact h)
      cases this
    rw [patternOf_bad h1 hbad]; rfl
  · obtain ⟨g1, g2, g3⟩ := hiff.mp rfl
    rw [patternOf_good h1 ⟨by rw [hsl]; exact g1, g2, g3⟩]; rfl
theorem rCommon2 (s t : ByteArray) (p q : List (Int × ByteArray)) (w : World) (hs : patternOf s.data.toList = some p) (ht : patternOf t.data.toList = some q) :
    Calls Tryz.prog 105 #[.string s, .string t] w fun r w' => (∃ b : ByteArray, r = .returned (.string b) ∧ b.toList.isEmpty = !(ovl p q)) ∧ Below w.heap.size w w' := by
  obtain ⟨rfl, a2, a3, a4⟩ := pat_good hs
  obtain ⟨rfl, b2, b3, b4⟩ := pat_good ht
  have hsl : s.data.toList.length = s.size := by simp
  have htl : t.data.toList.length = t.size := by simp
  rw [← common_meet a3 b3 a2 b2]
  exact rCommon_any s t w (by omega) (by omega) a3 b3
theorem rHas2 (s t : ByteArray) (p : List (Int × ByteArray)) (w : World) (hs : patternOf s.data.toList = some p) (hp : Pm.isPath t.data.toList = true) (ht : t.size ≤ 4398046511104) :
    Calls Tryz.prog 108 #[.string s, .string t] w fun r w' => MaPost (matchB p (t.data.toList.drop 1) true []) w.heap.size r w' ∧ Below w.heap.size w w' := by
  obtain ⟨rfl, a2, a3, a4⟩ := pat_good hs
  have hsl : s.data.toList.length = s.size := by simp
  rw [match_hs a2.1 hp]
  exact rHas_any s t w (by omega) ht
/- a table of the reference -/
structure TrAt (gt B : Nat) (es : List Prm) (v : Value) (w : World) : Prop where
  cel : w.cell? ⟨gt, 0, none⟩ = some v
  fre : w.frozen? ⟨gt, 0, none⟩ = false
  row : w.ownsRow B 179 2 v es.length (prCells es)
  own : v.ownBlock ≠ some gt
  few : es.length ≤ 24
  pat : ∀ e ∈ es, (patternOf e.2.data.toList).isSome = true
theorem TrAt.lt {gt B : Nat} {es : List Prm} {v : Value} {w : World} (h : TrAt gt B es v w) : gt < w.heap.size := block_lt_of_cell h.cel
theorem TrAt.below {gt B : Nat} {es : List Prm} {v : Value} {w w' : World} (h : TrAt gt B es v w) (hb : Below w.heap.size w w') : TrAt gt B es v w' :=
  ⟨cell_later hb h.cel, by rw [hb.frozen h.lt]; exact h.fre, owns_below h.row hb, h.own, h.few, h.pat⟩
def refB (e : Prm) : Ent := ⟨e.1, (patternOf e.2.data.toList).getD [], none, 0⟩
set_option maxHeartbeats 400000 in
theorem rNewTable_any (w : World) : Calls Tryz.prog 33 #[] w fun r w' => r = .returned (.pointer (some ⟨w.heap.size, 0, none⟩)) ∧ TrAt w.heap.size w.heap.size [] (.slice none 0 0) w' ∧ Below w.heap.size w w' ∧ w'.heap.size = w.heap.size + 1 := by
  have hb := heap_alloc_new w (.cells #[.slice none 0 0] 176)
  have HT : Hid (TrAt w.heap.size w.heap.size [] (.slice none 0 0) (w.alloc (.cells #[.slice none 0 0] 176)) ∧ Below w.heap.size w (w.alloc (.cells #[.slice none 0 0] 176)) ∧ (w.alloc (.cells #[.slice none 0 0] 176)).heap.size = w.heap.size + 1) :=
    ⟨⟨by rw [Lib.cell_of_heap hb]; rfl, Lib.frozen_of_heap hb 0, World.ownsRow_nil _ _ _ _, (fun h => by cases h), by simp, fun e he => absurd he (by simp)⟩, (Below.refl _ _).alloc (Nat.le_refl _) _, by simp⟩
  clear hb
  go_enter Tryz.func33, Tryz.ntmps33
  go_wp2
  go_ret
  exact ⟨rfl, HT.out.1, HT.out.2.1, HT.out.2.2⟩
/- what Add tells -/
def adE (m s : List UInt8) (es : List Ent) : Int × Int :=
  if Pm.isMethod m = false then (0, 1) else match patternOf s with
    | none => (0, 8)
    | some p => if 24 ≤ es.length then (0, 10) else match hitG m p es 0 with
      | some j => ((j : Nat), 9)
      | none => ((es.length : Nat), 0)
end Go.Proofs.YtbiggccolpchcaaGreatDoor

/- The reference's Add. -/
namespace Go.Proofs.YtbiggccolpchcaaGreatDoor
open Go.RowKit

def RaPost (gt B : Nat) (es : List Prm) (m s : ByteArray) (w : World) (x : Ending) (w' : World) : Prop :=
  x = .returned (.tuple #[.int .i64 (adE m.data.toList s.data.toList (es.map refB)).1, .int .i64 (adE m.data.toList s.data.toList (es.map refB)).2]) ∧ Below B w w' ∧ ((adE m.data.toList s.data.toList (es.map refB)).2 ≠ 0 → Below w.heap.size w w') ∧ ((adE m.data.toList s.data.toList (es.map refB)).2 = 0 → ∃ v', TrAt gt B (es ++ [(m, s)]) v' w')
theorem RaPost.err {gt B : Nat} {es : List Prm} {m s : ByteArray} {w w' : World} {x : Ending} {R : Int × Int} (hR : adE m.data.toList s.data.toList (es.map refB) = R) (h0 : R.2 ≠ 0) (hx : x = .returned (.tuple #[.int .i64 R.1, .int .i64 R.2])) (hb : Below w.heap.size w w') (hB : B ≤ w.heap.size) : RaPost gt B es m s w x w' := by
  unfold RaPost
  rw [hR]
  exact ⟨hx, hb.mono hB, fun _ => hb, fun h => absurd h h0⟩
theorem hitG_step (m : List UInt8) (p : List (Int × ByteArray)) (es : List Prm) (k : Nat) (h : k < es.length) {pe : List (Int × ByteArray)} (hp : patternOf es[k].2.data.toList = some pe) : hitG m p ((es.map refB).drop k) k = if es[k].1.data.toList = m then (if ovl pe p = true then some k else hitG m p ((es.map refB).drop (k + 1)) (k + 1)) else hitG m p ((es.map refB).drop (k + 1)) (k + 1) := by
  rw [← List.getElem_cons_drop (by simpa using h), hitG, List.getElem_map]
  simp only [refB, hp, Option.getD_some]
theorem infoRe : (Tryz.prog.info? 179).map (fun i => (i.zero, i.size, i.bytes)) = some (some (.agg #[.string ⟨#[]⟩, .string ⟨#[]⟩]), 2, 32) := by kernel_rfl
theorem radd_end {gt B : Nat} {es : List Prm} {v : Value} {m s : ByteArray} {w wr w4 : World} {gg cap : Nat} {E : Obj}
    (hT : TrAt gt B es v w) (hbr : Below w.heap.size w wr) (hgrow : (wr.alloc E).grownBy w4 v.ownBlock)
    (hown : w4.ownsRow B 179 2 (.slice (some ⟨gg, 0, none⟩) (es.length + 1) cap) (es.length + 1) (prCells es ++ [.string m, .string s])) (hat : v.ownBlock = some gg ∨ gg = (wr.alloc E).heap.size)
    (hB : B ≤ gt) (hBw : B ≤ w.heap.size) (hf : es.length < 24) (hp : (patternOf s.data.toList).isSome = true) :
    TrAt gt B (es ++ [(m, s)]) (.slice (some ⟨gg, 0, none⟩) (es.length + 1) cap) (w4.setCell ⟨gt, 0, none⟩ (.slice (some ⟨gg, 0, none⟩) (es.length + 1) cap)) ∧ Below B w (w4.setCell ⟨gt, 0, none⟩ (.slice (some ⟨gg, 0, none⟩) (es.length + 1) cap)) ∧ w4.cell? ⟨gt, 0, none⟩ = some v ∧ w4.frozen? ⟨gt, 0, none⟩ = false ∧ gt < w4.heap.size := by
  have hb3 : Below wr.heap.size wr (wr.alloc E) := (Below.refl _ _).alloc (Nat.le_refl _) E
  have hbW := bel_of hbr hb3
  have T3 := hT.below hbW
  have hgl := hT.lt
  have z1 := hbr.size
  have z2 := hb3.size
  have z3 := hgrow.size
  have hgt3 : gt < (wr.alloc E).heap.size := T3.lt
  have hne : gg ≠ gt := by
    rcases hat with h | h
    · intro e; rw [e] at h; exact hT.own h
    · omega
  have hc4 : w4.cell? ⟨gt, 0, none⟩ = some v := cell_grown hgrow T3.cel hT.own
  have hf4 : w4.frozen? ⟨gt, 0, none⟩ = false := by
    have e : w4.heap[gt]? = (wr.alloc E).heap[gt]? := hgrow.block gt hgt3 (fun e => hT.own e.symm)
    have hf3 := T3.fre
    unfold World.frozen? at hf3 ⊢
    rw [e]; exact hf3
  refine ⟨⟨World.cell?_setCell_same _ _ _ hc4, ?_, ?_, ?_, ?_, ?_⟩, ?_, hc4, hf4, by omega⟩
  · rw [World.frozen?_setCell]; exact hf4
  · rw [List.length_append, prCells_snoc]
    exact owns_not hown (by simp [Value.ownBlock, hne]) 0 _
  · simp [Value.ownBlock, hne]
  · rw [List.length_append]; simp; omega
  · intro e he
    rcases List.mem_append.1 he with he | he
    · exact hT.pat e he
    · simp at he; rw [he]; exact hp
  · exact ((hbW.mono hBw).grown hgrow (by omega) (fun k hk => own_ge hT.row k hk)).setCell hB _
set_option maxRecDepth 100000 in
set_option maxHeartbeats 4000000 in
theorem rAdd_any (gt B : Nat) (es : List Prm) (v : Value) (m s : ByteArray) (w : World) (hT : TrAt gt B es v w) (hms : m.size ≤ maxLen) (hs : s.size ≤ 4398046511104) (hB : B ≤ gt) (hBw : B ≤ w.heap.size) :
    Calls Tryz.prog 35 #[.pointer (some ⟨gt, 0, none⟩), .string m, .string s] w (RaPost gt B es m s w) := by
  obtain ⟨i0, hi, hz0, hz1, hz2⟩ := info_parts infoRe
  have HIM := hid (fun W => rIsMethod_any m W hms)
  have HIP := hid (fun W => rIsPat_any s W hs)
  have lt0 := hT.lt
  have cel := hT.cel
  have hfw := hT.few
  have HT := hid hT
  obtain ⟨av, cv, rfl, hen⟩ := pr_at hT.row
  have HE := hid hen
  have hR1 : Pm.isMethod m.data.toList = false → adE m.data.toList s.data.toList (es.map refB) = (0, 1) := fun h => by unfold adE; rw [if_pos h]
  have hR2 : Pm.isMethod m.data.toList = true → adE m.data.toList s.data.toList (es.map refB) = match patternOf s.data.toList with
    | none => (0, 8)
    | some p => if 24 ≤ es.length then (0, 10) else match hitG m.data.toList p (es.map refB) 0 with
      | some j => ((j : Nat), 9)
      | none => ((es.length : Nat), 0) := fun h => by unfold adE; rw [if_neg (by rw [h]; simp), List.length_map]; all_goals (cases patternOf s.data.toList <;> rfl)
  have HR1 := hid hR1
  have HR2 := hid hR2
  clear hR1 hR2 hT hen
  go_enter Tryz.func35, Tryz.ntmps35
  go_wp2_with fail
  refine (HIM.out _).mono ?_
  rintro e w1 ⟨rfl, hw1⟩
  have hw2 := hw1.symm
  subst hw2
  clear hw1 HIM
  cases hmm : Pm.isMethod m.data.toList
  · have HQ := hid (HR1.out hmm)
    clear HIP HR1 HR2 hmm
    go_wp2
    refine bodyPost_ret (v := .tuple #[.int .i64 0, .int .i64 1]) (by simp [results, Tryz.results35, go_sem]) rfl ?_
    exact RaPost.err HQ.out (by simp) rfl (Below.refl _ _) hBw
  · have HR := hid (HR2.out hmm)
    clear HR1 HR2 hmm
    go_wp2_with fail
    refine (HIP.out _).mono ?_
    rintro e w2 ⟨rfl, hB2⟩
    have cel2 := cell_later hB2 cel
    have lt2 : gt < w2.heap.size := Nat.lt_of_lt_of_le lt0 hB2.size
    clear HIP cel
    cases hp : patternOf s.data.toList with
    | none =>
      have hR := HR.out
      rw [hp] at hR
      have HQ := hid hR
      clear HR hR hp
      simp only [Option.isSome_none]
      go_wp2
      refine bodyPost_ret (v := .tuple #[.int .i64 0, .int .i64 8]) (by simp [results, Tryz.results35, go_sem]) rfl ?_
      exact RaPost.err HQ.out (by simp) rfl hB2 hBw
    | some p =>
      have hR := HR.out
      rw [hp] at hR
      simp only at hR
      simp only [Option.isSome_some]
      have HPS : Hid ((patternOf s.data.toList).isSome = true) := by unfold Hid; rw [hp]; rfl
      have HCM := hid (fun (u : ByteArray) (pe : List (Int × ByteArray)) W (hu : patternOf u.data.toList = some pe) => rCommon2 u s pe p W hu hp)
      clear HR hp
      by_cases h24 : 24 ≤ es.length
      · rw [if_pos h24] at hR
        have HQ := hid hR
        have h24i : (24 : Int) ≤ (es.length : Int) := by omega
        clear hR
        go_wp2
        refine bodyPost_ret (v := .tuple #[.int .i64 0, .int .i64 10]) (by simp [results, Tryz.results35, go_sem]) rfl ?_
        exact RaPost.err HQ.out (by simp) rfl hB2 hBw
      · rw [if_neg h24] at hR
        have h24i : ¬ (24 : Int) ≤ (es.length : Int) := by omega
        generalize hRH : hitG m.data.toList p (es.map refB) 0 = RH at hR
        have HQ := hid hR
        have HRH : Hid (hitG m.data.toList p ((es.map refB).drop 0) 0 = RH) := hRH
        clear hR hRH
        go_wp2_with fail
        go_loopw [10] (fun i wr => ∃ k : Nat, k ≤ es.length ∧ i = .int .i64 k ∧ Hid (hitG m.data.toList p ((es.map refB).drop k) k = RH) ∧ Below w.heap.size w wr) (fun i _ => es.length - (intOf i).toNat)
        case atStart => exact ⟨0, Nat.zero_le _, rfl, HRH, hB2⟩
        case round =>
          obtain ⟨k, hk, rfl, HK, hbw⟩ := hrel
          have Tr := HT.out.below hbw
          have cel3 := Tr.cel
          have lt3 := Tr.lt
          by_cases hlt : k < es.length
          · obtain ⟨g, rfl, hg, hc1, hc2⟩ := (HE.out.below hbw) k hlt
            obtain ⟨pe, hpe⟩ := Option.isSome_iff_exists.1 (HT.out.pat _ (List.getElem_mem hlt))
            have hst := HK.out
            rw [hitG_step _ _ _ _ hlt hpe] at hst
            have HST := hid hst
            have HC := hid (HCM.out es[k].2 pe)
            generalize es[k] = en at *
            obtain ⟨em, ep⟩ := en
            simp only at hc1 hc2 hpe HST HC
            have hbe := bne_lists em m
            have HPE := hid hpe
            clear hst HK Tr hpe
            go_wp2_with fail
            refine (HC.out _ HPE.out).mono ?_
            rintro e w3 ⟨⟨b, rfl, hem⟩, hb3⟩
            have hB3 := bel_of hbw hb3
            have cel4 := cell_later hb3 cel3
            have lt4 : gt < w3.heap.size := Nat.lt_of_lt_of_le lt3 hb3.size
            have hc4 := cell_later hb3 hc1
            have hg4 : g < w3.heap.size := Nat.lt_of_lt_of_le hg hb3.size
            by_cases hme : em.data.toList = m.data.toList
            · have hst := HST.out
              rw [if_pos hme] at hst
              rw [decide_eq_true hme] at hbe
              cases hov : ovl pe p
              · rw [hov, if_neg (by simp)] at hst
                have HST2 := hid hst
                rw [hov] at hem
                simp only [Bool.not_false] at hem
                clear HST hst HC
                go_wp2_with fail
                exact ⟨⟨k + 1, by omega, by go_num, HST2, hB3⟩, by simp [intOf]; omega⟩
              · rw [hov, if_pos rfl] at hst
                have HST2 := hid hst
                rw [hov] at hem
                simp only [Bool.not_true] at hem
                clear HST hst HC
                go_wp2_with fail
                refine bodyPost_ret (v := .tuple #[.int .i64 k, .int .i64 9]) (by simp [results, Tryz.results35, go_sem]) rfl ?_
                have hq := HQ.out
                rw [← HST2.out] at hq
                exact RaPost.err hq (by simp) rfl hB3 hBw
            · have hst := HST.out
              rw [if_neg hme] at hst
              have HST2 := hid hst
              rw [decide_eq_false hme] at hbe
              clear HST hst HC
              go_wp2_with fail
              exact ⟨⟨k + 1, by omega, by go_num, HST2, hB3⟩, by simp [intOf]; omega⟩
          · have hke : ¬ (k : Int) < (es.length : Int) := by omega
            have hst := HK.out
            rw [List.drop_eq_nil_of_le (by simp; omega), hitG] at hst
            have hq := HQ.out
            rw [← hst] at hq
            simp only at hq
            have HQ2 := hid hq
            have ow3 := Tr.row
            have fre3 := Tr.fre
            have hnown := Tr.own
            have hBr : B ≤ wr.heap.size := by have := hbw.size; omega
            have hk24 : es.length < 24 := by omega
            clear HK hst hq HQ HCM Tr
            go_wp2_with (at_builtin; refine wpList_append_lies _ rfl _ _ 174 rfl B 179 i0 _ 2 32 Tryz.underlying174 hi hz0 hz1 hz2 rfl (by omega) (.slice av es.length cv) es.length (prCells es) rfl (ow3.alloc _) ⟨wr.heap.size, 0, none⟩ 1 1 [.string m, .string s] rfl rfl (World.news_of_block (cs := #[.string m, .string s]) (t := 179) (fr := (0, 0)) (heap_alloc_new wr _)) (by simp [Value.oneCell']) (by omega) (by unfold maxLen; omega) (by omega) (by simp; omega) _ rfl ?_)
            intro gg cap wn hown hgrow hat hltn
            obtain ⟨r1, r2, r3, r4, r5⟩ := radd_end HT.out hbw hgrow hown (hat.imp_right (fun h => by rw [h]; simp)) hB hBw hk24 HPS.out
            have HR1 := hid r1
            have HR2 := hid r2
            have r6 := r1.cel
            clear r1 r2 hown hgrow
            go_wp2_with fail
            refine bodyPost_ret (v := .tuple #[.int .i64 es.length, .int .i64 0]) (by simp [results, Tryz.results35, go_sem]) rfl ?_
            unfold RaPost
            rw [HQ2.out]
            exact ⟨rfl, HR2.out, fun h => absurd rfl h, fun _ => ⟨_, HR1.out⟩⟩
end Go.Proofs.YtbiggccolpchcaaGreatDoor

/- The reference's Add: all blocks but the table's own cell and its list stay. -/
namespace Go.Proofs.YtbiggccolpchcaaGreatDoor
open Go.RowKit

def RaPost2 (gt B : Nat) (es : List Prm) (v : Value) (m s : ByteArray) (w : World) (x : Ending) (w' : World) : Prop :=
  x = .returned (.tuple #[.int .i64 (adE m.data.toList s.data.toList (es.map refB)).1, .int .i64 (adE m.data.toList s.data.toList (es.map refB)).2]) ∧ ((adE m.data.toList s.data.toList (es.map refB)).2 ≠ 0 → Below w.heap.size w w') ∧ ((adE m.data.toList s.data.toList (es.map refB)).2 = 0 → Below B w w' ∧ Kept gt v w w' ∧ ∃ v', TrAt gt B (es ++ [(m, s)]) v' w' ∧ ∀ r, v'.ownBlock = some r → v.ownBlock = some r ∨ w.heap.size ≤ r)
theorem RaPost2.err {gt B : Nat} {es : List Prm} {v : Value} {m s : ByteArray} {w w' : World} {x : Ending} {R : Int × Int} (hR : adE m.data.toList s.data.toList (es.map refB) = R) (h0 : R.2 ≠ 0) (hx : x = .returned (.tuple #[.int .i64 R.1, .int .i64 R.2])) (hb : Below w.heap.size w w') (_ : B ≤ w.heap.size) : RaPost2 gt B es v m s w x w' := by
  unfold RaPost2
  rw [hR]
  exact ⟨hx, fun _ => hb, fun h => absurd h h0⟩
theorem radd_kept {gt : Nat} {v : Value} {w wr w4 : World} {gg n cap : Nat} {E : Obj}
    (hbr : Below w.heap.size w wr) (hgrow : (wr.alloc E).grownBy w4 v.ownBlock) (hat : v.ownBlock = some gg ∨ gg = (wr.alloc E).heap.size) :
    Kept gt v w (w4.setCell ⟨gt, 0, none⟩ (.slice (some ⟨gg, 0, none⟩) n cap)) ∧ ∀ r, (Value.slice (some ⟨gg, 0, none⟩) n cap).ownBlock = some r → v.ownBlock = some r ∨ w.heap.size ≤ r := by
  have hb3 : Below wr.heap.size wr (wr.alloc E) := (Below.refl _ _).alloc (Nat.le_refl _) E
  have hbW := bel_of hbr hb3
  refine ⟨fun g hg h1 h2 => ?_, fun r hr => ?_⟩
  · rw [heap_setCell_other w4 ⟨gt, 0, none⟩ g _ h1, hgrow.block g (Nat.lt_of_lt_of_le hg hbW.size) (fun e => h2 e.symm), hbW.block g hg]
  · simp only [Value.ownBlock, Option.some.injEq] at hr
    subst hr
    rcases hat with h | h
    · exact .inl h
    · right; have := hbW.size; omega
set_option maxRecDepth 100000 in
set_option maxHeartbeats 4000000 in
theorem rAdd_kept (gt B : Nat) (es : List Prm) (v : Value) (m s : ByteArray) (w : World) (hT : TrAt gt B es v w) (hms : m.size ≤ maxLen) (hs : s.size ≤ 4398046511104) (hB : B ≤ gt) (hBw : B ≤ w.heap.size) :
    Calls Tryz.prog 35 #[.pointer (some ⟨gt, 0, none⟩), .string m, .string s] w (RaPost2 gt B es v m s w) := by
  obtain ⟨i0, hi, hz0, hz1, hz2⟩ := info_parts infoRe
  have HIM := hid (fun W => rIsMethod_any m W hms)
  have HIP := hid (fun W => rIsPat_any s W hs)
  have lt0 := hT.lt
  have cel := hT.cel
  have hfw := hT.few
  have HT := hid hT
  obtain ⟨av, cv, rfl, hen⟩ := pr_at hT.row
  have HE := hid hen
  have hR1 : Pm.isMethod m.data.toList = false → adE m.data.toList s.data.toList (es.map refB) = (0, 1) := fun h => by unfold adE; rw [if_pos h]
  have hR2 : Pm.isMethod m.data.toList = true → adE m.data.toList s.data.toList (es.map refB) = match patternOf s.data.toList with
    | none => (0, 8)
    | some p => if 24 ≤ es.length then (0, 10) else match hitG m.data.toList p (es.map refB) 0 with
      | some j => ((j : Nat), 9)
      | none => ((es.length : Nat), 0) := fun h => by unfold adE; rw [if_neg (by rw [h]; simp), List.length_map]; all_goals (cases patternOf s.data.toList <;> rfl)
  have HR1 := hid hR1
  have HR2 := hid hR2
  clear hR1 hR2 hT hen
  go_enter Tryz.func35, Tryz.ntmps35
  go_wp2_with fail
  refine (HIM.out _).mono ?_
  rintro e w1 ⟨rfl, hw1⟩
  have hw2 := hw1.symm
  subst hw2
  clear hw1 HIM
  cases hmm : Pm.isMethod m.data.toList
  · have HQ := hid (HR1.out hmm)
    clear HIP HR1 HR2 hmm
    go_wp2
    refine bodyPost_ret (v := .tuple #[.int .i64 0, .int .i64 1]) (by simp [results, Tryz.results35, go_sem]) rfl ?_
    exact RaPost2.err HQ.out (by simp) rfl (Below.refl _ _) hBw
  · have HR := hid (HR2.out hmm)
    clear HR1 HR2 hmm
    go_wp2_with fail
    refine (HIP.out _).mono ?_
    rintro e w2 ⟨rfl, hB2⟩
    have cel2 := cell_later hB2 cel
    have lt2 : gt < w2.heap.size := Nat.lt_of_lt_of_le lt0 hB2.size
    clear HIP cel
    cases hp : patternOf s.data.toList with
    | none =>
      have hR := HR.out
      rw [hp] at hR
      have HQ := hid hR
      clear HR hR hp
      simp only [Option.isSome_none]
      go_wp2
      refine bodyPost_ret (v := .tuple #[.int .i64 0, .int .i64 8]) (by simp [results, Tryz.results35, go_sem]) rfl ?_
      exact RaPost2.err HQ.out (by simp) rfl hB2 hBw
    | some p =>
      have hR := HR.out
      rw [hp] at hR
      simp only at hR
      simp only [Option.isSome_some]
      have HPS : Hid ((patternOf s.data.toList).isSome = true) := by unfold Hid; rw [hp]; rfl
      have HCM := hid (fun (u : ByteArray) (pe : List (Int × ByteArray)) W (hu : patternOf u.data.toList = some pe) => rCommon2 u s pe p W hu hp)
      clear HR hp
      by_cases h24 : 24 ≤ es.length
      · rw [if_pos h24] at hR
        have HQ := hid hR
        have h24i : (24 : Int) ≤ (es.length : Int) := by omega
        clear hR
        go_wp2
        refine bodyPost_ret (v := .tuple #[.int .i64 0, .int .i64 10]) (by simp [results, Tryz.results35, go_sem]) rfl ?_
        exact RaPost2.err HQ.out (by simp) rfl hB2 hBw
      · rw [if_neg h24] at hR
        have h24i : ¬ (24 : Int) ≤ (es.length : Int) := by omega
        generalize hRH : hitG m.data.toList p (es.map refB) 0 = RH at hR
        have HQ := hid hR
        have HRH : Hid (hitG m.data.toList p ((es.map refB).drop 0) 0 = RH) := hRH
        clear hR hRH
        go_wp2_with fail
        go_loopw [10] (fun i wr => ∃ k : Nat, k ≤ es.length ∧ i = .int .i64 k ∧ Hid (hitG m.data.toList p ((es.map refB).drop k) k = RH) ∧ Below w.heap.size w wr) (fun i _ => es.length - (intOf i).toNat)
        case atStart => exact ⟨0, Nat.zero_le _, rfl, HRH, hB2⟩
        case round =>
          obtain ⟨k, hk, rfl, HK, hbw⟩ := hrel
          have Tr := HT.out.below hbw
          have cel3 := Tr.cel
          have lt3 := Tr.lt
          by_cases hlt : k < es.length
          · obtain ⟨g, rfl, hg, hc1, hc2⟩ := (HE.out.below hbw) k hlt
            obtain ⟨pe, hpe⟩ := Option.isSome_iff_exists.1 (HT.out.pat _ (List.getElem_mem hlt))
            have hst := HK.out
            rw [hitG_step _ _ _ _ hlt hpe] at hst
            have HST := hid hst
            have HC := hid (HCM.out es[k].2 pe)
            generalize es[k] = en at *
            obtain ⟨em, ep⟩ := en
            simp only at hc1 hc2 hpe HST HC
            have hbe := bne_lists em m
            have HPE := hid hpe
            clear hst HK Tr hpe
            go_wp2_with fail
            refine (HC.out _ HPE.out).mono ?_
            rintro e w3 ⟨⟨b, rfl, hem⟩, hb3⟩
            have hB3 := bel_of hbw hb3
            have cel4 := cell_later hb3 cel3
            have lt4 : gt < w3.heap.size := Nat.lt_of_lt_of_le lt3 hb3.size
            have hc4 := cell_later hb3 hc1
            have hg4 : g < w3.heap.size := Nat.lt_of_lt_of_le hg hb3.size
            by_cases hme : em.data.toList = m.data.toList
            · have hst := HST.out
              rw [if_pos hme] at hst
              rw [decide_eq_true hme] at hbe
              cases hov : ovl pe p
              · rw [hov, if_neg (by simp)] at hst
                have HST2 := hid hst
                rw [hov] at hem
                simp only [Bool.not_false] at hem
                clear HST hst HC
                go_wp2_with fail
                exact ⟨⟨k + 1, by omega, by go_num, HST2, hB3⟩, by simp [intOf]; omega⟩
              · rw [hov, if_pos rfl] at hst
                have HST2 := hid hst
                rw [hov] at hem
                simp only [Bool.not_true] at hem
                clear HST hst HC
                go_wp2_with fail
                refine bodyPost_ret (v := .tuple #[.int .i64 k, .int .i64 9]) (by simp [results, Tryz.results35, go_sem]) rfl ?_
                have hq := HQ.out
                rw [← HST2.out] at hq
                exact RaPost2.err hq (by simp) rfl hB3 hBw
            · have hst := HST.out
              rw [if_neg hme] at hst
              have HST2 := hid hst
              rw [decide_eq_false hme] at hbe
              clear HST hst HC
              go_wp2_with fail
              exact ⟨⟨k + 1, by omega, by go_num, HST2, hB3⟩, by simp [intOf]; omega⟩
          · have hke : ¬ (k : Int) < (es.length : Int) := by omega
            have hst := HK.out
            rw [List.drop_eq_nil_of_le (by simp; omega), hitG] at hst
            have hq := HQ.out
            rw [← hst] at hq
            simp only at hq
            have HQ2 := hid hq
            have ow3 := Tr.row
            have fre3 := Tr.fre
            have hnown := Tr.own
            have hBr : B ≤ wr.heap.size := by have := hbw.size; omega
            have hk24 : es.length < 24 := by omega
            clear HK hst hq HQ HCM Tr
            go_wp2_with (at_builtin; refine wpList_append_lies _ rfl _ _ 174 rfl B 179 i0 _ 2 32 Tryz.underlying174 hi hz0 hz1 hz2 rfl (by omega) (.slice av es.length cv) es.length (prCells es) rfl (ow3.alloc _) ⟨wr.heap.size, 0, none⟩ 1 1 [.string m, .string s] rfl rfl (World.news_of_block (cs := #[.string m, .string s]) (t := 179) (fr := (0, 0)) (heap_alloc_new wr _)) (by simp [Value.oneCell']) (by omega) (by unfold maxLen; omega) (by omega) (by simp; omega) _ rfl ?_)
            intro gg cap wn hown hgrow hat hltn
            obtain ⟨q1, q2⟩ := radd_kept (gt := gt) (n := es.length + 1) (cap := cap) hbw hgrow (hat.imp_right (fun h => by rw [h]; simp))
            obtain ⟨r1, r2, r3, r4, r5⟩ := radd_end HT.out hbw hgrow hown (hat.imp_right (fun h => by rw [h]; simp)) hB hBw hk24 HPS.out
            have HR1 := hid r1
            have HR2 := hid r2
            have HQ3 := hid q1
            have HQ4 := hid q2
            clear q1 q2
            have r6 := r1.cel
            clear r1 r2 hown hgrow
            go_wp2_with fail
            refine bodyPost_ret (v := .tuple #[.int .i64 es.length, .int .i64 0]) (by simp [results, Tryz.results35, go_sem]) rfl ?_
            unfold RaPost2
            rw [HQ2.out]
            exact ⟨rfl, fun h => absurd rfl h, fun _ => ⟨HR2.out, HQ3.out, _, HR1.out, HQ4.out⟩⟩
end Go.Proofs.YtbiggccolpchcaaGreatDoor
