/- Texts that follow one another, joined. -/
import Derived.Test.YtjfllmogiknneaaGreatDoorJoin22
import Derived.Test.YtjfllmogiknneaaGreatDoorJoin29
/- The reference's table in memory; its questions on patterns, in the program's words. -/
namespace Go.Proofs.YtjfllmogiknneaaGreatDoor
open Go.RowKit

theorem pat_good {s : List UInt8} {p : List (Int × ByteArray)} (h : patternOf s = some p) : p = (pcs s).map pcB ∧ pieces (pcs s) ∧ pcs s ≠ [] ∧ s.length ≤ 64 := by
  have ht : ((pcs s).map fun x => (⟨x.toArray⟩ : ByteArray)).map (·.data.toList) = pcs s := by rw [List.map_map]; simp [Function.comp_def]
  by_cases hg : GoodP s ((pcs s).map fun x => (⟨x.toArray⟩ : ByteArray))
  · have h2 := patternOf_good ht hg
    rw [h] at h2
    obtain ⟨g1, g2, g3⟩ := hg
    exact ⟨Option.some.inj h2, good_pieces ht g3, pcs_ne g2, g1⟩
  · rw [patternOf_bad ht hg] at h; cases h
theorem rIsPat_any (s : ByteArray) (w : World) (hs : s.size ≤ 4398046511104) :
    Calls Tryz.prog 68 #[.string s] w fun r w' => r = .returned (.bool (patternOf s.data.toList).isSome) ∧ Below w.heap.size w w' := by
  refine (rIsPattern_any s w hs).mono ?_
  rintro e w1 ⟨⟨b, ts, rfl, h1, hiff⟩, hb1⟩
  have hsl : s.data.toList.length = s.size := by simp
  refine ⟨?_, hb1⟩
  cases b
  · have hbad : ¬ GoodP s.data.toList ts := fun h => by
      have := hiff.mpr (by unfold GoodP at h; rw [hsl] at h; exact h)
      cases this
    rw [patternOf_bad h1 hbad]; rfl
  · obtain ⟨g1, g2, g3⟩ := hiff.mp rfl
    rw [patternOf_good h1 ⟨by rw [hsl]; exact g1, g2, g3⟩]; rfl
theorem rCommon2 (s t : ByteArray) (p q : List (Int × ByteArray)) (w : World) (hs : patternOf s.data.toList = some p) (ht : patternOf t.data.toList = some q) :
    Calls Tryz.prog 69 #[.string s, .string t] w fun r w' => (∃ b : ByteArray, r = .returned (.string b) ∧ b.toList.isEmpty = !(ovl p q)) ∧ Below w.heap.size w w' := by
  obtain ⟨rfl, a2, a3, a4⟩ := pat_good hs
  obtain ⟨rfl, b2, b3, b4⟩ := pat_good ht
  have hsl : s.data.toList.length = s.size := by simp
  have htl : t.data.toList.length = t.size := by simp
  rw [← common_meet a3 b3 a2 b2]
  exact rCommon_any s t w (by omega) (by omega) a3 b3
theorem rHas2 (s t : ByteArray) (p : List (Int × ByteArray)) (w : World) (hs : patternOf s.data.toList = some p) (hp : Pm.isPath t.data.toList = true) (ht : t.size ≤ 4398046511104) :
    Calls Tryz.prog 88 #[.string s, .string t] w fun r w' => MaPost (matchB p (t.data.toList.drop 1) true []) w.heap.size r w' ∧ Below w.heap.size w w' := by
  obtain ⟨rfl, a2, a3, a4⟩ := pat_good hs
  have hsl : s.data.toList.length = s.size := by simp
  rw [match_hs a2.1 hp]
  exact rHas_any s t w (by omega) ht
/- a table of the reference -/
structure TrAt (gt B : Nat) (es : List Prm) (v : Value) (w : World) : Prop where
  cel : w.cell? ⟨gt, 0, none⟩ = some v
  fre : w.frozen? ⟨gt, 0, none⟩ = false
  row : w.ownsRow B 123 2 v es.length (prCells es)
  own : v.ownBlock ≠ some gt
  few : es.length ≤ 24
  pat : ∀ e ∈ es, (patternOf e.2.data.toList).isSome = true
theorem TrAt.lt {gt B : Nat} {es : List Prm} {v : Value} {w : World} (h : TrAt gt B es v w) : gt < w.heap.size := block_lt_of_cell h.cel
theorem TrAt.below {gt B : Nat} {es : List Prm} {v : Value} {w w' : World} (h : TrAt gt B es v w) (hb : Below w.heap.size w w') : TrAt gt B es v w' :=
  ⟨cell_later hb h.cel, by rw [hb.frozen h.lt]; exact h.fre, owns_below h.row hb, h.own, h.few, h.pat⟩
def refB (e : Prm) : Ent := ⟨e.1, (patternOf e.2.data.toList).getD [], none, 0⟩
set_option maxHeartbeats 400000 in
theorem rNewTable_any (w : World) : Calls Tryz.prog 40 #[] w fun r w' => r = .returned (.pointer (some ⟨w.heap.size, 0, none⟩)) ∧ TrAt w.heap.size w.heap.size [] (.slice none 0 0) w' ∧ Below w.heap.size w w' ∧ w'.heap.size = w.heap.size + 1 := by
  have hb := heap_alloc_new w (.cells #[.slice none 0 0] 120)
  have HT : Hid (TrAt w.heap.size w.heap.size [] (.slice none 0 0) (w.alloc (.cells #[.slice none 0 0] 120)) ∧ Below w.heap.size w (w.alloc (.cells #[.slice none 0 0] 120)) ∧ (w.alloc (.cells #[.slice none 0 0] 120)).heap.size = w.heap.size + 1) :=
    ⟨⟨by rw [Lib.cell_of_heap hb]; rfl, Lib.frozen_of_heap hb 0, World.ownsRow_nil _ _ _ _, (fun h => by cases h), by simp, fun e he => absurd he (by simp)⟩, (Below.refl _ _).alloc (Nat.le_refl _) _, by simp⟩
  clear hb
  go_enter Tryz.func40, Tryz.ntmps40
  go_wp2
  go_ret
  exact ⟨rfl, HT.out.1, HT.out.2.1, HT.out.2.2⟩
/- what Add tells -/
def adE (m s : List UInt8) (es : List Ent) : Int × Int :=
  if Pm.isMethod m = false then (0, 1) else match patternOf s with
    | none => (0, 8)
    | some p => if 24 ≤ es.length then (0, 10) else match hitG m p es 0 with
      | some j => ((j : Nat), 9)
      | none => ((es.length : Nat), 0)
end Go.Proofs.YtjfllmogiknneaaGreatDoor

/- The reference's Add. -/
namespace Go.Proofs.YtjfllmogiknneaaGreatDoor
open Go.RowKit

def RaPost (gt B : Nat) (es : List Prm) (m s : ByteArray) (w : World) (x : Ending) (w' : World) : Prop :=
  x = .returned (.tuple #[.int .i64 (adE m.data.toList s.data.toList (es.map refB)).1, .int .i64 (adE m.data.toList s.data.toList (es.map refB)).2]) ∧ Below B w w' ∧ ((adE m.data.toList s.data.toList (es.map refB)).2 ≠ 0 → Below w.heap.size w w') ∧ ((adE m.data.toList s.data.toList (es.map refB)).2 = 0 → ∃ v', TrAt gt B (es ++ [(m, s)]) v' w')
theorem RaPost.err {gt B : Nat} {es : List Prm} {m s : ByteArray} {w w' : World} {x : Ending} {R : Int × Int} (hR : adE m.data.toList s.data.toList (es.map refB) = R) (h0 : R.2 ≠ 0) (hx : x = .returned (.tuple #[.int .i64 R.1, .int .i64 R.2])) (hb : Below w.heap.size w w') (hB : B ≤ w.heap.size) : RaPost gt B es m s w x w' := by
  unfold RaPost
  rw [hR]
  exact ⟨hx, hb.mono hB, fun _ => hb, fun h => absurd h h0⟩
theorem hitG_step (m : List UInt8) (p : List (Int × ByteArray)) (es : List Prm) (k : Nat) (h : k < es.length) {pe : List (Int × ByteArray)} (hp : patternOf es[k].2.data.toList = some pe) : hitG m p ((es.map refB).drop k) k = if es[k].1.data.toList = m then (if ovl pe p = true then some k else hitG m p ((es.map refB).drop (k + 1)) (k + 1)) else hitG m p ((es.map refB).drop (k + 1)) (k + 1) := by
  rw [← List.getElem_cons_drop (by simpa using h), hitG, List.getElem_map]
  simp only [refB, hp, Option.getD_some]
theorem infoRe : (Tryz.prog.info? 123).map (fun i => (i.zero, i.size, i.bytes)) = some (some (.agg #[.string ⟨#[]⟩, .string ⟨#[]⟩]), 2, 32) := by kernel_rfl
theorem radd_end {gt B : Nat} {es : List Prm} {v : Value} {m s : ByteArray} {w wr w4 : World} {gg cap : Nat} {E : Obj}
    (hT : TrAt gt B es v w) (hbr : Below w.heap.size w wr) (hgrow : (wr.alloc E).grownBy w4 v.ownBlock)
    (hown : w4.ownsRow B 123 2 (.slice (some ⟨gg, 0, none⟩) (es.length + 1) cap) (es.length + 1) (prCells es ++ [.string m, .string s])) (hat : v.ownBlock = some gg ∨ gg = (wr.alloc E).heap.size)
    (hB : B ≤ gt) (hBw : B ≤ w.heap.size) (hf : es.length < 24) (hp : (patternOf s.data.toList).isSome = true) :
    TrAt gt B (es ++ [(m, s)]) (.slice (some ⟨gg, 0, none⟩) (es.length + 1) cap) (w4.setCell ⟨gt, 0, none⟩ (.slice (some ⟨gg, 0, none⟩) (es.length + 1) cap)) ∧ Below B w (w4.setCell ⟨gt, 0, none⟩ (.slice (some ⟨gg, 0, none⟩) (es.length + 1) cap)) ∧ w4.cell? ⟨gt, 0, none⟩ = some v ∧ w4.frozen? ⟨gt, 0, none⟩ = false ∧ gt < w4.heap.size := by
  have hb3 : Below wr.heap.size wr (wr.alloc E) := (Below.refl _ _).alloc (Nat.le_refl _) E
  have hbW := bel_of hbr hb3
  have T3 := hT.below hbW
  have hgl := hT.lt
  have z1 := hbr.size
  have z2 := hb3.size
  have z3 := hgrow.size
  have hgt3 : gt < (wr.alloc E).heap.size := T3.lt
  have hne : gg ≠ gt := by
    rcases hat with h | h
    · intro e; rw [e] at h; exact hT.own h
    · omega
  have hc4 : w4.cell? ⟨gt, 0, none⟩ = some v := cell_grown hgrow T3.cel hT.own
  have hf4 : w4.frozen? ⟨gt, 0, none⟩ = false := by
    have e : w4.heap[gt]? = (wr.alloc E).heap[gt]? := hgrow.block gt hgt3 (fun e => hT.own e.symm)
    have hf3 := T3.fre
    unfold World.frozen? at hf3 ⊢
    rw [e]; exact hf3
  refine ⟨⟨World.cell?_setCell_same _ _ _ hc4, ?_, ?_, ?_, ?_, ?_⟩, ?_, hc4, hf4, by omega⟩
  · rw [World.frozen?_setCell]; exact hf4
  · rw [List.length_append, prCells_snoc]
    exact owns_not hown (by simp [Value.ownBlock, hne]) 0 _
  · simp [Value.ownBlock, hne]
  · rw [List.length_append]; simp; omega
  · intro e he
    rcases List.mem_append.1 he with he | he
    · exact hT.pat e he
    · simp at he; rw [he]; exact hp
  · exact ((hbW.mono hBw).grown hgrow (by omega) (fun k hk => own_ge hT.row k hk)).setCell hB _
set_option maxRecDepth 100000 in
set_option maxHeartbeats 4000000 in
theorem rAdd_any (gt B : Nat) (es : List Prm) (v : Value) (m s : ByteArray) (w : World) (hT : TrAt gt B es v w) (hms : m.size ≤ maxLen) (hs : s.size ≤ 4398046511104) (hB : B ≤ gt) (hBw : B ≤ w.heap.size) :
    Calls Tryz.prog 42 #[.pointer (some ⟨gt, 0, none⟩), .string m, .string s] w (RaPost gt B es m s w) := by
  obtain ⟨i0, hi, hz0, hz1, hz2⟩ := info_parts infoRe
  have HIM := hid (fun W => rIsMethod_any m W hms)
  have HIP := hid (fun W => rIsPat_any s W hs)
  have lt0 := hT.lt
  have cel := hT.cel
  have hfw := hT.few
  have HT := hid hT
  obtain ⟨av, cv, rfl, hen⟩ := pr_at hT.row
  have HE := hid hen
  have hR1 : Pm.isMethod m.data.toList = false → adE m.data.toList s.data.toList (es.map refB) = (0, 1) := fun h => by unfold adE; rw [if_pos h]
  have hR2 : Pm.isMethod m.data.toList = true → adE m.data.toList s.data.toList (es.map refB) = match patternOf s.data.toList with
    | none => (0, 8)
    | some p => if 24 ≤ es.length then (0, 10) else match hitG m.data.toList p (es.map refB) 0 with
      | some j => ((j : Nat), 9)
      | none => ((es.length : Nat), 0) := fun h => by unfold adE; rw [if_neg (by rw [h]; simp), List.length_map]; all_goals (cases patternOf s.data.toList <;> rfl)
  have HR1 := hid hR1
  have HR2 := hid hR2
  clear hR1 hR2 hT hen
  go_enter Tryz.func42, Tryz.ntmps42
  go_wp2_with fail
  refine (HIM.out _).mono ?_
  rintro e w1 ⟨rfl, hw1⟩
  have hw2 := hw1.symm
  subst hw2
  clear hw1 HIM
  cases hmm : Pm.isMethod m.data.toList
  · have HQ := hid (HR1.out hmm)
    clear HIP HR1 HR2 hmm
    go_wp2
    refine bodyPost_ret (v := .tuple #[.int .i64 0, .int .i64 1]) (by simp [results, Tryz.results42, go_sem]) rfl ?_
    exact RaPost.err HQ.out (by simp) rfl (Below.refl _ _) hBw
  · have HR := hid (HR2.out hmm)
    clear HR1 HR2 hmm
    go_wp2_with fail
    refine (HIP.out _).mono ?_
    rintro e w2 ⟨rfl, hB2⟩
    have cel2 := cell_later hB2 cel
    have lt2 : gt < w2.heap.size := Nat.lt_of_lt_of_le lt0 hB2.size
    clear HIP cel
    cases hp : patternOf s.data.toList with
    | none =>
      have hR := HR.out
      rw [hp] at hR
      have HQ := hid hR
      clear HR hR hp
      simp only [Option.isSome_none]
      go_wp2
      refine bodyPost_ret (v := .tuple #[.int .i64 0, .int .i64 8]) (by simp [results, Tryz.results42, go_sem]) rfl ?_
      exact RaPost.err HQ.out (by simp) rfl hB2 hBw
    | some p =>
      have hR := HR.out
      rw [hp] at hR
      simp only at hR
      simp only [Option.isSome_some]
      have HPS : Hid ((patternOf s.data.toList).isSome = true) := by unfold Hid; rw [hp]; rfl
      have HCM := hid (fun (u : ByteArray) (pe : List (Int × ByteArray)) W (hu : patternOf u.data.toList = some pe) => rCommon2 u s pe p W hu hp)
      clear HR hp
      by_cases h24 : 24 ≤ es.length
      · rw [if_pos h24] at hR
        have HQ := hid hR
        have h24i : (24 : Int) ≤ (es.length : Int) := by omega
        clear hR
        go_wp2
        refine bodyPost_ret (v := .tuple #[.int .i64 0, .int .i64 10]) (by simp [results, Tryz.results42, go_sem]) rfl ?_
        exact RaPost.err HQ.out (by simp) rfl hB2 hBw
      · rw [if_neg h24] at hR
        have h24i : ¬ (24 : Int) ≤ (es.length : Int) := by omega
        generalize hRH : hitG m.data.toList p (es.map refB) 0 = RH at hR
        have HQ := hid hR
        have HRH : Hid (hitG m.data.toList p ((es.map refB).drop 0) 0 = RH) := hRH
        clear hR hRH
        go_wp2_with fail
        go_loopw [10] (fun i wr => ∃ k : Nat, k ≤ es.length ∧ i = .int .i64 k ∧ Hid (hitG m.data.toList p ((es.map refB).drop k) k = RH) ∧ Below w.heap.size w wr) (fun i _ => es.length - (intOf i).toNat)
        case atStart => exact ⟨0, Nat.zero_le _, rfl, HRH, hB2⟩
        case round =>
          obtain ⟨k, hk, rfl, HK, hbw⟩ := hrel
          have Tr := HT.out.below hbw
          have cel3 := Tr.cel
          have lt3 := Tr.lt
          by_cases hlt : k < es.length
          · obtain ⟨g, rfl, hg, hc1, hc2⟩ := (HE.out.below hbw) k hlt
            obtain ⟨pe, hpe⟩ := Option.isSome_iff_exists.1 (HT.out.pat _ (List.getElem_mem hlt))
            have hst := HK.out
            rw [hitG_step _ _ _ _ hlt hpe] at hst
            have HST := hid hst
            have HC := hid (HCM.out es[k].2 pe)
            generalize es[k] = en at *
            obtain ⟨em, ep⟩ := en
            simp only at hc1 hc2 hpe HST HC
            have hbe := bne_lists em m
            have HPE := hid hpe
            clear hst HK Tr hpe
            go_wp2_with fail
            refine (HC.out _ HPE.out).mono ?_
            rintro e w3 ⟨⟨b, rfl, hem⟩, hb3⟩
            have hB3 := bel_of hbw hb3
            have cel4 := cell_later hb3 cel3
            have lt4 : gt < w3.heap.size := Nat.lt_of_lt_of_le lt3 hb3.size
            have hc4 := cell_later hb3 hc1
            have hg4 : g < w3.heap.size := Nat.lt_of_lt_of_le hg hb3.size
            by_cases hme : em.data.toList = m.data.toList
            · have hst := HST.out
              rw [if_pos hme] at hst
              rw [decide_eq_true hme] at hbe
              cases hov : ovl pe p
              · rw [hov, if_neg (by simp)] at hst
                have HST2 := hid hst
                rw [hov] at hem
                simp only [Bool.not_false] at hem
                clear HST hst HC
                go_wp2_with fail
                exact ⟨⟨k + 1, by omega, by go_num, HST2, hB3⟩, by simp [intOf]; omega⟩
              · rw [hov, if_pos rfl] at hst
                have HST2 := hid hst
                rw [hov] at hem
                simp only [Bool.not_true] at hem
                clear HST hst HC
                go_wp2_with fail
                refine bodyPost_ret (v := .tuple #[.int .i64 k, .int .i64 9]) (by simp [results, Tryz.results42, go_sem]) rfl ?_
                have hq := HQ.out
                rw [← HST2.out] at hq
                exact RaPost.err hq (by simp) rfl hB3 hBw
            · have hst := HST.out
              rw [if_neg hme] at hst
              have HST2 := hid hst
              rw [decide_eq_false hme] at hbe
              clear HST hst HC
              go_wp2_with fail
              exact ⟨⟨k + 1, by omega, by go_num, HST2, hB3⟩, by simp [intOf]; omega⟩
          · have hke : ¬ (k : Int) < (es.length : Int) := by omega
            have hst := HK.out
            rw [List.drop_eq_nil_of_le (by simp; omega), hitG] at hst
            have hq := HQ.out
            rw [← hst] at hq
            simp only at hq
            have HQ2 := hid hq
            have ow3 := Tr.row
            have fre3 := Tr.fre
            have hnown := Tr.own
            have hBr : B ≤ wr.heap.size := by have := hbw.size; omega
            have hk24 : es.length < 24 := by omega
            clear HK hst hq HQ HCM Tr
            go_wp2_with (at_builtin; refine wpList_append_lies _ rfl _ _ 118 rfl B 123 i0 _ 2 32 Tryz.underlying118 hi hz0 hz1 hz2 rfl (by omega) (.slice av es.length cv) es.length (prCells es) rfl (ow3.alloc _) ⟨wr.heap.size, 0, none⟩ 1 1 [.string m, .string s] rfl rfl (World.news_of_block (cs := #[.string m, .string s]) (t := 123) (fr := (0, 0)) (heap_alloc_new wr _)) (by simp [Value.oneCell']) (by omega) (by unfold maxLen; omega) (by omega) (by simp; omega) _ rfl ?_)
            intro gg cap wn hown hgrow hat hltn
            obtain ⟨r1, r2, r3, r4, r5⟩ := radd_end HT.out hbw hgrow hown (hat.imp_right (fun h => by rw [h]; simp)) hB hBw hk24 HPS.out
            have HR1 := hid r1
            have HR2 := hid r2
            have r6 := r1.cel
            clear r1 r2 hown hgrow
            go_wp2_with fail
            refine bodyPost_ret (v := .tuple #[.int .i64 es.length, .int .i64 0]) (by simp [results, Tryz.results42, go_sem]) rfl ?_
            unfold RaPost
            rw [HQ2.out]
            exact ⟨rfl, HR2.out, fun h => absurd rfl h, fun _ => ⟨_, HR1.out⟩⟩
end Go.Proofs.YtjfllmogiknneaaGreatDoor

/- The reference's Find: the last one is the first one, for there is one at most. -/
namespace Go.Proofs.YtjfllmogiknneaaGreatDoor
open Go.RowKit

def hitAt (m l : List UInt8) (e : Prm) : Option (List Prm) := if e.1.data.toList = m then matchB (refB e).ps (l.drop 1) true [] else none
/- patterns of one method have no path in common -/
def Sp (es : List Prm) : Prop := ∀ i j (hi : i < es.length) (hj : j < es.length), i < j → es[i].1.data.toList = es[j].1.data.toList → ovl (refB es[i]).ps (refB es[j]).ps = false
theorem findG_at (m l : List UInt8) : ∀ (es : List Prm) (k j : Nat) (hj : j < es.length) (fs : List Prm), hitAt m l es[j] = some fs → (∀ i (hi : i < es.length), i < j → hitAt m l es[i] = none) → findG m l (es.map refB) k = (k + j, fs, 0)
  | [], k, j, hj, fs, h, h2 => absurd hj (by simp)
  | e :: r, k, 0, hj, fs, h, h2 => by
    rw [List.map_cons, findG]
    simp only [List.getElem_cons_zero] at h
    unfold hitAt at h
    split at h
    · rename_i hm
      have : (refB e).m.data.toList = m := hm
      rw [if_pos this, h]; rfl
    · cases h
  | e :: r, k, j + 1, hj, fs, h, h2 => by
    have h0 := h2 0 (by simp) (by omega)
    simp only [List.getElem_cons_zero] at h0
    have ih := findG_at m l r (k + 1) j (by simpa using hj) fs (by simpa using h) (fun i hi hij => by have := h2 (i + 1) (by simpa using hi) (by omega); simpa using this)
    rw [List.map_cons, findG]
    unfold hitAt at h0
    have e1 : (refB e).m = e.1 := rfl
    rw [e1]
    split at h0
    · rename_i hm
      rw [if_pos hm, h0, ih]
      simp only [Prod.mk.injEq, and_true]; omega
    · rename_i hm
      rw [if_neg hm, ih]
      simp only [Prod.mk.injEq, and_true]; omega
theorem findG_no (m l : List UInt8) : ∀ (es : List Prm) (k : Nat), (∀ i (hi : i < es.length), hitAt m l es[i] = none) → findG m l (es.map refB) k = (0, [], 11)
  | [], k, h => rfl
  | e :: r, k, h => by
    have h0 := h 0 (by simp)
    simp only [List.getElem_cons_zero] at h0
    have ih := findG_no m l r (k + 1) (fun i hi => by have := h (i + 1) (by simpa using hi); simpa using this)
    rw [List.map_cons, findG]
    unfold hitAt at h0
    have e1 : (refB e).m = e.1 := rfl
    rw [e1]
    split at h0
    · rename_i hm
      rw [if_pos hm, h0, ih]
    · rename_i hm
      rw [if_neg hm, ih]
theorem sp_one {es : List Prm} (hp : ∀ e ∈ es, (patternOf e.2.data.toList).isSome = true) (hs : Sp es) {m l : List UInt8} (hl : Pm.isPath l = true) {i j : Nat} (hi : i < es.length) (hj : j < es.length) (hij : i < j) {fs : List Prm} (h : hitAt m l es[j] = some fs) : hitAt m l es[i] = none := by
  cases h1 : hitAt m l es[i] with
  | none => rfl
  | some gs =>
    exfalso
    unfold hitAt at h h1
    split at h
    · split at h1
      · rename_i m1 m2
        obtain ⟨pi, hpi⟩ := Option.isSome_iff_exists.1 (hp _ (List.getElem_mem hi))
        obtain ⟨pj, hpj⟩ := Option.isSome_iff_exists.1 (hp _ (List.getElem_mem hj))
        have hov := hs i j hi hj hij (by rw [m1, m2])
        have ei : (refB es[i]).ps = pi := by unfold refB; rw [hpi]; rfl
        have ej : (refB es[j]).ps = pj := by unfold refB; rw [hpj]; rfl
        rw [ei] at h1 hov
        rw [ej] at h hov
        obtain ⟨rfl, a2, a3, a4⟩ := pat_good hpi
        obtain ⟨rfl, b2, b3, b4⟩ := pat_good hpj
        rw [match_hs a2.1 hl] at h1
        rw [match_hs b2.1 hl] at h
        have := one_has (A := pcs es[i].2.data.toList) (B := pcs es[j].2.data.toList) hl (by rw [h1]; rfl) (by rw [h]; rfl)
        rw [this] at hov
        cases hov
      · cases h1
    · cases h
def RfPost (F : Nat × List Prm × Int) (w : World) (x : Ending) (w' : World) : Prop :=
  (∃ vv, x = .returned (.tuple #[.int .i64 F.1, vv, .int .i64 F.2.2]) ∧ w'.ownsRow w.heap.size 70 2 vv F.2.1.length (prCells F.2.1)) ∧ Below w.heap.size w w'
set_option maxRecDepth 100000 in
set_option maxHeartbeats 4000000 in
theorem rFind_any (gt B : Nat) (es : List Prm) (v : Value) (m s : ByteArray) (w : World) (hT : TrAt gt B es v w) (hsp : Sp es) (hp : Pm.isPath s.data.toList = true) (hs : s.size ≤ 4398046511104) :
    Calls Tryz.prog 87 #[.pointer (some ⟨gt, 0, none⟩), .string m, .string s] w (RfPost (findG m.data.toList s.data.toList (es.map refB) 0) w) := by
  have HIP := hid (fun W => rIsPath_any s W (by unfold maxLen; omega))
  rw [hp] at HIP
  have lt0 := hT.lt
  have cel := hT.cel
  have hfw := hT.few
  have HT := hid hT
  obtain ⟨av, cv, rfl, hen⟩ := pr_at hT.row
  have HE := hid hen
  have HHA := hid (fun (u : ByteArray) (pe : List (Int × ByteArray)) W (hu : patternOf u.data.toList = some pe) => rHas2 u s pe W hu hp hs)
  have HYES := hid (fun j (hj : j < es.length) fs (h : hitAt m.data.toList s.data.toList es[j] = some fs) => findG_at m.data.toList s.data.toList es 0 j hj fs h (fun i hi hij => sp_one hT.pat hsp hp hi hj hij h))
  have HNO := hid (fun h => findG_no m.data.toList s.data.toList es 0 h)
  generalize findG m.data.toList s.data.toList (es.map refB) 0 = FF at *
  clear hT hen hsp
  go_enter Tryz.func87, Tryz.ntmps87
  go_wp2_with fail
  refine (HIP.out _).mono ?_
  rintro e w1 ⟨rfl, hB1⟩
  have cel1 := cell_later hB1 cel
  have lt1 : gt < w1.heap.size := Nat.lt_of_lt_of_le lt0 hB1.size
  clear HIP cel
  go_wp2_with fail
  go_loopw [10] (fun i wr => ∃ k : Nat, k ≤ es.length ∧ i = .int .i64 ((k : Int) - 1) ∧ Hid (∀ j (hj : j < es.length), k ≤ j → hitAt m.data.toList s.data.toList es[j] = none) ∧ Below w.heap.size w wr) (fun i _ => (intOf i + 1).toNat)
  case atStart => exact ⟨es.length, Nat.le_refl _, rfl, fun j hj h => absurd hj (by omega), hB1⟩
  case round =>
    obtain ⟨k, hk, rfl, HK, hbw⟩ := hrel
    have Tr := HT.out.below hbw
    have cel3 := Tr.cel
    have lt3 := Tr.lt
    cases k with
    | zero =>
      have hn := HNO.out (fun i hi => HK.out i hi (Nat.zero_le _))
      have HN := hid hn
      have hz : ((0 : Nat) : Int) - 1 = -1 := rfl
      rw [hz]
      clear HK Tr hn HYES HNO
      go_wp2_with fail
      refine bodyPost_ret (v := .tuple #[.int .i64 0, .slice none 0 0, .int .i64 11]) (by simp [results, Tryz.results87, go_sem]) rfl ?_
      rw [HN.out]
      exact ⟨⟨_, rfl, World.ownsRow_nil _ _ _ _⟩, hbw⟩
    | succ q =>
      have hlt : q < es.length := by omega
      have hz : ((q + 1 : Nat) : Int) - 1 = (q : Int) := by omega
      rw [hz]
      have hq0 : (0 : Int) ≤ (q : Int) := by omega
      obtain ⟨g, rfl, hg, hc1, hc2⟩ := (HE.out.below hbw) q hlt
      obtain ⟨pe, hpe⟩ := Option.isSome_iff_exists.1 (HT.out.pat _ (List.getElem_mem hlt))
      have hps : (refB es[q]).ps = pe := by unfold refB; rw [hpe]; rfl
      have hha : hitAt m.data.toList s.data.toList es[q] = if es[q].1.data.toList = m.data.toList then matchB pe (s.data.toList.drop 1) true [] else none := by unfold hitAt; rw [hps]
      have HY := hid (HYES.out q hlt)
      have HNX : Hid (hitAt m.data.toList s.data.toList es[q] = none → ∀ j (hj : j < es.length), q ≤ j → hitAt m.data.toList s.data.toList es[j] = none) := fun h j hj hq => by
        rcases Nat.eq_or_lt_of_le hq with e | e
        · subst e; exact h
        · exact HK.out j hj e
      have HC := hid (HHA.out es[q].2 pe)
      rw [hha] at HY HNX
      clear hha hps Tr
      generalize es[q] = en at *
      obtain ⟨em, ep⟩ := en
      simp only at hc1 hc2 hpe HY HNX HC
      generalize matchB pe (s.data.toList.drop 1) true [] = MB at *
      have hbe := bne_lists em m
      have HPE := hid hpe
      clear hpe HYES HNO HK
      go_wp2_with fail
      refine (HC.out _ HPE.out).mono ?_
      rintro e w3 ⟨hr3, hb3⟩
      have hB3 := bel_of hbw hb3
      have cel4 := cell_later hb3 cel3
      have lt4 : gt < w3.heap.size := Nat.lt_of_lt_of_le lt3 hb3.size
      have hc4 := cell_later hb3 hc1
      have hg4 : g < w3.heap.size := Nat.lt_of_lt_of_le hg hb3.size
      have hms2 : (intOf (Value.int .i64 ((q : Int) - 1)) + 1).toNat < (intOf (Value.int .i64 (q : Int)) + 1).toNat := by simp [intOf]
      clear HC
      cases MB with
      | none =>
        obtain rfl := hr3
        have HN := hid (HNX.out (by split <;> rfl))
        clear HNX HY
        go_wp2_with fail
        exact ⟨⟨q, by omega, rfl, HN, hB3⟩, hms2⟩
      | some fs =>
        obtain ⟨vv, rfl, ow⟩ := hr3
        by_cases hme : em.data.toList = m.data.toList
        · have hy := HY.out fs (if_pos hme)
          have HYY := hid hy
          rw [decide_eq_true hme] at hbe
          have HO := hid (owns_base ow (show w.heap.size ≤ wr.heap.size from hbw.size))
          clear ow HY HNX hy
          go_wp2_with fail
          refine bodyPost_ret (v := .tuple #[.int .i64 q, vv, .int .i64 0]) (by simp [results, Tryz.results87, go_sem]) rfl ?_
          rw [HYY.out]
          exact ⟨⟨_, by simp, HO.out⟩, hB3⟩
        · have HN := hid (HNX.out (if_neg hme))
          rw [decide_eq_false hme] at hbe
          clear ow HY HNX
          go_wp2_with fail
          exact ⟨⟨q, by omega, rfl, HN, hB3⟩, hms2⟩
end Go.Proofs.YtjfllmogiknneaaGreatDoor
