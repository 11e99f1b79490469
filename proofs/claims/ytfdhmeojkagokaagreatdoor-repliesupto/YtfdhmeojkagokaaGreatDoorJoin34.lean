/- Texts that follow one another, joined. -/
import Derived.Test.YtfdhmeojkagokaaGreatDoorJoin33
import Derived.Test.YtfdhmeojkagokaaGreatDoorJoin16
/- The reference's Overlap; nothing old in memory turns. -/
namespace Go.Proofs.YtfdhmeojkagokaaGreatDoor
open Go.RowKit

end Go.Proofs.YtfdhmeojkagokaaGreatDoor

/- matches and overlaps: what the program's Match and Overlap tell is what the reference's tell, and the list that came out is the caller's. -/
namespace Go.Proofs.YtfdhmeojkagokaaGreatDoor
open Go.RowKit

theorem pr_at {w : World} {B : Nat} {e : TypeId} {v : Value} {ps : List Prm} (h : w.ownsRow B e 2 v ps.length (prCells ps)) : ∃ a cap, v = .slice a ps.length cap ∧ FlAt ps a w := by
  have get : ∀ (fs : List Prm) (i : Nat) (h : i < fs.length), (prCells fs)[i * 2]? = some (.string fs[i].1) ∧ (prCells fs)[i * 2 + 1]? = some (.string fs[i].2) := by
    intro fs
    induction fs with
    | nil => intro i h; simp at h
    | cons f fs ih =>
      intro i h
      have e : prCells (f :: fs) = (.string f.1) :: (.string f.2) :: prCells fs := by simp [prCells]
      match i, h with
      | 0, _ => rw [e]; exact ⟨rfl, rfl⟩
      | i + 1, h =>
        have := ih i (by simpa using h)
        rw [e, show (i + 1) * 2 = i * 2 + 1 + 1 from by omega, List.getElem?_cons_succ, List.getElem?_cons_succ, show i * 2 + 1 + 1 + 1 = (i * 2 + 1) + 1 + 1 from by omega, List.getElem?_cons_succ, List.getElem?_cons_succ]
        exact this
  obtain ⟨h1, h2⟩ := h
  rcases h2 with ⟨h2, h3⟩ | ⟨g, cap, cur, hv, hB, hg, hc, hm, hsz, ht⟩
  · refine ⟨none, 0, ?_, fun i hi => ?_⟩
    · rw [h3]; exact h2
    · omega
  · refine ⟨some ⟨g, 0, none⟩, cap, hv, fun i hi => ⟨g, rfl, ?_, ?_, ?_⟩⟩
    · rcases Nat.lt_or_ge g w.heap.size with h' | h'
      · exact h'
      · simp [Array.getElem?_eq_none h'] at hg
    all_goals
      obtain ⟨m1, m2⟩ := get ps i hi
      rw [← ht, List.getElem?_take] at m1 m2
      rw [Lib.cell_of_heap hg]
    · split at m1
      · simpa using m1
      · cases m1
    · split at m2
      · simpa using m2
      · cases m2
theorem matchB_len : ∀ (ps : List (Int × ByteArray)) (l : List UInt8) (mr : Bool) (acc fs : List Prm), matchB ps l mr acc = some fs → fs.length ≤ acc.length + ps.length
  | [], l, mr, acc, fs, h => by
    rw [matchB] at h
    split at h
    · cases h
    · cases h; simp
  | p :: r, l, mr, acc, fs, h => by
    rw [matchB] at h
    split at h
    · cases h
    · split at h
      · have := matchB_len r _ _ _ _ h
        rw [List.length_cons]
        split at this
        · omega
        · simp at this; omega
      · cases h
end Go.Proofs.YtfdhmeojkagokaaGreatDoor

/- The reference's table in memory; its questions on patterns, in the program's words. -/
namespace Go.Proofs.YtfdhmeojkagokaaGreatDoor
open Go.RowKit

theorem pat_good {s : List UInt8} {p : List (Int × ByteArray)} (h : patternOf s = some p) : p = (pcs s).map pcB ∧ pieces (pcs s) ∧ pcs s ≠ [] ∧ s.length ≤ 64 := by
  have ht : ((pcs s).map fun x => (⟨x.toArray⟩ : ByteArray)).map (·.data.toList) = pcs s := by rw [List.map_map]; simp [Function.comp_def]
  by_cases hg : GoodP s ((pcs s).map fun x => (⟨x.toArray⟩ : ByteArray))
  · have h2 := patternOf_good ht hg
    rw [h] at h2
    obtain ⟨g1, g2, g3⟩ := hg
    exact ⟨Option.some.inj h2, good_pieces ht g3, pcs_ne g2, g1⟩
  · rw [patternOf_bad ht hg] at h; cases h
theorem rIsPat_any (s : ByteArray) (w : World) (hs : s.size ≤ 4398046511104) :
    Calls Tryz.prog 115 #[.string s] w fun r w' => r = .returned (.bool (patternOf s.data.toList).isSome) ∧ Below w.heap.size w w' := by
  refine (rIsPattern_any s w hs).mono ?_
  rintro e w1 ⟨⟨b, ts, rfl, h1, hiff⟩, hb1⟩
  have hsl : s.data.toList.length = s.size := by simp
  refine ⟨?_, hb1⟩
  cases b
  · have hbad : ¬ GoodP s.data.toList ts := fun h => by
      have := hiff.mpr (by unfold GoodP at h; rw [hsl] at h; exact h)
      cases this
    rw [patternOf_bad h1 hbad]; rfl
  · obtain ⟨g1, g2, g3⟩ := hiff.mp rfl
    rw [patternOf_good h1 ⟨by rw [hsl]; exact g1, g2, g3⟩]; rfl
theorem rCommon2 (s t : ByteArray) (p q : List (Int × ByteArray)) (w : World) (hs : patternOf s.data.toList = some p) (ht : patternOf t.data.toList = some q) :
    Calls Tryz.prog 116 #[.string s, .string t] w fun r w' => (∃ b : ByteArray, r = .returned (.string b) ∧ b.toList.isEmpty = !(ovl p q)) ∧ Below w.heap.size w w' := by
  obtain ⟨rfl, a2, a3, a4⟩ := pat_good hs
  obtain ⟨rfl, b2, b3, b4⟩ := pat_good ht
  have hsl : s.data.toList.length = s.size := by simp
  have htl : t.data.toList.length = t.size := by simp
  rw [← common_meet a3 b3 a2 b2]
  exact rCommon_any s t w (by omega) (by omega) a3 b3
theorem rHas2 (s t : ByteArray) (p : List (Int × ByteArray)) (w : World) (hs : patternOf s.data.toList = some p) (hp : Pm.isPath t.data.toList = true) (ht : t.size ≤ 4398046511104) :
    Calls Tryz.prog 122 #[.string s, .string t] w fun r w' => MaPost (matchB p (t.data.toList.drop 1) true []) w.heap.size r w' ∧ Below w.heap.size w w' := by
  obtain ⟨rfl, a2, a3, a4⟩ := pat_good hs
  have hsl : s.data.toList.length = s.size := by simp
  rw [match_hs a2.1 hp]
  exact rHas_any s t w (by omega) ht
/- a table of the reference -/
structure TrAt (gt B : Nat) (es : List Prm) (v : Value) (w : World) : Prop where
  cel : w.cell? ⟨gt, 0, none⟩ = some v
  fre : w.frozen? ⟨gt, 0, none⟩ = false
  row : w.ownsRow B 180 2 v es.length (prCells es)
  own : v.ownBlock ≠ some gt
  few : es.length ≤ 24
  pat : ∀ e ∈ es, (patternOf e.2.data.toList).isSome = true
theorem TrAt.lt {gt B : Nat} {es : List Prm} {v : Value} {w : World} (h : TrAt gt B es v w) : gt < w.heap.size := block_lt_of_cell h.cel
theorem TrAt.below {gt B : Nat} {es : List Prm} {v : Value} {w w' : World} (h : TrAt gt B es v w) (hb : Below w.heap.size w w') : TrAt gt B es v w' :=
  ⟨cell_later hb h.cel, by rw [hb.frozen h.lt]; exact h.fre, owns_below h.row hb, h.own, h.few, h.pat⟩
def refB (e : Prm) : Ent := ⟨e.1, (patternOf e.2.data.toList).getD [], none, 0⟩
set_option maxHeartbeats 400000 in
theorem rNewTable_any (w : World) : Calls Tryz.prog 74 #[] w fun r w' => r = .returned (.pointer (some ⟨w.heap.size, 0, none⟩)) ∧ TrAt w.heap.size w.heap.size [] (.slice none 0 0) w' ∧ Below w.heap.size w w' ∧ w'.heap.size = w.heap.size + 1 := by
  have hb := heap_alloc_new w (.cells #[.slice none 0 0] 177)
  have HT : Hid (TrAt w.heap.size w.heap.size [] (.slice none 0 0) (w.alloc (.cells #[.slice none 0 0] 177)) ∧ Below w.heap.size w (w.alloc (.cells #[.slice none 0 0] 177)) ∧ (w.alloc (.cells #[.slice none 0 0] 177)).heap.size = w.heap.size + 1) :=
    ⟨⟨by rw [Lib.cell_of_heap hb]; rfl, Lib.frozen_of_heap hb 0, World.ownsRow_nil _ _ _ _, (fun h => by cases h), by simp, fun e he => absurd he (by simp)⟩, (Below.refl _ _).alloc (Nat.le_refl _) _, by simp⟩
  clear hb
  go_enter Tryz.func74, Tryz.ntmps74
  go_wp2
  go_ret
  exact ⟨rfl, HT.out.1, HT.out.2.1, HT.out.2.2⟩
/- what Add tells -/
def adE (m s : List UInt8) (es : List Ent) : Int × Int :=
  if Pm.isMethod m = false then (0, 1) else match patternOf s with
    | none => (0, 8)
    | some p => if 24 ≤ es.length then (0, 10) else match hitG m p es 0 with
      | some j => ((j : Nat), 9)
      | none => ((es.length : Nat), 0)
end Go.Proofs.YtfdhmeojkagokaaGreatDoor

/- The reference's Add. -/
namespace Go.Proofs.YtfdhmeojkagokaaGreatDoor
open Go.RowKit

def RaPost (gt B : Nat) (es : List Prm) (m s : ByteArray) (w : World) (x : Ending) (w' : World) : Prop :=
  x = .returned (.tuple #[.int .i64 (adE m.data.toList s.data.toList (es.map refB)).1, .int .i64 (adE m.data.toList s.data.toList (es.map refB)).2]) ∧ Below B w w' ∧ ((adE m.data.toList s.data.toList (es.map refB)).2 ≠ 0 → Below w.heap.size w w') ∧ ((adE m.data.toList s.data.toList (es.map refB)).2 = 0 → ∃ v', TrAt gt B (es ++ [(m, s)]) v' w')
theorem RaPost.err {gt B : Nat} {es : List Prm} {m s : ByteArray} {w w' : World} {x : Ending} {R : Int × Int} (hR : adE m.data.toList s.data.toList (es.map refB) = R) (h0 : R.2 ≠ 0) (hx : x = .returned (.tuple #[.int .i64 R.1, .int .i64 R.2])) (hb : Below w.heap.size w w') (hB : B ≤ w.heap.size) : RaPost gt B es m s w x w' := by
  unfold RaPost
  rw [hR]
  exact ⟨hx, hb.mono hB, fun _ => hb, fun h => absurd h h0⟩
theorem hitG_step (m : List UInt8) (p : List (Int × ByteArray)) (es : List Prm) (k : Nat) (h : k < es.length) {pe : List (Int × ByteArray)} (hp : patternOf es[k].2.data.toList = some pe) : hitG m p ((es.map refB).drop k) k = if es[k].1.data.toList = m then (if ovl pe p = true then some k else hitG m p ((es.map refB).drop (k + 1)) (k + 1)) else hitG m p ((es.map refB).drop (k + 1)) (k + 1) := by
  rw [← List.getElem_cons_drop (by simpa using h), hitG, List.getElem_map]
  simp only [refB, hp, Option.getD_some]
theorem infoRe : (Tryz.prog.info? 180).map (fun i => (i.zero, i.size, i.bytes)) = some (some (.agg #[.string ⟨#[]⟩, .string ⟨#[]⟩]), 2, 32) := by kernel_rfl
theorem radd_end {gt B : Nat} {es : List Prm} {v : Value} {m s : ByteArray} {w wr w4 : World} {gg cap : Nat} {E : Obj}
    (hT : TrAt gt B es v w) (hbr : Below w.heap.size w wr) (hgrow : (wr.alloc E).grownBy w4 v.ownBlock)
    (hown : w4.ownsRow B 180 2 (.slice (some ⟨gg, 0, none⟩) (es.length + 1) cap) (es.length + 1) (prCells es ++ [.string m, .string s])) (hat : v.ownBlock = some gg ∨ gg = (wr.alloc E).heap.size)
    (hB : B ≤ gt) (hBw : B ≤ w.heap.size) (hf : es.length < 24) (hp : (patternOf s.data.toList).isSome = true) :
    TrAt gt B (es ++ [(m, s)]) (.slice (some ⟨gg, 0, none⟩) (es.length + 1) cap) (w4.setCell ⟨gt, 0, none⟩ (.slice (some ⟨gg, 0, none⟩) (es.length + 1) cap)) ∧ Below B w (w4.setCell ⟨gt, 0, none⟩ (.slice (some ⟨gg, 0, none⟩) (es.length + 1) cap)) ∧ w4.cell? ⟨gt, 0, none⟩ = some v ∧ w4.frozen? ⟨gt, 0, none⟩ = false ∧ gt < w4.heap.size := by
  have hb3 : Below wr.heap.size wr (wr.alloc E) := (Below.refl _ _).alloc (Nat.le_refl _) E
  have hbW := bel_of hbr hb3
  have T3 := hT.below hbW
  have hgl := hT.lt
  have z1 := hbr.size
  have z2 := hb3.size
  have z3 := hgrow.size
  have hgt3 : gt < (wr.alloc E).heap.size := T3.lt
  have hne : gg ≠ gt := by
    rcases hat with h | h
    · intro e; rw [e] at h; exact hT.own h
    · omega
  have hc4 : w4.cell? ⟨gt, 0, none⟩ = some v := cell_grown hgrow T3.cel hT.own
  have hf4 : w4.frozen? ⟨gt, 0, none⟩ = false := by
    have e : w4.heap[gt]? = (wr.alloc E).heap[gt]? := hgrow.block gt hgt3 (fun e => hT.own e.symm)
    have hf3 := T3.fre
    unfold World.frozen? at hf3 ⊢
    rw [e]; exact hf3
  refine ⟨⟨World.cell?_setCell_same _ _ _ hc4, ?_, ?_, ?_, ?_, ?_⟩, ?_, hc4, hf4, by omega⟩
  · rw [World.frozen?_setCell]; exact hf4
  · rw [List.length_append, prCells_snoc]
    exact owns_not hown (by simp [Value.ownBlock, hne]) 0 _
  · simp [Value.ownBlock, hne]
  · rw [List.length_append]; simp; omega
  · intro e he
    rcases List.mem_append.1 he with he | he
    · exact hT.pat e he
    · simp at he; rw [he]; exact hp
  · exact ((hbW.mono hBw).grown hgrow (by omega) (fun k hk => own_ge hT.row k hk)).setCell hB _
set_option maxRecDepth 100000 in
set_option maxHeartbeats 4000000 in
theorem rAdd_any (gt B : Nat) (es : List Prm) (v : Value) (m s : ByteArray) (w : World) (hT : TrAt gt B es v w) (hms : m.size ≤ maxLen) (hs : s.size ≤ 4398046511104) (hB : B ≤ gt) (hBw : B ≤ w.heap.size) :
    Calls Tryz.prog 76 #[.pointer (some ⟨gt, 0, none⟩), .string m, .string s] w (RaPost gt B es m s w) := by
  obtain ⟨i0, hi, hz0, hz1, hz2⟩ := info_parts infoRe
  have HIM := hid (fun W => rIsMethod_any m W hms)
  have HIP := hid (fun W => rIsPat_any s W hs)
  have lt0 := hT.lt
  have cel := hT.cel
  have hfw := hT.few
  have HT := hid hT
  obtain ⟨av, cv, rfl, hen⟩ := pr_at hT.row
  have HE := hid hen
  have hR1 : Pm.isMethod m.data.toList = false → adE m.data.toList s.data.toList (es.map refB) = (0, 1) := fun h => by unfold adE; rw [if_pos h]
  have hR2 : Pm.isMethod m.data.toList = true → adE m.data.toList s.data.toList (es.map refB) = match patternOf s.data.toList with
    | none => (0, 8)
    | some p => if 24 ≤ es.length then (0, 10) else match hitG m.data.toList p (es.map refB) 0 with
      | some j => ((j : Nat), 9)
      | none => ((es.length : Nat), 0) := fun h => by unfold adE; rw [if_neg (by rw [h]; simp), List.length_map]; all_goals (cases patternOf s.data.toList <;> rfl)
  have HR1 := hid hR1
  have HR2 := hid hR2
  clear hR1 hR2 hT hen
  go_enter Tryz.func76, Tryz.ntmps76
  go_wp2_with fail
  refine (HIM.out _).mono ?_
  rintro e w1 ⟨rfl, hw1⟩
  have hw2 := hw1.symm
  subst hw2
  clear hw1 HIM
  cases hmm : Pm.isMethod m.data.toList
  · have HQ := hid (HR1.out hmm)
    clear HIP HR1 HR2 hmm
    go_wp2
    refine bodyPost_ret (v := .tuple #[.int .i64 0, .int .i64 1]) (by simp [results, Tryz.results76, go_sem]) rfl ?_
    exact RaPost.err HQ.out (by simp) rfl (Below.refl _ _) hBw
  · have HR := hid (HR2.out hmm)
    clear HR1 HR2 hmm
    go_wp2_with fail
    refine (HIP.out _).mono ?_
    rintro e w2 ⟨rfl, hB2⟩
    have cel2 := cell_later hB2 cel
    have lt2 : gt < w2.heap.size := Nat.lt_of_lt_of_le lt0 hB2.size
    clear HIP cel
    cases hp : patternOf s.data.toList with
    | none =>
      have hR := HR.out
      rw [hp] at hR
      have HQ := hid hR
      clear HR hR hp
      simp only [Option.isSome_none]
      go_wp2
      refine bodyPost_ret (v := .tuple #[.int .i64 0, .int .i64 8]) (by simp [results, Tryz.results76, go_sem]) rfl ?_
      exact RaPost.err HQ.out (by simp) rfl hB2 hBw
    | some p =>
      have hR := HR.out
      rw [hp] at hR
      simp only at hR
      simp only [Option.isSome_some]
      have HPS : Hid ((patternOf s.data.toList).isSome = true) := by unfold Hid; rw [hp]; rfl
      have HCM := hid (fun (u : ByteArray) (pe : List (Int × ByteArray)) W (hu : patternOf u.data.toList = some pe) => rCommon2 u s pe p W hu hp)
      clear HR hp
      by_cases h24 : 24 ≤ es.length
      · rw [if_pos h24] at hR
        have HQ := hid hR
        have h24i : (24 : Int) ≤ (es.length : Int) := by omega
        clear hR
        go_wp2
        refine bodyPost_ret (v := .tuple #[.int .i64 0, .int .i64 10]) (by simp [results, Tryz.results76, go_sem]) rfl ?_
        exact RaPost.err HQ.out (by simp) rfl hB2 hBw
      · rw [if_neg h24] at hR
        have h24i : ¬ (24 : Int) ≤ (es.length : Int) := by omega
        generalize hRH : hitG m.data.toList p (es.map refB) 0 = RH at hR
        have HQ := hid hR
        have HRH : Hid (hitG m.data.toList p ((es.map refB).drop 0) 0 = RH) := hRH
        clear hR hRH
        go_wp2_with fail
        go_loopw [10] (fun i wr => ∃ k : Nat, k ≤ es.length ∧ i = .int .i64 k ∧ Hid (hitG m.data.toList p ((es.map refB).drop k) k = RH) ∧ Below w.heap.size w wr) (fun i _ => es.length - (intOf i).toNat)
        case atStart => exact ⟨0, Nat.zero_le _, rfl, HRH, hB2⟩
        case round =>
          obtain ⟨k, hk, rfl, HK, hbw⟩ := hrel
          have Tr := HT.out.below hbw
          have cel3 := Tr.cel
          have lt3 := Tr.lt
          by_cases hlt : k < es.length
          · obtain ⟨g, rfl, hg, hc1, hc2⟩ := (HE.out.below hbw) k hlt
            obtain ⟨pe, hpe⟩ := Option.isSome_iff_exists.1 (HT.out.pat _ (List.getElem_mem hlt))
            have hst := HK.out
            rw [hitG_step _ _ _ _ hlt hpe] at hst
            have HST := hid hst
            have HC := hid (HCM.out es[k].2 pe)
            generalize es[k] = en at *
            obtain ⟨em, ep⟩ := en
            simp only at hc1 hc2 hpe HST HC
            have hbe := bne_lists em m
            have HPE := hid hpe
            clear hst HK Tr hpe
            go_wp2_with fail
            refine (HC.out _ HPE.out).mono ?_
            rintro e w3 ⟨⟨b, rfl, hem⟩, hb3⟩
            have hB3 := bel_of hbw hb3
            have cel4 := cell_later hb3 cel3
            have lt4 : gt < w3.heap.size := Nat.lt_of_lt_of_le lt3 hb3.size
            have hc4 := cell_later hb3 hc1
            have hg4 : g < w3.heap.size := Nat.lt_of_lt_of_le hg hb3.size
            by_cases hme : em.data.toList = m.data.toList
            · have hst := HST.out
              rw [if_pos hme] at hst
              rw [decide_eq_true hme] at hbe
              cases hov : ovl pe p
              · rw [hov, if_neg (by simp)] at hst
                have HST2 := hid hst
                rw [hov] at hem
                simp only [Bool.not_false] at hem
                clear HST hst HC
                go_wp2_with fail
                exact ⟨⟨k + 1, by omega, by go_num, HST2, hB3⟩, by simp [intOf]; omega⟩
              · rw [hov, if_pos rfl] at hst
                have HST2 := hid hst
                rw [hov] at hem
                simp only [Bool.not_true] at hem
                clear HST hst HC
                go_wp2_with fail
                refine bodyPost_ret (v := .tuple #[.int .i64 k, .int .i64 9]) (by simp [results, Tryz.results76, go_sem]) rfl ?_
                have hq := HQ.out
                rw [← HST2.out] at hq
                exact RaPost.err hq (by simp) rfl hB3 hBw
            · have hst := HST.out
              rw [if_neg hme] at hst
              have HST2 := hid hst
              rw [decide_eq_false hme] at hbe
              clear HST hst HC
              go_wp2_with fail
              exact ⟨⟨k + 1, by omega, by go_num, HST2, hB3⟩, by simp [intOf]; omega⟩
          · have hke : ¬ (k : Int) < (es.length : Int) := by omega
            have hst := HK.out
            rw [List.drop_eq_nil_of_le (by simp; omega), hitG] at hst
            have hq := HQ.out
            rw [← hst] at hq
            simp only at hq
            have HQ2 := hid hq
            have ow3 := Tr.row
            have fre3 := Tr.fre
            have hnown := Tr.own
            have hBr : B ≤ wr.heap.size := by have := hbw.size; omega
            have hk24 : es.length < 24 := by omega
            clear HK hst hq HQ HCM Tr
            go_wp2_with (at_builtin; refine wpList_append_lies _ rfl _ _ 175 rfl B 180 i0 _ 2 32 Tryz.underlying175 hi hz0 hz1 hz2 rfl (by omega) (.slice av es.length cv) es.length (prCells es) rfl (ow3.alloc _) ⟨wr.heap.size, 0, none⟩ 1 1 [.string m, .string s] rfl rfl (World.news_of_block (cs := #[.string m, .string s]) (t := 180) (fr := (0, 0)) (heap_alloc_new wr _)) (by simp [Value.oneCell']) (by omega) (by unfold maxLen; omega) (by omega) (by simp; omega) _ rfl ?_)
            intro gg cap wn hown hgrow hat hltn
            obtain ⟨r1, r2, r3, r4, r5⟩ := radd_end HT.out hbw hgrow hown (hat.imp_right (fun h => by rw [h]; simp)) hB hBw hk24 HPS.out
            have HR1 := hid r1
            have HR2 := hid r2
            have r6 := r1.cel
            clear r1 r2 hown hgrow
            go_wp2_with fail
            refine bodyPost_ret (v := .tuple #[.int .i64 es.length, .int .i64 0]) (by simp [results, Tryz.results76, go_sem]) rfl ?_
            unfold RaPost
            rw [HQ2.out]
            exact ⟨rfl, HR2.out, fun h => absurd rfl h, fun _ => ⟨_, HR1.out⟩⟩
end Go.Proofs.YtfdhmeojkagokaaGreatDoor
