/- Texts that follow one another, joined. -/
import Derived.Test.YtbiggccolpchcaaGreatDoorJoin31
import Derived.Test.YtbiggccolpchcaaGreatDoorJoin30
import Derived.Test.YtbiggccolpchcaaGreatDoorJoin21
import Derived.Test.YtbiggccolpchcaaGreatDoorJoin10
import Derived.Test.YtbiggccolpchcaaGreatDoorJoin11
import Derived.Deep.AppendLies
/- The reference's Methods, leads, other, listed. -/
namespace Go.Proofs.YtbiggccolpchcaaGreatDoor
open Go.RowKit

theorem hit_ofR {m l : List UInt8} {e : Prm} (hm : e.1.data.toList = m) : hitAt m l e = matchB (refB e).ps (l.drop 1) true [] := if_pos hm
theorem meth_step {es : List Prm} (hp : ∀ e ∈ es, (patternOf e.2.data.toList).isSome = true) (hs : Sp es) {l : List UInt8} (hl : Pm.isPath l = true) (k : Nat) (h : k < es.length) : methS l ((es.take (k + 1)).map refB) = if (matchB (refB es[k]).ps (l.drop 1) true []).isSome = true then sortedL (methS l ((es.take k).map refB)) es[k].1.data.toList else methS l ((es.take k).map refB) := by
  have hk : k < (es.map refB).length := by simpa using h
  have h1 := methG_next l (es.map refB) k hk
  rw [← List.map_take, ← List.map_take, List.getElem_map] at h1
  unfold methS
  rw [h1]
  by_cases hm : (matchB (refB es[k]).ps (l.drop 1) true []).isSome = true
  · rw [if_pos hm, if_pos hm, List.map_append]
    have hno : es[k].1.data.toList ∉ srt ((methG l ((es.take k).map refB)).map fun b => b.data.toList) := fun hin => by
      unfold srt at hin
      rw [List.mem_mergeSort, List.mem_map] at hin
      obtain ⟨b, hb, he⟩ := hin
      unfold methG at hb
      rw [List.mem_map] at hb
      obtain ⟨e, he1, rfl⟩ := hb
      obtain ⟨he2, he3⟩ := List.mem_filter.1 he1
      obtain ⟨e0, he4, rfl⟩ := List.mem_map.1 he2
      obtain ⟨i, hi, rfl⟩ := List.getElem_of_mem he4
      have hi2 : i < k ∧ i < es.length := by rw [List.length_take] at hi; omega
      rw [List.getElem_take] at he he3
      have em : es[i].1.data.toList = es[k].1.data.toList := he
      obtain ⟨fs, hfs⟩ := Option.isSome_iff_exists.1 hm
      have hk2 : hitAt es[k].1.data.toList l es[k] = some fs := by rw [hit_ofR rfl]; exact hfs
      have := sp_one hp hs hl hi2.2 h hi2.1 hk2
      rw [hit_ofR em] at this
      rw [this] at he3
      cases he3
    unfold sortedL
    rw [if_neg hno, srt_ins]
    rfl
  · rw [if_neg hm, if_neg hm, List.append_nil]
set_option maxRecDepth 100000 in
set_option maxHeartbeats 2000000 in
theorem rMethods_any (gt B : Nat) (es : List Prm) (v : Value) (s : ByteArray) (w : World) (hT : TrAt gt B es v w) (hsp : Sp es) (hp : Pm.isPath s.data.toList = true) (hs : s.size ≤ 4398046511104) :
    Calls Tryz.prog 42 #[.pointer (some ⟨gt, 0, none⟩), .string s] w fun r w' => (∃ vv, r = .returned vv ∧ w'.ownsRow w.heap.size 9 1 vv (methS s.data.toList (es.map refB)).length (encs (methS s.data.toList (es.map refB)))) ∧ Below w.heap.size w w' := by
  have HIP := hid (fun W => rIsPath_any s W (by unfold maxLen; omega))
  rw [hp] at HIP
  have lt0 := hT.lt
  have cel := hT.cel
  have hfw := hT.few
  have HT := hid hT
  obtain ⟨av, cv, rfl, hen⟩ := pr_at hT.row
  have HE := hid hen
  have HHA := hid (fun (u : ByteArray) (pe : List (Int × ByteArray)) W (hu : patternOf u.data.toList = some pe) => rHas2 u s pe W hu hp hs)
  have HST := hid (fun k (h : k < es.length) => meth_step hT.pat hsp hp k h)
  have HLN : Hid (∀ k, (methS s.data.toList ((es.take k).map refB)).length ≤ es.length) := fun k => by
    rw [methS_len]
    have h1 := methG_len s.data.toList (es.map refB) k
    rw [← List.map_take] at h1
    rw [List.length_map, List.length_take] at h1
    omega
  clear hT hen hsp
  go_enter Tryz.func42, Tryz.ntmps42
  go_wp2_with fail
  refine (HIP.out _).mono ?_
  rintro e w1 ⟨rfl, hB1⟩
  clear HIP cel
  go_wp2_with fail
  go_loopw [6, 7] (fun o i wr => ∃ k : Nat, k ≤ es.length ∧ i = .int .i64 k ∧ wr.ownsRow w.heap.size 9 1 o (methS s.data.toList ((es.take k).map refB)).length (encs (methS s.data.toList ((es.take k).map refB))) ∧ Below w.heap.size w wr) (fun _ i _ => es.length - (intOf i).toNat)
  case atStart => exact ⟨0, Nat.zero_le _, rfl, by
    have e : methS s.data.toList ((es.take 0).map refB) = [] := List.eq_nil_of_length_eq_zero (by rw [methS_len]; rfl)
    rw [e]; exact World.ownsRow_nil _ _ _ _, hB1⟩
  case round =>
    obtain ⟨k, hk, rfl, ow, hbw⟩ := hrel
    have Tr := HT.out.below hbw
    have cel3 := Tr.cel
    have lt3 := Tr.lt
    by_cases hlt : k < es.length
    · obtain ⟨g, rfl, hg, hc1, hc2⟩ := (HE.out.below hbw) k hlt
      obtain ⟨pe, hpe⟩ := Option.isSome_iff_exists.1 (HT.out.pat _ (List.getElem_mem hlt))
      have hps : (refB es[k]).ps = pe := by unfold refB; rw [hpe]; rfl
      have hs1 := HST.out k hlt
      rw [hps] at hs1
      have HS1 := hid hs1
      have HC := hid (HHA.out es[k].2 pe)
      have hln := HLN.out k
      generalize es[k] = en at *
      obtain ⟨em, ep⟩ := en
      simp only at hc1 hc2 hpe HS1 HC
      generalize hM2 : methS s.data.toList ((es.take (k + 1)).map refB) = M2 at *
      generalize methS s.data.toList ((es.take k).map refB) = M1 at *
      generalize matchB pe (s.data.toList.drop 1) true [] = MB at *
      have HPE := hid hpe
      clear hpe hs1 hps Tr
      go_wp2_with fail
      refine (HC.out _ HPE.out).mono ?_
      rintro e w3 ⟨hr3, hb3⟩
      have hB3 := bel_of hbw hb3
      have cel4 := cell_later hb3 cel3
      have lt4 : gt < w3.heap.size := Nat.lt_of_lt_of_le lt3 hb3.size
      have hc4 := cell_later hb3 hc1
      have hg4 : g < w3.heap.size := Nat.lt_of_lt_of_le hg hb3.size
      have ow3 := owns_below ow hb3
      clear HC ow
      cases MB with
      | none =>
        obtain rfl := hr3
        have hm2 : M2 = M1 := HS1.out
        subst hm2
        clear HS1
        go_wp2_with fail
        exact ⟨⟨k + 1, by omega, by go_num, by rw [hM2]; exact ow3, hB3⟩, by simp [intOf]; omega⟩
      | some fs =>
        obtain ⟨vv, rfl, -⟩ := hr3
        have hm2 : M2 = sortedL M1 em.data.toList := HS1.out
        have HSO := hid (rsorted_any _ M1 em w.heap.size w3 ow3 hB3.size (by omega))
        rw [← hm2] at HSO
        clear HS1 ow3 hm2
        go_wp2_with fail
        refine HSO.out.mono ?_
        rintro e w4 ⟨⟨v4, rfl, ow4⟩, hb4⟩
        have hB4 := bel_of hB3 hb4
        go_wp2_with fail
        exact ⟨⟨k + 1, by omega, by go_num, by rw [hM2]; exact ow4, hB4⟩, by simp [intOf]; omega⟩
    · have hke : ¬ (k : Int) < (es.length : Int) := by omega
      have hkt : es.take k = es := List.take_of_length_le (by omega)
      rw [hkt] at ow
      have HOW := hid ow
      clear ow Tr
      go_wp2_with fail
      go_ret
      exact ⟨⟨_, rfl, HOW.out⟩, hbw⟩
set_option maxRecDepth 100000 in
set_option maxHeartbeats 400000 in
theorem rFind_no (gt : Nat) (m s : ByteArray) (w : World) (hp : Pm.isPath s.data.toList = false) (hs : s.size ≤ 4398046511104) :
    Calls Tryz.prog 38 #[.pointer (some ⟨gt, 0, none⟩), .string m, .string s] w fun r w' => r = .returned (.tuple #[.int .i64 0, .slice none 0 0, .int .i64 3]) ∧ Below w.heap.size w w' := by
  have HIP := hid (fun W => rIsPath_any s W (by unfold maxLen; omega))
  rw [hp] at HIP
  go_enter Tryz.func38, Tryz.ntmps38
  go_wp2_with fail
  refine (HIP.out _).mono ?_
  rintro e w1 ⟨rfl, hb1⟩
  go_wp2_with fail
  refine bodyPost_ret (v := .tuple #[.int .i64 0, .slice none 0 0, .int .i64 3]) (by simp [results, Tryz.results38, go_sem]) rfl ?_
  exact ⟨rfl, hb1⟩
/- which route it is: none, or its number and parameters -/
def rlG (m l : List UInt8) (es : List Ent) : Int × List Prm := if Pm.isPath l = true ∧ (leadG m l es).2.2 = 0 then ((leadG m l es).1, (leadG m l es).2.1) else (-1, [])
def RlPost (F : Int × List Prm) (w : World) (x : Ending) (w' : World) : Prop :=
  (∃ vv, x = .returned (.tuple #[.int .i64 F.1, vv]) ∧ w'.ownsRow w.heap.size 129 2 vv F.2.length (prCells F.2)) ∧ Below w.heap.size w w'
set_option maxRecDepth 100000 in
set_option maxHeartbeats 2000000 in
theorem rleads_any (gt B : Nat) (es : List Prm) (v : Value) (m s : ByteArray) (w : World) (hT : TrAt gt B es v w) (hsp : Sp es) (hs : s.size ≤ 4398046511104) :
    Calls Tryz.prog 208 #[.pointer (some ⟨gt, 0, none⟩), .string m, .string s] w (RlPost (rlG m.data.toList s.data.toList (es.map refB)) w) := by
  have lt0 := hT.lt
  have hbe := beq_head m
  have hsl : s.data.toList.length = s.size := by simp
  cases hp : Pm.isPath s.data.toList
  · have HF := hid (fun (m' : ByteArray) W => rFind_no gt m' s W hp hs)
    have hR : rlG m.data.toList s.data.toList (es.map refB) = (-1, []) := if_neg (fun h => by rw [hp] at h; simp at h)
    rw [hR]
    clear hT hR hp
    go_enter Tryz.func208, Tryz.ntmps208
    go_wp2_with fail
    refine (HF.out _ _).mono ?_
    rintro x w1 ⟨rfl, hb1⟩
    by_cases hh : m.data.toList = hdL
    · rw [decide_eq_true hh] at hbe
      go_wp2_with fail
      refine (HF.out _ _).mono ?_
      rintro x w2 ⟨rfl, hb2⟩
      have hB := bel_of hb1 hb2
      go_wp2_with fail
      refine bodyPost_ret (v := .tuple #[.int .i64 (-1), .slice none 0 0]) (by simp [results, Tryz.results208, go_sem]) rfl ?_
      exact ⟨⟨_, rfl, World.ownsRow_nil _ _ _ _⟩, hB⟩
    · rw [decide_eq_false hh] at hbe
      go_wp2_with fail
      refine bodyPost_ret (v := .tuple #[.int .i64 (-1), .slice none 0 0]) (by simp [results, Tryz.results208, go_sem]) rfl ?_
      exact ⟨⟨_, rfl, World.ownsRow_nil _ _ _ _⟩, hb1⟩
  · have h1 : 1 ≤ s.size := by
      unfold Pm.isPath at hp
      rw [Bool.and_eq_true] at hp
      rcases Nat.eq_zero_or_pos s.size with q | q
      · have : s.data.toList = [] := List.eq_nil_of_length_eq_zero (by omega)
        rw [this] at hp; exact absurd hp.2 (by decide)
      · exact q
    have HF := hid (fun (m' : ByteArray) W (hW : Below w.heap.size w W) => rFind_any gt B es v m' s W (hT.below hW) hsp hp hs)
    have hR : rlG m.data.toList s.data.toList (es.map refB) = if (leadG m.data.toList s.data.toList (es.map refB)).2.2 = 0 then (((leadG m.data.toList s.data.toList (es.map refB)).1 : Int), (leadG m.data.toList s.data.toList (es.map refB)).2.1) else (-1, []) := by
      unfold rlG; simp only [hp, true_and]
    have hL : leadG m.data.toList s.data.toList (es.map refB) = if (findG m.data.toList s.data.toList (es.map refB) 0).2.2 ≠ 0 ∧ m.data.toList = hdL then findG gtL s.data.toList (es.map refB) 0 else findG m.data.toList s.data.toList (es.map refB) 0 := rfl
    have hgl : (⟨#[71, 69, 84]⟩ : ByteArray).data.toList = gtL := rfl
    generalize rlG m.data.toList s.data.toList (es.map refB) = RR at *
    generalize leadG m.data.toList s.data.toList (es.map refB) = LG at *
    have HF1 := hid (HF.out m)
    have HF2 := hid (HF.out ⟨#[71, 69, 84]⟩)
    rw [hgl] at HF2
    generalize findG m.data.toList s.data.toList (es.map refB) 0 = FF at *
    generalize findG gtL s.data.toList (es.map refB) 0 = GG at *
    have HRR := hid hR
    have HLL := hid hL
    clear hT hR hL hp HF hgl
    go_enter Tryz.func208, Tryz.ntmps208
    go_wp2_with fail
    refine (HF1.out _ (Below.refl _ _)).mono ?_
    rintro x w1 ⟨⟨vv, rfl, ow⟩, hb1⟩
    have HO := hid ow
    clear ow HF1
    by_cases q : FF.2.2 = 0
    · have hR := HRR.out
      have hLF : LG = FF := by rw [HLL.out, if_neg (fun h => h.1 q)]
      rw [hLF, if_pos q] at hR
      subst hR
      have hq : (FF.2.2 != 0) = false := by rw [q]; rfl
      clear HRR HLL HF2 hLF
      go_wp2_with fail
      refine bodyPost_ret (v := .tuple #[.int .i64 FF.1, vv]) (by simp [results, Tryz.results208, go_sem]) rfl ?_
      exact ⟨⟨_, rfl, HO.out⟩, hb1⟩
    · have hq : (FF.2.2 != 0) = true := by simpa using q
      by_cases hh : m.data.toList = hdL
      · rw [decide_eq_true hh] at hbe
        have hR := HRR.out
        have hLF : LG = GG := by rw [HLL.out, if_pos ⟨q, hh⟩]
        rw [hLF] at hR
        have HR2 := hid hR
        clear HRR HLL HO hLF hR
        go_wp2_with fail
        refine (HF2.out _ hb1).mono ?_
        rintro x w2 ⟨⟨vg, rfl, og⟩, hb2⟩
        have hB := bel_of hb1 hb2
        have HO2 := hid (owns_base og hb1.size)
        have hR := HR2.out
        clear og HF2 HR2
        by_cases q2 : GG.2.2 = 0
        · rw [if_pos q2] at hR
          subst hR
          have hq2 : (GG.2.2 != 0) = false := by rw [q2]; rfl
          go_wp2_with fail
          refine bodyPost_ret (v := .tuple #[.int .i64 GG.1, vg]) (by simp [results, Tryz.results208, go_sem]) rfl ?_
          exact ⟨⟨_, rfl, HO2.out⟩, hB⟩
        · rw [if_neg q2] at hR
          subst hR
          have hq2 : (GG.2.2 != 0) = true := by simpa using q2
          go_wp2_with fail
          refine bodyPost_ret (v := .tuple #[.int .i64 (-1), .slice none 0 0]) (by simp [results, Tryz.results208, go_sem]) rfl ?_
          exact ⟨⟨_, rfl, World.ownsRow_nil _ _ _ _⟩, hB⟩
      · rw [decide_eq_false hh] at hbe
        have hR := HRR.out
        have hLF : LG = FF := by rw [HLL.out, if_neg (fun h => hh h.2)]
        rw [hLF, if_neg q] at hR
        subst hR
        clear HRR HLL HF2 hLF
        go_wp2_with fail
        refine bodyPost_ret (v := .tuple #[.int .i64 (-1), .slice none 0 0]) (by simp [results, Tryz.results208, go_sem]) rfl ?_
        exact ⟨⟨_, rfl, World.ownsRow_nil _ _ _ _⟩, hb1⟩
end Go.Proofs.YtbiggccolpchcaaGreatDoor

/- Find and Methods of a table, the program's and the reference's, of any path. -/
namespace Go.Proofs.YtbiggccolpchcaaGreatDoor
open Go.RowKit

theorem hitN_none {m : List UInt8} {p : List (Int × ByteArray)} : ∀ {es : List Ent} {k : Nat}, hitG m p es k = none → ∀ e ∈ es, e.m.data.toList = m → ovl e.ps p = false
  | [], _, _, e, he, _ => absurd he (by simp)
  | d :: r, k, h, e, he, hm => by
    rw [hitG] at h
    by_cases hd : d.m.data.toList = m
    · rw [if_pos hd] at h
      by_cases ho : ovl d.ps p = true
      · rw [if_pos ho] at h; cases h
      · rw [if_neg ho] at h
        rcases List.mem_cons.1 he with rfl | he
        · cases q : ovl e.ps p; rfl; exact absurd q ho
        · exact hitN_none h e he hm
    · rw [if_neg hd] at h
      rcases List.mem_cons.1 he with rfl | he
      · exact absurd hm hd
      · exact hitN_none h e he hm
theorem Sp.more {es : List Prm} {m s : ByteArray} {p : List (Int × ByteArray)} (h : Sp es) (hp : patternOf s.data.toList = some p) (hn : hitG m.data.toList p (es.map refB) 0 = none) : Sp (es ++ [(m, s)]) := fun i j hi hj hij he => by
  rw [List.length_append] at hi hj
  simp at hi hj
  have hi' : i < es.length := by omega
  by_cases hj' : j < es.length
  · rw [List.getElem_append_left hi', List.getElem_append_left hj'] at *
    exact h i j hi' hj' hij he
  · have hj2 : j = es.length := by omega
    subst hj2
    rw [List.getElem_append_left hi', List.getElem_append_right (Nat.le_refl _)] at *
    simp only [Nat.sub_self, List.getElem_cons_zero] at *
    have e2 : (refB (m, s)).ps = p := by unfold refB; simp only [hp, Option.getD_some]
    rw [e2]
    exact hitN_none hn (refB es[i]) (List.mem_map.2 ⟨es[i], List.getElem_mem hi', rfl⟩) he
/- what Tabled tells -/
theorem path_one {l : List UInt8} (h : Pm.isPath l = true) : 1 ≤ l.length := by
  cases l with
  | nil => exact absurd h (by decide)
  | cons a r => simp
def findX (m l : List UInt8) (es : List Ent) : Nat × List Prm × Int := if Pm.isPath l = true then findG m l es 0 else (0, [], 3)
def methX (l : List UInt8) (es : List Ent) : List (List UInt8) := if Pm.isPath l = true then methS l es else []
theorem findX_bare (m l : List UInt8) (es : List Ent) : findX m l (es.map Ent.bare) = findX m l es := by
  unfold findX; rw [findG_bare]
theorem methX_bare (l : List UInt8) (es : List Ent) : methX l (es.map Ent.bare) = methX l es := by
  unfold methX methS; rw [methG_bare]
theorem adE_bare (m s : List UInt8) (es : List Ent) : adE m s (es.map Ent.bare) = adE m s es := by
  unfold adE
  simp only [hitG_bare, List.length_map]
def MePost (L : List (List UInt8)) (w : World) (x : Ending) (w' : World) : Prop :=
  (∃ vv, x = .returned vv ∧ w'.ownsRow w.heap.size 9 1 vv L.length (encs L)) ∧ Below w.heap.size w w'
set_option maxRecDepth 100000 in
set_option maxHeartbeats 400000 in
theorem tFind_bad (p : Value) (m s : ByteArray) (w : World) (hp : Pm.isPath s.data.toList = false) (hs : s.size ≤ 140737488355328) :
    Calls Tryz.prog 106 #[p, .string m, .string s] w fun r w' => r = .returned (.tuple #[.int .i64 0, .slice none 0 0, .int .i64 3]) ∧ Below w.heap.size w w' := by
  have HIP := hid (fun W => wIsPath_any s W hs)
  rw [hp] at HIP
  go_enter Tryz.func106, Tryz.ntmps106
  go_wp2_with fail
  refine (HIP.out _).mono ?_
  rintro e w1 ⟨rfl, hb1⟩
  go_wp2_with fail
  refine bodyPost_ret (v := .tuple #[.int .i64 0, .slice none 0 0, .int .i64 3]) (by simp [results, Tryz.results106, go_sem]) rfl ?_
  exact ⟨rfl, hb1⟩
set_option maxHeartbeats 400000 in
theorem pFind_bad (gt : Nat) (m s : ByteArray) (w : World) (hp : Pm.isPath s.data.toList = false) (hs : s.size ≤ 140737488355328) :
    Calls Tryz.prog 37 #[.pointer (some ⟨gt, 0, none⟩), .string m, .string s] w fun r w' => r = .returned (.tuple #[.int .i64 0, .slice none 0 0, .int .i64 3]) ∧ Below w.heap.size w w' := by
  have HF := hid (fun p => tFind_bad p m s w hp hs)
  go_enter Tryz.func37, Tryz.ntmps37
  go_wp2_with fail
  refine (HF.out _).mono ?_
  rintro e w1 ⟨rfl, hb1⟩
  go_wp2_with fail
  refine bodyPost_ret (v := .tuple #[.int .i64 0, .slice none 0 0, .int .i64 3]) (by simp [results, Tryz.results37, go_sem]) rfl ?_
  exact ⟨rfl, hb1⟩
set_option maxHeartbeats 400000 in
theorem tMeth_bad (p : Value) (s : ByteArray) (w : World) (hp : Pm.isPath s.data.toList = false) (hs : s.size ≤ 140737488355328) :
    Calls Tryz.prog 109 #[p, .string s] w fun r w' => r = .returned (.slice none 0 0) ∧ Below w.heap.size w w' := by
  have HIP := hid (fun W => wIsPath_any s W hs)
  rw [hp] at HIP
  go_enter Tryz.func109, Tryz.ntmps109
  go_wp2_with fail
  refine (HIP.out _).mono ?_
  rintro e w1 ⟨rfl, hb1⟩
  go_wp2_with fail
  go_ret
  exact ⟨rfl, hb1⟩
set_option maxHeartbeats 400000 in
theorem pMeth_bad (gt : Nat) (s : ByteArray) (w : World) (hp : Pm.isPath s.data.toList = false) (hs : s.size ≤ 140737488355328) :
    Calls Tryz.prog 41 #[.pointer (some ⟨gt, 0, none⟩), .string s] w fun r w' => r = .returned (.slice none 0 0) ∧ Below w.heap.size w w' := by
  have HF := hid (fun p => tMeth_bad p s w hp hs)
  go_enter Tryz.func41, Tryz.ntmps41
  go_wp2_with fail
  refine (HF.out _).mono ?_
  rintro e w1 ⟨rfl, hb1⟩
  go_wp2_with fail
  go_ret
  exact ⟨rfl, hb1⟩
set_option maxHeartbeats 400000 in
theorem rMeth_bad (gt : Nat) (s : ByteArray) (w : World) (hp : Pm.isPath s.data.toList = false) (hs : s.size ≤ 4398046511104) :
    Calls Tryz.prog 42 #[.pointer (some ⟨gt, 0, none⟩), .string s] w fun r w' => r = .returned (.slice none 0 0) ∧ Below w.heap.size w w' := by
  have HIP := hid (fun W => rIsPath_any s W (by unfold maxLen; omega))
  rw [hp] at HIP
  go_enter Tryz.func42, Tryz.ntmps42
  go_wp2_with fail
  refine (HIP.out _).mono ?_
  rintro e w1 ⟨rfl, hb1⟩
  go_wp2_with fail
  go_ret
  exact ⟨rfl, hb1⟩
theorem pFind_all (gt B : Nat) (es : List Ent) (v : Value) (m s : ByteArray) (w : World) (hT : TbAt gt 0 B es v w) (hs : s.size ≤ 1048576) :
    Calls Tryz.prog 37 #[.pointer (some ⟨gt, 0, none⟩), .string m, .string s] w (RfPost (findX m.data.toList s.data.toList es) w) := by
  unfold findX
  by_cases hp : Pm.isPath s.data.toList = true
  · rw [if_pos hp]
    have := path_one hp
    have hl : s.data.toList.length = s.size := by simp
    exact pFind_any gt B es v m s w hT hp (by omega) (by omega)
  · rw [if_neg hp]
    refine (pFind_bad gt m s w (by simpa using hp) (by omega)).mono ?_
    rintro r w' ⟨rfl, hb⟩
    exact ⟨⟨_, rfl, World.ownsRow_nil _ _ _ _⟩, hb⟩
theorem rFind_all (gt B : Nat) (es : List Prm) (v : Value) (m s : ByteArray) (w : World) (hT : TrAt gt B es v w) (hsp : Sp es) (hs : s.size ≤ 1048576) :
    Calls Tryz.prog 38 #[.pointer (some ⟨gt, 0, none⟩), .string m, .string s] w (RfPost (findX m.data.toList s.data.toList (es.map refB)) w) := by
  unfold findX
  by_cases hp : Pm.isPath s.data.toList = true
  · rw [if_pos hp]
    exact rFind_any gt B es v m s w hT hsp hp (by omega)
  · rw [if_neg hp]
    refine (rFind_no gt m s w (by simpa using hp) (by omega)).mono ?_
    rintro r w' ⟨rfl, hb⟩
    exact ⟨⟨_, rfl, World.ownsRow_nil _ _ _ _⟩, hb⟩
theorem pMeth_all (gt B : Nat) (es : List Ent) (v : Value) (s : ByteArray) (w : World) (hT : TbAt gt 0 B es v w) (hs : s.size ≤ 1048576) :
    Calls Tryz.prog 41 #[.pointer (some ⟨gt, 0, none⟩), .string s] w (MePost (methX s.data.toList es) w) := by
  unfold methX
  by_cases hp : Pm.isPath s.data.toList = true
  · rw [if_pos hp]
    have := path_one hp
    have hl : s.data.toList.length = s.size := by simp
    exact pMethods_all gt B es v s w hT hp (by omega) (by omega)
  · rw [if_neg hp]
    refine (pMeth_bad gt s w (by simpa using hp) (by omega)).mono ?_
    rintro r w' ⟨rfl, hb⟩
    exact ⟨⟨_, rfl, World.ownsRow_nil _ _ _ _⟩, hb⟩
theorem rMeth_all (gt B : Nat) (es : List Prm) (v : Value) (s : ByteArray) (w : World) (hT : TrAt gt B es v w) (hsp : Sp es) (hs : s.size ≤ 1048576) :
    Calls Tryz.prog 42 #[.pointer (some ⟨gt, 0, none⟩), .string s] w (MePost (methX s.data.toList (es.map refB)) w) := by
  unfold methX
  by_cases hp : Pm.isPath s.data.toList = true
  · rw [if_pos hp]
    exact rMethods_any gt B es v s w hT hsp hp (by omega)
  · rw [if_neg hp]
    refine (rMeth_bad gt s w (by simpa using hp) (by omega)).mono ?_
    rintro r w' ⟨rfl, hb⟩
    exact ⟨⟨_, rfl, World.ownsRow_nil _ _ _ _⟩, hb⟩
end Go.Proofs.YtbiggccolpchcaaGreatDoor

/- A book of any number of lists, plain part: marks of any element, lists that bear them, appending marks. -/
namespace Go.Proofs.YtbiggccolpchcaaGreatDoor.Bn
open Go.RowKit

def mrkG (mc : List Value) : Nat → List Value
  | 0 => []
  | k + 1 => mc ++ mrkG mc k
theorem mrkG_len (mc : List Value) (k : Nat) : (mrkG mc k).length = k * mc.length := by
  induction k with
  | zero => simp [mrkG]
  | succ k ih => rw [mrkG, List.length_append, ih, Nat.succ_mul]; omega
theorem mrkG_add (mc : List Value) (j k : Nat) : mrkG mc (j + k) = mrkG mc j ++ mrkG mc k := by
  induction j with
  | zero => simp [mrkG]
  | succ j ih => rw [show j + 1 + k = (j + k) + 1 from by omega, mrkG, mrkG, ih, List.append_assoc]
theorem mrkG_get (mc : List Value) : ∀ (k i j : Nat) (v : Value), i < k → mc[j]? = some v → (mrkG mc k)[i * mc.length + j]? = some v
  | 0, i, j, v, h, _ => absurd h (by omega)
  | k + 1, 0, j, v, _, hj => by
    have hl := (List.getElem?_eq_some_iff.1 hj).1
    rw [mrkG, Nat.zero_mul, Nat.zero_add, List.getElem?_append_left hl]; exact hj
  | k + 1, i + 1, j, v, h, hj => by
    rw [mrkG, List.getElem?_append_right (by rw [Nat.succ_mul]; omega), show (i + 1) * mc.length + j - mc.length = i * mc.length + j by rw [Nat.succ_mul]; omega]
    exact mrkG_get mc k i j v (by omega) hj
theorem mrkG_one {mc : List Value} (h : ∀ u ∈ mc, u.oneCell' = true) (k : Nat) : ∀ u ∈ mrkG mc k, u.oneCell' = true := by
  induction k with
  | zero => intro u hu; simp [mrkG] at hu
  | succ k ih =>
    intro u hu
    rw [mrkG, List.mem_append] at hu
    rcases hu with hu | hu
    · exact h u hu
    · exact ih u hu
/- a list that bears its mark throughout -/
def MkG (mc : List Value) (k : Nat) (a : Option Addr) (w : World) : Prop :=
  ∀ i, i < k → ∃ g, a = some ⟨g, 0, none⟩ ∧ g < w.heap.size ∧ ∀ j v, mc[j]? = some v → w.cell? ⟨g, i * mc.length + j, none⟩ = some v
theorem MkG.below {mc : List Value} {k : Nat} {a : Option Addr} {w w' : World} (h : MkG mc k a w) (hb : Below w.heap.size w w') : MkG mc k a w' := fun i hi => by
  obtain ⟨g, h1, h2, h3⟩ := h i hi
  exact ⟨g, h1, Nat.lt_of_lt_of_le h2 hb.size, fun j v hj => cell_later hb (h3 j v hj)⟩
theorem MkG.block {mc : List Value} {k : Nat} {a : Option Addr} {w w' : World} (h : MkG mc k a w) (hs : w.heap.size ≤ w'.heap.size) (hb : ∀ g, a = some ⟨g, 0, none⟩ → w'.heap[g]? = w.heap[g]?) : MkG mc k a w' := fun i hi => by
  obtain ⟨g, h1, h2, h3⟩ := h i hi
  exact ⟨g, h1, Nat.lt_of_lt_of_le h2 hs, fun j v hj => by rw [World.cell?_of_block (w := w) (hb g h1)]; exact h3 j v hj⟩
theorem mkG_of_owns {mc : List Value} {w : World} {B : Nat} {e : TypeId} {v : Value} {k : Nat} (h : w.ownsRow B e mc.length v k (mrkG mc k)) : ∃ a cap, v = .slice a k cap ∧ MkG mc k a w := by
  obtain ⟨h1, h2⟩ := h
  rcases h2 with ⟨h2, h3⟩ | ⟨g, cap, cur, hv, hB, hg, hc, hm, hsz, ht⟩
  · subst h3
    exact ⟨none, 0, h2, fun i hi => absurd hi (by omega)⟩
  · refine ⟨some ⟨g, 0, none⟩, cap, hv, fun i hi => ⟨g, rfl, ?_, fun j v hj => ?_⟩⟩
    · rcases Nat.lt_or_ge g w.heap.size with h' | h'
      · exact h'
      · simp [Array.getElem?_eq_none h'] at hg
    · have m1 := mrkG_get mc k i j v hi hj
      rw [← ht, List.getElem?_take] at m1
      rw [Lib.cell_of_heap hg]
      split at m1
      · simpa using m1
      · cases m1
theorem owns_prefixG {mc : List Value} {w : World} {B : Nat} {e : TypeId} {g k m cap : Nat} (hm : w.ownsRow B e mc.length (.slice (some ⟨g, 0, none⟩) (k + m) cap) (k + m) (mrkG mc k ++ mrkG mc m)) : w.ownsRow B e mc.length (.slice (some ⟨g, 0, none⟩) k cap) k (mrkG mc k) := by
  obtain ⟨h1, h2⟩ := hm
  rcases h2 with ⟨h2, _⟩ | ⟨g', cap', cur, hv, hB, hg, hc, hmx, hsz, ht⟩
  · cases h2
  · simp only [Value.slice.injEq, Option.some.injEq, Addr.mk.injEq] at hv
    obtain ⟨⟨rfl, _, _⟩, _, rfl⟩ := hv
    refine ⟨mrkG_len mc k, .inr ⟨g, cap, cur, rfl, hB, hg, by omega, hmx, hsz, ?_⟩⟩
    have := congrArg (List.take (k * mc.length)) ht
    rw [List.take_take, List.take_left' (mrkG_len mc k), show min (k * mc.length) ((k + m) * mc.length) = k * mc.length from Nat.min_eq_left (Nat.mul_le_mul_right _ (by omega))] at this
    exact this
theorem over_getG (l ns : List Value) (A x : Nat) (hA : A ≤ l.length) : (l.take A ++ ns ++ l.drop (A + ns.length))[x]? = if x < A then l[x]? else if x < A + ns.length then ns[x - A]? else l[x]? := by
  have hl : (l.take A).length = A := by simp; omega
  rw [List.append_assoc]
  by_cases h1 : x < A
  · rw [if_pos h1, List.getElem?_append_left (by omega), List.getElem?_take_of_lt h1]
  · rw [if_neg h1, List.getElem?_append_right (by omega), hl]
    by_cases h2 : x < A + ns.length
    · rw [if_pos h2, List.getElem?_append_left (by omega)]
    · rw [if_neg h2, List.getElem?_append_right (by omega), List.getElem?_drop]
      congr 1; omega
section
variable {P : Program} (w : World)
theorem run_append_marksG {mc : List Value} (h1c : ∀ u ∈ mc, u.oneCell' = true) (hs1 : 1 ≤ mc.length) (t ty : TypeId) (base : Nat) (e : TypeId) (i : TypeInfo) (z : Value) (by_ : Nat) (ht : P.underlying t = some (.slice e)) (hi : P.info? e = some i) (hz : i.zero = some z)
    (hsize : i.size = mc.length) (hby : i.bytes = by_) (hb40 : by_ ≤ 40) (hzs : z.cells.size = mc.length) (v : Value) (k : Nat) (hown : w.ownsRow base e mc.length v k (mrkG mc k))
    (ad : Addr) (m c : Nat) (hnews : ∀ j u, (mrkG mc m)[j]? = some u → w.cell? (ad.add j) = some u)
    (hm : 0 < m) (h63 : k + m ≤ 1000000) (hbase : base ≤ w.heap.size) :
    ∃ g cap w', (Builtin.append_ #[t, t] ty #[v, .slice (some ad) m c]).run P w = .ok (.slice (some ⟨g, 0, none⟩) (k + m) cap) w' ∧
      w'.ownsRow base e mc.length (.slice (some ⟨g, 0, none⟩) (k + m) cap) (k + m) (mrkG mc (k + m)) ∧ w.grownBy w' v.ownBlock ∧ (v.ownBlock = some g ∨ g = w.heap.size) ∧ g < w'.heap.size ∧
      w'.ownsRow base e mc.length v k (mrkG mc k) ∧ (∀ j a, MkG mc j a w → MkG mc j a w') := by
  obtain ⟨g, cap, w', hr, h2, h3, h4, h5⟩ := run_append_lies (P := P) w t ty base e i z mc.length by_ ht hi hz hsize hby hzs hs1 v k (mrkG mc k) hown ad m c (mrkG mc m) (mrkG_len mc m) hnews (mrkG_one h1c m) hm (by unfold maxLen; omega) (by have := Nat.mul_le_mul h63 hb40; omega) hbase _ rfl
  refine ⟨g, cap, w', hr, by rw [mrkG_add]; exact h2, h3, h4, h5, ?_⟩
  rcases hown.2 with ⟨rfl, rfl⟩ | ⟨g0, cap0, cur, rfl, hbg, hg, hnc, hcm, hcs, htake⟩
  · refine ⟨World.ownsRow_nil _ _ _ _, fun j a hj q hq => ?_⟩
    obtain ⟨gg, h6, h7, h8⟩ := hj q hq
    have hb := h3.block gg h7 (by simp [Value.ownBlock])
    exact ⟨gg, h6, Nat.lt_of_lt_of_le h7 h3.size, fun y v hy => by rw [World.cell?_of_block (w := w) hb]; exact h8 y v hy⟩
  · by_cases hroom : k + m ≤ cap0
    · have hr2 := run_append_room (P := P) w t ty e i ht hi g0 k cap0 cur hg ad m c (mrkG mc m) (by rw [hsize]; exact mrkG_len mc m) hnews (mrkG_one h1c m) hroom (by rw [hsize, mrkG_len, hcs, ← Nat.add_mul]; exact Nat.mul_le_mul_right _ hroom)
      rw [hr] at hr2
      simp only [Result.ok.injEq, Value.slice.injEq, Option.some.injEq, Addr.mk.injEq] at hr2
      obtain ⟨⟨⟨rfl, _, _⟩, _, rfl⟩, hw'⟩ := hr2
      refine ⟨owns_prefixG h2, fun j a hj q hq => ?_⟩
      obtain ⟨gg, h6, h7, h8⟩ := hj q hq
      refine ⟨gg, h6, Nat.lt_of_lt_of_le h7 h3.size, fun y v hy => ?_⟩
      have h9 := h8 y v hy
      by_cases hgg : gg = g
      · subst hgg
        have hyl := (List.getElem?_eq_some_iff.1 hy).1
        rw [hsize, mrkG_len] at hw'
        have hg2 : w'.heap[gg]? = some (.cells (cur.toList.take (k * mc.length) ++ mrkG mc m ++ cur.toList.drop (k * mc.length + m * mc.length)).toArray e (0, 0)) := by
          rw [hw']; exact setRow_heap w gg cur _ e _ hg
        have hcl : cur.toList.length = cap * mc.length := by rw [← hcs]; simp
        have hA : k * mc.length ≤ cur.toList.length := by rw [hcl]; exact Nat.mul_le_mul_right _ (by omega)
        rw [Lib.cell_of_heap hg] at h9
        have og := fun x => over_getG cur.toList (mrkG mc m) (k * mc.length) x hA
        rw [mrkG_len] at og
        rw [Lib.cell_of_heap hg2, List.getElem?_toArray, og]
        split
        · simpa using h9
        · rename_i hn1
          split
          · rename_i hn2
            have hkq : k ≤ q := by
              rcases Nat.lt_or_ge q k with h | h
              · exfalso; have := Nat.mul_le_mul_right mc.length (show q + 1 ≤ k by omega); rw [Nat.succ_mul] at this; omega
              · exact h
            have hqm : q - k < m := by
              rcases Nat.lt_or_ge (q - k) m with h | h
              · exact h
              · exfalso; have := Nat.mul_le_mul_right mc.length (show k + m ≤ q by omega); rw [Nat.add_mul] at this; omega
            have := mrkG_get mc m (q - k) y v hqm hy
            rw [Nat.sub_mul] at this
            rw [show q * mc.length + y - k * mc.length = q * mc.length - k * mc.length + y by have := Nat.mul_le_mul_right mc.length hkq; omega]
            exact this
          · simpa using h9
      · have hb := h3.block gg h7 (by simp [Value.ownBlock]; exact fun h => hgg h)
        rw [World.cell?_of_block (w := w) hb]; exact h9
    · have holds : ∀ j u, (mrkG mc k)[j]? = some u → w.cell? ((⟨g0, 0, none⟩ : Addr).add j) = some u := hown.cells (g := g0) rfl
      have hr2 := run_append_grow (P := P) w t ty e i z ht hi hz ⟨g0, 0, none⟩ k cap0 (mrkG mc k) (by rw [hsize]; exact mrkG_len mc k) holds ad m c (mrkG mc m) (by rw [hsize]; exact mrkG_len mc m) hnews (by omega) (by omega) (growslice_fits (by omega) (by rw [hby]; have := Nat.mul_le_mul h63 hb40; omega))
      rw [hr] at hr2
      simp only [Result.ok.injEq] at hr2
      obtain ⟨_, hw'⟩ := hr2
      have hB : Below w.heap.size w w' := by rw [hw']; exact (Below.refl _ _).drew.alloc (by simp) _
      exact ⟨owns_below hown hB, fun j a hj => hj.below hB⟩
theorem wpList_append_marksG {mc : List Value} (h1c : ∀ u ∈ mc, u.oneCell' = true) (hs1 : 1 ≤ mc.length) {ops : Array Oper} {rest : List Oper} {o : Oper} {a : Act} {Q : Exit → Act → World → Prop} (hgd : o.guard = none) (s x : Operand) (t : TypeId)
    (ho : o.op = .call { callee := .builtin .append, args := #[s, x], argTypes := #[t, t] })
    (base : Nat) (e : TypeId) (i : TypeInfo) (z : Value) (by_ : Nat) (ht : P.underlying t = some (.slice e)) (hi : P.info? e = some i) (hz : i.zero = some z)
    (hsize : i.size = mc.length) (hby : i.bytes = by_) (hb40 : by_ ≤ 40) (hzs : z.cells.size = mc.length) (v : Value) (k : Nat) (hs : a.eval s = v) (hown : w.ownsRow base e mc.length v k (mrkG mc k))
    (ad : Addr) (m c : Nat) (hx : a.eval x = .slice (some ad) m c) (hnews : ∀ j u, (mrkG mc m)[j]? = some u → w.cell? (ad.add j) = some u)
    (hm : 0 < m) (h63 : k + m ≤ 1000000) (hbase : base ≤ w.heap.size)
    (h : ∀ g cap w', w'.ownsRow base e mc.length (.slice (some ⟨g, 0, none⟩) (k + m) cap) (k + m) (mrkG mc (k + m)) → w.grownBy w' v.ownBlock → (v.ownBlock = some g ∨ g = w.heap.size) → g < w'.heap.size →
      w'.ownsRow base e mc.length v k (mrkG mc k) → (∀ j a, MkG mc j a w → MkG mc j a w') → wpList P ops Q rest (a.put o.dst (.slice (some ⟨g, 0, none⟩) (k + m) cap)) w') : wpList P ops Q (o :: rest) a w := by
  refine wpList_plain hgd fun K hK => ?_
  obtain ⟨g, cap, w', hr, h2, h3, h4, h5, h6, h7⟩ := run_append_marksG (P := P) w h1c hs1 t o.type base e i z by_ ht hi hz hsize hby hb40 hzs v k hown ad m c hnews hm h63 hbase
  unfold Oper.wp execOp
  simp only [ho, resolve, invoke, builtin, Sem.run_bind, Sem.run_pure, Result.andThen_ok, List.map_toArray, List.map_cons, List.map_nil, hs, hx, hr]
  exact hK _ _ (h g cap w' h2 h3 h4 h5 h6 h7)
end
end Go.Proofs.YtbiggccolpchcaaGreatDoor.Bn
