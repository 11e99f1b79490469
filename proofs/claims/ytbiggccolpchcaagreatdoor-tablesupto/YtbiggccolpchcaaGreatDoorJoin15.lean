/- Texts that follow one another, joined. -/
import Derived.Test.YtbiggccolpchcaaGreatDoorJoin14
import Derived.Deep.RegionLaw
import Derived.Test.YtbiggccolpchcaaGreatDoorJoin06
/- Adding a pattern to a table: its number, or that of the one in its way; what is written is the table's own. -/
namespace Go.Proofs.YtbiggccolpchcaaGreatDoor
open Go.RowKit

def hitG (m : List UInt8) (p : List (Int × ByteArray)) : List Ent → Nat → Option Nat
  | [], _ => none
  | e :: r, k => if e.m.data.toList = m then (if ovl e.ps p = true then some k else hitG m p r (k + 1)) else hitG m p r (k + 1)
/- blocks that are neither the table's own cell nor its list stay -/
def Kept (gt : Nat) (v : Value) (w w' : World) : Prop := ∀ g, g < w.heap.size → g ≠ gt → v.ownBlock ≠ some g → w'.heap[g]? = w.heap[g]?
theorem infoEn : (Tryz.prog.info? 233).map (fun i => (i.zero, i.size, i.bytes)) = some (some (.agg #[.string ⟨#[]⟩, .slice none 0 0]), 2, 40) := by kernel_rfl
set_option maxRecDepth 100000 in
set_option maxHeartbeats 4000000 in
theorem tAdd_no (gt o B : Nat) (es : List Ent) (v : Value) (m s : ByteArray) (p : List (Int × ByteArray)) (mx : Int) (w : World) (hT : TbAt gt o B es v w) (hmm : Pm.isMethod m.data.toList = true) (hms : m.size ≤ 1000) (hp : patternOf s.data.toList = some p) (hs : s.size ≤ 1000) (hm : w.cell? ⟨0, 0, none⟩ = some (.int .i64 mx)) (nn ee : Int) (hres : (24 ≤ es.length ∧ nn = 0 ∧ ee = 10) ∨ (es.length < 24 ∧ ∃ j : Nat, hitG m.data.toList p es 0 = some j ∧ nn = j ∧ ee = 9)) :
    Calls Tryz.prog 102 #[.pointer (some ⟨gt, o, none⟩), .string m, .string s] w fun r w' => r = .returned (.tuple #[.int .i64 nn, .int .i64 ee]) ∧ Below w.heap.size w w' := by
  have HIM := hid (fun W => wIsMethod_any m W (by unfold maxLen; omega))
  rw [hmm] at HIM
  have HRP := hid (fun W (hW : Below w.heap.size w W) => readPattern_any s mx W (by omega) (cell_later hW hm))
  rw [hp] at HRP
  have HT := hid hT
  obtain ⟨av, cv, rfl, hen⟩ := en_of_owns hT.row
  have HE := hid hen
  have cel := hT.cel
  have lt0 := hT.lt
  have hfw := hT.few
  clear hT hen hm
  rcases hres with ⟨hfull, rfl, rfl⟩ | ⟨hfull, j, hj, rfl, rfl⟩
  all_goals
   go_enter Tryz.func102, Tryz.ntmps102
   go_wp2_with fail
   refine (HIM.out _).mono ?_
   rintro e w1 ⟨rfl, hw1⟩
   have hw2 := hw1.symm
   subst hw2
   clear hw1
   go_wp2_with fail
   refine (HRP.out _ (Below.refl _ _)).mono ?_
   rintro e w2 ⟨⟨vp, rfl, owp⟩, hB2⟩
   obtain ⟨pa, pc, rfl, hpc0⟩ := pc_of_owns owp
   have cel2 := cell_later hB2 cel
   have lt2 : gt < w2.heap.size := Nat.lt_of_lt_of_le lt0 hB2.size
   have HPC := hid hpc0
   clear HIM HRP cel lt0 owp hpc0
  · have hi : (24 : Int) ≤ (es.length : Int) := by omega
    go_wp2
    go_ret2
    exact ⟨rfl, hB2⟩
  · have hi : ¬ (24 : Int) ≤ (es.length : Int) := by omega
    have HJ := hid hj
    clear hj
    go_wp2_with fail
    go_loopw [34] (fun i wr => ∃ k : Nat, k ≤ es.length ∧ i = .int .i64 k ∧ Hid (hitG m.data.toList p (es.drop k) k = some j) ∧ Below w.heap.size w wr ∧ Below w2.heap.size w2 wr) (fun i _ => es.length - (intOf i).toNat)
    case atStart => exact ⟨0, Nat.zero_le _, rfl, HJ, hB2, Below.refl _ _⟩
    case round =>
      obtain ⟨k, hk, rfl, HK, hbw, hbw2⟩ := hrel
      by_cases hlt : k < es.length
      · obtain ⟨g, rfl, hg, hc1, hc2⟩ := (HE.out.below hbw) k hlt
        have hpc := (HT.out.pat k hlt).below hbw
        have hps := HT.out.szs k hlt
        rw [← List.getElem_cons_drop hlt, hitG] at HK
        generalize es[k] = en at *
        obtain ⟨em, eps, ea, ec⟩ := en
        simp only at hc1 hc2 hpc hps HK
        have hA := (Below.refl wr.heap.size wr).alloc (Nat.le_refl _) (.cells #[.string em, .slice ea eps.length ec] 233)
        have hB := bel_of hbw hA
        have hBb := bel_of hbw2 hA
        have HOV := hid (fun W (h1 : PcAt eps ea W) (h2 : PcAt p pa W) => overlaps_any eps p ea pa ec pc W h1 h2 hps)
        have hbe := bne_lists em m
        by_cases hme : em.data.toList = m.data.toList
        · rw [if_pos hme] at HK
          rw [decide_eq_true hme] at hbe
          go_wp2_with fail
          refine (HOV.out _ (hpc.below hA) (HPC.out.below hBb)).mono ?_
          rintro e w3 ⟨rfl, hb3⟩
          have hB3 := bel_of hB hb3
          have hB3b := bel_of hBb hb3
          cases hov : ovl eps p
          · rw [hov, if_neg (by simp)] at HK
            go_wp2
            exact ⟨⟨k + 1, by omega, by go_num, HK, hB3, hB3b⟩, by simp [intOf]; omega⟩
          · rw [hov, if_pos rfl] at HK
            have hjk := Option.some.inj HK.out
            subst hjk
            go_wp2
            try rw [Exit.noGoto_ret]
            refine bodyPost_ret (v := .tuple #[.int .i64 k, .int .i64 9]) (by simp [results, Tryz.results102, go_sem]) rfl ?_
            exact ⟨rfl, hB3⟩
        · rw [if_neg hme] at HK
          rw [decide_eq_false hme] at hbe
          clear HOV
          go_wp2
          exact ⟨⟨k + 1, by omega, by go_num, HK, hB, hBb⟩, by simp [intOf]; omega⟩
      · exfalso
        have h1 := HK.out
        rw [show k = es.length from by omega, List.drop_length, hitG] at h1
        cases h1
theorem PcAt.keep {ps : List (Int × ByteArray)} {a : Option Addr} {w w' : World} (h : PcAt ps a w) (hz : w.heap.size ≤ w'.heap.size) (hk : ∀ g, a = some ⟨g, 0, none⟩ → ∀ j, w'.cell? ⟨g, j, none⟩ = w.cell? ⟨g, j, none⟩) : PcAt ps a w' := fun i hi => by
  obtain ⟨g, h1, h2, h3, h4⟩ := h i hi
  exact ⟨g, h1, Nat.lt_of_lt_of_le h2 hz, by rw [hk g h1]; exact h3, by rw [hk g h1]; exact h4⟩
/- what Add leaves behind -/
structure Added (gt o B : Nat) (es : List Ent) (v : Value) (m : ByteArray) (p : List (Int × ByteArray)) (w w' : World) : Prop where
  tb : ∃ a c v', TbAt gt o B (es ++ [⟨m, p, a, c⟩]) v' w' ∧ (v'.ownBlock = v.ownBlock ∨ ∃ r, v'.ownBlock = some r ∧ w.heap.size ≤ r) ∧ ∀ g, a = some ⟨g, 0, none⟩ → w.heap.size ≤ g
  bl : Below B w w'
  kp : Kept gt v w w'
  ob : ∃ x, ∀ cs t, w.heap[gt]? = some (.cells cs t (0, 0)) → w'.heap[gt]? = some (.cells (cs.setIfInBounds o x) t (0, 0))
theorem own_ltw {w : World} {B : Nat} {e : TypeId} {sz : Nat} {v : Value} {n : Nat} {xs : List Value} (h : w.ownsRow B e sz v n xs) : ∀ r, v.ownBlock = some r → r < w.heap.size := fun r hr => by
  rcases Nat.lt_or_ge r w.heap.size with h' | h'
  · exact h'
  · exact absurd hr (own_lt h h')
theorem add_end {gt o B : Nat} {es : List Ent} {v : Value} {m : ByteArray} {p : List (Int × ByteArray)} {pa : Option Addr} {pc : Nat} {w wr W3 w4 : World} {gg cap : Nat}
    (hT : TbAt gt o B es v w) (hbr : Below w.heap.size w wr) (hb3 : Below wr.heap.size wr W3) (hgrow : W3.grownBy w4 v.ownBlock)
    (hown : w4.ownsRow B 233 2 (.slice (some ⟨gg, 0, none⟩) (es.length + 1) cap) (es.length + 1) (entC es ++ [.string m, .slice pa p.length pc])) (hat : v.ownBlock = some gg ∨ gg = W3.heap.size)
    (hpc : PcAt p pa wr) (hpn : ∀ g, pa = some ⟨g, 0, none⟩ → w.heap.size ≤ g ∧ g < wr.heap.size) (hB : B ≤ gt) (hBw : B ≤ w.heap.size) (hf : es.length < 24) (hpl : p.length ≤ 1000000) :
    Added gt o B es v m p w (w4.setCell ⟨gt, o, none⟩ (.slice (some ⟨gg, 0, none⟩) (es.length + 1) cap)) := by
  have hbW := bel_of hbr hb3
  have T3 := hT.below hbW
  have hgl := hT.lt
  have hvl := own_ltw hT.row
  have z1 := hbr.size
  have z2 := hb3.size
  have z3 := hgrow.size
  have hgt3 : gt < W3.heap.size := T3.lt
  have hne : gg ≠ gt := by
    rcases hat with h | h
    · intro e; rw [e] at h; exact hT.own h
    · omega
  have hc4 : w4.cell? ⟨gt, o, none⟩ = some v := cell_grown hgrow T3.cel hT.own
  have hcell : ∀ g, g < W3.heap.size → g ≠ gt → v.ownBlock ≠ some g → ∀ j, (w4.setCell ⟨gt, o, none⟩ (.slice (some ⟨gg, 0, none⟩) (es.length + 1) cap)).cell? ⟨g, j, none⟩ = W3.cell? ⟨g, j, none⟩ := fun g h1 h2 h3 j => by
    rw [World.cell?_setCell_other _ _ _ _ (fun e => by simp only [Addr.mk.injEq] at e; first | exact h2 e.1 | exact h2 e.1.symm)]
    exact World.cell?_of_block (hgrow.block g h1 (fun e => h3 e.symm))
  have hzs : (w4.setCell ⟨gt, o, none⟩ (.slice (some ⟨gg, 0, none⟩) (es.length + 1) cap)).heap.size = w4.heap.size := by simp
  refine ⟨⟨pa, pc, .slice (some ⟨gg, 0, none⟩) (es.length + 1) cap, ⟨?_, ?_, ?_, fun i hi => ?_, fun i hi g hg => ?_, fun i hi g hg => ?_, ?_, ?_, fun i hi => ?_, fun i hi g hg => ?_⟩, ?_, fun g hg => (hpn g hg).1⟩, ?_, fun g h1 h2 h3 => ?_, ⟨_, fun cs t hcs => heap_setCell_same _ _ _ _ _ _ (by rw [hgrow.block gt hgt3 (fun e => hT.own e.symm), hbW.block gt hgl]; exact hcs)⟩⟩
  · exact World.cell?_setCell_same _ _ _ hc4
  · rw [World.frozen?_setCell]
    have : w4.heap[gt]? = W3.heap[gt]? := hgrow.block gt hgt3 (fun e => hT.own e.symm)
    have hf3 := T3.fre
    unfold World.frozen? at hf3 ⊢
    rw [this]; exact hf3
  · rw [List.length_append, entC_snoc]
    exact owns_not hown (by simp [Value.ownBlock, hne]) o _
  · by_cases hlt : i < es.length
    · rw [List.getElem_append_left hlt]
      exact (T3.pat i hlt).keep (by omega) (fun g hg j => hcell g (T3.blk i hlt g hg) (hT.far i hlt g hg).1 (hT.far i hlt g hg).2 j)
    · have : i = es.length := by rw [List.length_append] at hi; simp at hi; omega
      subst this
      rw [List.getElem_append_right (Nat.le_refl _)]
      simp only [Nat.sub_self, List.getElem_cons_zero]
      exact (hpc.below hb3).keep (by omega) (fun g hg j => hcell g (by have := (hpn g hg).2; omega) (by have := (hpn g hg).1; omega) (fun e => by have := hvl g e; have := (hpn g hg).1; omega) j)
  · by_cases hlt : i < es.length
    · rw [List.getElem_append_left hlt] at hg
      refine ⟨(hT.far i hlt g hg).1, fun e => ?_⟩
      simp only [Value.ownBlock, Option.some.injEq] at e
      subst e
      rcases hat with h | h
      · exact (hT.far i hlt gg hg).2 h
      · have := T3.blk i hlt gg hg; omega
    · have : i = es.length := by rw [List.length_append] at hi; simp at hi; omega
      subst this
      rw [List.getElem_append_right (Nat.le_refl _)] at hg
      simp only [Nat.sub_self, List.getElem_cons_zero] at hg
      have hq := hpn g hg
      refine ⟨by omega, fun e => ?_⟩
      simp only [Value.ownBlock, Option.some.injEq] at e
      subst e
      rcases hat with h | h
      · have := hvl gg h; omega
      · omega
  · by_cases hlt : i < es.length
    · rw [List.getElem_append_left hlt] at hg
      have := T3.blk i hlt g hg
      omega
    · have : i = es.length := by rw [List.length_append] at hi; simp at hi; omega
      subst this
      rw [List.getElem_append_right (Nat.le_refl _)] at hg
      simp only [Nat.sub_self, List.getElem_cons_zero] at hg
      have hq := hpn g hg
      omega
  · simp [Value.ownBlock, hne]
  · rw [List.length_append]; simp; omega
  · by_cases hlt : i < es.length
    · rw [List.getElem_append_left hlt]; exact hT.szs i hlt
    · have : i = es.length := by rw [List.length_append] at hi; simp at hi; omega
      subst this
      rw [List.getElem_append_right (Nat.le_refl _)]
      simpa using hpl
  · by_cases hlt : i < es.length
    · rw [List.getElem_append_left hlt] at hg
      exact hT.new i hlt g hg
    · have : i = es.length := by rw [List.length_append] at hi; simp at hi; omega
      subst this
      rw [List.getElem_append_right (Nat.le_refl _)] at hg
      simp only [Nat.sub_self, List.getElem_cons_zero] at hg
      have hq := hpn g hg
      omega
  · rcases hat with h | h
    · exact .inl (by rw [h]; rfl)
    · exact .inr ⟨gg, rfl, by omega⟩
  · exact ((hbW.mono hBw).grown hgrow (by omega) (fun k hk => own_ge hT.row k hk)).setCell hB _
  · have hh : (w4.setCell ⟨gt, o, none⟩ (.slice (some ⟨gg, 0, none⟩) (es.length + 1) cap)).heap[g]? = w4.heap[g]? := heap_setCell_other w4 ⟨gt, o, none⟩ g _ h2
    rw [hh, hgrow.block g (by omega) (fun e => h3 e.symm)]
    exact hbW.block g h1
theorem frozen_add {gt o : Nat} {wr w4 w5 : World} {E : Obj} {row : Option Nat} (hg : (w4.alloc E).grownBy w5 row) (hb : Below wr.drew.heap.size wr.drew w4) (hf : wr.frozen? ⟨gt, o, none⟩ = false) (hl : gt < wr.heap.size) (hn : row ≠ some gt) : w5.frozen? ⟨gt, o, none⟩ = false := by
  have l4 : gt < w4.heap.size := Nat.lt_of_lt_of_le hl hb.size
  have h1 : w5.heap[gt]? = (w4.alloc E).heap[gt]? := hg.block gt (by simp; omega) (fun e => hn e.symm)
  have h2 : (w4.alloc E).heap[gt]? = w4.heap[gt]? := ((Below.refl w4.heap.size w4).alloc (Nat.le_refl _) E).block gt l4
  have h3 : w4.heap[gt]? = wr.heap[gt]? := hb.block gt hl
  rw [World.frozen?_of_block (w := wr) (show w5.heap[gt]? = wr.heap[gt]? by rw [h1, h2, h3])]
  exact hf
set_option maxRecDepth 100000 in
set_option maxHeartbeats 4000000 in
theorem tAdd_yes (gt o B : Nat) (es : List Ent) (v : Value) (m s : ByteArray) (p : List (Int × ByteArray)) (mx : Int) (w : World) (hT : TbAt gt o B es v w) (hmm : Pm.isMethod m.data.toList = true) (hms : m.size ≤ 1000) (hp : patternOf s.data.toList = some p) (hpl : p.length ≤ 1000000) (hs : s.size ≤ 1000) (hm : w.cell? ⟨0, 0, none⟩ = some (.int .i64 mx)) (hB : B ≤ gt) (hBw : B ≤ w.heap.size) (hf : es.length < 24) (hno : hitG m.data.toList p es 0 = none) :
    Calls Tryz.prog 102 #[.pointer (some ⟨gt, o, none⟩), .string m, .string s] w fun r w' => r = .returned (.tuple #[.int .i64 (es.length : Nat), .int .i64 0]) ∧ Added gt o B es v m p w w' := by
  obtain ⟨i0, hi, hz0, hz1, hz2⟩ := info_parts infoEn
  have HIM := hid (fun W => wIsMethod_any m W (by unfold maxLen; omega))
  rw [hmm] at HIM
  have HRP := hid (fun W (hW : Below w.heap.size w W) => readPattern_any s mx W (by omega) (cell_later hW hm))
  rw [hp] at HRP
  have HCL := hid (fun W => clone_any m W (by omega))
  have HT := hid hT
  obtain ⟨av, cv, rfl, hen⟩ := en_of_owns hT.row
  have HE := hid hen
  have cel := hT.cel
  have lt0 := hT.lt
  have hfw := hT.few
  clear hT hen hm
  go_enter Tryz.func102, Tryz.ntmps102
  go_wp2_with fail
  refine (HIM.out _).mono ?_
  rintro e w1 ⟨rfl, hw1⟩
  have hw2 := hw1.symm
  subst hw2
  clear hw1
  go_wp2_with fail
  refine (HRP.out _ (Below.refl _ _)).mono ?_
  rintro e w2 ⟨⟨vp, rfl, owp⟩, hB2⟩
  have HPN : Hid (∀ g, vp.ownBlock = some g → w.heap.size ≤ g ∧ g < w2.heap.size) := fun g hg => ⟨own_ge owp g hg, own_ltw owp g hg⟩
  obtain ⟨pa, pc, rfl, hpc0⟩ := pc_of_owns owp
  have cel2 := cell_later hB2 cel
  have lt2 : gt < w2.heap.size := Nat.lt_of_lt_of_le lt0 hB2.size
  have HPC := hid hpc0
  clear HIM HRP cel owp hpc0
  have hi24 : ¬ (24 : Int) ≤ (es.length : Int) := by omega
  have HJ := hid hno
  clear hno
  go_wp2_with fail
  go_loopw [34] (fun i wr => ∃ k : Nat, k ≤ es.length ∧ i = .int .i64 k ∧ Hid (hitG m.data.toList p (es.drop k) k = none) ∧ Below w.heap.size w wr ∧ Below w2.heap.size w2 wr) (fun i _ => es.length - (intOf i).toNat)
  case atStart => exact ⟨0, Nat.zero_le _, rfl, HJ, hB2, Below.refl _ _⟩
  case round =>
    obtain ⟨k, hk, rfl, HK, hbw, hbw2⟩ := hrel
    by_cases hlt : k < es.length
    · obtain ⟨g, rfl, hg, hc1, hc2⟩ := (HE.out.below hbw) k hlt
      have hpc := (HT.out.pat k hlt).below hbw
      have hps := HT.out.szs k hlt
      rw [← List.getElem_cons_drop hlt, hitG] at HK
      generalize es[k] = en at *
      obtain ⟨em, eps, ea, ec⟩ := en
      simp only at hc1 hc2 hpc hps HK
      have hA := (Below.refl wr.heap.size wr).alloc (Nat.le_refl _) (.cells #[.string em, .slice ea eps.length ec] 233)
      have hBa := bel_of hbw hA
      have hBb := bel_of hbw2 hA
      have HOV := hid (fun W (h1 : PcAt eps ea W) (h2 : PcAt p pa W) => overlaps_any eps p ea pa ec pc W h1 h2 hps)
      have hbe := bne_lists em m
      by_cases hme : em.data.toList = m.data.toList
      · rw [if_pos hme] at HK
        rw [decide_eq_true hme] at hbe
        go_wp2_with fail
        refine (HOV.out _ (hpc.below hA) (HPC.out.below hBb)).mono ?_
        rintro e w3 ⟨rfl, hb3⟩
        have hB3 := bel_of hBa hb3
        have hB3b := bel_of hBb hb3
        cases hov : ovl eps p
        · rw [hov, if_neg (by simp)] at HK
          go_wp2
          exact ⟨⟨k + 1, by omega, by go_num, HK, hB3, hB3b⟩, by simp [intOf]; omega⟩
        · rw [hov, if_pos rfl] at HK
          exact absurd HK.out (by simp)
      · rw [if_neg hme] at HK
        rw [decide_eq_false hme] at hbe
        clear HOV
        go_wp2
        exact ⟨⟨k + 1, by omega, by go_num, HK, hBa, hBb⟩, by simp [intOf]; omega⟩
    · have hke : ¬ (k : Int) < (es.length : Int) := by omega
      have Tr := HT.out.below hbw
      have cel3 := Tr.cel
      have fre3 := Tr.fre
      have lt3 := Tr.lt
      have ow3 := Tr.row
      have hbz := hbw.size
      have hbz2 := hbw2.size
      have hnown := Tr.own
      have hBr : B ≤ wr.heap.size := by omega
      clear HK cel2 lt2
      go_wp2_with fail
      go_region_law
        (first
          | (refine step_append_lies _ (by rfl) _ _ _ (by rfl) B 233 i0 _ 2 40 Tryz.underlying169 hi hz0 hz1 hz2 rfl (by omega) (.slice av es.length cv) es.length (entC es) (by rfl) ((owns_below ow3.drew hb4).alloc _) ⟨w4.heap.size, 0, none⟩ 1 1 [.string m, .slice pa p.length pc] (by rfl) (by rfl) (World.news_of_block (cs := #[.string m, .slice pa p.length pc]) (t := 233) (fr := (0, 0)) (heap_alloc_new w4 _)) (by simp [Value.oneCell']) (by omega) (by unfold maxLen; omega) (by omega) (Nat.le_trans (Nat.le_trans hBr hb4.size) (by simp)) (w4.heap.size + 1) (by simp) ?_; intro gg cap w5 hown5 hgrow hat hlt5; have c5 := cell_grown hgrow (cell_old k4) hnown; have f5 : w5.frozen? ⟨gt, o, none⟩ = false := frozen_add hgrow hb4 fre3 lt3 hnown; have l5 : gt < w5.heap.size := Nat.lt_of_lt_of_le (Nat.lt_of_lt_of_le lt3 hb4.size) (Nat.le_trans (by simp) hgrow.size))
          | (go_simp; go_at_call 154; refine (HCL.out _).mono ?_; rintro e w4 ⟨rfl, hb4⟩; have k4 := cell_later hb4 (show wr.drew.cell? ⟨gt, o, none⟩ = _ from cel3); have l4 : gt < w4.heap.size := Nat.lt_of_lt_of_le lt3 hb4.size))
      all_goals
        have hE : Below wr.heap.size wr (w4.alloc (.cells #[.string m, .slice pa p.length pc] 233)) := (bel_of (Below.refl wr.heap.size wr).drew hb4).alloc (bel_of (Below.refl wr.heap.size wr).drew hb4).size _
        have hAD := hid (add_end HT.out hbw hE hgrow hown5 (hat.imp_right (fun h => by rw [h]; simp)) (HPC.out.below hbw2) (fun g hg => by have := HPN.out g (by rw [hg]; rfl); omega) hB hBw hf hpl)
        clear hE hgrow hown5 hat hlt5
        go_wp2
        go_ret2
        exact ⟨rfl, hAD.out⟩
end Go.Proofs.YtbiggccolpchcaaGreatDoor

/- Add where the method or the pattern is none; the words of a configuration; nothing old in memory turns. -/
namespace Go.Proofs.YtbiggccolpchcaaGreatDoor
open Go.RowKit

set_option maxRecDepth 100000 in
set_option maxHeartbeats 1000000 in
theorem tAdd_arg (p : Value) (m s : ByteArray) (w : World) (hmm : Pm.isMethod m.data.toList = false) (hms : m.size ≤ maxLen) :
    Calls Tryz.prog 102 #[p, .string m, .string s] w fun r w' => r = .returned (.tuple #[.int .i64 0, .int .i64 1]) ∧ Below w.heap.size w w' := by
  have HIM := hid (fun W => wIsMethod_any m W hms)
  rw [hmm] at HIM
  go_enter Tryz.func102, Tryz.ntmps102
  go_wp2_with fail
  refine (HIM.out _).mono ?_
  rintro e w1 ⟨rfl, hw1⟩
  subst hw1
  go_wp2
  go_ret2
  exact ⟨rfl, Below.refl _ _⟩
set_option maxRecDepth 100000 in
set_option maxHeartbeats 1000000 in
theorem tAdd_pat (p : Value) (m s : ByteArray) (mx : Int) (w : World) (hmm : Pm.isMethod m.data.toList = true) (hms : m.size ≤ maxLen) (hp : patternOf s.data.toList = none) (hs : s.size ≤ 281474976710656) (hm : w.cell? ⟨0, 0, none⟩ = some (.int .i64 mx)) :
    Calls Tryz.prog 102 #[p, .string m, .string s] w fun r w' => r = .returned (.tuple #[.int .i64 0, .int .i64 8]) ∧ Below w.heap.size w w' := by
  have HIM := hid (fun W => wIsMethod_any m W hms)
  rw [hmm] at HIM
  have HRP := hid (readPattern_any s mx w hs hm)
  rw [hp] at HRP
  clear hm
  go_enter Tryz.func102, Tryz.ntmps102
  go_wp2_with fail
  refine (HIM.out _).mono ?_
  rintro e w1 ⟨rfl, hw1⟩
  have hw2 := hw1.symm
  subst hw2
  clear hw1
  go_wp2_with fail
  refine HRP.out.mono ?_
  rintro e w2 ⟨he, hB2⟩
  obtain rfl : e = .returned (.tuple #[.slice none 0 0, .int .i64 8]) := he
  go_wp2
  go_ret2
  exact ⟨rfl, hB2⟩
end Go.Proofs.YtbiggccolpchcaaGreatDoor

/- The words of a configuration: labels, handlers, wares; nothing old in memory turns. -/
namespace Go.Proofs.YtbiggccolpchcaaGreatDoor
open Go.RowKit

def labB (l : List UInt8) : Bool := Pm.isTok l && (!(Pm.alike l [67, 111, 110, 116, 101, 110, 116, 45, 76, 101, 110, 103, 116, 104]) && (!(Pm.alike l [84, 114, 97, 110, 115, 102, 101, 114, 45, 69, 110, 99, 111, 100, 105, 110, 103]) && !(Pm.alike l [67, 111, 110, 110, 101, 99, 116, 105, 111, 110])))
set_option maxRecDepth 100000 in
set_option maxHeartbeats 1000000 in
theorem isLabel_any (s : ByteArray) (w : World) (hs : s.size ≤ maxLen) :
    Calls Tryz.prog 251 #[.string s] w fun e w' => e = .returned (.bool (labB s.data.toList)) ∧ Below w.heap.size w w' := by
  have HT := hid (fun W => wIsToken_any s W hs)
  have H1 : Hid (∀ W, Calls Tryz.prog 246 #[.string s, .string ⟨#[67, 111, 110, 116, 101, 110, 116, 45, 76, 101, 110, 103, 116, 104]⟩] W fun e w' => e = .returned (.bool (Pm.alike s.data.toList [67, 111, 110, 116, 101, 110, 116, 45, 76, 101, 110, 103, 116, 104])) ∧ Below W.heap.size W w') := fun W => wAlike_any s ⟨#[67, 111, 110, 116, 101, 110, 116, 45, 76, 101, 110, 103, 116, 104]⟩ W hs
  have H2 : Hid (∀ W, Calls Tryz.prog 246 #[.string s, .string ⟨#[84, 114, 97, 110, 115, 102, 101, 114, 45, 69, 110, 99, 111, 100, 105, 110, 103]⟩] W fun e w' => e = .returned (.bool (Pm.alike s.data.toList [84, 114, 97, 110, 115, 102, 101, 114, 45, 69, 110, 99, 111, 100, 105, 110, 103])) ∧ Below W.heap.size W w') := fun W => wAlike_any s ⟨#[84, 114, 97, 110, 115, 102, 101, 114, 45, 69, 110, 99, 111, 100, 105, 110, 103]⟩ W hs
  have H3 : Hid (∀ W, Calls Tryz.prog 246 #[.string s, .string ⟨#[67, 111, 110, 110, 101, 99, 116, 105, 111, 110]⟩] W fun e w' => e = .returned (.bool (Pm.alike s.data.toList [67, 111, 110, 110, 101, 99, 116, 105, 111, 110])) ∧ Below W.heap.size W w') := fun W => wAlike_any s ⟨#[67, 111, 110, 110, 101, 99, 116, 105, 111, 110]⟩ W hs
  unfold labB
  generalize Pm.isTok s.data.toList = b0 at *
  generalize Pm.alike s.data.toList [67, 111, 110, 116, 101, 110, 116, 45, 76, 101, 110, 103, 116, 104] = b1 at *
  generalize Pm.alike s.data.toList [84, 114, 97, 110, 115, 102, 101, 114, 45, 69, 110, 99, 111, 100, 105, 110, 103] = b2 at *
  generalize Pm.alike s.data.toList [67, 111, 110, 110, 101, 99, 116, 105, 111, 110] = b3 at *
  go_enter Tryz.func251, Tryz.ntmps251
  go_wp2_with fail
  refine (HT.out _).mono ?_
  rintro e w1 ⟨rfl, hw1⟩
  subst hw1
  cases b0
  · go_wp2
    go_ret
    exact ⟨rfl, Below.refl _ _⟩
  · go_wp2_with fail
    refine (H1.out _).mono ?_
    rintro e w2 ⟨rfl, hb2⟩
    cases b1
    · go_wp2_with fail
      refine (H2.out _).mono ?_
      rintro e w3 ⟨rfl, hb3⟩
      have hB3 := bel_of hb2 hb3
      cases b2
      · go_wp2_with fail
        refine (H3.out _).mono ?_
        rintro e w4 ⟨rfl, hb4⟩
        have hB4 := bel_of hB3 hb4
        cases b3
        all_goals
          go_wp2
          go_ret
          exact ⟨rfl, hB4⟩
      · go_wp2
        go_ret
        exact ⟨rfl, hB3⟩
    · go_wp2
      go_ret
      exact ⟨rfl, hb2⟩
end Go.Proofs.YtbiggccolpchcaaGreatDoor
