/- Texts that follow one another, joined. -/
import Derived.Test.YtnohadlihgjppaaDoorJoin18
import Derived.OwnWalk
/- overlaps: whether two patterns have a path in common, piece by piece; nothing old in memory turns. -/
namespace Go.Proofs.YtnohadlihgjppaaDoor
open Go.RowKit

def ovl : List (Int × ByteArray) → List (Int × ByteArray) → Bool
  | p :: ps, q :: qs => if p.1 = 2 ∨ q.1 = 2 then true else if mt p q = true then ovl ps qs else false
  | [], [] => true
  | _, _ => false
theorem ovl_at {ps qs : List (Int × ByteArray)} {k : Nat} (h1 : k < ps.length) (h2 : k < qs.length) : ovl (ps.drop k) (qs.drop k) = if ps[k].1 = 2 ∨ qs[k].1 = 2 then true else if mt ps[k] qs[k] = true then ovl (ps.drop (k + 1)) (qs.drop (k + 1)) else false := by
  rw [← List.getElem_cons_drop h1, ← List.getElem_cons_drop h2, ovl]
theorem ovl_end {ps qs : List (Int × ByteArray)} {k : Nat} (h : k = min ps.length qs.length) : ovl (ps.drop k) (qs.drop k) = decide (ps.length = qs.length) := by
  rcases Nat.lt_trichotomy ps.length qs.length with h1 | h1 | h1
  · have e : ps.drop k = [] := List.drop_eq_nil_of_le (by omega)
    rw [e]
    cases hq : qs.drop k with
    | nil => have := congrArg List.length hq; simp at this; omega
    | cons a r => rw [show ovl [] (a :: r) = false from rfl, decide_eq_false (by omega)]
  · have e1 : ps.drop k = [] := List.drop_eq_nil_of_le (by omega)
    have e2 : qs.drop k = [] := List.drop_eq_nil_of_le (by omega)
    rw [e1, e2, ovl, decide_eq_true h1]
  · have e : qs.drop k = [] := List.drop_eq_nil_of_le (by omega)
    rw [e]
    cases hq : ps.drop k with
    | nil => have := congrArg List.length hq; simp at this; omega
    | cons a r => rw [show ovl (a :: r) [] = false from rfl, decide_eq_false (by omega)]

set_option maxRecDepth 100000 in
set_option maxHeartbeats 1000000 in
theorem overlaps_any (ps qs : List (Int × ByteArray)) (a b : Option Addr) (ca cb : Nat) (w : World) (hp : PcAt ps a w) (hq : PcAt qs b w) (hl : ps.length ≤ 1000000) :
    Calls Tryd.prog 59 #[.slice a ps.length ca, .slice b qs.length cb] w fun e w' => e = .returned (.bool (ovl ps qs)) ∧ Below w.heap.size w w' := by
  have HP := hid hp
  have HQ := hid hq
  clear hp hq
  go_enter Tryd.func59, Tryd.ntmps59
  go_wp2_with fail
  go_loopw [5, 11] (fun _ i wr => ∃ k : Nat, k ≤ min ps.length qs.length ∧ i = .int .i64 k ∧ Hid (ovl (ps.drop k) (qs.drop k) = ovl ps qs) ∧ Below w.heap.size w wr) (fun _ i _ => min ps.length qs.length - (intOf i).toNat)
  case atStart => exact ⟨0, Nat.zero_le _, rfl, rfl, Below.refl _ _⟩
  case round =>
    obtain ⟨k, hk, rfl, H, hbw⟩ := hrel
    by_cases hlt : k < ps.length ∧ k < qs.length
    · obtain ⟨h1, h2⟩ := hlt
      have hmn : (k : Int) < min (ps.length : Int) (qs.length : Int) := by omega
      obtain ⟨ga, rfl, hg1, hc1, hc2⟩ := (HP.out.below hbw) k h1
      obtain ⟨gb, rfl, hg2, hc3, hc4⟩ := (HQ.out.below hbw) k h2
      have HS := hid (ovl_at h1 h2)
      rw [H.out] at HS
      obtain ⟨f, hf⟩ : ∃ f, f = ps[k] := ⟨_, rfl⟩
      obtain ⟨f2, hf2⟩ : ∃ f, f = qs[k] := ⟨_, rfl⟩
      rw [← hf] at hc1 hc2 HS
      rw [← hf2] at hc3 hc4 HS
      clear hf hf2
      obtain ⟨pk, pt⟩ := f
      obtain ⟨qk, qt⟩ := f2
      simp only at hc1 hc2 hc3 hc4 HS
      by_cases e1 : pk = 2
      · have e1' : (pk == 2) = true := by rw [e1]; rfl
        rw [if_pos (Or.inl e1)] at HS
        clear e1
        go_wp2
        go_ret
        exact ⟨ret_bool HS.out.symm, hbw⟩
      · have e1' : (pk == 2) = false := by rw [beq_eq_false_iff_ne]; exact e1
        by_cases e2 : qk = 2
        · have e2' : (qk == 2) = true := by rw [e2]; rfl
          rw [if_pos (Or.inr e2)] at HS
          clear e1 e2
          go_wp2
          go_ret
          exact ⟨ret_bool HS.out.symm, hbw⟩
        · have e2' : (qk == 2) = false := by rw [beq_eq_false_iff_ne]; exact e2
          rw [if_neg (by rintro (h | h) <;> contradiction)] at HS
          clear e1 e2
          go_wp2_with fail
          go_region_with (go_at_call 88; refine (meets_any pk qk pt qt _).mono ?_; rintro e w1 ⟨rfl, hb1⟩)
          all_goals
            have hB1 := bel_of hbw.drew hb1
            generalize mt (pk, pt) (qk, qt) = m at *
            cases m
            · rw [if_neg (by simp)] at HS
              go_wp2
              go_ret
              exact ⟨ret_bool HS.out.symm, hB1⟩
            · rw [if_pos rfl] at HS
              go_wp2
              exact ⟨⟨k + 1, by omega, by go_num, HS.out.symm, hB1⟩, by simp [intOf]; omega⟩
    · have hmn : ¬ (k : Int) < min (ps.length : Int) (qs.length : Int) := by omega
      have hke : k = min ps.length qs.length := by omega
      have HE := hid (ovl_end hke)
      rw [H.out] at HE
      go_wp2
      all_goals
        go_ret
        refine ⟨ret_bool ?_, hbw⟩
        rw [HE.out]
        first
          | (rw [decide_eq_decide]; omega)
          | (rw [Bool.eq_iff_iff, beq_iff_eq, decide_eq_true_iff]; omega)
end Go.Proofs.YtnohadlihgjppaaDoor

/- readPattern: the pieces of a pattern in new memory, or that the text is none; nothing old in memory turns. -/
namespace Go.Proofs.YtnohadlihgjppaaDoor
open Go.RowKit

def pcB (t : List UInt8) : Int × ByteArray := (Pm.pieceK t, ⟨(Pm.pieceT t).toArray⟩)
def patOk (t : List UInt8) (last : Bool) (acc : List (Int × ByteArray)) : Bool := Pm.pieceOk t && (!((Pm.pieceK t == 2) && !last) && !(acc.any (nameEq · (pcB t))))
def patB : List (List UInt8) → List (Int × ByteArray) → Option (List (Int × ByteArray))
  | [], acc => some acc
  | t :: r, acc => if patOk t r.isEmpty acc = true then patB r (acc ++ [pcB t]) else none
def patternOf (l : List UInt8) : Option (List (Int × ByteArray)) := if l.length ≤ 64 ∧ Lib.hasPrefix l [47] = true then patB (Lib.split (l.drop 1) [47]) [] else none
def pcCells (ps : List (Int × ByteArray)) : List Value := ps.flatMap fun p => [.int .i64 p.1, .string p.2]
theorem pcCells_snoc (ps : List (Int × ByteArray)) (p : Int × ByteArray) : pcCells (ps ++ [p]) = pcCells ps ++ [.int .i64 p.1, .string p.2] := by simp [pcCells]
theorem pcCells_get : ∀ (ps : List (Int × ByteArray)) (i : Nat) (h : i < ps.length), (pcCells ps)[i * 2]? = some (.int .i64 ps[i].1) ∧ (pcCells ps)[i * 2 + 1]? = some (.string ps[i].2)
  | [], i, h => absurd h (by simp)
  | f :: fs, 0, h => by simp [pcCells]
  | f :: fs, i + 1, h => by
    have := pcCells_get fs i (by simpa using h)
    have e : pcCells (f :: fs) = (.int .i64 f.1) :: (.string f.2) :: pcCells fs := by simp [pcCells]
    rw [e, show (i + 1) * 2 = i * 2 + 1 + 1 from by omega, List.getElem?_cons_succ, List.getElem?_cons_succ, show i * 2 + 1 + 1 + 1 = (i * 2 + 1) + 1 + 1 from by omega, List.getElem?_cons_succ, List.getElem?_cons_succ]
    exact this
theorem pc_of_owns {w : World} {B : Nat} {e : TypeId} {v : Value} {ps : List (Int × ByteArray)} (h : w.ownsRow B e 2 v ps.length (pcCells ps)) : ∃ a cap, v = .slice a ps.length cap ∧ PcAt ps a w := by
  obtain ⟨h1, h2⟩ := h
  rcases h2 with ⟨h2, h3⟩ | ⟨g, cap, cur, hv, hB, hg, hc, hm, hsz, ht⟩
  · refine ⟨none, 0, ?_, fun i hi => ?_⟩
    · rw [h3]; exact h2
    · omega
  · refine ⟨some ⟨g, 0, none⟩, cap, hv, fun i hi => ⟨g, rfl, ?_, ?_, ?_⟩⟩
    · rcases Nat.lt_or_ge g w.heap.size with h' | h'
      · exact h'
      · simp [Array.getElem?_eq_none h'] at hg
    all_goals
      obtain ⟨m1, m2⟩ := pcCells_get ps i hi
      rw [← ht, List.getElem?_take] at m1 m2
      rw [Lib.cell_of_heap hg]
    · split at m1
      · simpa using m1
      · cases m1
    · split at m2
      · simpa using m2
      · cases m2
theorem Tryd.infoPc : (Tryd.prog.info? 127).map (fun i => (i.zero, i.size, i.bytes)) = some (some (.agg #[.int .i64 0, .string ⟨#[]⟩]), 2, 24) := by kernel_rfl

def RpPost (PO : Option (List (Int × ByteArray))) (B : Nat) (r : Ending) (w' : World) : Prop :=
  match PO with
  | none => r = .returned (.tuple #[.slice none 0 0, .int .i64 8])
  | some ps => ∃ v, r = .returned (.tuple #[v, .int .i64 0]) ∧ w'.ownsRow B 127 2 v ps.length (pcCells ps)
set_option maxRecDepth 100000 in
set_option maxHeartbeats 4000000 in
theorem readPattern_any (s : ByteArray) (mx : Int) (w : World) (hs : s.size ≤ 281474976710656) (hm : w.cell? ⟨1, 0, none⟩ = some (.int .i64 mx)) :
    Calls Tryd.prog 49 #[.string s] w fun r w' =>
      RpPost (patternOf s.data.toList) w.heap.size r w' ∧ Below w.heap.size w w' := by
  obtain ⟨i0, hi, hz0, hz1, hz2⟩ := info_parts Tryd.infoPc
  have hsl : s.data.toList.length = s.size := by simp
  generalize hPO : patternOf s.data.toList = PO
  have HPO := hid hPO
  clear hPO
  unfold patternOf at HPO
  rw [hsl] at HPO
  by_cases h64 : s.size ≤ 64
  · cases h47 : Lib.hasPrefix s.data.toList [47]
    · have HN : Hid (PO = none) := by unfold Hid; rw [← HPO.out, if_neg (by rw [h47]; simp)]
      clear HPO hsl
      go_enter Tryd.func49, Tryd.ntmps49
      go_wp2_with (go_at_call 77; refine (Tryd.strings_HasPrefix _ _ _).mono ?_; rintro e w1 ⟨rfl, hw1⟩; subst hw1)
      go_ret2
      rw [HN.out]
      exact ⟨rfl, Below.refl _ _⟩
    · rw [if_pos ⟨h64, h47⟩] at HPO
      have hne : 1 ≤ s.size := by
        rcases Nat.eq_zero_or_pos s.size with h | h
        · have : s.data.toList = [] := List.eq_nil_of_length_eq_zero (by omega)
          rw [this] at h47; exact absurd h47 (by decide)
        · exact h
      have hex : (s.extract 1 s.size).data.toList = s.data.toList.drop 1 := by rw [Lib.extract_data, List.take_of_length_le (by simp)]
      have hez : (s.extract 1 s.size).size ≤ 281474976710656 := by simp; omega
      have hez2 : (s.extract 1 s.size).size < 4294967281 := by simp; omega
      rw [← hex] at HPO
      have HCL := hid (fun W => clone_any (s.extract 1 s.size) W hez)
      have HM := hid (fun W (hW : Below w.heap.size w W) => Tryd.strings_Split (s.extract 1 s.size) ⟨#[47]⟩ mx W hez2 (cell_later hW hm) (by decide))
      go_enter Tryd.func49, Tryd.ntmps49
      go_wp2_with (go_at_call 77; refine (Tryd.strings_HasPrefix _ _ _).mono ?_; rintro e w1 ⟨rfl, hw1⟩; subst hw1)
      refine (HCL.out _).mono ?_
      rintro e w2 ⟨rfl, hb2⟩
      have HSP := hid (HM.out w2 hb2)
      clear HM HCL
      go_wp2_with fail
      refine HSP.out.mono ?_
      rintro e w3 ⟨rfl, hw3⟩
      have hlen : (Lib.splitB ⟨#[47]⟩ 0 (Lib.countB (s.extract 1 s.size) ⟨#[47]⟩) (s.extract 1 s.size)).length = Lib.countB (s.extract 1 s.size) ⟨#[47]⟩ + 1 := Lib.splitB_all _ (by decide) _ _ _ rfl
      have hdat : (Lib.splitB ⟨#[47]⟩ 0 (Lib.countB (s.extract 1 s.size) ⟨#[47]⟩) (s.extract 1 s.size)).map (·.data.toList) = Lib.split (s.extract 1 s.size).data.toList [47] := Lib.splitB_data _ _ _ _
      have hcnt := Lib.countB_le ⟨#[47]⟩ (by decide) _ (s.extract 1 s.size) (Nat.le_refl _)
      have hc64 : Lib.countB (s.extract 1 s.size) ⟨#[47]⟩ ≤ 64 := by simp at hcnt; omega
      have HTZ : ∀ i (h : i < (Lib.splitB ⟨#[47]⟩ 0 (Lib.countB (s.extract 1 s.size) ⟨#[47]⟩) (s.extract 1 s.size)).length), (Lib.splitB ⟨#[47]⟩ 0 (Lib.countB (s.extract 1 s.size) ⟨#[47]⟩) (s.extract 1 s.size))[i].size ≤ maxLen := fun i h => by
        have h2 := Pm.splitB_le _ _ _ _ (List.getElem_mem h)
        unfold maxLen; omega
      rw [← hdat] at HPO
      rw [← hlen]
      generalize Lib.splitB ⟨#[47]⟩ 0 (Lib.countB (s.extract 1 s.size) ⟨#[47]⟩) (s.extract 1 s.size) = TS at *
      have hts : TS.length ≤ 65 := by omega
      clear HSP hdat hcnt hlen hc64
      subst hw3
      have hA3 := (Below.refl w2.heap.size w2).alloc (Nat.le_refl _) (.cells (TS.map Value.string).toArray 9)
      have hB3 := bel_of hb2 hA3
      have hS3 : StAt TS (some ⟨w2.heap.size, 0, none⟩) (w2.alloc (.cells (TS.map Value.string).toArray 9)) := fun i h => ⟨w2.heap.size, rfl, by simp, by
        rw [Lib.cell_of_heap (heap_alloc_new w2 _)]; simp [h]⟩
      go_wp2_with (at_make; refine wpList_make_own _ rfl _ _ 89 rfl (w2.heap.size + 1) 127 i0 _ 2 Tryd.underlying89 hi hz0 hz1 .i64 .i64 _ TS.length rfl rfl rfl (by rw [hz2]; omega) (by unfold maxLen; omega) (by simp) ?_)
      intro w4 ow4 gr4
      have hB4 := hB3.grown gr4 hB3.size (fun r hr => by cases hr)
      have hS4 : StAt TS (some ⟨w2.heap.size, 0, none⟩) w4 := fun i h => by
        obtain ⟨g, e1, e2, e3⟩ := hS3 i h
        have hb := gr4.block g e2 (by simp)
        exact ⟨g, e1, Nat.lt_of_lt_of_le e2 gr4.size, by rw [World.cell?_of_block (w := w2.alloc (.cells (TS.map Value.string).toArray 9)) hb]; exact e3⟩
      have szw : w2.heap.size < w4.heap.size := by have := gr4.size; simp at this; omega
      have hb2s := hb2.size
      clear gr4 hA3 hB3 hS3 hb2
      have HSZ : Hid (∀ i (h : i < TS.length), TS[i].size ≤ maxLen) := HTZ
      generalize hw2 : w2.heap.size = gT at *
      clear hw2
      go_wp2_with fail
      go_loopw [5, 6, 7, 8, 9, 10, 28] (fun p _ _ _ _ _ i wr => ∃ (q : Nat) (acc : List (Int × ByteArray)), q ≤ TS.length ∧ i = .int .i64 q ∧ acc.length = q ∧ wr.ownsRow (gT + 1) 127 2 p acc.length (pcCells acc) ∧ StAt TS (some ⟨gT, 0, none⟩) wr ∧ gT < wr.heap.size ∧ Hid (patB ((TS.drop q).map (·.data.toList)) acc = PO) ∧ Below w1.heap.size w1 wr) (fun _ _ _ _ _ _ i _ => TS.length - (intOf i).toNat)
      case atStart => exact ⟨0, [], Nat.zero_le _, rfl, rfl, ow4, hS4, szw, HPO, hB4⟩
      case round =>
        obtain ⟨q, acc, hq, rfl, hacc, ow, hst, hgt, H, hbw⟩ := hrel
        obtain ⟨pa, pc, rfl, hpc⟩ := pc_of_owns ow
        by_cases hlt : q < TS.length
        · obtain ⟨g, hge, hg2, hck⟩ := hst q hlt
          obtain rfl : gT = g := by simpa using hge
          have hzk := HSZ.out q hlt
          have hdr : (TS.drop q).map (·.data.toList) = TS[q].data.toList :: (TS.drop (q + 1)).map (·.data.toList) := by
            rw [← List.getElem_cons_drop hlt]; rfl
          rw [hdr, patB] at H
          have hem : ((TS.drop (q + 1)).map (·.data.toList)).isEmpty = decide (q + 1 = TS.length) := by
            rw [Bool.eq_iff_iff, List.isEmpty_iff, List.map_eq_nil_iff, List.drop_eq_nil_iff, decide_eq_true_iff]; omega
          rw [hem] at H
          generalize TS[q] = tx at *
          have HRP := hid (fun W => readPiece_any tx W hzk)
          clear hge hdr hem
          go_wp2_with fail
          refine (HRP.out _).mono ?_
          rintro e w5 ⟨rfl, hb5⟩
          have hok : patOk tx.data.toList (decide (q + 1 = TS.length)) acc = (Pm.pieceOk tx.data.toList && (!((Pm.pieceK tx.data.toList == 2) && !(decide (q + 1 = TS.length))) && !(acc.any (nameEq · (Pm.pieceK tx.data.toList, ⟨(Pm.pieceT tx.data.toList).toArray⟩))))) := rfl
          rw [hok] at H
          have hpb : pcB tx.data.toList = (Pm.pieceK tx.data.toList, ⟨(Pm.pieceT tx.data.toList).toArray⟩) := rfl
          rw [hpb] at H
          clear hok hpb HRP
          generalize Pm.pieceK tx.data.toList = K at *
          generalize (⟨(Pm.pieceT tx.data.toList).toArray⟩ : ByteArray) = pt at *
          generalize Pm.pieceOk tx.data.toList = ok at *
          have hA6 := bel_of hb5 ((Below.refl w5.heap.size w5).alloc (Nat.le_refl _) (.cells #[.int .i64 K, .string pt] 127))
          have hB6 := bel_of hbw hA6
          have ow6 := owns_below ow hA6
          have hpc6 := hpc.below hA6
          have hst6 := hst.below hA6
          have hlast : IntKind.i64.wrap ((TS.length : Int) - 1) = (TS.length : Int) - 1 := by simp [IntKind.wrap, IntKind.bits, IntKind.signed]; omega
          cases ok
          · have HN : Hid (PO = none) := by unfold Hid; rw [← H.out]; rfl
            clear H
            go_wp2
            go_ret2
            rw [HN.out]
            exact ⟨rfl, hB6⟩
          · rw [Bool.true_and] at H
            by_cases hr : K = 2 ∧ ¬ q + 1 = TS.length
            · obtain ⟨h1, h2⟩ := hr
              have HN : Hid (PO = none) := by unfold Hid; rw [← H.out, h1, decide_eq_false h2]; rfl
              have h1' : (K == 2) = true := by rw [h1]; rfl
              have h2' : ((q : Int) == (TS.length : Int) - 1) = false := by rw [beq_eq_false_iff_ne]; omega
              clear H h1
              go_wp2
              go_ret2
              rw [HN.out]
              exact ⟨rfl, hB6⟩
            · have HH : Hid ((if (!(acc.any (nameEq · (K, pt)))) = true then patB ((TS.drop (q + 1)).map (·.data.toList)) (acc ++ [(K, pt)]) else none) = PO) := by
                have h1 : ((K == 2) && !(decide (q + 1 = TS.length))) = false := by
                  rw [Bool.and_eq_false_iff]
                  by_cases h2 : K = 2
                  · right
                    have h3 : q + 1 = TS.length := by
                      by_cases h4 : q + 1 = TS.length
                      · exact h4
                      · exact absurd ⟨h2, h4⟩ hr
                    rw [decide_eq_true h3]; rfl
                  · left; rw [beq_eq_false_iff_ne]; exact h2
                have := H.out
                rw [h1, Bool.not_false, Bool.true_and] at this; exact this
              have hcs : (K == 2) = false ∨ ((K == 2) = true ∧ ((q : Int) == (TS.length : Int) - 1) = true) := by
                by_cases h2 : K = 2
                · right
                  have h3 : q + 1 = TS.length := by
                    by_cases h4 : q + 1 = TS.length
                    · exact h4
                    · exact absurd ⟨h2, h4⟩ hr
                  exact ⟨by rw [h2]; rfl, by rw [beq_iff_eq]; omega⟩
                · left; rw [beq_eq_false_iff_ne]; exact h2
              have HHN := hid (fun W hW => hasName_any acc pa pc K pt W hW (by omega))
              rw [hacc] at HHN
              clear H hr
              rcases hcs with hk | ⟨hk, hl2⟩
              all_goals
                go_wp2_with fail
                refine (HHN.out _ hpc6).mono ?_
                rintro e w7 ⟨rfl, hb7⟩
                have hB7 := bel_of hB6 hb7
                have ow7 := owns_below ow6 hb7
                rw [hacc] at ow7
                have hst7 := hst6.below hb7
                have kc0 := cell_later hb7 (a := ⟨w5.heap.size, 0, none⟩) (v := .int .i64 K) (by simp)
                have kc1 := cell_later hb7 (a := ⟨w5.heap.size, 1, none⟩) (v := .string pt) (by simp)
                have s57 : w5.heap.size < w7.heap.size := by have := hb7.size; simp at this; omega
                have hgt7 : gT < w7.heap.size := Nat.lt_of_lt_of_le hgt (Nat.le_trans hA6.size hb7.size)
                generalize acc.any (nameEq · (K, pt)) = an at *
                cases an
                · rw [Bool.not_false, if_pos rfl] at HH
                  go_wp2_with (at_builtin; refine wpList_append_lies _ rfl _ _ 89 rfl (gT + 1) 127 i0 _ 2 24 Tryd.underlying89 hi hz0 hz1 hz2 rfl (by omega) (.slice pa q pc) q (pcCells acc) rfl (ow7.alloc _) ⟨w7.heap.size, 0, none⟩ 1 1 [.int .i64 K, .string pt] rfl rfl ?c1 ?c2 (by omega) ?c3 ?c4 ?c5 _ rfl ?_)
                  case c1 =>
                    intro j x hj
                    match j, hj with
                    | 0, hj => simp at hj; subst hj; simp [Addr.add]
                    | 1, hj => simp at hj; subst hj; simp [Addr.add]
                  case c2 => intro x hx; simp at hx; rcases hx with rfl | rfl <;> rfl
                  case c3 => unfold maxLen; omega
                  case c4 => omega
                  case c5 => simp; omega
                  intro gg cap w8 hown hgrow hat hlt8
                  have hA8 := (Below.refl w7.heap.size w7).alloc (Nat.le_refl _) (.cells #[.int .i64 K, .string pt] 127)
                  have hB8 := (bel_of hB7 hA8).grown hgrow (by have := hB7.size; simp; omega) (fun r hr => by have := own_ge ow7 r hr; omega)
                  have hst8 : StAt TS (some ⟨gT, 0, none⟩) w8 := fun i h => by
                    obtain ⟨g, e1, e2, e3⟩ := (hst7.below hA8) i h
                    obtain rfl : gT = g := by simpa using e1
                    have hb := hgrow.block gT e2 (fun e => own_not ow7 (Nat.lt_succ_self gT) e.symm)
                    exact ⟨gT, rfl, Nat.lt_of_lt_of_le e2 hgrow.size, by rw [World.cell?_of_block (w := w7.alloc (.cells #[.int .i64 K, .string pt] 127)) hb]; exact e3⟩
                  have hgt8 : gT < w8.heap.size := by have := hgrow.size; simp at this; omega
                  clear hgrow hst7 ow7 hB7
                  go_wp2
                  refine ⟨⟨q + 1, acc ++ [(K, pt)], by omega, by go_num, by simp; omega, ?_, hst8, hgt8, HH, hB8⟩, by simp [intOf]; omega⟩
                  rw [List.length_append, hacc, pcCells_snoc]
                  exact hown
                · have HN : Hid (PO = none) := by unfold Hid; rw [← HH.out]; rfl
                  go_wp2
                  go_ret2
                  rw [HN.out]
                  exact ⟨rfl, hB7⟩
        · have HS : Hid (PO = some acc) := by
            have := H.out
            rw [List.drop_eq_nil_of_le (by omega), List.map_nil, patB] at this
            exact this.symm
          go_wp2
          go_ret2
          rw [HS.out]
          exact ⟨⟨_, rfl, owns_base ow (by omega)⟩, hbw⟩
  · have HN : Hid (PO = none) := by unfold Hid; rw [← HPO.out, if_neg (by omega)]
    clear HPO hsl
    go_enter Tryd.func49, Tryd.ntmps49
    go_wp2
    go_ret2
    rw [HN.out]
    exact ⟨rfl, Below.refl _ _⟩
end Go.Proofs.YtnohadlihgjppaaDoor
