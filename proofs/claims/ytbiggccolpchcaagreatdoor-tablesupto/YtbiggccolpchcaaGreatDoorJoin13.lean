/- Texts that follow one another, joined. -/
import Derived.Test.YtbiggccolpchcaaGreatDoorJoin12
import Derived.OwnWalk
/- readPattern: the pieces of a pattern in new memory, or that the text is none; nothing old in memory turns. -/
namespace Go.Proofs.YtbiggccolpchcaaGreatDoor
open Go.RowKit

def pcB (t : List UInt8) : Int × ByteArray := (Pm.pieceK t, ⟨(Pm.pieceT t).toArray⟩)
def patOk (t : List UInt8) (last : Bool) (acc : List (Int × ByteArray)) : Bool := Pm.pieceOk t && (!((Pm.pieceK t == 2) && !last) && !(acc.any (nameEq · (pcB t))))
def patB : List (List UInt8) → List (Int × ByteArray) → Option (List (Int × ByteArray))
  | [], acc => some acc
  | t :: r, acc => if patOk t r.isEmpty acc = true then patB r (acc ++ [pcB t]) else none
def patternOf (l : List UInt8) : Option (List (Int × ByteArray)) := if l.length ≤ 64 ∧ Lib.hasPrefix l [47] = true then patB (Lib.split (l.drop 1) [47]) [] else none
def pcCells (ps : List (Int × ByteArray)) : List Value := ps.flatMap fun p => [.int .i64 p.1, .string p.2]
theorem pcCells_snoc (ps : List (Int × ByteArray)) (p : Int × ByteArray) : pcCells (ps ++ [p]) = pcCells ps ++ [.int .i64 p.1, .string p.2] := by simp [pcCells]
theorem pcCells_get : ∀ (ps : List (Int × ByteArray)) (i : Nat) (h : i < ps.length), (pcCells ps)[i * 2]? = some (.int .i64 ps[i].1) ∧ (pcCells ps)[i * 2 + 1]? = some (.string ps[i].2)
  | [], i, h => absurd h (by simp)
  | f :: fs, 0, h => by simp [pcCells]
  | f :: fs, i + 1, h => by
    have := pcCells_get fs i (by simpa using h)
    have e : pcCells (f :: fs) = (.int .i64 f.1) :: (.string f.2) :: pcCells fs := by simp [pcCells]
    rw [e, show (i + 1) * 2 = i * 2 + 1 + 1 from by omega, List.getElem?_cons_succ, List.getElem?_cons_succ, show i * 2 + 1 + 1 + 1 = (i * 2 + 1) + 1 + 1 from by omega, List.getElem?_cons_succ, List.getElem?_cons_succ]
    exact this
theorem pc_of_owns {w : World} {B : Nat} {e : TypeId} {v : Value} {ps : List (Int × ByteArray)} (h : w.ownsRow B e 2 v ps.length (pcCells ps)) : ∃ a cap, v = .slice a ps.length cap ∧ PcAt ps a w := by
  obtain ⟨h1, h2⟩ := h
  rcases h2 with ⟨h2, h3⟩ | ⟨g, cap, cur, hv, hB, hg, hc, hm, hsz, ht⟩
  · refine ⟨none, 0, ?_, fun i hi => ?_⟩
    · rw [h3]; exact h2
    · omega
  · refine ⟨some ⟨g, 0, none⟩, cap, hv, fun i hi => ⟨g, rfl, ?_, ?_, ?_⟩⟩
    · rcases Nat.lt_or_ge g w.heap.size with h' | h'
      · exact h'
      · simp [Array.getElem?_eq_none h'] at hg
    all_goals
      obtain ⟨m1, m2⟩ := pcCells_get ps i hi
      rw [← ht, List.getElem?_take] at m1 m2
      rw [Lib.cell_of_heap hg]
    · split at m1
      · simpa using m1
      · cases m1
    · split at m2
      · simpa using m2
      · cases m2
theorem Tryz.infoPc : (Tryz.prog.info? 307).map (fun i => (i.zero, i.size, i.bytes)) = some (some (.agg #[.int .i64 0, .string ⟨#[]⟩]), 2, 24) := by kernel_rfl

def RpPost (PO : Option (List (Int × ByteArray))) (B : Nat) (r : Ending) (w' : World) : Prop :=
  match PO with
  | none => r = .returned (.tuple #[.slice none 0 0, .int .i64 8])
  | some ps => ∃ v, r = .returned (.tuple #[v, .int .i64 0]) ∧ w'.ownsRow B 307 2 v ps.length (pcCells ps)
set_option maxRecDepth 100000 in
set_option maxHeartbeats 4000000 in
theorem readPattern_any (s : ByteArray) (mx : Int) (w : World) (hs : s.size ≤ 281474976710656) (hm : w.cell? ⟨0, 0, none⟩ = some (.int .i64 mx)) :
    Calls Tryz.prog 152 #[.string s] w fun r w' =>
      RpPost (patternOf s.data.toList) w.heap.size r w' ∧ Below w.heap.size w w' := by
  obtain ⟨i0, hi, hz0, hz1, hz2⟩ := info_parts Tryz.infoPc
  have hsl : s.data.toList.length = s.size := by simp
  generalize hPO : patternOf s.data.toList = PO
  have HPO := hid hPO
  clear hPO
  unfold patternOf at HPO
  rw [hsl] at HPO
  by_cases h64 : s.size ≤ 64
  · cases h47 : Lib.hasPrefix s.data.toList [47]
    · have HN : Hid (PO = none) := by unfold Hid; rw [← HPO.out, if_neg (by rw [h47]; simp)]
      clear HPO hsl
      go_enter Tryz.func152, Tryz.ntmps152
      go_wp2_with (go_at_call 219; refine (Tryz.strings_HasPrefix _ _ _).mono ?_; rintro e w1 ⟨rfl, hw1⟩; subst hw1)
      go_ret2
      rw [HN.out]
      exact ⟨rfl, Below.refl _ _⟩
    · rw [if_pos ⟨h64, h47⟩] at HPO
      have hne : 1 ≤ s.size := by
        rcases Nat.eq_zero_or_pos s.size with h | h
        · have : s.data.toList = [] := List.eq_nil_of_length_eq_zero (by omega)
          rw [this] at h47; exact absurd h47 (by decide)
        · exact h
      have hex : (s.extract 1 s.size).data.toList = s.data.toList.drop 1 := by rw [Lib.extract_data, List.take_of_length_le (by simp)]
      have hez : (s.extract 1 s.size).size ≤ 281474976710656 := by simp; omega
      have hez2 : (s.extract 1 s.size).size < 4294967281 := by simp; omega
      rw [← hex] at HPO
      have HCL := hid (fun W => clone_any (s.extract 1 s.size) W hez)
      have HM := hid (fun W (hW : Below w.heap.size w W) => Tryz.strings_Split (s.extract 1 s.size) ⟨#[47]⟩ mx W hez2 (cell_later hW hm) (by decide))
      go_enter Tryz.func152, Tryz.ntmps152
      go_wp2_with (go_at_call 219; refine (Tryz.strings_HasPrefix _ _ _).mono ?_; rintro e w1 ⟨rfl, hw1⟩; subst hw1)
      refine (HCL.out _).mono ?_
      rintro e w2 ⟨rfl, hb2⟩
      have HSP := hid (HM.out w2 hb2)
      clear HM HCL
      go_wp2_with fail
      refine HSP.out.mono ?_
      rintro e w3 ⟨rfl, hw3⟩
      have hlen : (Lib.splitB ⟨#[47]⟩ 0 (Lib.countB (s.extract 1 s.size) ⟨#[47]⟩) (s.extract 1 s.size)).length = Lib.countB (s.extract 1 s.size) ⟨#[47]⟩ + 1 := Lib.splitB_all _ (by decide) _ _ _ rfl
      have hdat : (Lib.splitB ⟨#[47]⟩ 0 (Lib.countB (s.extract 1 s.size) ⟨#[47]⟩) (s.extract 1 s.size)).map (·.data.toList) = Lib.split (s.extract 1 s.size).data.toList [47] := Lib.splitB_data _ _ _ _
      have hcnt := Lib.countB_le ⟨#[47]⟩ (by decide) _ (s.extract 1 s.size) (Nat.le_refl _)
      have hc64 : Lib.countB (s.extract 1 s.size) ⟨#[47]⟩ ≤ 64 := by simp at hcnt; omega
      have HTZ : ∀ i (h : i < (Lib.splitB ⟨#[47]⟩ 0 (Lib.countB (s.extract 1 s.size) ⟨#[47]⟩) (s.extract 1 s.size)).length), (Lib.splitB ⟨#[47]⟩ 0 (Lib.countB (s.extract 1 s.size) ⟨#[47]⟩) (s.extract 1 s.size))[i].size ≤ maxLen := fun i h => by
        have h2 := Pm.splitB_le _ _ _ _ (List.getElem_mem h)
        unfold maxLen; omega
      rw [← hdat] at HPO
      rw [← hlen]
      generalize Lib.splitB ⟨#[47]⟩ 0 (Lib.countB (s.extract 1 s.size) ⟨#[47]⟩) (s.extract 1 s.size) = TS at *
      have hts : TS.length ≤ 65 := by omega
      clear HSP hdat hcnt hlen hc64
      subst hw3
      have hA3 := (Below.refl w2.heap.size w2).alloc (Nat.le_refl _) (.cells (TS.map Value.string).toArray 9)
      have hB3 := bel_of hb2 hA3
      have hS3 : StAt TS (some ⟨w2.heap.size, 0, none⟩) (w2.alloc (.cells (TS.map Value.string).toArray 9)) := fun i h => ⟨w2.heap.size, rfl, by simp, by
        rw [Lib.cell_of_heap (heap_alloc_new w2 _)]; simp [h]⟩
      go_wp2_with (at_make; refine wpList_make_own _ rfl _ _ 229 rfl (w2.heap.size + 1) 307 i0 _ 2 Tryz.underlying229 hi hz0 hz1 .i64 .i64 _ TS.length rfl rfl rfl (by rw [hz2]; omega) (by unfold maxLen; omega) (by simp) ?_)
      intro w4 ow4 gr4
      have hB4 := hB3.grown gr4 hB3.size (fun r hr => by cases hr)
      have hS4 : StAt TS (some ⟨w2.heap.size, 0, none⟩) w4 := fun i h => by
        obtain ⟨g, e1, e2, e3⟩ := hS3 i h
        have hb := gr4.block g e2 (by simp)
        exact ⟨g, e1, Nat.lt_of_lt_of_le e2 gr4.size, by rw [World.cell?_of_block (w := w2.alloc (.cells (TS.map Value.string).toArray 9)) hb]; exact e3⟩
      have szw : w2.heap.size < w4.heap.size := by have := gr4.size; simp at this; omega
      have hb2s := hb2.size
      clear gr4 hA3 hB3 hS3 hb2
      have HSZ : Hid (∀ i (h : i < TS.length), TS[i].size ≤ maxLen) := HTZ
      generalize hw2 : w2.heap.size = gT at *
      clear hw2
      go_wp2_with fail
      go_loopw [5, 6, 7, 8, 9, 10, 28] (fun p _ _ _ _ _ i wr => ∃ (q : Nat) (acc : List (Int × ByteArray)), q ≤ TS.length ∧ i = .int .i64 q ∧ acc.length = q ∧ wr.ownsRow (gT + 1) 307 2 p acc.length (pcCells acc) ∧ StAt TS (some ⟨gT, 0, none⟩) wr ∧ gT < wr.heap.size ∧ Hid (patB ((TS.drop q).map (·.data.toList)) acc = PO) ∧ Below w1.heap.size w1 wr) (fun _ _ _ _ _ _ i _ => TS.length - (intOf i).toNat)
      case atStart => exact ⟨0, [], Nat.zero_le _, rfl, rfl, ow4, hS4, szw, HPO, hB4⟩
      case round =>
        obtain ⟨q, acc, hq, rfl, hacc, ow, hst, hgt, H, hbw⟩ := hrel
        obtain ⟨pa, pc, rfl, hpc⟩ := pc_of_owns ow
        by_cases hlt : q < TS.length
        · obtain ⟨g, hge, hg2, hck⟩ := hst q hlt
          obtain rfl : gT = g := by simpa using hge
          have hzk := HSZ.out q hlt
          have hdr : (TS.drop q).map (·.data.toList) = TS[q].data.toList :: (TS.drop (q + 1)).map (·.data.toList) := by
            rw [← List.getElem_cons_drop hlt]; rfl
          rw [hdr, patB] at H
          have hem : ((TS.drop (q + 1)).map (·.data.toList)).isEmpty = decide (q + 1 = TS.length) := by
            rw [Bool.eq_iff_iff, List.isEmpty_iff, List.map_eq_nil_iff, List.drop_eq_nil_iff, decide_eq_true_iff]; omega
          rw [hem] at H
          generalize TS[q] = tx at *
          have HRP := hid (fun W => readPiece_any tx W hzk)
          clear hge hdr hem
          go_wp2_with fail
          refine (HRP.out _).mono ?_
          rintro e w5 ⟨rfl, hb5⟩
          have hok : patOk tx.data.toList (decide (q + 1 = TS.length)) acc = (Pm.pieceOk tx.data.toList && (!((Pm.pieceK tx.data.toList == 2) && !(decide (q + 1 = TS.length))) && !(acc.any (nameEq · (Pm.pieceK tx.data.toList, ⟨(Pm.pieceT tx.data.toList).toArray⟩))))) := rfl
          rw [hok] at H
          have hpb : pcB tx.data.toList = (Pm.pieceK tx.data.toList, ⟨(Pm.pieceT tx.data.toList).toArray⟩) := rfl
          rw [hpb] at H
          clear hok hpb HRP
          generalize Pm.pieceK tx.data.toList = K at *
          generalize (⟨(Pm.pieceT tx.data.toList).toArray⟩ : ByteArray) = pt at *
          generalize Pm.pieceOk tx.data.toList = ok at *
          have hA6 := bel_of hb5 ((Below.refl w5.heap.size w5).alloc (Nat.le_refl _) (.cells #[.int .i64 K, .string pt] 307))
          have hB6 := bel_of hbw hA6
          have ow6 := owns_below ow hA6
          have hpc6 := hpc.below hA6
          have hst6 := hst.below hA6
          have hlast : IntKind.i64.wrap ((TS.length : Int) - 1) = (TS.length : Int) - 1 := by simp [IntKind.wrap, IntKind.bits, IntKind.signed]; omega
          cases ok
          · have HN : Hid (PO = none) := by unfold Hid; rw [← H.out]; rfl
            clear H
            go_wp2
            go_ret2
            rw [HN.out]
            exact ⟨rfl, hB6⟩
          · rw [Bool.true_and] at H
            by_cases hr : K = 2 ∧ ¬ q + 1 = TS.length
            · obtain ⟨h1, h2⟩ := hr
              have HN : Hid (PO = none) := by unfold Hid; rw [← H.out, h1, decide_eq_false h2]; rfl
              have h1' : (K == 2) = true := by rw [h1]; rfl
              have h2' : ((q : Int) == (TS.length : Int) - 1) = false := by rw [beq_eq_false_iff_ne]; omega
              clear H h1
              go_wp2
              go_ret2
              rw [HN.out]
              exact ⟨rfl, hB6⟩
            · have HH : Hid ((if (!(acc.any (nameEq · (K, pt)))) = true then patB ((TS.drop (q + 1)).map (·.data.toList)) (acc ++ [(K, pt)]) else none) = PO) := by
                have h1 : ((K == 2) && !(decide (q + 1 = TS.length))) = false := by
                  rw [Bool.and_eq_false_iff]
                  by_cases h2 : K = 2
                  · right
                    have h3 : q + 1 = TS.length := by
                      by_cases h4 : q + 1 = TS.length
                      · exact h4
                      · exact absurd ⟨h2, h4⟩ hr
                    rw [decide_eq_true h3]; rfl
                  · left; rw [beq_eq_false_iff_ne]; exact h2
                have := H.out
                rw [h1, Bool.not_false, Bool.true_and] at this; exact this
              have hcs : (K == 2) = false ∨ ((K == 2) = true ∧ ((q : Int) == (TS.length : Int) - 1) = true) := by
                by_cases h2 : K = 2
                · right
                  have h3 : q + 1 = TS.length := by
                    by_cases h4 : q + 1 = TS.length
                    · exact h4
                    · exact absurd ⟨h2, h4⟩ hr
                  exact ⟨by rw [h2]; rfl, by rw [beq_iff_eq]; omega⟩
                · left; rw [beq_eq_false_iff_ne]; exact h2
              have HHN := hid (fun W hW => hasName_any acc pa pc K pt W hW (by omega))
              rw [hacc] at HHN
              clear H hr
              rcases hcs with hk | ⟨hk, hl2⟩
              all_goals
                go_wp2_with fail
                refine (HHN.out _ hpc6).mono ?_
                rintro e w7 ⟨rfl, hb7⟩
                have hB7 := bel_of hB6 hb7
                have ow7 := owns_below ow6 hb7
                rw [hacc] at ow7
                have hst7 := hst6.below hb7
                have kc0 := cell_later hb7 (a := ⟨w5.heap.size, 0, none⟩) (v := .int .i64 K) (by simp)
                have kc1 := cell_later hb7 (a := ⟨w5.heap.size, 1, none⟩) (v := .string pt) (by simp)
                have s57 : w5.heap.size < w7.heap.size := by have := hb7.size; simp at this; omega
                have hgt7 : gT < w7.heap.size := Nat.lt_of_lt_of_le hgt (Nat.le_trans hA6.size hb7.size)
                generalize acc.any (nameEq · (K, pt)) = an at *
                cases an
                · rw [Bool.not_false, if_pos rfl] at HH
                  go_wp2_with (at_builtin; refine wpList_append_lies _ rfl _ _ 229 rfl (gT + 1) 307 i0 _ 2 24 Tryz.underlying229 hi hz0 hz1 hz2 rfl (by omega) (.slice pa q pc) q (pcCells acc) rfl (ow7.alloc _) ⟨w7.heap.size, 0, none⟩ 1 1 [.int .i64 K, .string pt] rfl rfl ?c1 ?c2 (by omega) ?c3 ?c4 ?c5 _ rfl ?_)
                  case c1 =>
                    intro j x hj
                    match j, hj with
                    | 0, hj => simp at hj; subst hj; simp [Addr.add]
                    | 1, hj => simp at hj; subst hj; simp [Addr.add]
                  case c2 => intro x hx; simp at hx; rcases hx with rfl | rfl <;> rfl
                  case c3 => unfold maxLen; omega
                  case c4 => omega
                  case c5 => simp; omega
                  intro gg cap w8 hown hgrow hat hlt8
                  have hA8 := (Below.refl w7.heap.size w7).alloc (Nat.le_refl _) (.cells #[.int .i64 K, .string pt] 307)
                  have hB8 := (bel_of hB7 hA8).grown hgrow (by have := hB7.size; simp; omega) (fun r hr => by have := own_ge ow7 r hr; omega)
                  have hst8 : StAt TS (some ⟨gT, 0, none⟩) w8 := fun i h => by
                    obtain ⟨g, e1, e2, e3⟩ := (hst7.below hA8) i h
                    obtain rfl : gT = g := by simpa using e1
                    have hb := hgrow.block gT e2 (fun e => own_not ow7 (Nat.lt_succ_self gT) e.symm)
                    exact ⟨gT, rfl, Nat.lt_of_lt_of_le e2 hgrow.size, by rw [World.cell?_of_block (w := w7.alloc (.cells #[.int .i64 K, .string pt] 307)) hb]; exact e3⟩
                  have hgt8 : gT < w8.heap.size := by have := hgrow.size; simp at this; omega
                  clear hgrow hst7 ow7 hB7
                  go_wp2
                  refine ⟨⟨q + 1, acc ++ [(K, pt)], by omega, by go_num, by simp; omega, ?_, hst8, hgt8, HH, hB8⟩, by simp [intOf]; omega⟩
                  rw [List.length_append, hacc, pcCells_snoc]
                  exact hown
                · have HN : Hid (PO = none) := by unfold Hid; rw [← HH.out]; rfl
                  go_wp2
                  go_ret2
                  rw [HN.out]
                  exact ⟨rfl, hB7⟩
        · have HS : Hid (PO = some acc) := by
            have := H.out
            rw [List.drop_eq_nil_of_le (by omega), List.map_nil, patB] at this
            exact this.symm
          go_wp2
          go_ret2
          rw [HS.out]
          exact ⟨⟨_, rfl, owns_base ow (by omega)⟩, hbw⟩
  · have HN : Hid (PO = none) := by unfold Hid; rw [← HPO.out, if_neg (by omega)]
    clear HPO hsl
    go_enter Tryz.func152, Tryz.ntmps152
    go_wp2
    go_ret2
    rw [HN.out]
    exact ⟨rfl, Below.refl _ _⟩
end Go.Proofs.YtbiggccolpchcaaGreatDoor

/- routes.Overlap: whether two patterns meet, or that one is none; nothing old in memory turns. -/
namespace Go.Proofs.YtbiggccolpchcaaGreatDoor
open Go.RowKit

def overlapS (a b : List UInt8) : Bool × Int :=
  match patternOf a with
  | none => (false, 8)
  | some ps => match patternOf b with
    | none => (false, 8)
    | some qs => (ovl ps qs, 0)
theorem patB_length : ∀ (ts : List (List UInt8)) (acc ps : List (Int × ByteArray)), patB ts acc = some ps → ps.length = acc.length + ts.length
  | [], acc, ps, h => by rw [patB] at h; cases h; simp
  | t :: r, acc, ps, h => by
    rw [patB] at h
    split at h
    · have := patB_length r _ _ h; simp at this; simp; omega
    · cases h
theorem patternOf_length {s : ByteArray} {ps : List (Int × ByteArray)} (h : patternOf s.data.toList = some ps) : ps.length ≤ 1000000 := by
  unfold patternOf at h
  split at h
  · rename_i hc
    have h1 := patB_length _ _ _ h
    have hdat := Lib.splitB_data ⟨#[47]⟩ 0 (Lib.countB (s.extract 1 s.size) ⟨#[47]⟩) (s.extract 1 s.size)
    have hex : (s.extract 1 s.size).data.toList = s.data.toList.drop 1 := by rw [Lib.extract_data, List.take_of_length_le (by simp)]
    have hlen : (Lib.splitB ⟨#[47]⟩ 0 (Lib.countB (s.extract 1 s.size) ⟨#[47]⟩) (s.extract 1 s.size)).length = Lib.countB (s.extract 1 s.size) ⟨#[47]⟩ + 1 := Lib.splitB_all _ (by decide) _ _ _ rfl
    have hcnt := Lib.countB_le ⟨#[47]⟩ (by decide) _ (s.extract 1 s.size) (Nat.le_refl _)
    have hd : (Lib.splitB ⟨#[47]⟩ 0 (Lib.countB (s.extract 1 s.size) ⟨#[47]⟩) (s.extract 1 s.size)).map (·.data.toList) = Lib.split (s.extract 1 s.size).data.toList [47] := Lib.splitB_data _ _ _ _
    rw [hex] at hd
    rw [← hd, List.length_map, hlen] at h1
    have := hc.1
    simp at hcnt this h1
    omega
  · cases h
set_option maxRecDepth 100000 in
set_option maxHeartbeats 1000000 in
theorem rOverlap_any (s t : ByteArray) (mx : Int) (w : World) (hs : s.size ≤ 281474976710656) (ht : t.size ≤ 281474976710656) (hm : w.cell? ⟨0, 0, none⟩ = some (.int .i64 mx)) :
    Calls Tryz.prog 143 #[.string s, .string t] w fun r w' =>
      r = .returned (.tuple #[.bool (overlapS s.data.toList t.data.toList).1, .int .i64 (overlapS s.data.toList t.data.toList).2]) ∧ Below w.heap.size w w' := by
  have HRP := hid (fun W (hW : Below w.heap.size w W) => readPattern_any s mx W hs (cell_later hW hm))
  have HRQ := hid (fun W (hW : Below w.heap.size w W) => readPattern_any t mx W ht (cell_later hW hm))
  have HL1 := hid (fun ps (h : patternOf s.data.toList = some ps) => patternOf_length h)
  generalize hR : overlapS s.data.toList t.data.toList = R
  have HR := hid hR
  clear hR
  unfold overlapS at HR
  generalize patternOf s.data.toList = P at *
  generalize patternOf t.data.toList = Q at *
  go_enter Tryz.func143, Tryz.ntmps143
  go_wp2_with fail
  refine (HRP.out _ (Below.refl _ _)).mono ?_
  rintro e w1 ⟨hr1, hb1⟩
  cases P with
  | none =>
    have HN : Hid (R = (false, 8)) := HR.out.symm
    clear HR HRP HRQ HL1
    obtain rfl : e = _ := hr1
    go_wp2
    go_ret2
    rw [HN.out]
    exact ⟨rfl, hb1⟩
  | some ps =>
    obtain ⟨v, rfl, ow1⟩ := hr1
    have hl1 := HL1.out ps rfl
    obtain ⟨pa, pc, rfl, hpc1⟩ := pc_of_owns ow1
    clear ow1 HRP HL1
    go_wp2_with fail
    refine (HRQ.out _ hb1).mono ?_
    rintro e w2 ⟨hr2, hb2⟩
    have hB2 := bel_of hb1 hb2
    cases Q with
    | none =>
      have HN : Hid (R = (false, 8)) := HR.out.symm
      clear HR HRQ
      obtain rfl : e = _ := hr2
      go_wp2
      go_ret2
      rw [HN.out]
      exact ⟨rfl, hB2⟩
    | some qs =>
      obtain ⟨v, rfl, ow2⟩ := hr2
      obtain ⟨qa, qc, rfl, hqc2⟩ := pc_of_owns ow2
      have hpc2 := hpc1.below hb2
      have HN : Hid (R = (ovl ps qs, 0)) := HR.out.symm
      have HO := hid (fun W h1 h2 => overlaps_any ps qs pa qa pc qc W h1 h2 hl1)
      clear HR HRQ ow2 hpc1
      go_wp2_with fail
      refine (HO.out _ hpc2 hqc2).mono ?_
      rintro e w3 ⟨rfl, hb3⟩
      go_wp2
      go_ret2
      rw [HN.out]
      exact ⟨rfl, bel_of hB2 hb3⟩
end Go.Proofs.YtbiggccolpchcaaGreatDoor

/- porter.Overlap: the same. -/
namespace Go.Proofs.YtbiggccolpchcaaGreatDoor
open Go.RowKit
set_option maxHeartbeats 1000000 in
theorem pOverlap_any (s t : ByteArray) (mx : Int) (w : World) (hs : s.size ≤ 281474976710656) (ht : t.size ≤ 281474976710656) (hm : w.cell? ⟨0, 0, none⟩ = some (.int .i64 mx)) :
    Calls Tryz.prog 91 #[.string s, .string t] w fun r w' =>
      r = .returned (.tuple #[.bool (overlapS s.data.toList t.data.toList).1, .int .i64 (overlapS s.data.toList t.data.toList).2]) ∧ Below w.heap.size w w' := by
  have HO := hid (rOverlap_any s t mx w hs ht hm)
  go_enter Tryz.func91, Tryz.ntmps91
  go_wp2_with (go_at_call 143; refine HO.out.mono ?_; rintro e w' ⟨rfl, hb⟩)
  go_ret2
  exact ⟨rfl, hb⟩
end Go.Proofs.YtbiggccolpchcaaGreatDoor
