/- matches and overlaps: what the program's Match and Overlap tell is what the reference's tell, and the list that came out is the caller's. -/
import Derived.Test.YtnohadlihgjppaaDoorJoin32
import Derived.Test.YtnohadlihgjppaaDoorJoin31
namespace Go.Proofs.YtnohadlihgjppaaDoor
open Go.RowKit

theorem pr_at {w : World} {B : Nat} {e : TypeId} {v : Value} {ps : List Prm} (h : w.ownsRow B e 2 v ps.length (prCells ps)) : ∃ a cap, v = .slice a ps.length cap ∧ FlAt ps a w := by
  have get : ∀ (fs : List Prm) (i : Nat) (h : i < fs.length), (prCells fs)[i * 2]? = some (.string fs[i].1) ∧ (prCells fs)[i * 2 + 1]? = some (.string fs[i].2) := by
    intro fs
    induction fs with
    | nil => intro i h; simp at h
    | cons f fs ih =>
      intro i h
      have e : prCells (f :: fs) = (.string f.1) :: (.string f.2) :: prCells fs := by simp [prCells]
      match i, h with
      | 0, _ => rw [e]; exact ⟨rfl, rfl⟩
      | i + 1, h =>
        have := ih i (by simpa using h)
        rw [e, show (i + 1) * 2 = i * 2 + 1 + 1 from by omega, List.getElem?_cons_succ, List.getElem?_cons_succ, show i * 2 + 1 + 1 + 1 = (i * 2 + 1) + 1 + 1 from by omega, List.getElem?_cons_succ, List.getElem?_cons_succ]
        exact this
  obtain ⟨h1, h2⟩ := h
  rcases h2 with ⟨h2, h3⟩ | ⟨g, cap, cur, hv, hB, hg, hc, hm, hsz, ht⟩
  · refine ⟨none, 0, ?_, fun i hi => ?_⟩
    · rw [h3]; exact h2
    · omega
  · refine ⟨some ⟨g, 0, none⟩, cap, hv, fun i hi => ⟨g, rfl, ?_, ?_, ?_⟩⟩
    · rcases Nat.lt_or_ge g w.heap.size with h' | h'
      · exact h'
      · simp [Array.getElem?_eq_none h'] at hg
    all_goals
      obtain ⟨m1, m2⟩ := get ps i hi
      rw [← ht, List.getElem?_take] at m1 m2
      rw [Lib.cell_of_heap hg]
    · split at m1
      · simpa using m1
      · cases m1
    · split at m2
      · simpa using m2
      · cases m2
theorem matchB_len : ∀ (ps : List (Int × ByteArray)) (l : List UInt8) (mr : Bool) (acc fs : List Prm), matchB ps l mr acc = some fs → fs.length ≤ acc.length + ps.length
  | [], l, mr, acc, fs, h => by
    rw [matchB] at h
    split at h
    · cases h
    · cases h; simp
  | p :: r, l, mr, acc, fs, h => by
    rw [matchB] at h
    split at h
    · cases h
    · split at h
      · have := matchB_len r _ _ _ _ h
        rw [List.length_cons]
        split at this
        · omega
        · simp at this; omega
      · cases h
theorem matchS_len (a b : ByteArray) : (matchS a.data.toList b.data.toList).2.length ≤ 1000 ∧ ((matchS a.data.toList b.data.toList).1 ≠ 0 → (matchS a.data.toList b.data.toList).2 = []) := by
  unfold matchS
  cases hp : patternOf a.data.toList with
  | none => simp
  | some ps =>
    simp only
    split
    · cases hm : matchB ps (b.data.toList.drop 1) true [] with
      | none => simp
      | some fs =>
        simp only
        have h1 := matchB_len _ _ _ _ _ hm
        have h2 : ps.length ≤ 1000 := by
          unfold patternOf at hp
          split at hp
          · rename_i hc
            have h1 := patB_length _ _ _ hp
            have hl := pcs_le _ a.data.toList (Nat.le_refl _)
            have hne : a.data.toList ≠ [] := by intro h; rw [h] at hc; simp [Lib.hasPrefix] at hc
            unfold pcs at hl
            rw [if_neg hne] at hl
            rw [List.length_nil, Nat.zero_add] at h1
            omega
          · cases hp
        exact ⟨by simp at h1; omega, fun h => absurd rfl h⟩
    · simp
theorem bpAt_below {bk B : Nat} {vs : List Value} {V : Value} {w w' : World} (h : Bp.BkAt bk B vs V w) (hb : Below w.heap.size w w') : Bp.BkAt bk B vs V w' :=
  { blk := by rw [hb.block bk (Bp.heap_lt h.blk)]; exact h.blk, own := owns_below h.own hb, lt := h.lt }

set_option maxRecDepth 100000 in
set_option maxHeartbeats 2000000 in
theorem matches_any (bk B N0 : Nat) (vs : List Value) (V : Value) (s t : ByteArray) (mx : Int) (w0 w : World) (hbk : Bp.BkAt bk B vs V w) (hvs : vs.length ≤ 8) (h4 : vs.length % 4 = 0) (hg : ∀ i (h : i < vs.length), Bp.Good bk V i vs[i] w)
    (hB : Below N0 w0 w) (n0 : N0 ≤ w.heap.size) (n1 : N0 ≤ bk) (n2 : N0 ≤ B) (n4 : B ≤ w.heap.size) (hs : s.size ≤ 4398046511104) (ht : t.size ≤ 4398046511104) (hm : w.cell? ⟨1, 0, none⟩ = some (.int .i64 mx)) :
    Calls Tryd.prog 10 #[.pointer (some ⟨bk, 0, none⟩), .string s, .string t] w fun r w' => r = .returned (.bool true) ∧
      ∃ vs' V', vs'.length = vs.length + 4 ∧ Bp.BkAt bk B vs' V' w' ∧ (∀ i (h : i < vs'.length), Bp.Good bk V' i vs'[i] w') ∧ Below N0 w0 w' := by
  have hlk := Bp.heap_lt hbk.blk
  have HP := hid (pMatch_any s t mx w (by omega) (by omega) hm)
  have HR := hid (fun W => rfMatch_any s t W hs ht)
  obtain ⟨fl1, fl2⟩ := matchS_len s t
  have HFL := hid fl2
  generalize matchS s.data.toList t.data.toList = R at *
  clear hm fl2
  go_enter Tryd.func10, Tryd.ntmps10
  go_wp2_with fail
  refine HP.out.mono ?_
  rintro e w1 ⟨⟨v1, rfl, ow1⟩, hb1⟩
  obtain ⟨a1, c1, rfl, hf1⟩ := pr_at ow1
  clear HP
  go_wp2_with fail
  refine (HR.out _).mono ?_
  rintro e w2 ⟨⟨v2, rfl, ow2⟩, hb2⟩
  obtain ⟨a2, c2, rfl, hf2⟩ := pr_at ow2
  have hB2 := bel_of hb1 hb2
  have ow12 := owns_below ow1 hb2
  have HSF := hid (Bp.sameFields_any R.2 a1 a2 c1 c2 _ (hf1.below hb2) hf2 (by omega))
  clear HR hf1 hf2 ow1 ow2 hb1 hb2
  go_wp2_with fail
  refine HSF.out.mono ?_
  rintro e w3 ⟨rfl, hb3⟩
  have hB3 := bel_of hB2 hb3
  have ow3 := owns_below ow12 hb3
  have hbk3 := bpAt_below hbk hB3
  have hg3 : ∀ i (h : i < vs.length), Bp.Good bk V i vs[i] w3 ∧ ∀ r, (vs[i]).ownBlock = some r → r < w.heap.size := fun i h => ⟨Bp.good_below (hg i h) hB3, fun r hr => by
    obtain ⟨a, n, cap, e1, e2, e3, e4⟩ := hg i h
    exact (e4 r hr).1⟩
  have HK := hid (Bp.keepFields_any bk B w.heap.size N0 vs V (.slice a1 R.2.length c1) R.2.length _ w0 w3 hbk3 hvs ow3 (by omega) hlk (fun r hr => (Bp.owns_blk hbk.own r hr).2) hg3 h4 (hB.trans (hB3.mono n0)) n1 n2 n0 (Nat.le_trans n4 hB3.size) hB3.size)
  clear HSF hbk3 hg3 hbk hg ow3 ow12 hB2 hb3
  have hfn : R.2.length = 0 ∨ R.1 = 0 := by
    by_cases he : R.1 = 0
    · exact .inr he
    · left; rw [HFL.out he]; rfl
  by_cases hz : R.2.length = 0
  focus
    have HK1 := HK.out
    generalize R.2 = fs at *
    rw [hz] at HK1
    have HK2 := hid HK1
    clear HK1 hfn HFL
  rotate_left
  focus
    have he : R.1 = 0 := hfn.resolve_left hz
    have he2 : (R.1 == 0) = true := by rw [he]; rfl
    have HK2 := HK
    generalize R.2 = fs at *
    have hz2 : ((fs.length : Int) == 0) = false := by rw [beq_eq_false_iff_ne]; omega
    clear hfn HFL
  all_goals
    go_wp2_with (go_at_call 18; refine (Bp.fnum_any _ _).mono ?_; rintro e w6 ⟨rfl, rfl⟩)
    refine HK2.out.mono ?_
    rintro e w7 ⟨rfl, vs', V', j1, j2, j3, j4⟩
    clear HK HK2
    have J := hid (And.intro j2 (And.intro j3 j4))
    clear j2 j3 j4
    go_wp2
    go_ret
    exact ⟨rfl, vs', V', j1, J.out.1, J.out.2.1, J.out.2.2⟩

set_option maxHeartbeats 1000000 in
theorem overlapsLaw_any (s t : ByteArray) (mx : Int) (w : World) (hs : s.size ≤ 4398046511104) (ht : t.size ≤ 4398046511104) (hm : w.cell? ⟨1, 0, none⟩ = some (.int .i64 mx)) :
    Calls Tryd.prog 11 #[.string s, .string t] w fun r w' => r = .returned (.bool true) ∧ Below w.heap.size w w' := by
  have HP := hid (pOverlap_any s t mx w (by omega) (by omega) hm)
  have HR := hid (fun W => rfOverlap_any s t W hs ht)
  generalize overlapS s.data.toList t.data.toList = R at *
  clear hm
  go_enter Tryd.func11, Tryd.ntmps11
  go_wp2_with fail
  refine HP.out.mono ?_
  rintro e w1 ⟨rfl, hb1⟩
  go_wp2_with fail
  refine (HR.out _).mono ?_
  rintro e w2 ⟨rfl, hb2⟩
  have hB2 := bel_of hb1 hb2
  clear HP HR
  go_wp2_with (go_at_call 18; refine (Bp.fnum_any _ _).mono ?_; rintro e w6 ⟨rfl, rfl⟩)
  go_ret
  exact ⟨rfl, hB2⟩

set_option maxRecDepth 100000 in
set_option maxHeartbeats 2000000 in
theorem patterns_law (p q t : ByteArray) (mx : Int) (w : World) (hp : p.size ≤ 4398046511104) (hq : q.size ≤ 4398046511104) (ht : t.size ≤ 4398046511104) (hm : w.cell? ⟨1, 0, none⟩ = some (.int .i64 mx)) :
    Calls Tryd.prog 4 #[.string p, .string q, .string t] w fun e w' => e = .returned (.bool true) ∧ Below w.heap.size w w' := by
  have hml := block_lt_of_cell hm
  have hB1 := (Below.refl w.heap.size w).alloc (Nat.le_refl _) (.cells #[.slice none 0 0, .slice none 0 0, .slice none 0 0, .slice none 0 0] 42)
  have hbk : Bp.BkAt w.heap.size (w.heap.size + 1) [] (.slice none 0 0) (w.alloc (.cells #[.slice none 0 0, .slice none 0 0, .slice none 0 0, .slice none 0 0] 42)) := by
    refine { blk := heap_alloc_new w _, own := World.ownsRow_nil _ _ _ _, lt := by omega }
  have z1 : (w.alloc (.cells #[.slice none 0 0, .slice none 0 0, .slice none 0 0, .slice none 0 0] 42)).heap.size = w.heap.size + 1 := by simp
  go_enter Tryd.func4, Tryd.ntmps4
  go_wp2_with fail
  generalize w.alloc (.cells #[.slice none 0 0, .slice none 0 0, .slice none 0 0, .slice none 0 0] 42) = w1 at *
  have hm1 := cell_later hB1 hm
  refine (matches_any w.heap.size (w.heap.size + 1) w.heap.size [] _ p t mx w w1 hbk (by simp) (by simp) (fun i h => absurd h (by simp)) hB1 (by omega) (Nat.le_refl _) (by omega) (by omega) hp ht hm1).mono ?_
  rintro e w2 ⟨rfl, vs2, V2, a2, b2, g2, hB2⟩
  have hm2 := cell_later hB2 hm
  have s2 := Bp.heap_lt b2.blk
  clear hbk hB1 hm1
  go_wp2_with fail
  refine (matches_any w.heap.size (w.heap.size + 1) w.heap.size vs2 V2 q t mx w w2 b2 (by simp at a2; omega) (by simp at a2; omega) g2 hB2 hB2.size (Nat.le_refl _) (by omega) (by omega) hq ht hm2).mono ?_
  rintro e w3 ⟨rfl, vs3, V3, a3, b3, g3, hB3⟩
  have hm3 := cell_later hB3 hm
  have s3 := Bp.heap_lt b3.blk
  clear b2 g2 hB2 hm2 s2
  go_wp2_with fail
  refine (overlapsLaw_any p q mx w3 hp hq hm3).mono ?_
  rintro e w4 ⟨rfl, hb4⟩
  have b4 := bpAt_below b3 hb4
  have hB4 := hB3.trans (hb4.mono hB3.size)
  have g4 : ∀ i (h : i < vs3.length), Bp.Good w.heap.size V3 i vs3[i] w4 := fun i h => Bp.good_below (g3 i h) hb4
  have hm4 := cell_later hB4 hm
  have s4 := Bp.heap_lt b4.blk
  clear b3 g3 hB3 hm3 s3 hb4
  go_wp2_with fail
  refine (matches_any w.heap.size (w.heap.size + 1) w.heap.size vs3 V3 p t mx w w4 b4 (by simp at a2; omega) (by simp at a2; omega) g4 hB4 hB4.size (Nat.le_refl _) (by omega) (by omega) hp ht hm4).mono ?_
  rintro e w5 ⟨rfl, vs5, V5, a5, b5, g5, hB5⟩
  clear b4 g4 hB4 hm4 s4
  go_wp2_with fail
  refine (Bp.looks_any _ _ vs5 V5 w5 b5 (by simp at a2; omega) g5).mono ?_
  rintro e w6 ⟨rfl, hb6⟩
  have BL := hid (hB5.trans (hb6.mono hB5.size))
  clear b5 g5 hB5 hb6
  go_wp2
  go_ret
  exact ⟨rfl, BL.out⟩
end Go.Proofs.YtnohadlihgjppaaDoor
