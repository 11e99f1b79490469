/- Texts that follow one another, joined. -/
import Derived.Test.YthfpiahhbflfpaaDoorJoin39
/- The walks of porterkeep's both and sameParams; nothing old in memory turns. -/
namespace Go.Proofs.YthfpiahhbflfpaaDoor
open Go.RowKit

theorem bsz (l : List UInt8) : (⟨l.toArray⟩ : ByteArray).size = l.length := rfl
theorem own_slice {w : World} {B : Nat} {e : TypeId} {sz : Nat} {v : Value} {n : Nat} {xs : List Value} (h : w.ownsRow B e sz v n xs) : ∃ a c, v = .slice a n c := by
  rcases h.2 with ⟨h2, h3⟩ | ⟨g, cap, cur, hv, _⟩
  · exact ⟨none, 0, by rw [h3]; exact h2⟩
  · exact ⟨_, _, hv⟩
theorem sh_fix {A B : List (List UInt8)} (ha : A ≠ []) (hb : B ≠ []) (hA : pieces A) (hB : pieces B) (n : Nat) : ∀ c ∈ shL A B n, Pm.allP Pm.fixB c = true := fun c hc => by
  unfold shL at hc
  obtain ⟨i, _, rfl⟩ := List.mem_map.mp hc
  have key : ∀ (T : List (List UInt8)), T ≠ [] → pieces T → Pm.pieceK (atL T i) = 0 → Pm.allP Pm.fixB (atL T i) = true := fun T hT hp hk => by
    unfold atL at hk ⊢
    split
    · rename_i h
      rw [if_pos h] at hk
      rw [getD_at _ _ _ h] at hk ⊢
      exact hp.2 _ (List.getElem_mem h) hk
    · rename_i h
      rw [if_neg h] at hk
      split
      · rename_i h2
        rw [if_pos h2] at hk; omega
      · decide +kernel
  unfold shC
  split
  · rename_i h; exact key A ha hA h
  · split
    · rename_i h; exact key B hb hB h
    · decide +kernel
theorem Made.len {A : List (List UInt8)} (h : Made A) : ∀ c ∈ A, c.length ≤ 100 := fun c hc => by
  obtain ⟨i, _, hi⟩ := h.each' c hc
  have := at_len hi
  omega
theorem Made.cln {A : List (List UInt8)} (h : Made A) : ∀ c ∈ A, Pm.behind 47 c = [] := fun c hc => by
  obtain ⟨i, hi, hp⟩ := h.each' c hc
  exact (at_clean hi hp).2
theorem Made.flatl {A : List (List UInt8)} (h : Made A) : (flatP A).length ≤ 32 := by
  have h1 := flat_len A (fun c hc => by obtain ⟨i, _, hi⟩ := h.each' c hc; exact at_len hi)
  have h2 := h.few
  omega
def shS (A B : List (List UInt8)) : List UInt8 := flatP (shL A B (max A.length B.length))
theorem shS_path {A B : List (List UInt8)} (hA : Made A) (hB : Made B) : Pm.isPath (shS A B) = true ∧ pcs (shS A B) = shL A B (max A.length B.length) ∧ (shS A B).length ≤ 808 ∧ 1 ≤ (shS A B).length := by
  have h1 := sh_fix hA.any hB.any hA.good2 hB.good2 (max A.length B.length)
  have hl : 0 < A.length := List.length_pos_iff.mpr hA.any
  have hn : shL A B (max A.length B.length) ≠ [] := fun e => by
    have := congrArg List.length e
    unfold shL at this; rw [List.length_map, List.length_range, List.length_nil] at this; omega
  have h2 := shL_size hA.len hB.len (max A.length B.length)
  have h3 := hA.few
  have h4 := hB.few
  refine ⟨isPath_flat hn h1, pcs_flat _ (fun c hc => sh_clean hA.any hB.any hA.good2 hB.good2 _ c hc), ?_, ?_⟩
  · unfold shS; omega
  · unfold shS
    have := flat_ne hn
    cases hf : flatP (shL A B (max A.length B.length)) with
    | nil => rw [hf] at this; cases this
    | cons => simp
def hsR (A : List (List UInt8)) (l : List UInt8) : Int × List Prm := match hs A l with
  | none => (11, [])
  | some fs => (0, fs)
theorem matchS_made {A : List (List UInt8)} (hA : Made A) {l : List UInt8} (hl : Pm.isPath l = true) : matchS (flatP A) l = hsR A l := by
  unfold matchS hsR
  rw [hA.good]
  simp only
  rw [if_pos hl, match_hs hA.rest hl]
  cases hs A l <;> rfl
theorem hsR_cases (A : List (List UInt8)) (l : List UInt8) : ((hsR A l).1 = 0 ∧ (hs A l).isSome = true) ∨ ((hsR A l).1 = 11 ∧ (hsR A l).2 = [] ∧ (hs A l).isSome = false) := by
  unfold hsR
  cases hs A l with
  | none => exact .inr ⟨rfl, rfl, rfl⟩
  | some fs => exact .inl ⟨rfl, rfl⟩
theorem overlap_made {A B : List (List UInt8)} (hA : Made A) (hB : Made B) : overlapS (flatP A) (flatP B) = (ovl (A.map pcB) (B.map pcB), 0) := by
  unfold overlapS; rw [hA.good, hB.good]
set_option maxRecDepth 100000 in
set_option maxHeartbeats 4000000 in
theorem both_walk (A B : List (List UInt8)) (mx : Int) (w : World) (hA : Made A) (hB : Made B) (hm : w.cell? ⟨0, 0, none⟩ = some (.int .i64 mx)) :
    Calls Tryd.prog 12 #[.string ⟨(flatP A).toArray⟩, .string ⟨(flatP B).toArray⟩] w fun e w' => e = .returned (.bool true) ∧ Below w.heap.size w w' := by
  obtain ⟨p1, p2, p3, p4⟩ := shS_path hA hB
  have zA := hA.flatl
  have zB := hB.flatl
  have fA := hA.few
  have fB := hB.few
  have HSH : Hid (∀ W, Calls Tryd.prog 7 #[.string ⟨(flatP A).toArray⟩, .string ⟨(flatP B).toArray⟩] W fun e w' => e = .returned (.string ⟨(shS A B).toArray⟩) ∧ Below W.heap.size W w') := fun W => shared_walk A B W hA.any hB.any hA.cln hB.cln hA.len hB.len (by omega) (by omega) (by omega) (by omega)
  have HMA : Hid (∀ W, Below w.heap.size w W → Calls Tryd.prog 21 #[.string ⟨(flatP A).toArray⟩, .string ⟨(shS A B).toArray⟩] W fun r w' => MsPost (hsR A (shS A B)) W.heap.size r w' ∧ Below W.heap.size W w') := fun W hW => by
    have h := pMatch_any ⟨(flatP A).toArray⟩ ⟨(shS A B).toArray⟩ mx W (by rw [bsz]; omega) (by rw [bsz]; omega) (cell_later hW hm)
    rw [show (⟨(flatP A).toArray⟩ : ByteArray).data.toList = flatP A from rfl, show (⟨(shS A B).toArray⟩ : ByteArray).data.toList = shS A B from rfl, matchS_made hA p1] at h
    exact h
  have HMB : Hid (∀ W, Below w.heap.size w W → Calls Tryd.prog 21 #[.string ⟨(flatP B).toArray⟩, .string ⟨(shS A B).toArray⟩] W fun r w' => MsPost (hsR B (shS A B)) W.heap.size r w' ∧ Below W.heap.size W w') := fun W hW => by
    have h := pMatch_any ⟨(flatP B).toArray⟩ ⟨(shS A B).toArray⟩ mx W (by rw [bsz]; omega) (by rw [bsz]; omega) (cell_later hW hm)
    rw [show (⟨(flatP B).toArray⟩ : ByteArray).data.toList = flatP B from rfl, show (⟨(shS A B).toArray⟩ : ByteArray).data.toList = shS A B from rfl, matchS_made hB p1] at h
    exact h
  have HO1 : Hid (∀ W, Below w.heap.size w W → Calls Tryd.prog 13 #[.string ⟨(flatP A).toArray⟩, .string ⟨(flatP B).toArray⟩] W fun r w' => r = .returned (.tuple #[.bool (ovl (A.map pcB) (B.map pcB)), .int .i64 0]) ∧ Below W.heap.size W w') := fun W hW => by
    have h := pOverlap_any ⟨(flatP A).toArray⟩ ⟨(flatP B).toArray⟩ mx W (by rw [bsz]; omega) (by rw [bsz]; omega) (cell_later hW hm)
    rw [show (⟨(flatP A).toArray⟩ : ByteArray).data.toList = flatP A from rfl, show (⟨(flatP B).toArray⟩ : ByteArray).data.toList = flatP B from rfl, overlap_made hA hB] at h
    exact h
  have HO2 : Hid (∀ W, Below w.heap.size w W → Calls Tryd.prog 13 #[.string ⟨(flatP B).toArray⟩, .string ⟨(flatP A).toArray⟩] W fun r w' => r = .returned (.tuple #[.bool (ovl (A.map pcB) (B.map pcB)), .int .i64 0]) ∧ Below W.heap.size W w') := fun W hW => by
    have h := pOverlap_any ⟨(flatP B).toArray⟩ ⟨(flatP A).toArray⟩ mx W (by rw [bsz]; omega) (by rw [bsz]; omega) (cell_later hW hm)
    rw [show (⟨(flatP A).toArray⟩ : ByteArray).data.toList = flatP A from rfl, show (⟨(flatP B).toArray⟩ : ByteArray).data.toList = flatP B from rfl, overlap_made hB hA, ovl_symm B A] at h
    exact h
  have hov : ovl (A.map pcB) (B.map pcB) = ((hs A (shS A B)).isSome && (hs B (shS A B)).isSome) := by
    unfold hs; rw [p2]; exact (sh_had hA.any hB.any hA.good2 hB.good2).symm
  have cA := hsR_cases A (shS A B)
  have cB := hsR_cases B (shS A B)
  generalize (⟨(flatP A).toArray⟩ : ByteArray) = SA at *
  generalize (⟨(flatP B).toArray⟩ : ByteArray) = SB at *
  generalize (⟨(shS A B).toArray⟩ : ByteArray) = SS at *
  generalize ovl (A.map pcB) (B.map pcB) = O at *
  generalize hsR A (shS A B) = RA at *
  generalize hsR B (shS A B) = RB at *
  generalize (hs A (shS A B)).isSome = iA at *
  generalize (hs B (shS A B)).isSome = iB at *
  subst hov
  clear p1 p2 p3 p4 zA zB fA fB hA hB hm
  go_enter Tryd.func12, Tryd.ntmps12
  go_wp2_with fail
  refine (HSH.out _).mono ?_
  rintro e w1 ⟨rfl, hb1⟩
  go_wp2_with fail
  refine (HMA.out _ hb1).mono ?_
  rintro e w2 ⟨⟨v1, rfl, ow1⟩, hb2⟩
  obtain ⟨a1, c1, rfl⟩ := own_slice ow1
  have hB2 := bel_of hb1 hb2
  clear ow1 hb1 hb2 HSH HMA
  go_wp2_with fail
  refine (HMB.out _ hB2).mono ?_
  rintro e w3 ⟨⟨v2, rfl, ow2⟩, hb3⟩
  obtain ⟨a2, c2, rfl⟩ := own_slice ow2
  have hB3 := bel_of hB2 hb3
  clear ow2 hb3 HMB hB2
  go_wp2_with fail
  refine (HO1.out _ hB3).mono ?_
  rintro e w4 ⟨rfl, hb4⟩
  have hB4 := bel_of hB3 hb4
  clear HO1 hb4 hB3
  go_wp2_with fail
  refine (HO2.out _ hB4).mono ?_
  rintro e w5 ⟨rfl, hb5⟩
  have BL := hid (bel_of hB4 hb5)
  clear HO2 hb5 hB4
  obtain ⟨r1, l1⟩ := RA
  obtain ⟨r2, l2⟩ := RB
  simp only at cA cB
  rcases cA with ⟨rfl, rfl⟩ | ⟨rfl, rfl, rfl⟩ <;> rcases cB with ⟨rfl, rfl⟩ | ⟨rfl, rfl, rfl⟩
  all_goals
    go_wp2
    go_ret
    exact ⟨rfl, BL.out⟩
def PrAt (fs : List Prm) (a : Option Addr) (w : World) : Prop :=
  ∀ i (h : i < fs.length), ∃ g, a = some ⟨g, 0, none⟩ ∧ g < w.heap.size ∧ w.cell? ⟨g, i * 2, none⟩ = some (.string fs[i].1) ∧ w.cell? ⟨g, i * 2 + 1, none⟩ = some (.string fs[i].2)
theorem PrAt.below {fs : List Prm} {a : Option Addr} {w w' : World} (h : PrAt fs a w) (hb : Below w.heap.size w w') : PrAt fs a w' := fun i hi => by
  obtain ⟨g, h1, h2, h3, h4⟩ := h i hi
  exact ⟨g, h1, Nat.lt_of_lt_of_le h2 hb.size, cell_later hb h3, cell_later hb h4⟩
theorem prCells_get : ∀ (es : List Prm) (i : Nat) (h : i < es.length), (prCells es)[i * 2]? = some (.string es[i].1) ∧ (prCells es)[i * 2 + 1]? = some (.string es[i].2)
  | [], i, h => absurd h (by simp)
  | f :: fs, 0, h => by simp [prCells]
  | f :: fs, i + 1, h => by
    have := prCells_get fs i (by simpa using h)
    have e : prCells (f :: fs) = (.string f.1) :: (.string f.2) :: prCells fs := by simp [prCells]
    rw [e, show (i + 1) * 2 = i * 2 + 1 + 1 from by omega, List.getElem?_cons_succ, List.getElem?_cons_succ, show i * 2 + 1 + 1 + 1 = (i * 2 + 1) + 1 + 1 from by omega, List.getElem?_cons_succ, List.getElem?_cons_succ]
    exact this
theorem pr_of_owns {w : World} {B : Nat} {e : TypeId} {v : Value} {es : List Prm} (h : w.ownsRow B e 2 v es.length (prCells es)) : ∃ a cap, v = .slice a es.length cap ∧ PrAt es a w := by
  obtain ⟨h1, h2⟩ := h
  rcases h2 with ⟨h2, h3⟩ | ⟨g, cap, cur, hv, hB, hg, hc, hm, hsz, ht⟩
  · refine ⟨none, 0, ?_, fun i hi => ?_⟩
    · rw [h3]; exact h2
    · omega
  · refine ⟨some ⟨g, 0, none⟩, cap, hv, fun i hi => ⟨g, rfl, ?_, ?_, ?_⟩⟩
    · rcases Nat.lt_or_ge g w.heap.size with h' | h'
      · exact h'
      · simp [Array.getElem?_eq_none h'] at hg
    all_goals
      obtain ⟨m1, m2⟩ := prCells_get es i hi
      rw [← ht, List.getElem?_take] at m1 m2
      rw [Lib.cell_of_heap hg]
    · split at m1
      · simpa using m1
      · cases m1
    · split at m2
      · simpa using m2
      · cases m2
set_option maxRecDepth 100000 in
set_option maxHeartbeats 1000000 in
theorem sameParams_walk (fs : List Prm) (a b : Option Addr) (ca cb : Nat) (w : World) (h1 : PrAt fs a w) (h2 : PrAt fs b w) (hl : fs.length ≤ 1000000) :
    Calls Tryd.prog 22 #[.slice a fs.length ca, .slice b fs.length cb] w fun e w' => e = .returned (.bool true) ∧ Below w.heap.size w w' := by
  have H1 := hid h1
  have H2 := hid h2
  clear h1 h2
  go_enter Tryd.func22, Tryd.ntmps22
  go_wp2
  go_loopw [5] (fun i wr => ∃ k : Nat, k ≤ fs.length ∧ i = .int .i64 k ∧ Below w.heap.size w wr) (fun i _ => fs.length - (intOf i).toNat)
  case atStart => exact ⟨0, Nat.zero_le _, rfl, Below.refl _ _⟩
  case round =>
    obtain ⟨k, hk, rfl, hbw⟩ := hrel
    by_cases hlt : k < fs.length
    · obtain ⟨ga, rfl, hg1, hc1, hc2⟩ := (H1.out.below hbw) k hlt
      obtain ⟨gb, rfl, hg2, hc3, hc4⟩ := (H2.out.below hbw) k hlt
      generalize fs[k].1 = nm at *
      generalize fs[k].2 = vl at *
      go_wp2_with fail
      go_quiet (fail)
      go_wp2
      exact ⟨⟨k + 1, by omega, by go_num, below_drewN hbw _⟩, by simp [intOf]; omega⟩
    · go_wp2
      go_ret
      exact ⟨rfl, hbw⟩
end Go.Proofs.YthfpiahhbflfpaaDoor

/- slices.Sort of one text or none; what Methods tells where one pattern at most has the path; nothing old in memory turns. -/
namespace Go.Proofs.YthfpiahhbflfpaaDoor
open Go.RowKit

set_option maxRecDepth 100000 in
set_option maxHeartbeats 1000000 in
theorem len64_small (n : Nat) (w : World) (hn : n = 0 ∨ n = 1) : Calls Tryd.prog 70 #[.int .u64 n] w fun e w' => e = .returned (.int .i64 n) ∧ Below w.heap.size w w' := by
  have e0 : Lib.len8 0 = 0 := by decide +kernel
  have e1 : Lib.len8 1 = 1 := by decide +kernel
  rcases hn with rfl | rfl
  · go_enter Tryd.func70, Tryd.ntmps70
    go_wp2
    refine bodyPost_ret (v := .int .i64 0) (by simp [results, Tryd.results70, go_sem]) rfl ?_
    exact ⟨rfl, Below.refl _ _⟩
  · go_enter Tryd.func70, Tryd.ntmps70
    go_wp2
    refine bodyPost_ret (v := .int .i64 1) (by simp [results, Tryd.results70, go_sem]) rfl ?_
    exact ⟨rfl, Below.refl _ _⟩
set_option maxRecDepth 100000 in
set_option maxHeartbeats 1000000 in
theorem bitsLen_small (n : Nat) (w : World) (hn : n = 0 ∨ n = 1) : Calls Tryd.prog 50 #[.int .u64 n] w fun e w' => e = .returned (.int .i64 n) ∧ Below w.heap.size w w' := by
  have HL := hid (fun W => len64_small n W hn)
  rcases hn with rfl | rfl
  all_goals
    go_enter Tryd.func50, Tryd.ntmps50
    go_wp2_with fail
    refine (HL.out _).mono ?_
    rintro e w1 ⟨rfl, hb1⟩
    go_wp2
    go_ret
    exact ⟨rfl, hb1⟩
set_option maxRecDepth 100000 in
set_option maxHeartbeats 1000000 in
theorem insertion_small (v : Value) (n : Nat) (w : World) (hn : n = 0 ∨ n = 1) : Calls Tryd.prog 60 #[v, .int .i64 0, .int .i64 n] w fun e w' => e = .returned (.tuple #[]) ∧ Below w.heap.size w w' := by
  have h1 : ¬ (1 : Int) < (n : Int) := by omega
  clear hn
  go_enter Tryd.func60, Tryd.ntmps60
  go_wp2
  go_loopw [6] (fun i wr => i = .int .i64 1 ∧ Below w.heap.size w wr) (fun _ _ => 0)
  case atStart => exact ⟨rfl, Below.refl _ _⟩
  case round =>
    obtain ⟨rfl, hbw⟩ := hrel
    go_wp2
    refine bodyPost_end (v := .tuple #[]) (by simp [results, Tryd.results60, go_sem]) rfl ?_
    exact ⟨rfl, hbw⟩
set_option maxRecDepth 100000 in
set_option maxHeartbeats 1000000 in
theorem pdq_small (v : Value) (n : Nat) (w : World) (hn : n = 0 ∨ n = 1) : Calls Tryd.prog 49 #[v, .int .i64 0, .int .i64 n, .int .i64 n] w fun e w' => e = .returned (.tuple #[]) ∧ Below w.heap.size w w' := by
  have HI := hid (fun W => insertion_small v n W hn)
  have h1 : (n : Int) ≤ 12 := by omega
  clear hn
  go_enter Tryd.func49, Tryd.ntmps49
  go_wp2
  go_loopw [1, 2, 3] (fun a b l wr => a = .int .i64 0 ∧ b = .int .i64 n ∧ l = .int .i64 n ∧ Below w.heap.size w wr) (fun _ _ _ _ => 0)
  case atStart => exact ⟨rfl, rfl, rfl, Below.refl _ _⟩
  case round =>
    obtain ⟨rfl, rfl, rfl, hbw⟩ := hrel
    go_wp2_with fail
    refine (HI.out _).mono ?_
    rintro e w1 ⟨rfl, hb1⟩
    have hB := bel_of hbw hb1
    go_wp2
    try rw [Exit.noGoto_ret]
    refine bodyPost_ret (v := .tuple #[]) (by simp [results, Tryd.results49, go_sem]) rfl ?_
    exact ⟨rfl, hB⟩
set_option maxRecDepth 100000 in
set_option maxHeartbeats 1000000 in
theorem sort_small (a : Option Addr) (n c : Nat) (w : World) (hn : n = 0 ∨ n = 1) : Calls Tryd.prog 37 #[.slice a n c] w fun e w' => e = .returned (.tuple #[]) ∧ Below w.heap.size w w' := by
  have HL := hid (fun W => bitsLen_small n W hn)
  have HP := hid (fun W => pdq_small (.slice a n c) n W hn)
  have hw : IntKind.u64.wrap (n : Int) = (n : Int) := by rcases hn with rfl | rfl <;> rfl
  clear hn
  go_enter Tryd.func37, Tryd.ntmps37
  go_wp2_with fail
  refine (HL.out _).mono ?_
  rintro e w1 ⟨rfl, hb1⟩
  go_wp2_with fail
  refine (HP.out _).mono ?_
  rintro e w2 ⟨rfl, hb2⟩
  have hB := bel_of hb1 hb2
  go_wp2
  refine bodyPost_end (v := .tuple #[]) (by simp [results, Tryd.results37, go_sem]) rfl ?_
  exact ⟨rfl, hB⟩
def methG (l : List UInt8) (es : List Ent) : List ByteArray := (es.filter fun e => (matchB e.ps (l.drop 1) true []).isSome).map (·.m)
theorem methG_next (l : List UInt8) (es : List Ent) (k : Nat) (h : k < es.length) : methG l (es.take (k + 1)) = methG l (es.take k) ++ (if (matchB es[k].ps (l.drop 1) true []).isSome = true then [es[k].m] else []) := by
  unfold methG
  rw [List.take_succ_eq_append_getElem h, List.filter_append, List.map_append]
  congr 1
  by_cases hm : (matchB es[k].ps (l.drop 1) true []).isSome = true
  · rw [if_pos hm]
    have : [es[k]].filter (fun e => (matchB e.ps (l.drop 1) true []).isSome) = [es[k]] := List.filter_cons_of_pos hm
    rw [this]; rfl
  · rw [if_neg hm]
    have : [es[k]].filter (fun e => (matchB e.ps (l.drop 1) true []).isSome) = [] := List.filter_cons_of_neg hm
    rw [this]; rfl
theorem methG_len (l : List UInt8) (es : List Ent) (k : Nat) : (methG l (es.take k)).length ≤ (es.take k).length := by
  unfold methG; rw [List.length_map]; exact List.length_filter_le _ _
set_option maxRecDepth 100000 in
set_option maxHeartbeats 2000000 in
theorem tMethods_any (gt o B : Nat) (es : List Ent) (v : Value) (s : ByteArray) (w : World) (hT : TbAt gt o B es v w) (hp : Pm.isPath s.data.toList = true) (h1s : 1 ≤ s.size) (hs : s.size ≤ 140737488355328) (hone : (methG s.data.toList es).length ≤ 1) :
    Calls Tryd.prog 27 #[.pointer (some ⟨gt, o, none⟩), .string s] w fun r w' => (∃ vv, r = .returned vv ∧ w'.ownsRow w.heap.size 9 1 vv (methG s.data.toList es).length ((methG s.data.toList es).map Value.string)) ∧ Below w.heap.size w w' := by
  obtain ⟨i0, hi, hz0, hz1, hz2⟩ := info_parts Tryd.info9
  have HIP := hid (fun W => wIsPath_any s W hs)
  rw [hp] at HIP
  have HT := hid hT
  obtain ⟨av, cv, rfl, hen⟩ := en_of_owns hT.row
  have HE := hid hen
  have cel := hT.cel
  have lt0 := hT.lt
  have hfw := hT.few
  clear hT hen
  go_enter Tryd.func27, Tryd.ntmps27
  go_wp2_with fail
  refine (HIP.out _).mono ?_
  rintro e w1 ⟨rfl, hb1⟩
  have cel1 := cell_later hb1 cel
  have lt1 : gt < w1.heap.size := Nat.lt_of_lt_of_le lt0 hb1.size
  clear HIP cel lt0
  go_wp2_with fail
  go_loopw [5, 18] (fun ms i wr => ∃ k : Nat, k ≤ es.length ∧ i = .int .i64 k ∧ wr.ownsRow w.heap.size 9 1 ms (methG s.data.toList (es.take k)).length ((methG s.data.toList (es.take k)).map Value.string) ∧ Below w.heap.size w wr) (fun _ i _ => es.length - (intOf i).toNat)
  case atStart => exact ⟨0, Nat.zero_le _, rfl, World.ownsRow_nil _ _ _ _, hb1⟩
  case round =>
    obtain ⟨k, hk, rfl, hown, hbw⟩ := hrel
    by_cases hlt : k < es.length
    · obtain ⟨g, rfl, hg, hc1, hc2⟩ := (HE.out.below hbw) k hlt
      have hpc := (HT.out.pat k hlt).below hbw
      have hps := HT.out.szs k hlt
      have HN := hid (methG_next s.data.toList es k hlt)
      have hml := methG_len s.data.toList es k
      rw [List.length_take] at hml
      generalize es[k] = en at *
      obtain ⟨em, eps, ea, ec⟩ := en
      simp only at hc1 hc2 hpc hps HN
      have hA := (Below.refl wr.heap.size wr).alloc (Nat.le_refl _) (.cells #[.string em, .slice ea eps.length ec] 60)
      have hB := bel_of hbw hA
      have HM := hid (fun W (hW : Below w.heap.size w W) (h : PcAt eps ea W) => match_any eps ea ec s W h hps h1s hs)
      have oA := owns_below hown hA
      have en0 := heap_alloc_new wr (.cells #[.string em, .slice ea eps.length ec] 60)
      go_wp2_with fail
      generalize hwa : wr.alloc (.cells #[.string em, .slice ea eps.length ec] 60) = wa at *
      refine (HM.out _ hB (hpc.below hA)).mono ?_
      rintro e w2 ⟨hma, hb2⟩
      have hB2 := bel_of hB hb2
      have o2 := owns_below oA hb2
      have ece : w2.cell? ⟨wr.heap.size, 0, none⟩ = some (.string em) := cell_later hb2 (by rw [Lib.cell_of_heap en0]; rfl)
      have elt : wr.heap.size < w2.heap.size := Nat.lt_of_lt_of_le (by rw [← hwa]; simp) hb2.size
      clear HM hb2 hA oA en0 hB hwa hpc
      generalize methG s.data.toList (es.take k) = MK at *
      cases hMB : matchB eps (List.drop 1 s.data.toList) true [] with
      | none =>
        rw [hMB] at hma HN
        obtain rfl : e = .returned (.tuple #[.slice none 0 0, .bool false]) := hma
        go_wp2
        refine ⟨⟨k + 1, by omega, by go_num, ?_, hB2⟩, by simp [intOf]; omega⟩
        rw [HN.out]; simpa using o2
      | some pf =>
        rw [hMB] at hma HN
        obtain ⟨vv, rfl, ow⟩ := hma
        have HN2 : Hid (methG s.data.toList (es.take (k + 1)) = MK ++ [em]) := by
          unfold Hid; rw [HN.out]; rfl
        clear ow HN hMB
        go_wp2_with (at_builtin; refine wpList_append_own _ rfl _ _ 26 rfl w.heap.size 9 i0 (.string ⟨#[]⟩) 1 16 Tryd.underlying26 hi hz0 hz1 hz2 rfl (by decide) _ _ _ rfl (o2.alloc _) ⟨w2.heap.size, 0, none⟩ 1 1 [.string em] rfl rfl ?c1 ?c2 ?c3 ?c4 ?c5 ?_)
        case c1 =>
          intro j u hj
          match j, hj with
          | 0, hj => simp at hj; subst hj; simp [Addr.add]
        case c2 => intro u hu; simp at hu; subst hu; rfl
        case c3 => unfold maxLen; omega
        case c4 => omega
        case c5 => have := hB2.size; simp; omega
        intro v' w3 hown' hgrow _
        have hb3 : Below w.heap.size w w3 := (hB2.alloc hB2.size _).grown hgrow (by have := hB2.size; simp; omega) (own_ge o2)
        clear hgrow
        go_wp2
        refine ⟨⟨k + 1, by omega, by go_num, ?_, hb3⟩, by simp [intOf]; omega⟩
        rw [HN2.out, List.length_append, List.map_append]
        exact hown'
    · have hke : es.take k = es := List.take_of_length_le (by omega)
      rw [hke] at hown
      have hlen : (methG s.data.toList es).length = 0 ∨ (methG s.data.toList es).length = 1 := by omega
      generalize hMK : methG s.data.toList es = MK at *
      obtain ⟨a', c', rfl⟩ : ∃ a c, u5 = .slice a MK.length c := by
        rcases hown.2 with ⟨h2, h3⟩ | ⟨g, cap, cur, hv, _⟩
        · exact ⟨none, 0, by rw [h3]; exact h2⟩
        · exact ⟨_, _, hv⟩
      have HS := hid (fun W => sort_small a' MK.length c' W hlen)
      go_wp2_with fail
      refine (HS.out _).mono ?_
      rintro e w2 ⟨rfl, hb2⟩
      have hB2 := bel_of hbw hb2
      have HO := hid (owns_below hown hb2)
      clear HS hown hlen
      go_wp2
      go_ret
      exact ⟨⟨.slice a' MK.length c', rfl, by rw [hMK]; exact HO.out⟩, hB2⟩
set_option maxHeartbeats 400000 in
theorem pMethods_any (gt B : Nat) (es : List Ent) (v : Value) (s : ByteArray) (w : World) (hT : TbAt gt 0 B es v w) (hp : Pm.isPath s.data.toList = true) (h1s : 1 ≤ s.size) (hs : s.size ≤ 140737488355328) (hone : (methG s.data.toList es).length ≤ 1) :
    Calls Tryd.prog 20 #[.pointer (some ⟨gt, 0, none⟩), .string s] w fun r w' => (∃ vv, r = .returned vv ∧ w'.ownsRow w.heap.size 9 1 vv (methG s.data.toList es).length ((methG s.data.toList es).map Value.string)) ∧ Below w.heap.size w w' := by
  have HF := hid (tMethods_any gt 0 B es v s w hT hp h1s hs hone)
  generalize methG s.data.toList es = FF at *
  have lt0 := hT.lt
  clear hT
  go_enter Tryd.func20, Tryd.ntmps20
  go_wp2_with fail
  refine HF.out.mono ?_
  rintro e w1 ⟨⟨vv, rfl, ow⟩, hb1⟩
  have HOW := hid ow
  clear ow HF
  go_wp2
  go_ret
  exact ⟨⟨vv, rfl, HOW.out⟩, hb1⟩
end Go.Proofs.YthfpiahhbflfpaaDoor
