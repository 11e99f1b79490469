/- Texts that follow one another, joined. -/
import Derived.Test.YtbiggccolpchcaaGreatDoorJoin35
import Derived.Deep.QuietTactic
import Derived.Test.YtbiggccolpchcaaGreatDoorJoin32
/- A book of any number of lists: do they still read so? -/
namespace Go.Proofs.YtbiggccolpchcaaGreatDoor.Bn
open Go.RowKit

theorem owns_at1 {w : World} {B : Nat} {e : TypeId} {v : Value} {n : Nat} {xs : List Value} (h : w.ownsRow B e 1 v n xs) : ∃ a c, v = .slice a n c ∧ ∀ i (_ : i < n) (hx : i < xs.length), ∃ g, a = some ⟨g, 0, none⟩ ∧ g < w.heap.size ∧ w.cell? ⟨g, i, none⟩ = some xs[i] := by
  obtain ⟨h1, h2⟩ := h
  rcases h2 with ⟨rfl, rfl⟩ | ⟨g, cap, cur, rfl, _, hg, _, _, _, hc⟩
  · exact ⟨none, 0, rfl, fun i hi => absurd hi (by omega)⟩
  · refine ⟨some ⟨g, 0, none⟩, cap, rfl, fun i hi hx => ⟨g, rfl, heap_lt hg, ?_⟩⟩
    rw [Lib.cell_of_heap hg]
    have h3 : (cur.toList.take (n * 1))[i]? = some xs[i] := by rw [hc, List.getElem?_eq_getElem hx]
    rw [List.getElem?_take] at h3
    split at h3
    · simpa using h3
    · cases h3
/- the book's part of one kind -/
structure BpI (j bk B : Nat) (et : TypeId) (mk : Nat → List Value) (vs : List Value) (V : Value) (w : World) : Prop where
  cel : w.cell? ⟨bk, j, none⟩ = some V
  own : w.ownsRow B et 1 V vs.length vs
  few : vs.length ≤ 5000000
  lis : ∀ i (h : i < vs.length), LsI (mk (i / 4 * 4)) vs[i] w
set_option maxRecDepth 100000 in
set_option maxHeartbeats 4000000 in
theorem lookTexts_all (bk B : Nat) (vs : List Value) (V : Value) (w : World) (h : BpI 1 bk B 99 (fun n => [.string (mkS n)]) vs V w) :
    Calls Tryz.prog 19 #[.pointer (some ⟨bk, 0, none⟩)] w fun r w' => r = .returned (.bool true) ∧ Below w.heap.size w w' := by
  obtain ⟨Va, Vc, rfl, hcell⟩ := owns_at1 h.own
  have HC := hid hcell
  have HG := hid h.lis
  have HB := hid h.cel
  have lk := block_lt_of_cell h.cel
  have hvs := h.few
  clear h hcell
  go_enter Tryz.func19, Tryz.ntmps19
  go_wp2_with fail
  go_loopw [3, 4, 5] (fun i _ _ wr => ∃ q : Nat, q ≤ vs.length ∧ i = .int .i64 q ∧ Below w.heap.size w wr) (fun i _ _ _ => vs.length - (intOf i).toNat)
  case atStart => exact ⟨0, Nat.zero_le _, rfl, Below.refl _ _⟩
  case round =>
    obtain ⟨q, hq, rfl, hbw⟩ := hrel
    have b3 := cell_later hbw HB.out
    by_cases hlt : q < vs.length
    · obtain ⟨n, hn⟩ : ∃ n : Nat, n = q / 4 * 4 := ⟨_, rfl⟩
      have hn5 : n ≤ 5000000 := by omega
      have HM := hid (fun W => markT_any n (by omega) W)
      obtain ⟨la, k, lc, hv, hk, hmk⟩ := HG.out q hlt
      simp only [← hn] at hmk
      obtain ⟨gV, rfl, hgV, hvc⟩ := HC.out q hlt hlt
      rw [hv] at hvc
      have HMK := hid hmk
      clear hmk
      go_wp2_with fail
      rw [show ((q : Int) / 4 * 4) = (n : Int) from by omega]
      refine (HM.out _).mono ?_
      rintro e w1 ⟨rfl, hb1⟩
      have hB2 := bel_of hbw hb1
      clear b3 hbw hb1 HM
      generalize mkS n = mv at *
      clear hn
      go_wp2_with fail
      obtain ⟨w2, hw2⟩ : ∃ w2, w2 = w1 := ⟨_, rfl⟩
      subst hw2
      go_loopw [5] (fun j wr2 => ∃ p : Nat, p ≤ k ∧ j = .int .i64 p ∧ Below w2.heap.size w2 wr2) (fun j _ => k - (intOf j).toNat)
      case atStart => exact ⟨0, Nat.zero_le _, rfl, Below.refl _ _⟩
      case round =>
        obtain ⟨p, hp, rfl, hbp⟩ := hrel
        have hB3 := bel_of hB2 hbp
        have b3 := cell_later hB3 HB.out
        have v3 := cell_later hB3 hvc
        by_cases hlp : p < k
        · obtain ⟨gl, rfl, hgl, hc⟩ := (HMK.out.below (hB3)) p hlp
          have hc1 := hc 0 _ rfl
          simp only [List.length_cons, List.length_nil, Nat.zero_add, Nat.add_zero, Nat.mul_one] at hc1
          clear hc
          go_wp2
          exact ⟨⟨p + 1, by omega, by go_num, hbp⟩, by simp [intOf]; omega⟩
        · go_wp2
          exact ⟨⟨q + 1, by omega, by go_num, hB3⟩, by simp [intOf]; omega⟩
    · go_wp2
      go_ret
      exact ⟨rfl, hbw⟩
set_option maxRecDepth 100000 in
set_option maxHeartbeats 4000000 in
theorem lookInts_all (bk B : Nat) (vs : List Value) (V : Value) (w : World) (h : BpI 0 bk B 38 (fun n => [.int .i64 (mkI n)]) vs V w) :
    Calls Tryz.prog 18 #[.pointer (some ⟨bk, 0, none⟩)] w fun r w' => r = .returned (.bool true) ∧ Below w.heap.size w w' := by
  obtain ⟨Va, Vc, rfl, hcell⟩ := owns_at1 h.own
  have HC := hid hcell
  have HG := hid h.lis
  have HB := hid h.cel
  have lk := block_lt_of_cell h.cel
  have hvs := h.few
  clear h hcell
  go_enter Tryz.func18, Tryz.ntmps18
  go_wp2_with fail
  go_loopw [3, 4, 5] (fun i _ _ wr => ∃ q : Nat, q ≤ vs.length ∧ i = .int .i64 q ∧ Below w.heap.size w wr) (fun i _ _ _ => vs.length - (intOf i).toNat)
  case atStart => exact ⟨0, Nat.zero_le _, rfl, Below.refl _ _⟩
  case round =>
    obtain ⟨q, hq, rfl, hbw⟩ := hrel
    have b3 := cell_later hbw HB.out
    by_cases hlt : q < vs.length
    · obtain ⟨n, hn⟩ : ∃ n : Nat, n = q / 4 * 4 := ⟨_, rfl⟩
      have hn5 : n ≤ 5000000 := by omega
      have HM := hid (fun W => markI_any n (by omega) W)
      obtain ⟨la, k, lc, hv, hk, hmk⟩ := HG.out q hlt
      simp only [← hn] at hmk
      obtain ⟨gV, rfl, hgV, hvc⟩ := HC.out q hlt hlt
      rw [hv] at hvc
      have HMK := hid hmk
      clear hmk
      go_wp2_with fail
      rw [show ((q : Int) / 4 * 4) = (n : Int) from by omega]
      refine (HM.out _).mono ?_
      rintro e w1 ⟨rfl, hb1⟩
      have hB2 := bel_of hbw hb1
      clear b3 hbw hb1 HM
      generalize mkI n = mv at *
      clear hn
      go_wp2_with fail
      obtain ⟨w2, hw2⟩ : ∃ w2, w2 = w1 := ⟨_, rfl⟩
      subst hw2
      go_loopw [5] (fun j wr2 => ∃ p : Nat, p ≤ k ∧ j = .int .i64 p ∧ Below w2.heap.size w2 wr2) (fun j _ => k - (intOf j).toNat)
      case atStart => exact ⟨0, Nat.zero_le _, rfl, Below.refl _ _⟩
      case round =>
        obtain ⟨p, hp, rfl, hbp⟩ := hrel
        have hB3 := bel_of hB2 hbp
        have b3 := cell_later hB3 HB.out
        have v3 := cell_later hB3 hvc
        by_cases hlp : p < k
        · obtain ⟨gl, rfl, hgl, hc⟩ := (HMK.out.below (hB3)) p hlp
          have hc1 := hc 0 _ rfl
          simp only [List.length_cons, List.length_nil, Nat.zero_add, Nat.add_zero, Nat.mul_one] at hc1
          clear hc
          go_wp2
          exact ⟨⟨p + 1, by omega, by go_num, hbp⟩, by simp [intOf]; omega⟩
        · go_wp2
          exact ⟨⟨q + 1, by omega, by go_num, hB3⟩, by simp [intOf]; omega⟩
    · go_wp2
      go_ret
      exact ⟨rfl, hbw⟩
set_option maxRecDepth 100000 in
set_option maxHeartbeats 4000000 in
theorem lookParams_all (bk B : Nat) (vs : List Value) (V : Value) (w : World) (h : BpI 2 bk B 92 (fun n => [.string (mkS n), .string ⟨#[46]⟩]) vs V w) :
    Calls Tryz.prog 20 #[.pointer (some ⟨bk, 0, none⟩)] w fun r w' => r = .returned (.bool true) ∧ Below w.heap.size w w' := by
  obtain ⟨Va, Vc, rfl, hcell⟩ := owns_at1 h.own
  have HC := hid hcell
  have HG := hid h.lis
  have HB := hid h.cel
  have lk := block_lt_of_cell h.cel
  have hvs := h.few
  clear h hcell
  go_enter Tryz.func20, Tryz.ntmps20
  go_wp2_with fail
  go_loopw [3, 4, 5] (fun i _ _ wr => ∃ q : Nat, q ≤ vs.length ∧ i = .int .i64 q ∧ Below w.heap.size w wr) (fun i _ _ _ => vs.length - (intOf i).toNat)
  case atStart => exact ⟨0, Nat.zero_le _, rfl, Below.refl _ _⟩
  case round =>
    obtain ⟨q, hq, rfl, hbw⟩ := hrel
    have b3 := cell_later hbw HB.out
    by_cases hlt : q < vs.length
    · obtain ⟨n, hn⟩ : ∃ n : Nat, n = q / 4 * 4 := ⟨_, rfl⟩
      have hn5 : n ≤ 5000000 := by omega
      have HM := hid (fun W => markParam_any n (by omega) W)
      obtain ⟨la, k, lc, hv, hk, hmk⟩ := HG.out q hlt
      simp only [← hn] at hmk
      obtain ⟨gV, rfl, hgV, hvc⟩ := HC.out q hlt hlt
      rw [hv] at hvc
      have HMK := hid hmk
      clear hmk
      go_wp2_with fail
      rw [show ((q : Int) / 4 * 4) = (n : Int) from by omega]
      refine (HM.out _).mono ?_
      rintro e w1 ⟨rfl, hb1⟩
      have hB1 := bel_of hbw hb1
      have hA2 := (Below.refl w1.heap.size w1).alloc (Nat.le_refl _) (.cells #[.string (mkS n), .string ⟨#[46]⟩] 129)
      have hB2 := bel_of hB1 hA2
      have hm2 := heap_alloc_new w1 (.cells #[.string (mkS n), .string ⟨#[46]⟩] 129)
      have hmz : w1.heap.size < (w1.alloc (.cells #[.string (mkS n), .string ⟨#[46]⟩] 129)).heap.size := by simp
      clear b3 hbw hb1 hB1 hA2 HM
      generalize mkS n = mv at *
      clear hn
      go_wp2_with fail
      generalize w1.alloc (.cells #[.string mv, .string ⟨#[46]⟩] 129) = w2 at *
      generalize w1.heap.size = mb at *
      go_loopw [5] (fun j wr2 => ∃ p : Nat, p ≤ k ∧ j = .int .i64 p ∧ Below w2.heap.size w2 wr2) (fun j _ => k - (intOf j).toNat)
      case atStart => exact ⟨0, Nat.zero_le _, rfl, Below.refl _ _⟩
      case round =>
        obtain ⟨p, hp, rfl, hbp⟩ := hrel
        have hB3 := bel_of hB2 hbp
        have b3 := cell_later hB3 HB.out
        have v3 := cell_later hB3 hvc
        have m0 := cell_later hbp (a := ⟨mb, 0, none⟩) (v := .string mv) (by rw [Lib.cell_of_heap hm2]; rfl)
        have m1 := cell_later hbp (a := ⟨mb, 1, none⟩) (v := .string ⟨#[46]⟩) (by rw [Lib.cell_of_heap hm2]; rfl)
        by_cases hlp : p < k
        · obtain ⟨gl, rfl, hgl, hc⟩ := (HMK.out.below (hB3)) p hlp
          have hc1 := hc 0 _ rfl
          have hc2 := hc 1 _ rfl
          simp only [List.length_cons, List.length_nil, Nat.zero_add, Nat.add_zero] at hc1 hc2
          clear hc
          go_wp2_with fail
          go_quiet (fail)
          go_wp2
          exact ⟨⟨p + 1, by omega, by go_num, below_drewN hbp _⟩, by simp [intOf]; omega⟩
        · go_wp2
          exact ⟨⟨q + 1, by omega, by go_num, hB3⟩, by simp [intOf]; omega⟩
    · go_wp2
      go_ret
      exact ⟨rfl, hbw⟩
set_option maxRecDepth 100000 in
set_option maxHeartbeats 4000000 in
theorem lookFields_all (bk B : Nat) (vs : List Value) (V : Value) (w : World) (h : BpI 3 bk B 45 (fun n => [.string (mkS n), .string ⟨#[46]⟩]) vs V w) :
    Calls Tryz.prog 21 #[.pointer (some ⟨bk, 0, none⟩)] w fun r w' => r = .returned (.bool true) ∧ Below w.heap.size w w' := by
  obtain ⟨Va, Vc, rfl, hcell⟩ := owns_at1 h.own
  have HC := hid hcell
  have HG := hid h.lis
  have HB := hid h.cel
  have lk := block_lt_of_cell h.cel
  have hvs := h.few
  clear h hcell
  go_enter Tryz.func21, Tryz.ntmps21
  go_wp2_with fail
  go_loopw [3, 4, 5] (fun i _ _ wr => ∃ q : Nat, q ≤ vs.length ∧ i = .int .i64 q ∧ Below w.heap.size w wr) (fun i _ _ _ => vs.length - (intOf i).toNat)
  case atStart => exact ⟨0, Nat.zero_le _, rfl, Below.refl _ _⟩
  case round =>
    obtain ⟨q, hq, rfl, hbw⟩ := hrel
    have b3 := cell_later hbw HB.out
    by_cases hlt : q < vs.length
    · obtain ⟨n, hn⟩ : ∃ n : Nat, n = q / 4 * 4 := ⟨_, rfl⟩
      have hn5 : n ≤ 5000000 := by omega
      have HM := hid (fun W => markField_any n (by omega) W)
      obtain ⟨la, k, lc, hv, hk, hmk⟩ := HG.out q hlt
      simp only [← hn] at hmk
      obtain ⟨gV, rfl, hgV, hvc⟩ := HC.out q hlt hlt
      rw [hv] at hvc
      have HMK := hid hmk
      clear hmk
      go_wp2_with fail
      rw [show ((q : Int) / 4 * 4) = (n : Int) from by omega]
      refine (HM.out _).mono ?_
      rintro e w1 ⟨rfl, hb1⟩
      have hB1 := bel_of hbw hb1
      have hA2 := (Below.refl w1.heap.size w1).alloc (Nat.le_refl _) (.cells #[.string (mkS n), .string ⟨#[46]⟩] 131)
      have hB2 := bel_of hB1 hA2
      have hm2 := heap_alloc_new w1 (.cells #[.string (mkS n), .string ⟨#[46]⟩] 131)
      have hmz : w1.heap.size < (w1.alloc (.cells #[.string (mkS n), .string ⟨#[46]⟩] 131)).heap.size := by simp
      clear b3 hbw hb1 hB1 hA2 HM
      generalize mkS n = mv at *
      clear hn
      go_wp2_with fail
      generalize w1.alloc (.cells #[.string mv, .string ⟨#[46]⟩] 131) = w2 at *
      generalize w1.heap.size = mb at *
      go_loopw [5] (fun j wr2 => ∃ p : Nat, p ≤ k ∧ j = .int .i64 p ∧ Below w2.heap.size w2 wr2) (fun j _ => k - (intOf j).toNat)
      case atStart => exact ⟨0, Nat.zero_le _, rfl, Below.refl _ _⟩
      case round =>
        obtain ⟨p, hp, rfl, hbp⟩ := hrel
        have hB3 := bel_of hB2 hbp
        have b3 := cell_later hB3 HB.out
        have v3 := cell_later hB3 hvc
        have m0 := cell_later hbp (a := ⟨mb, 0, none⟩) (v := .string mv) (by rw [Lib.cell_of_heap hm2]; rfl)
        have m1 := cell_later hbp (a := ⟨mb, 1, none⟩) (v := .string ⟨#[46]⟩) (by rw [Lib.cell_of_heap hm2]; rfl)
        by_cases hlp : p < k
        · obtain ⟨gl, rfl, hgl, hc⟩ := (HMK.out.below (hB3)) p hlp
          have hc1 := hc 0 _ rfl
          have hc2 := hc 1 _ rfl
          simp only [List.length_cons, List.length_nil, Nat.zero_add, Nat.add_zero] at hc1 hc2
          clear hc
          go_wp2_with fail
          go_quiet (fail)
          go_wp2
          exact ⟨⟨p + 1, by omega, by go_num, below_drewN hbp _⟩, by simp [intOf]; omega⟩
        · go_wp2
          exact ⟨⟨q + 1, by omega, by go_num, hB3⟩, by simp [intOf]; omega⟩
    · go_wp2
      go_ret
      exact ⟨rfl, hbw⟩
end Go.Proofs.YtbiggccolpchcaaGreatDoor.Bn

/- A book of any number of lists: looks. -/
namespace Go.Proofs.YtbiggccolpchcaaGreatDoor.Bn
open Go.RowKit

theorem BpI.below {j bk B : Nat} {et : TypeId} {mk : Nat → List Value} {vs : List Value} {V : Value} {w w' : World} (h : BpI j bk B et mk vs V w) (hb : Below w.heap.size w w') : BpI j bk B et mk vs V w' :=
  ⟨cell_later hb h.cel, owns_below h.own hb, h.few, fun i hi => by
    obtain ⟨a, n, cap, e1, e2, e3⟩ := h.lis i hi
    exact ⟨a, n, cap, e1, e2, e3.below hb⟩⟩
abbrev mkcT (n : Nat) : List Value := [.string (mkS n)]
abbrev mkcI (n : Nat) : List Value := [.int .i64 (mkI n)]
abbrev mkcP (n : Nat) : List Value := [.string (mkS n), .string ⟨#[46]⟩]
set_option maxHeartbeats 1000000 in
theorem looks_all (bk B : Nat) (v0 v1 v2 v3 : List Value) (V0 V1 V2 V3 : Value) (w : World) (h0 : BpI 0 bk B 38 mkcI v0 V0 w) (h1 : BpI 1 bk B 99 mkcT v1 V1 w) (h2 : BpI 2 bk B 92 mkcP v2 V2 w) (h3 : BpI 3 bk B 45 mkcP v3 V3 w) :
    Calls Tryz.prog 9 #[.pointer (some ⟨bk, 0, none⟩)] w fun r w' => r = .returned (.bool true) ∧ Below w.heap.size w w' := by
  have H0 := hid (lookInts_all bk B v0 V0 w h0)
  have H1 := hid (fun W (hW : Below w.heap.size w W) => lookTexts_all bk B v1 V1 W (h1.below hW))
  have H2 := hid (fun W (hW : Below w.heap.size w W) => lookParams_all bk B v2 V2 W (h2.below hW))
  have H3 := hid (fun W (hW : Below w.heap.size w W) => lookFields_all bk B v3 V3 W (h3.below hW))
  clear h0 h1 h2 h3
  go_enter Tryz.func9, Tryz.ntmps9
  go_wp2_with fail
  refine H0.out.mono ?_
  rintro e w1 ⟨rfl, hb1⟩
  go_wp2_with fail
  refine (H1.out _ hb1).mono ?_
  rintro e w2 ⟨rfl, hb2⟩
  have hB2 := bel_of hb1 hb2
  go_wp2_with fail
  refine (H2.out _ hB2).mono ?_
  rintro e w3 ⟨rfl, hb3⟩
  have hB3 := bel_of hB2 hb3
  go_wp2_with fail
  refine (H3.out _ hB3).mono ?_
  rintro e w4 ⟨rfl, hb4⟩
  have hB4 := bel_of hB3 hb4
  clear hb1 hb2 hb3 hb4 hB2 hB3
  go_wp2
  go_ret
  exact ⟨rfl, hB4⟩
end Go.Proofs.YtbiggccolpchcaaGreatDoor.Bn

/- All that a script has made: tables of the program and of the reference side by side, and a book. -/
namespace Go.Proofs.YtbiggccolpchcaaGreatDoor
open Go.RowKit Bn

/- a table and the reference's -/
structure Pr where
  gx : Nat
  v : Value
  es : List Ent
  gr : Nat
  vr : Value
  rs : List Prm
structure PrI (B0 : Nat) (p : Pr) (w : World) : Prop where
  tx : TbAt p.gx 0 p.gx p.es p.v w
  tr : TrAt p.gr p.gr p.rs p.vr w
  eq : p.es.map Ent.bare = p.rs.map refB
  sp : Sp p.rs
  b1 : B0 ≤ p.gx
  b2 : B0 ≤ p.gr
def Pr.fx (p : Pr) (b : Nat) : Prop := b = p.gx ∨ p.v.ownBlock = some b ∨ ∃ e ∈ p.es, e.a = some ⟨b, 0, none⟩
def Pr.fr (p : Pr) (b : Nat) : Prop := b = p.gr ∨ p.vr.ownBlock = some b
theorem owns_stay {w w' : World} {B : Nat} {e : TypeId} {sz : Nat} {v : Value} {n : Nat} {xs : List Value} (h : w.ownsRow B e sz v n xs) (hk : ∀ r, v.ownBlock = some r → w'.heap[r]? = w.heap[r]?) : w'.ownsRow B e sz v n xs := by
  refine ⟨h.1, ?_⟩
  rcases h.2 with h0 | ⟨g, cap, cur, rfl, hB, hg, h4⟩
  · exact .inl h0
  · exact .inr ⟨g, cap, cur, rfl, hB, by rw [hk g rfl]; exact hg, h4⟩
theorem frozen_stay {w w' : World} {b j : Nat} (e : w'.heap[b]? = w.heap[b]?) (h : w.frozen? ⟨b, j, none⟩ = false) : w'.frozen? ⟨b, j, none⟩ = false := by
  unfold World.frozen? at h ⊢
  rw [e]; exact h
theorem TbAt.stay {gt o B : Nat} {es : List Ent} {v : Value} {w w' : World} (h : TbAt gt o B es v w) (hs : w.heap.size ≤ w'.heap.size) (h1 : w'.heap[gt]? = w.heap[gt]?) (h2 : ∀ r, v.ownBlock = some r → w'.heap[r]? = w.heap[r]?) (h3 : ∀ e ∈ es, ∀ g, e.a = some ⟨g, 0, none⟩ → w'.heap[g]? = w.heap[g]?) : TbAt gt o B es v w' :=
  ⟨by rw [World.cell?_of_block (w := w) h1]; exact h.cel, frozen_stay h1 h.fre, owns_stay h.row h2, fun i hi => (h.pat i hi).keep hs (fun g hg j => World.cell?_of_block (w := w) (h3 _ (List.getElem_mem hi) g hg)), h.far, fun i hi g hg => Nat.lt_of_lt_of_le (h.blk i hi g hg) hs, h.own, h.few, h.szs, h.new⟩
theorem TrAt.stay {gt B : Nat} {es : List Prm} {v : Value} {w w' : World} (h : TrAt gt B es v w) (h1 : w'.heap[gt]? = w.heap[gt]?) (h2 : ∀ r, v.ownBlock = some r → w'.heap[r]? = w.heap[r]?) : TrAt gt B es v w' :=
  ⟨by rw [World.cell?_of_block (w := w) h1]; exact h.cel, frozen_stay h1 h.fre, owns_stay h.row h2, h.own, h.few, h.pat⟩
theorem PrI.stay {B0 : Nat} {p : Pr} {w w' : World} (h : PrI B0 p w) (hs : w.heap.size ≤ w'.heap.size) (hk : ∀ b, p.fx b ∨ p.fr b → w'.heap[b]? = w.heap[b]?) : PrI B0 p w' :=
  ⟨h.tx.stay hs (hk _ (.inl (.inl rfl))) (fun r hr => hk r (.inl (.inr (.inl hr)))) (fun e he g hg => hk g (.inl (.inr (.inr ⟨e, he, hg⟩)))), h.tr.stay (hk _ (.inr (.inl rfl))) (fun r hr => hk r (.inr (.inr hr))), h.eq, h.sp, h.b1, h.b2⟩
theorem fx_lt {p : Pr} {w : World} (h : TbAt p.gx 0 p.gx p.es p.v w) {b : Nat} (hb : p.fx b) : b < w.heap.size := by
  rcases hb with rfl | hb | ⟨e, he, hb⟩
  · exact h.lt
  · exact (owns_blkG h.row b hb).2
  · obtain ⟨i, hi, rfl⟩ := List.getElem_of_mem he
    exact h.blk i hi b hb
theorem fr_lt {p : Pr} {w : World} (h : TrAt p.gr p.gr p.rs p.vr w) {b : Nat} (hb : p.fr b) : b < w.heap.size := by
  rcases hb with rfl | hb
  · exact h.lt
  · exact (owns_blkG h.row b hb).2
theorem PrI.fp_lt {B0 : Nat} {p : Pr} {w : World} (h : PrI B0 p w) {b : Nat} (hb : p.fx b ∨ p.fr b) : b < w.heap.size := by
  rcases hb with hb | hb
  · exact fx_lt h.tx hb
  · exact fr_lt h.tr hb
/- the book's four parts -/
def etG : Nat → TypeId
  | 0 => 38
  | 1 => 99
  | 2 => 92
  | _ => 45
def mkG : Nat → Nat → List Value
  | 0 => mkcI
  | 1 => mkcT
  | 2 => mkcP
  | _ => mkcP
def prP (tb : List Pr) : List Value := tb.flatMap fun p => [.pointer (some ⟨p.gx, 0, none⟩), .pointer (some ⟨p.gr, 0, none⟩)]
abbrev wlC (V : Nat → Value) (vs : Value) : Array Value := #[V 0, V 1, V 2, V 3, vs, .slice none 0 0, .slice none 0 0]
/- whose a block is: 0 the world's own, 1 the row of tables, 2 to 5 the book's rows, 6 the lists that were kept, 7 and so on the tables -/
structure WI (O : Nat → Nat) (wb : Nat) (V : Nat → Value) (l : Nat → List Value) (vs : Value) (tb : List Pr) (n : Nat) (w0 w : World) : Prop where
  bel : Below w0.heap.size w0 w
  blk : w.heap[wb]? = some (.cells (wlC V vs) 37 (0, 0))
  wge : w0.heap.size ≤ wb
  oW : O wb = 0
  rw_ : ∀ j, j < 4 → w.ownsRow w0.heap.size (etG j) 1 (V j) (l j).length (l j) ∧ ∀ r, (V j).ownBlock = some r → O r = 2 + j
  lis : ∀ j, j < 4 → ∀ i (h : i < (l j).length), LsI (mkG j (i / 4 * 4)) (l j)[i] w ∧ ∀ r, ((l j)[i]).ownBlock = some r → r < w.heap.size ∧ O r = 6
  few : ∀ j, j < 4 → (l j).length ≤ 4 * n ∧ (l j).length % 4 = 0
  sh : w.ownsRow w0.heap.size 59 2 vs tb.length (prP tb)
  osh : ∀ r, vs.ownBlock = some r → O r = 1
  tab : ∀ i (h : i < tb.length), PrI w0.heap.size tb[i] w ∧ (∀ b, tb[i].fx b → O b = 7 + 2 * i) ∧ ∀ b, tb[i].fr b → O b = 8 + 2 * i
  ft : tb.length ≤ n
section
variable {O : Nat → Nat} {wb : Nat} {V : Nat → Value} {l : Nat → List Value} {vs : Value} {tb : List Pr} {n : Nat} {w0 w w' : World}
theorem WI.lt (h : WI O wb V l vs tb n w0 w) : wb < w.heap.size := heap_lt h.blk
theorem WI.below (h : WI O wb V l vs tb n w0 w) (hb : Below w.heap.size w w') : WI O wb V l vs tb n w0 w' :=
  ⟨bel_of h.bel hb, by rw [hb.block wb h.lt]; exact h.blk, h.wge, h.oW, fun j hj => ⟨owns_below (h.rw_ j hj).1 hb, (h.rw_ j hj).2⟩, fun j hj i hi => by
    obtain ⟨⟨a, n, cap, e1, e2, e3⟩, e4⟩ := h.lis j hj i hi
    exact ⟨⟨a, n, cap, e1, e2, e3.below hb⟩, fun r hr => ⟨Nat.lt_of_lt_of_le (e4 r hr).1 hb.size, (e4 r hr).2⟩⟩, h.few, owns_below h.sh hb, h.osh, fun i hi => ⟨(h.tab i hi).1.stay hb.size (fun b hbb => hb.block b ((h.tab i hi).1.fp_lt hbb)), (h.tab i hi).2⟩, h.ft⟩
theorem WI.more (h : WI O wb V l vs tb n w0 w) {m : Nat} (hm : n ≤ m) : WI O wb V l vs tb m w0 w :=
  ⟨h.bel, h.blk, h.wge, h.oW, h.rw_, h.lis, fun j hj => ⟨Nat.le_trans (h.few j hj).1 (by omega), (h.few j hj).2⟩, h.sh, h.osh, h.tab, Nat.le_trans h.ft hm⟩
theorem WI.cell (h : WI O wb V l vs tb n w0 w) (j : Nat) (hj : j < 4) : w.cell? ⟨wb, j, none⟩ = some (V j) := by
  rw [Lib.cell_of_heap h.blk]
  match j, hj with
  | 0, _ => rfl
  | 1, _ => rfl
  | 2, _ => rfl
  | 3, _ => rfl
theorem WI.book (h : WI O wb V l vs tb n w0 w) (hn : n ≤ 1000000) (j : Nat) (hj : j < 4) : BpI j wb w0.heap.size (etG j) (mkG j) (l j) (V j) w :=
  ⟨h.cell j hj, (h.rw_ j hj).1, by have := (h.few j hj).1; omega, fun i hi => (h.lis j hj i hi).1⟩
theorem wlooks_any (h : WI O wb V l vs tb n w0 w) (hn : n ≤ 1000000) :
    Calls Tryz.prog 9 #[.pointer (some ⟨wb, 0, none⟩)] w fun r w' => r = .returned (.bool true) ∧ WI O wb V l vs tb n w0 w' :=
  (looks_all wb w0.heap.size (l 0) (l 1) (l 2) (l 3) (V 0) (V 1) (V 2) (V 3) w (h.book hn 0 (by omega)) (h.book hn 1 (by omega)) (h.book hn 2 (by omega)) (h.book hn 3 (by omega))).mono (by
    rintro r w' ⟨rfl, hb⟩
    exact ⟨rfl, h.below hb⟩)
end
end Go.Proofs.YtbiggccolpchcaaGreatDoor
