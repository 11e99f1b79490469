/- Texts that follow one another, joined. -/
import Derived.Test.YtpfendckgeoonaaGreatDoorJoin35
/- The statement's own 'laid': a table of the routes of a configuration that is right. -/
namespace Go.Proofs.YtpfendckgeoonaaGreatDoor
open Go.RowKit

set_option maxHeartbeats 400000 in
theorem ptAdd_yes (gt B : Nat) (es : List Ent) (v : Value) (m s : ByteArray) (p : List (Int × ByteArray)) (mx : Int) (w : World) (hT : TbAt gt 0 B es v w) (hmm : Pm.isMethod m.data.toList = true) (hms : m.size ≤ 1000) (hp : patternOf s.data.toList = some p) (hpl : p.length ≤ 1000000) (hs : s.size ≤ 1000) (hm : w.cell? ⟨0, 0, none⟩ = some (.int .i64 mx)) (hB : B ≤ gt) (hBw : B ≤ w.heap.size) (hf : es.length < 24) (hno : hitG m.data.toList p es 0 = none) :
    Calls Tryz.prog 18 #[.pointer (some ⟨gt, 0, none⟩), .string m, .string s] w fun r w' => r = .returned (.tuple #[.int .i64 (es.length : Nat), .int .i64 0]) ∧ Added gt 0 B es v m p w w' := by
  have HF := hid (tAdd_yes gt 0 B es v m s p mx w hT hmm hms hp hpl hs hm hB hBw hf hno)
  have lt0 := hT.lt
  clear hT hm
  go_enter Tryz.func18, Tryz.ntmps18
  go_wp2_with fail
  refine HF.out.mono ?_
  rintro e w1 ⟨rfl, hb1⟩
  have HB := hid hb1
  clear HF hb1
  go_wp2
  go_ret2
  exact ⟨rfl, HB.out⟩
set_option maxHeartbeats 400000 in
theorem newTable_all (w : World) : Calls Tryz.prog 17 #[] w fun r w' => r = .returned (.pointer (some ⟨w.heap.size, 0, none⟩)) ∧ TbAt w.heap.size 0 w.heap.size [] (.slice none 0 0) w' ∧ Below w.heap.size w w' ∧ w'.heap.size = w.heap.size + 1 := by
  have hb := heap_alloc_new w (.cells #[.slice none 0 0] 69)
  have HT : Hid (TbAt w.heap.size 0 w.heap.size [] (.slice none 0 0) (w.alloc (.cells #[.slice none 0 0] 69)) ∧ Below w.heap.size w (w.alloc (.cells #[.slice none 0 0] 69)) ∧ (w.alloc (.cells #[.slice none 0 0] 69)).heap.size = w.heap.size + 1) :=
    ⟨⟨by rw [Lib.cell_of_heap hb]; rfl, Lib.frozen_of_heap hb 0, World.ownsRow_nil _ _ _ _, fun i h => absurd h (by simp), fun i h => absurd h (by simp), fun i h => absurd h (by simp), (fun h => by cases h), by simp, fun i h => absurd h (by simp)⟩, (Below.refl _ _).alloc (Nat.le_refl _) _, by simp⟩
  clear hb
  go_enter Tryz.func17, Tryz.ntmps17
  go_wp2
  go_ret
  exact ⟨rfl, HT.out.1, HT.out.2.1, HT.out.2.2⟩


/- the table so far -/
def LdI (gt : Nat) (rs : List Rt) (w1 : World) (k : Nat) (wr : World) : Prop :=
  (∃ es v, es.map Ent.bare = (rs.take k).map rtBare ∧ TbAt gt 0 gt es v wr) ∧ Below gt w1 wr ∧ gt < wr.heap.size
theorem LdI.next {gt : Nat} {rs : List Rt} {w1 wr W w' : World} {k : Nat} {es : List Ent} {v : Value} {r : Rt} {p : List (Int × ByteArray)} (h : k < rs.length) (hr : rs[k] = r) (he : es.map Ent.bare = (rs.take k).map rtBare) (hb : Below gt w1 wr) (hg : gt < wr.heap.size) (hW : Below wr.heap.size wr W) (hp : patternOf r.p.data.toList = some p) (ha : Added gt 0 gt es v r.m p W w') : LdI gt rs w1 (k + 1) w' := by
  obtain ⟨⟨a, c, v', ht, -, -⟩, hbl, -, -⟩ := ha
  subst hr
  refine ⟨⟨_, v', ?_, ht⟩, (hb.trans (hW.mono (by omega))).trans hbl, ht.lt⟩
  rw [List.map_append, he, take_snoc rtBare rs k h]
  simp [Ent.bare, rtBare, hp]
theorem rtE_of_ok {rs : List Rt} {k : Nat} {es : List Ent} {r : Rt} (h : k < rs.length) (hr : rs[k] = r) (he : es.map Ent.bare = (rs.take k).map rtBare) (hI : (rtsE (rs.drop k) ((rs.take k).map rtBare) k).2 = 0) : rtE es r = 0 ∧ (rtsE (rs.drop (k + 1)) ((rs.take (k + 1)).map rtBare) (k + 1)).2 = 0 := by
  by_cases h0 : rtE es r = 0
  · exact ⟨h0, by rw [rtsE_go h hr he rfl h0]; exact hI⟩
  · have := rtsE_stop h hr he rfl h0
    rw [this] at hI; exact absurd hI h0
def LaPost (rs : List Rt) (w : World) (x : Ending) (w' : World) : Prop := (∃ gt es v, x = .returned (.pointer (some ⟨gt, 0, none⟩)) ∧ es.map Ent.bare = rs.map rtBare ∧ TbAt gt 0 gt es v w') ∧ Below w.heap.size w w'
set_option maxRecDepth 100000 in
set_option maxHeartbeats 2000000 in
theorem laid_any (hd bd : Int) (rs : List Rt) (ar : Option Addr) (cr : Nat) (vw : Option Addr) (nw cw : Nat) (mx : Int) (w : World) (hn : rs.length ≤ 24) (hR : MuAt 6 Rt.cells rs ar w) (hm : w.cell? ⟨0, 0, none⟩ = some (.int .i64 mx)) (hE : (rtsE rs [] 0).2 = 0) :
    Calls Tryz.prog 6 #[.agg #[.int .i64 hd, .int .i64 bd, .slice ar rs.length cr, .slice vw nw cw]] w (LaPost rs w) := by
  have HNT := hid (fun W => newTable_all W)
  have hA := (Below.refl w.heap.size w).alloc (Nat.le_refl _) (.cells #[.int .i64 hd, .int .i64 bd, .slice ar rs.length cr, .slice vw nw cw] 27)
  have hg : (w.alloc (.cells #[.int .i64 hd, .int .i64 bd, .slice ar rs.length cr, .slice vw nw cw] 27)).heap[w.heap.size]? = some _ := heap_alloc_new w _
  have HRw := hid hR
  have HE : Hid ((rtsE (rs.drop 0) ((rs.take 0).map rtBare) 0).2 = 0) := hE
  clear hR hE
  go_enter Tryz.func6, Tryz.ntmps6
  go_wp2_with fail
  generalize w.alloc (.cells #[.int .i64 hd, .int .i64 bd, .slice ar rs.length cr, .slice vw nw cw] 27) = w1 at *
  refine (HNT.out _).mono ?_
  rintro x w2 ⟨rfl, hT0, hb2, hz2⟩
  have c2 : w1.cell? ⟨w.heap.size, 2, none⟩ = some (.slice ar rs.length cr) := by rw [Lib.cell_of_heap hg]; rfl
  have l1 := block_lt_of_cell c2
  have I0 : Hid (LdI w1.heap.size rs w1 0 w2) := ⟨⟨[], _, rfl, hT0⟩, hb2, hT0.lt⟩
  clear hT0 HNT hg
  go_wp2_with fail
  go_loopw [4] (fun i wr => ∃ k : Nat, k ≤ rs.length ∧ i = .int .i64 k ∧ Hid (LdI w1.heap.size rs w1 k wr) ∧ Hid ((rtsE (rs.drop k) ((rs.take k).map rtBare) k).2 = 0)) (fun i _ => rs.length - (intOf i).toNat)
  case atStart => exact ⟨0, Nat.zero_le _, rfl, I0, HE⟩
  case round =>
    obtain ⟨k, hk, rfl, HI, HK⟩ := hrel
    obtain ⟨⟨es, v, hes, T⟩, hbw, lgs⟩ := HI.out
    have hbW : Below w.heap.size w wr := hA.trans (hbw.mono (Nat.le_of_lt l1))
    have c2r : wr.cell? ⟨w.heap.size, 2, none⟩ = some (.slice ar rs.length cr) := by rw [World.cell?_of_block (hbw.block w.heap.size l1)]; exact c2
    have lr : w.heap.size < wr.heap.size := Nat.lt_trans l1 lgs
    by_cases hlt : k < rs.length
    · obtain ⟨g, o, rfl, hg0, p0, p1, -⟩ := rt_cells HRw.out hlt
      have q0 := cell_later hbW p0
      have q1 := cell_later hbW p1
      have hg : g < wr.heap.size := Nat.lt_trans hg0 lr
      have P0 := hid p0
      have P1 := hid p1
      clear p0 p1
      have hlen : es.length = k := by have := congrArg List.length hes; simp at this; omega
      generalize hrk : rs[k] = r at *
      obtain ⟨h0, hK2⟩ := rtE_of_ok hlt hrk hes HK.out
      obtain ⟨m1, p, m2, m3, m4, -⟩ := rtE_in (.inl h0)
      have hmr := cell_later hbW hm
      have HAD := hid (fun W (hW : Below wr.heap.size wr W) => ptAdd_yes w1.heap.size w1.heap.size es v r.m r.p p mx W (T.below hW) m1 (meth_small m1) m2 (patternOf_length m2) (by have := pat_small m2; omega) (cell_later hW hmr) (Nat.le_refl _) (Nat.le_trans (Nat.le_of_lt lgs) hW.size) m3 m4)
      have HNX := hid (fun W w' (hW : Below wr.heap.size wr W) (ha : Added w1.heap.size 0 w1.heap.size es v r.m p W w') => LdI.next hlt hrk hes hbw lgs hW m2 ha)
      have HK2 := hid hK2
      rw [hlen] at HAD
      obtain ⟨rm, rp, rh⟩ := r
      simp only at *
      clear T hes HI HK hrk hK2 m1 m2 m3 m4 h0 hmr hlen
      go_upto_region 5 with fail
      go_region_held3 (fun W => W.cell? ⟨w.heap.size, 2, none⟩ = some (.slice (some ⟨g, o, none⟩) rs.length cr) ∧ W.cell? ⟨g, o + k * 6, none⟩ = some (.string rm) ∧ W.cell? ⟨g, o + k * 6 + 1, none⟩ = some (.string rp)) (go_keep)
        (first | (go_at_call 18; refine (HAD.out _ (Below.refl wr.heap.size wr).drew).mono ?_; rintro x w3 ⟨rfl, had⟩; have HN3 := hid (HNX.out _ _ (Below.refl wr.heap.size wr).drew had); have hB3 := hA.trans (HN3.out.2.1.mono (Nat.le_of_lt l1)); have r0 := cell_later hB3 P0.out; have r1 := cell_later hB3 P1.out; have r2 : w3.cell? ⟨w.heap.size, 2, none⟩ = some (.slice (some ⟨g, o, none⟩) rs.length cr) := (World.cell?_of_block (HN3.out.2.1.block w.heap.size l1)).trans c2; clear had))
      all_goals (try go_wp2_with fail)
      all_goals exact ⟨⟨k + 1, by omega, by go_num, HN3, HK2⟩, by simp [intOf]; omega⟩
    · have hne : ¬ (k : Int) < (rs.length : Int) := by omega
      have hkk : rs.take k = rs := List.take_of_length_le (by omega)
      rw [hkk] at hes
      have HF : Hid ((∃ es v, es.map Ent.bare = rs.map rtBare ∧ TbAt w1.heap.size 0 w1.heap.size es v wr) ∧ Below w.heap.size w wr) := ⟨⟨es, v, hes, T⟩, hbW⟩
      clear T hes HI HK hkk
      go_wp2_with fail
      go_ret
      obtain ⟨⟨es, v, h1, h2⟩, h3⟩ := HF.out
      exact ⟨⟨_, es, v, rfl, h1, h2⟩, h3⟩
end Go.Proofs.YtpfendckgeoonaaGreatDoor

/- The statement's own 'leads'. -/
namespace Go.Proofs.YtpfendckgeoonaaGreatDoor
open Go.RowKit

def hiyou : List UInt8 := [47, 104, 105, 47, 121, 111, 117]
theorem leads_plain : pdG 200 50 smallR [] gtL hiyou = ⟨200, 0, [(⟨#[110, 97, 109, 101]⟩, ⟨#[121, 111, 117]⟩)], [], [], 0⟩ := by kernel_rfl
theorem small_ok : ∀ r ∈ smallR, RtOk r := by
  intro r hr
  simp only [smallR, List.mem_cons, List.not_mem_nil, or_false] at hr
  rcases hr with rfl | rfl | rfl <;> exact ⟨by decide, by decide, by decide, by decide⟩
theorem one_prm {w : World} {B : Nat} {vv : Value} {a b : ByteArray} (h : w.ownsRow B 54 2 vv 1 (prCells [(a, b)])) : ∃ g cap, vv = .slice (some ⟨g, 0, none⟩) 1 cap ∧ g < w.heap.size ∧ B ≤ g ∧ w.cell? ⟨g, 0, none⟩ = some (.string a) ∧ w.cell? ⟨g, 1, none⟩ = some (.string b) := by
  rcases h.2 with ⟨-, h3⟩ | ⟨g, cap, cur, hv, hB, hg, hc, hm, hs, ht⟩
  · omega
  · have e : ∀ j (v : Value), (prCells [(a, b)])[j]? = some v → w.cell? ⟨g, j, none⟩ = some v := fun j v hj => by
      rw [← ht, List.getElem?_take] at hj
      rw [Lib.cell_of_heap hg]
      split at hj
      · simpa using hj
      · cases hj
    exact ⟨g, cap, hv, (Array.getElem?_eq_some_iff.1 hg).1, hB, e 0 _ rfl, e 1 _ rfl⟩
set_option maxRecDepth 100000 in
set_option maxHeartbeats 2000000 in
theorem leads_any (mx : Int) (w : World) (hm : w.cell? ⟨0, 0, none⟩ = some (.int .i64 mx)) :
    Calls Tryz.prog 4 #[] w fun x w' => x = .returned (.bool true) ∧ Below w.heap.size w w' := by
  have HSM := hid (small_any w)
  have HPD := hid (fun g W (hb : Below w.heap.size w W) (hR : MuAt 6 Rt.cells smallR (some ⟨g, 0, none⟩) W) => pDispatch_any 200 50 smallR [] (some ⟨g, 0, none⟩) 3 none 0 ⟨#[71, 69, 84]⟩ ⟨#[47, 104, 105, 47, 121, 111, 117]⟩ mx W hR (fun i hi => absurd hi (by simp)) small_ok (fun x hx => absurd hx (by simp)) (cell_later hb hm) (by decide) (by decide))
  have hR : pdG 200 50 smallR [] (⟨#[71, 69, 84]⟩ : ByteArray).data.toList (⟨#[47, 104, 105, 47, 121, 111, 117]⟩ : ByteArray).data.toList = ⟨200, 0, [(⟨#[110, 97, 109, 101]⟩, ⟨#[121, 111, 117]⟩)], [], [], 0⟩ := leads_plain
  rw [hR] at HPD
  have hl3 : smallR.length = 3 := rfl
  have hl0 : ([] : List Wr).length = 0 := rfl
  rw [hl3, hl0] at HPD
  clear hR hl3 hl0 hm
  go_enter Tryz.func4, Tryz.ntmps4
  go_wp2_with fail
  refine HSM.out.mono ?_
  rintro x w1 ⟨⟨g, hg, rfl, hmu⟩, hb1⟩
  have HP1 := hid (HPD.out g w1 hb1 hmu)
  clear hmu HPD
  go_wp2_with fail
  refine HP1.out.mono ?_
  rintro x w2 ⟨⟨vv, ua, ul, rfl, -, -, ow⟩, hb2⟩
  obtain ⟨gp, cap, rfl, hgp, -, k0, k1⟩ := one_prm ow
  have hB2 := bel_of hb1 hb2
  have hA := (Below.refl w2.heap.size w2).alloc (Nat.le_refl _) (.cells #[.int .i64 200, .int .i64 0, .slice (some ⟨gp, 0, none⟩) 1 cap, .string ua, .string ul] 34)
  have k0' := cell_later hA k0
  have k1' := cell_later hA k1
  have hB3 := bel_of hB2 hA
  clear ow HP1
  go_wp2_with fail
  go_ret
  exact ⟨rfl, hB3⟩
end Go.Proofs.YtpfendckgeoonaaGreatDoor
