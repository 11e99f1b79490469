/- Texts that follow one another, joined. -/
import Derived.Test.YtbiggccolpchcaaGreatDoorJoin17
/- Adding a route that the table takes in: the handler is not right, or the site has one route more. -/
namespace Go.Proofs.YtbiggccolpchcaaGreatDoor
open Go.RowKit

theorem infoHn : (Tryz.prog.info? 73).map (fun i => (i.zero, i.size, i.bytes)) = some (some (.agg #[.int .i64 0, .int .i64 0, .string ⟨#[]⟩, .string ⟨#[]⟩]), 4, 48) := by kernel_rfl
theorem sl_of {w : World} {B : Nat} {e : TypeId} {sz : Nat} {v : Value} {n : Nat} {xs : List Value} (h : w.ownsRow B e sz v n xs) : ∃ a c, v = .slice a n c := by
  rcases h.2 with ⟨h2, h3⟩ | ⟨g, cap, cur, hv, _⟩
  · exact ⟨none, 0, by rw [h3]; exact h2⟩
  · exact ⟨_, _, hv⟩
theorem RtB.kept {g gt : Nat} {r : Rt} {v : Value} {w w' : World} (h : RtB g r w) (hk : Kept gt v w w') (h1 : g ≠ gt) (h2 : v.ownBlock ≠ some g) : RtB g r w' := by
  have := hk g h.lt h1 h2; unfold RtB at *; rw [this]; exact h
/- what adding leaves behind -/
def SAdd (gs B : Nat) (es : List Ent) (hs : List Hn) (ws : List Wr) (vw : Value) (r : Rt) (p : List (Int × ByteArray)) (w w' : World) : Prop :=
  (∃ a c v' vh', StI gs B (es ++ [⟨r.m, p, a, c⟩]) (hs ++ [r.h]) ws v' vh' vw w') ∧ Below B w w'
def SAdds (hb : Bool) (gs B : Nat) (es : List Ent) (hs : List Hn) (ws : List Wr) (vw : Value) (r : Rt) (p : List (Int × ByteArray)) (w : World) (x : Ending) (w' : World) : Prop :=
  (hb = false → x = .returned (.int .i64 12) ∧ Below B w w') ∧ (hb = true → x = .returned (.int .i64 0) ∧ SAdd gs B es hs ws vw r p w w')
theorem SAdds.no {gs B : Nat} {es : List Ent} {hs : List Hn} {ws : List Wr} {vw : Value} {r : Rt} {p : List (Int × ByteArray)} {w w' : World} {x : Ending} (h1 : x = .returned (.int .i64 12)) (h : Below B w w') : SAdds false gs B es hs ws vw r p w x w' := ⟨fun _ => ⟨h1, h⟩, fun e => by cases e⟩
theorem SAdds.yes {gs B : Nat} {es : List Ent} {hs : List Hn} {ws : List Wr} {vw : Value} {r : Rt} {p : List (Int × ByteArray)} {w w' : World} {x : Ending} (h1 : x = .returned (.int .i64 0)) (h : SAdd gs B es hs ws vw r p w w') : SAdds true gs B es hs ws vw r p w x w' := ⟨fun e => Bool.noConfusion e, fun _ => ⟨h1, h⟩⟩
/- the end: the handler's row has grown -/
theorem sadd_end {gs B : Nat} {es : List Ent} {hs : List Hn} {ws : List Wr} {v' vw : Value} {r : Rt} {p : List (Int × ByteArray)} {w w3 W4 w5 : World} {ah ea : Option Addr} {ch ec gg cap : Nat}
    (S3 : StI gs B (es ++ [⟨r.m, p, ea, ec⟩]) hs ws v' (.slice ah hs.length ch) vw w3) (hb : Below B w w3) (hbE : Below w3.heap.size w3 W4) (hg : W4.grownBy w5 (Value.slice ah hs.length ch).ownBlock)
    (ho : w5.ownsRow B 73 4 (.slice (some ⟨gg, 0, none⟩) (hs.length + 1) cap) (hs.length + 1) (hnC hs ++ r.h.cells)) (hat : (Value.slice ah hs.length ch).ownBlock = some gg ∨ W4.heap.size ≤ gg) (hB : B ≤ gs) (hBw : B ≤ w3.heap.size) :
    SAdd gs B es hs ws vw r p w (w5.setCell ⟨gs, 1, none⟩ (.slice (some ⟨gg, 0, none⟩) (hs.length + 1) cap)) := by
  have S4 := S3.below hbE
  exact ⟨⟨ea, ec, v', _, S4.hand hg ho hat⟩, (((hb.trans (hbE.mono hBw)).grown hg (Nat.le_trans hBw hbE.size) (fun k hk => own_ge S4.hr k hk)).setCell hB _)⟩
set_option maxRecDepth 100000 in
set_option maxHeartbeats 4000000 in
theorem siteAdd_in (gs B : Nat) (es : List Ent) (hs : List Hn) (ws : List Wr) (v vh vw : Value) (r : Rt) (mx : Int) (w : World) (hS : StI gs B es hs ws v vh vw w) (hr : RtOk r) (hm : w.cell? ⟨0, 0, none⟩ = some (.int .i64 mx)) (hB : B ≤ gs) (hBw : B ≤ w.heap.size) (hl : hs.length ≤ 1000) (p : List (Int × ByteArray)) (hp : patternOf r.p.data.toList = some p) (hme : Pm.isMethod r.m.data.toList = true) (hf : es.length < 24) (hno : hitG r.m.data.toList p es 0 = none) :
    Calls Tryz.prog 198 #[.pointer (some ⟨gs, 0, none⟩), r.agg] w (SAdds (hndB r.h.k r.h.st r.h.t.data.toList) gs B es hs ws vw r p w) := by
  obtain ⟨i0, hi, hz0, hz1, hz2⟩ := info_parts infoHn
  have lt0 := hS.tb.lt
  obtain ⟨ah, ch, rfl⟩ := sl_of hS.hr
  have HA := hid (fun W (hW : Below w.heap.size w W) => tAdd_yes gs 0 B es v r.m r.p p mx W (hS.tb.below hW) hme (meth_small hme) hp (patternOf_length hp) (by have := pat_small hp; omega) (cell_later hW hm) hB (Nat.le_trans hBw hW.size) hf hno)
  have HR := hid (fun W => rightHandler_any r.h.k r.h.st r.h.t r.h.n W (by have := hr.t; unfold maxLen; omega))
  have HC := hid (fun W => cloneHandler_any r.h.k r.h.st r.h.t r.h.n W hr.t hr.n)
  have hA := (Below.refl w.heap.size w).alloc (Nat.le_refl _) r.obj
  have h1 : RtB w.heap.size r (w.alloc r.obj) := heap_alloc_new w _
  have ltA : gs < (w.alloc r.obj).heap.size := by simp; omega
  have HS := hid hS
  have hvl := own_ltw hS.tb.row
  have HRC : Hid (r.h.cells = [.int .i64 r.h.k, .int .i64 r.h.st, .string r.h.t, .string r.h.n]) := rfl
  obtain ⟨rm, rp, ⟨hk, hst, ht, hn⟩⟩ := r
  simp only [Rt.agg, Rt.obj] at *
  generalize hHB : hndB hk hst ht.data.toList = hb at *
  clear hS hm hr hHB
  go_enter Tryz.func198, Tryz.ntmps198
  go_upto_region 1 with fail
  generalize w.alloc (.cells #[.string rm, .string rp, .int .i64 hk, .int .i64 hst, .string ht, .string hn] 75) = w1 at *
  obtain ⟨c0, c1, c2, c3, c4, c5⟩ := h1.cells
  have l1 := h1.lt
  simp only at c0 c1 c2 c3 c4 c5
  have hA1 := hA.drew
  have R1 : Hid (RtB w.heap.size ⟨rm, rp, ⟨hk, hst, ht, hn⟩⟩ w1.drew) := h1
  clear h1
  go_region_held3 (fun W => W.cell? ⟨w.heap.size, 0, none⟩ = some (.string rm) ∧ W.cell? ⟨w.heap.size, 1, none⟩ = some (.string rp)) (go_keep)
    (first | (go_at_call 102; refine (HA.out _ hA1).mono ?_; rintro x w2 ⟨rfl, had0⟩; have had := hid had0; clear had0; have R2 := hid (R1.out.kept had.out.kp (by omega) (fun e => by have := hvl _ e; omega)); obtain ⟨d0, d1, d2, d3, d4, d5⟩ := R2.out.cells; have l2 := R2.out.lt; simp only at d0 d1 d2 d3 d4 d5))
  all_goals
    obtain ⟨ea, ec, v', S2⟩ := (HS.out.below hA1).added had.out
    have hb2 := had.out.bl
    have l2s : gs < w2.heap.size := S2.tb.lt
    clear c0 c1 c2 c3 c4 c5 l1 HA had R1
    go_wp2_with fail
    refine (HR.out _).mono ?_
    rintro x w3 ⟨rfl, hb3⟩
    have R3 := hid (R2.out.below hb3)
    have S3 := hid (S2.below hb3)
    have hBb : Below B w w3 := ((hA1.mono hBw).trans hb2).trans (hb3.mono (Nat.le_trans (Nat.le_trans hBw hA1.size) hb2.size))
    cases hb
    · clear HC S3 S2 R2 R3 HS
      go_wp2_with fail
      go_ret
      exact SAdds.no rfl hBb
    · clear S2 R2 HS d0 d1 d2 d3 d4 d5
      obtain ⟨d0, d1, d2, d3, d4, d5⟩ := R3.out.cells
      simp only at d0 d1 d2 d3 d4 d5
      have l3 := R3.out.lt
      have cel3 : w3.cell? ⟨gs, 1, none⟩ = some (.slice ah hs.length ch) := by rw [Lib.cell_of_heap S3.out.blk]; rfl
      have fre3 : w3.frozen? ⟨gs, 1, none⟩ = false := Lib.frozen_of_heap S3.out.blk 1
      have lt3 : gs < w3.heap.size := S3.out.tb.lt
      have ow3 := S3.out.hr
      have hnown := S3.out.h1
      have hBr : B ≤ w3.heap.size := Nat.le_trans hBw hBb.size
      clear hb3 R3 l2 l2s
      go_wp2_with fail
      go_region_law
        (first
          | (refine step_append_lies _ (by rfl) _ _ _ (by rfl) B 73 i0 _ 4 48 Tryz.underlying285 hi hz0 hz1 hz2 rfl (by omega) (.slice ah hs.length ch) hs.length (hnC hs) (by rfl) ((owns_below ow3.drew hb4).alloc _) ⟨w4.heap.size, 0, none⟩ 1 1 [.int .i64 hk, .int .i64 hst, .string ht, .string hn] (by rfl) (by rfl) (World.news_of_block (cs := #[.int .i64 hk, .int .i64 hst, .string ht, .string hn]) (t := 73) (fr := (0, 0)) (heap_alloc_new w4 _)) (by simp [Value.oneCell']) (by omega) (by unfold maxLen; omega) (by omega) (Nat.le_trans (Nat.le_trans hBr hb4.size) (by simp)) (w4.heap.size + 1) (by simp) ?_; intro gg cap w5 hown5 hgrow hat hlt5; have c5 := cell_grown hgrow (cell_old k4) hnown; have f5 : w5.frozen? ⟨gs, 1, none⟩ = false := frozen_add hgrow hb4 fre3 lt3 hnown; have l5 : gs < w5.heap.size := Nat.lt_of_lt_of_le (Nat.lt_of_lt_of_le lt3 hb4.size) (Nat.le_trans (by simp) hgrow.size))
          | (go_simp; go_at_call 250; refine (HC.out _).mono ?_; rintro e w4 ⟨rfl, hb4⟩; have k4 := cell_later hb4 (show w3.drew.cell? ⟨gs, 1, none⟩ = _ from cel3); have l4 : gs < w4.heap.size := Nat.lt_of_lt_of_le lt3 hb4.size))
      all_goals
        have hE : Below w3.heap.size w3 (w4.alloc (.cells #[.int .i64 hk, .int .i64 hst, .string ht, .string hn] 73)) := (bel_of (Below.refl w3.heap.size w3).drew hb4).alloc (bel_of (Below.refl w3.heap.size w3).drew hb4).size _
        have hAD : Hid (SAdd gs B es hs ws vw ⟨rm, rp, ⟨hk, hst, ht, hn⟩⟩ p w _) := sadd_end S3.out hBb hE hgrow hown5 (hat.imp_right (fun h => by rw [h]; simp)) hB hBr
        clear hE hgrow hown5 hat hlt5
        go_wp2
        go_ret
        exact SAdds.yes rfl hAD.out
end Go.Proofs.YtbiggccolpchcaaGreatDoor

/- What adding a route tells, in one; what a configuration's error is. -/
namespace Go.Proofs.YtbiggccolpchcaaGreatDoor
open Go.RowKit

def Ent.bare (e : Ent) : Ent := ⟨e.m, e.ps, none, 0⟩
def rtBare (r : Rt) : Ent := ⟨r.m, (patternOf r.p.data.toList).getD [], none, 0⟩
theorem hitG_bare (m : List UInt8) (p : List (Int × ByteArray)) : ∀ (es : List Ent) (k : Nat), hitG m p (es.map Ent.bare) k = hitG m p es k
  | [], _ => rfl
  | e :: r, k => by
    rw [List.map_cons, hitG, hitG, hitG_bare m p r (k + 1)]; rfl
theorem rtE_bare (es : List Ent) (r : Rt) : rtE (es.map Ent.bare) r = rtE es r := by
  unfold rtE; simp only [hitG_bare, List.length_map]
/- the first route that is not right, and its error -/
def rtsE : List Rt → List Ent → Nat → Nat × Int
  | [], _, _ => (0, 0)
  | r :: rs, es, k => if rtE es r = 0 then rtsE rs (es ++ [rtBare r]) (k + 1) else (k, rtE es r)
def wrsE : List Wr → Nat → Nat × Int
  | [], _ => (0, 0)
  | x :: xs, k => if wareB x.k x.n.data.toList x.v.data.toList x.lim = true then wrsE xs (k + 1) else (k, 13)
def cfgE (hd bd : Int) (rs : List Rt) (ws : List Wr) : Nat × Int :=
  if decide (32 ≤ hd ∧ hd ≤ 500 ∧ 0 ≤ bd ∧ bd ≤ 200) = false then (0, 1) else if 24 < rs.length ∨ 6 < ws.length then (0, 10) else if (rtsE rs [] 0).2 = 0 then wrsE ws 0 else rtsE rs [] 0
def SaPost (gs B : Nat) (es : List Ent) (hs : List Hn) (ws : List Wr) (vw : Value) (r : Rt) (w : World) (x : Ending) (w' : World) : Prop :=
  x = .returned (.int .i64 (rtE es r)) ∧ Below B w w' ∧ (rtE es r = 0 → ∃ es' v' vh', es'.map Ent.bare = es.map Ent.bare ++ [rtBare r] ∧ StI gs B es' (hs ++ [r.h]) ws v' vh' vw w')
theorem siteAdd_any (gs B : Nat) (es : List Ent) (hs : List Hn) (ws : List Wr) (v vh vw : Value) (r : Rt) (mx : Int) (w : World) (hS : StI gs B es hs ws v vh vw w) (hr : RtOk r) (hm : w.cell? ⟨0, 0, none⟩ = some (.int .i64 mx)) (hB : B ≤ gs) (hBw : B ≤ w.heap.size) (hl : hs.length ≤ 1000) :
    Calls Tryz.prog 198 #[.pointer (some ⟨gs, 0, none⟩), r.agg] w (SaPost gs B es hs ws vw r w) := by
  by_cases h : rtE es r = 0 ∨ rtE es r = 12
  · obtain ⟨h1, p, h2, h3, h4, h5⟩ := rtE_in h
    refine (siteAdd_in gs B es hs ws v vh vw r mx w hS hr hm hB hBw hl p h2 h1 h3 h4).mono ?_
    rintro x w' ⟨k1, k2⟩
    cases hh : hndB r.h.k r.h.st r.h.t.data.toList
    · have h12 : rtE es r = 12 := h.resolve_left (fun e => by have := h5.1 e; rw [hh] at this; cases this)
      obtain ⟨rfl, k⟩ := k1 hh
      exact ⟨by rw [h12], k, fun e => by omega⟩
    · obtain ⟨rfl, ⟨a, c, v', vh', k⟩, k'⟩ := k2 hh
      have h0 := h5.2 hh
      refine ⟨by rw [h0], k', fun _ => ⟨_, v', vh', ?_, k⟩⟩
      rw [List.map_append]
      simp [Ent.bare, rtBare, h2]
  · have h0 : rtE es r ≠ 0 := fun e => h (.inl e)
    refine (siteAdd_err gs B es v r mx w hS.tb hr hm _ rfl h0 (fun e => h (.inr e))).mono ?_
    rintro x w' ⟨rfl, k⟩
    exact ⟨rfl, k.mono hBw, fun e => absurd e h0⟩
theorem MuAt.get {α : Type} {sz : Nat} {f : α → List Value} {l : List α} {a : Option Addr} {w : World} (h : MuAt sz f l a w) {i : Nat} (hi : i < l.length) : ∃ g o, a = some ⟨g, o, none⟩ ∧ g < w.heap.size ∧ ∀ j (v : Value), (f l[i])[j]? = some v → w.cell? ⟨g, o + i * sz + j, none⟩ = some v := h i hi
theorem rt_cells {rs : List Rt} {a : Option Addr} {w : World} (h : MuAt 6 Rt.cells rs a w) {i : Nat} (hi : i < rs.length) : ∃ g o, a = some ⟨g, o, none⟩ ∧ g < w.heap.size ∧ w.cell? ⟨g, o + i * 6, none⟩ = some (.string rs[i].m) ∧ w.cell? ⟨g, o + i * 6 + 1, none⟩ = some (.string rs[i].p) ∧ w.cell? ⟨g, o + i * 6 + 2, none⟩ = some (.int .i64 rs[i].h.k) ∧ w.cell? ⟨g, o + i * 6 + 3, none⟩ = some (.int .i64 rs[i].h.st) ∧ w.cell? ⟨g, o + i * 6 + 4, none⟩ = some (.string rs[i].h.t) ∧ w.cell? ⟨g, o + i * 6 + 5, none⟩ = some (.string rs[i].h.n) := by
  obtain ⟨g, o, h1, h2, h3⟩ := h i hi
  exact ⟨g, o, h1, h2, h3 0 _ rfl, h3 1 _ rfl, h3 2 _ rfl, h3 3 _ rfl, h3 4 _ rfl, h3 5 _ rfl⟩
theorem wr_cells {ws : List Wr} {a : Option Addr} {w : World} (h : MuAt 4 Wr.cells ws a w) {i : Nat} (hi : i < ws.length) : ∃ g o, a = some ⟨g, o, none⟩ ∧ g < w.heap.size ∧ w.cell? ⟨g, o + i * 4, none⟩ = some (.int .i64 ws[i].k) ∧ w.cell? ⟨g, o + i * 4 + 1, none⟩ = some (.string ws[i].n) ∧ w.cell? ⟨g, o + i * 4 + 2, none⟩ = some (.string ws[i].v) ∧ w.cell? ⟨g, o + i * 4 + 3, none⟩ = some (.int .i64 ws[i].lim) := by
  obtain ⟨g, o, h1, h2, h3⟩ := h i hi
  exact ⟨g, o, h1, h2, h3 0 _ rfl, h3 1 _ rfl, h3 2 _ rfl, h3 3 _ rfl⟩
end Go.Proofs.YtbiggccolpchcaaGreatDoor

/- A site of a configuration: the first loop, over the routes. -/
namespace Go.Proofs.YtbiggccolpchcaaGreatDoor
open Go.RowKit

def cfgV (hd bd : Int) (ar : Option Addr) (n cr : Nat) (aw : Option Addr) (m cw : Nat) : Value := .agg #[.int .i64 hd, .int .i64 bd, .slice ar n cr, .slice aw m cw]
set_option maxRecDepth 100000 in
set_option maxHeartbeats 2000000 in
theorem new_lim (hd bd : Int) (ar : Option Addr) (n cr : Nat) (aw : Option Addr) (m cw : Nat) (w : World) (h : decide (32 ≤ hd ∧ hd ≤ 500 ∧ 0 ≤ bd ∧ bd ≤ 200) = false) :
    Calls Tryz.prog 144 #[.agg #[.int .i64 hd, .int .i64 bd, .slice ar n cr, .slice aw m cw]] w fun x w' => x = .returned (.tuple #[.pointer none, .int .i64 0, .int .i64 1]) ∧ Below w.heap.size w w' := by
  have HL := hid (fun W => rightLimits_any hd bd W)
  rw [h] at HL
  have hA := (Below.refl w.heap.size w).alloc (Nat.le_refl _) (.cells #[.int .i64 hd, .int .i64 bd, .slice ar n cr, .slice aw m cw] 44)
  clear h
  go_enter Tryz.func144, Tryz.ntmps144
  go_wp2_with fail
  refine (HL.out _).mono ?_
  rintro x w1 ⟨rfl, hb⟩
  have hB := bel_of hA hb
  go_wp2
  refine bodyPost_ret (v := .tuple #[.pointer none, .int .i64 0, .int .i64 1]) (by simp [results, Tryz.results144, go_sem]) rfl ?_
  exact ⟨rfl, hB⟩
set_option maxRecDepth 100000 in
set_option maxHeartbeats 2000000 in
theorem new_full (hd bd : Int) (ar : Option Addr) (n cr : Nat) (aw : Option Addr) (m cw : Nat) (w : World) (h : decide (32 ≤ hd ∧ hd ≤ 500 ∧ 0 ≤ bd ∧ bd ≤ 200) = true) (hf : 24 < n ∨ 6 < m) :
    Calls Tryz.prog 144 #[.agg #[.int .i64 hd, .int .i64 bd, .slice ar n cr, .slice aw m cw]] w fun x w' => x = .returned (.tuple #[.pointer none, .int .i64 0, .int .i64 10]) ∧ Below w.heap.size w w' := by
  have HL := hid (fun W => rightLimits_any hd bd W)
  rw [h] at HL
  have hA := (Below.refl w.heap.size w).alloc (Nat.le_refl _) (.cells #[.int .i64 hd, .int .i64 bd, .slice ar n cr, .slice aw m cw] 44)
  have hg : (w.alloc (.cells #[.int .i64 hd, .int .i64 bd, .slice ar n cr, .slice aw m cw] 44)).heap[w.heap.size]? = some _ := heap_alloc_new w _
  clear h
  go_enter Tryz.func144, Tryz.ntmps144
  go_wp2_with fail
  refine (HL.out _).mono ?_
  rintro x w1 ⟨rfl, hb⟩
  have hB := bel_of hA hb
  have c2 : w1.cell? ⟨w.heap.size, 2, none⟩ = some (.slice ar n cr) := cell_later hb (by rw [Lib.cell_of_heap hg]; rfl)
  have c3 : w1.cell? ⟨w.heap.size, 3, none⟩ = some (.slice aw m cw) := cell_later hb (by rw [Lib.cell_of_heap hg]; rfl)
  have l1 := block_lt_of_cell c2
  clear hb hg hA HL
  by_cases h24 : 24 < n
  · have h1 : (24 : Int) < (n : Int) := by omega
    go_wp2
    refine bodyPost_ret (v := .tuple #[.pointer none, .int .i64 0, .int .i64 10]) (by simp [results, Tryz.results144, go_sem]) rfl ?_
    exact ⟨rfl, hB⟩
  · have h1 : ¬ (24 : Int) < (n : Int) := by omega
    have h2 : (6 : Int) < (m : Int) := by omega
    go_wp2
    refine bodyPost_ret (v := .tuple #[.pointer none, .int .i64 0, .int .i64 10]) (by simp [results, Tryz.results144, go_sem]) rfl ?_
    exact ⟨rfl, hB⟩
end Go.Proofs.YtbiggccolpchcaaGreatDoor
