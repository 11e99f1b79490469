/- Texts that follow one another, joined. -/
import Derived.Test.YtpfendckgeoonaaGreatDoorJoin27
/- A site of a configuration: the first loop, over the routes. -/
namespace Go.Proofs.YtpfendckgeoonaaGreatDoor
open Go.RowKit

def cfgV (hd bd : Int) (ar : Option Addr) (n cr : Nat) (aw : Option Addr) (m cw : Nat) : Value := .agg #[.int .i64 hd, .int .i64 bd, .slice ar n cr, .slice aw m cw]
set_option maxRecDepth 100000 in
set_option maxHeartbeats 2000000 in
theorem new_lim (hd bd : Int) (ar : Option Addr) (n cr : Nat) (aw : Option Addr) (m cw : Nat) (w : World) (h : decide (32 ≤ hd ∧ hd ≤ 500 ∧ 0 ≤ bd ∧ bd ≤ 200) = false) :
    Calls Tryz.prog 19 #[.agg #[.int .i64 hd, .int .i64 bd, .slice ar n cr, .slice aw m cw]] w fun x w' => x = .returned (.tuple #[.pointer none, .int .i64 0, .int .i64 1]) ∧ Below w.heap.size w w' := by
  have HL := hid (fun W => rightLimits_any hd bd W)
  rw [h] at HL
  have hA := (Below.refl w.heap.size w).alloc (Nat.le_refl _) (.cells #[.int .i64 hd, .int .i64 bd, .slice ar n cr, .slice aw m cw] 27)
  clear h
  go_enter Tryz.func19, Tryz.ntmps19
  go_wp2_with fail
  refine (HL.out _).mono ?_
  rintro x w1 ⟨rfl, hb⟩
  have hB := bel_of hA hb
  go_wp2
  refine bodyPost_ret (v := .tuple #[.pointer none, .int .i64 0, .int .i64 1]) (by simp [results, Tryz.results19, go_sem]) rfl ?_
  exact ⟨rfl, hB⟩
set_option maxRecDepth 100000 in
set_option maxHeartbeats 2000000 in
theorem new_full (hd bd : Int) (ar : Option Addr) (n cr : Nat) (aw : Option Addr) (m cw : Nat) (w : World) (h : decide (32 ≤ hd ∧ hd ≤ 500 ∧ 0 ≤ bd ∧ bd ≤ 200) = true) (hf : 24 < n ∨ 6 < m) :
    Calls Tryz.prog 19 #[.agg #[.int .i64 hd, .int .i64 bd, .slice ar n cr, .slice aw m cw]] w fun x w' => x = .returned (.tuple #[.pointer none, .int .i64 0, .int .i64 10]) ∧ Below w.heap.size w w' := by
  have HL := hid (fun W => rightLimits_any hd bd W)
  rw [h] at HL
  have hA := (Below.refl w.heap.size w).alloc (Nat.le_refl _) (.cells #[.int .i64 hd, .int .i64 bd, .slice ar n cr, .slice aw m cw] 27)
  have hg : (w.alloc (.cells #[.int .i64 hd, .int .i64 bd, .slice ar n cr, .slice aw m cw] 27)).heap[w.heap.size]? = some _ := heap_alloc_new w _
  clear h
  go_enter Tryz.func19, Tryz.ntmps19
  go_wp2_with fail
  refine (HL.out _).mono ?_
  rintro x w1 ⟨rfl, hb⟩
  have hB := bel_of hA hb
  have c2 : w1.cell? ⟨w.heap.size, 2, none⟩ = some (.slice ar n cr) := cell_later hb (by rw [Lib.cell_of_heap hg]; rfl)
  have c3 : w1.cell? ⟨w.heap.size, 3, none⟩ = some (.slice aw m cw) := cell_later hb (by rw [Lib.cell_of_heap hg]; rfl)
  have l1 := block_lt_of_cell c2
  clear hb hg hA HL
  by_cases h24 : 24 < n
  · have h1 : (24 : Int) < (n : Int) := by omega
    go_wp2
    refine bodyPost_ret (v := .tuple #[.pointer none, .int .i64 0, .int .i64 10]) (by simp [results, Tryz.results19, go_sem]) rfl ?_
    exact ⟨rfl, hB⟩
  · have h1 : ¬ (24 : Int) < (n : Int) := by omega
    have h2 : (6 : Int) < (m : Int) := by omega
    go_wp2
    refine bodyPost_ret (v := .tuple #[.pointer none, .int .i64 0, .int .i64 10]) (by simp [results, Tryz.results19, go_sem]) rfl ?_
    exact ⟨rfl, hB⟩
end Go.Proofs.YtpfendckgeoonaaGreatDoor

/- A site of a configuration: the routes, then the wares. -/
namespace Go.Proofs.YtpfendckgeoonaaGreatDoor
open Go.RowKit

theorem infoWr : (Tryz.prog.info? 72).map (fun i => (i.zero, i.size, i.bytes)) = some (some (.agg #[.int .i64 0, .string ⟨#[]⟩, .string ⟨#[]⟩, .int .i64 0]), 4, 48) := by kernel_rfl
theorem StI.empty (gs : Nat) (w : World) (h : w.heap[gs]? = some (.cells #[.slice none 0 0, .slice none 0 0, .slice none 0 0] 76 (0, 0))) : StI gs gs [] [] [] (.slice none 0 0) (.slice none 0 0) (.slice none 0 0) w :=
  ⟨h, ⟨by rw [Lib.cell_of_heap h]; rfl, Lib.frozen_of_heap h 0, World.ownsRow_nil _ _ _ _, fun i hi => absurd hi (by simp), fun i hi => absurd hi (by simp), fun i hi => absurd hi (by simp), by simp [Value.ownBlock], by simp, fun i hi => absurd hi (by simp)⟩, World.ownsRow_nil _ _ _ _, World.ownsRow_nil _ _ _ _, by simp [Value.ownBlock], fun r hr => by simp [Value.ownBlock] at hr, by simp [Value.ownBlock], fun r hr => by simp [Value.ownBlock] at hr⟩
/- the routes so far -/
def NwI (gs : Nat) (rs : List Rt) (w1 : World) (k : Nat) (wr : World) : Prop :=
  (∃ es v vh, es.map Ent.bare = (rs.take k).map rtBare ∧ StI gs gs es ((rs.take k).map Rt.h) [] v vh (.slice none 0 0) wr) ∧ Below gs w1 wr
/- the wares so far -/
def NwJ (gs : Nat) (rs : List Rt) (ws : List Wr) (w1 : World) (k : Nat) (wr : World) : Prop :=
  (∃ es v vh vw, es.map Ent.bare = rs.map rtBare ∧ StI gs gs es (rs.map Rt.h) (ws.take k) v vh vw wr) ∧ Below gs w1 wr
theorem NwI.step {gs : Nat} {rs : List Rt} {w1 wr wr' : World} {k : Nat} (h : NwI gs rs w1 k wr) (hb : Below wr.heap.size wr wr') (hg : gs ≤ wr.heap.size) : NwI gs rs w1 k wr' := by
  obtain ⟨⟨es, v, vh, h1, h2⟩, h3⟩ := h
  exact ⟨⟨es, v, vh, h1, h2.below hb⟩, h3.trans (hb.mono hg)⟩
theorem NwJ.step {gs : Nat} {rs : List Rt} {ws : List Wr} {w1 wr wr' : World} {k : Nat} (h : NwJ gs rs ws w1 k wr) (hb : Below wr.heap.size wr wr') (hg : gs ≤ wr.heap.size) : NwJ gs rs ws w1 k wr' := by
  obtain ⟨⟨es, v, vh, vw, h1, h2⟩, h3⟩ := h
  exact ⟨⟨es, v, vh, vw, h1, h2.below hb⟩, h3.trans (hb.mono hg)⟩
theorem take_snoc {α β : Type} (f : α → β) (l : List α) (k : Nat) (h : k < l.length) : (l.take (k + 1)).map f = (l.take k).map f ++ [f l[k]] := by
  rw [List.take_succ_eq_append_getElem h, List.map_append]; rfl
/- one route more -/
theorem NwI.next {gs : Nat} {rs : List Rt} {w1 wr wr' : World} {k : Nat} {es : List Ent} {x : Ending} {r : Rt} (h : k < rs.length) (hr : rs[k] = r) (he : es.map Ent.bare = (rs.take k).map rtBare) (hb : Below gs w1 wr) (hp : SaPost gs gs es ((rs.take k).map Rt.h) [] (.slice none 0 0) r wr x wr') (h0 : rtE es r = 0) : NwI gs rs w1 (k + 1) wr' := by
  subst hr
  obtain ⟨-, hb', h3⟩ := hp
  obtain ⟨es', v', vh', k1, k2⟩ := h3 h0
  refine ⟨⟨es', v', vh', ?_, ?_⟩, hb.trans hb'⟩
  · rw [k1, he, take_snoc rtBare rs k h]
  · rw [take_snoc Rt.h rs k h]; exact k2
theorem rtsE_go {rs : List Rt} {k : Nat} {es : List Ent} {r : Rt} {RR : Nat × Int} (h : k < rs.length) (hr : rs[k] = r) (he : es.map Ent.bare = (rs.take k).map rtBare) (hI : rtsE (rs.drop k) ((rs.take k).map rtBare) k = RR) (h0 : rtE es r = 0) : rtsE (rs.drop (k + 1)) ((rs.take (k + 1)).map rtBare) (k + 1) = RR := by
  subst hr
  rw [← List.getElem_cons_drop h, rtsE, ← he, rtE_bare, if_pos h0, he, ← take_snoc rtBare rs k h] at hI
  exact hI
theorem rtsE_stop {rs : List Rt} {k : Nat} {es : List Ent} {r : Rt} {RR : Nat × Int} (h : k < rs.length) (hr : rs[k] = r) (he : es.map Ent.bare = (rs.take k).map rtBare) (hI : rtsE (rs.drop k) ((rs.take k).map rtBare) k = RR) (h0 : rtE es r ≠ 0) : RR = (k, rtE es r) := by
  subst hr
  rw [← List.getElem_cons_drop h, rtsE, ← he, rtE_bare, if_neg h0] at hI
  exact hI.symm
theorem NwI.wares {gs : Nat} {rs : List Rt} {w1 wr : World} {k : Nat} (ws : List Wr) (h : NwI gs rs w1 k wr) (hk : ¬ k < rs.length) : NwJ gs rs ws w1 0 wr := by
  obtain ⟨⟨es, v, vh, h1, h2⟩, h3⟩ := h
  rw [List.take_of_length_le (by omega)] at h1 h2
  exact ⟨⟨es, v, vh, _, h1, by simpa using h2⟩, h3⟩
/- one ware more -/
theorem NwJ.next {gs : Nat} {rs : List Rt} {ws : List Wr} {w1 wr W4 w5 : World} {k gg cap : Nat} {x : Wr} {es : List Ent} {v vh vw : Value} (h : k < ws.length) (hx : ws[k] = x) (he : es.map Ent.bare = rs.map rtBare) (hb : Below gs w1 wr) (S : StI gs gs es (rs.map Rt.h) (ws.take k) v vh vw wr) (hbE : Below wr.heap.size wr W4) (hg : W4.grownBy w5 vw.ownBlock)
    (ho : w5.ownsRow gs 72 4 (.slice (some ⟨gg, 0, none⟩) ((ws.take k).length + 1) cap) ((ws.take k).length + 1) (wrC (ws.take k) ++ x.cells)) (hat : vw.ownBlock = some gg ∨ W4.heap.size ≤ gg) :
    NwJ gs rs ws w1 (k + 1) (w5.setCell ⟨gs, 2, none⟩ (.slice (some ⟨gg, 0, none⟩) ((ws.take k).length + 1) cap)) := by
  have S4 := S.below hbE
  have hl := S.tb.lt
  subst hx
  refine ⟨⟨es, v, vh, .slice (some ⟨gg, 0, none⟩) ((ws.take k).length + 1) cap, he, ?_⟩, (((hb.trans (hbE.mono (by omega))).grown hg (by have := hbE.size; omega) (fun k hk => own_ge S4.wr k hk)).setCell (Nat.le_refl _) _)⟩
  have e : ws.take (k + 1) = ws.take k ++ [ws[k]] := List.take_succ_eq_append_getElem h
  rw [e]
  exact S4.ware hg ho hat
theorem wrsE_go {ws : List Wr} {k : Nat} {x : Wr} {E : Nat × Int} (h : k < ws.length) (hx : ws[k] = x) (hI : wrsE (ws.drop k) k = E) : (wareB x.k x.n.data.toList x.v.data.toList x.lim = true → wrsE (ws.drop (k + 1)) (k + 1) = E) ∧ (wareB x.k x.n.data.toList x.v.data.toList x.lim = false → E = (k, 13)) := by
  subst hx
  rw [← List.getElem_cons_drop h, wrsE] at hI
  refine ⟨fun e => ?_, fun e => ?_⟩
  · rw [if_pos e] at hI; exact hI
  · rw [e, if_neg (by simp)] at hI; exact hI.symm
def NwPost (rs : List Rt) (ws : List Wr) (E : Nat × Int) (w : World) (x : Ending) (w' : World) : Prop :=
  (E.2 ≠ 0 → x = .returned (.tuple #[.pointer none, .int .i64 E.1, .int .i64 E.2])) ∧ (E.2 = 0 → ∃ gs es v vh vw, x = .returned (.tuple #[.pointer (some ⟨gs, 0, none⟩), .int .i64 0, .int .i64 0]) ∧ w.heap.size < gs ∧ es.map Ent.bare = rs.map rtBare ∧ StI gs gs es (rs.map Rt.h) ws v vh vw w') ∧ Below w.heap.size w w'
theorem NwPost.err {rs : List Rt} {ws : List Wr} {E : Nat × Int} {w w' : World} {x : Ending} (h : x = .returned (.tuple #[.pointer none, .int .i64 E.1, .int .i64 E.2])) (h0 : E.2 ≠ 0) (hb : Below w.heap.size w w') : NwPost rs ws E w x w' := ⟨fun _ => h, fun e => absurd e h0, hb⟩
theorem NwPost.ok {rs : List Rt} {ws : List Wr} {E : Nat × Int} {w w1 w' : World} {x : Ending} {gs : Nat} (h : x = .returned (.tuple #[.pointer (some ⟨gs, 0, none⟩), .int .i64 0, .int .i64 0])) (h0 : E.2 = 0) (hg : w.heap.size < gs) (hj : NwJ gs rs ws w1 ws.length w') (hb : Below w.heap.size w w1) : NwPost rs ws E w x w' := by
  obtain ⟨⟨es, v, vh, vw, h1, h2⟩, h3⟩ := hj
  rw [List.take_length] at h2
  exact ⟨fun e => absurd h0 e, fun _ => ⟨gs, es, v, vh, vw, h, hg, h1, h2⟩, hb.trans (h3.mono (by omega))⟩
set_option maxRecDepth 100000 in
set_option maxHeartbeats 8000000 in
theorem new_main (hd bd : Int) (rs : List Rt) (ws : List Wr) (ar : Option Addr) (cr : Nat) (aw : Option Addr) (cw : Nat) (mx : Int) (w : World) (h : decide (32 ≤ hd ∧ hd ≤ 500 ∧ 0 ≤ bd ∧ bd ≤ 200) = true) (hn : rs.length ≤ 24) (hw : ws.length ≤ 6) (hR : MuAt 6 Rt.cells rs ar w) (hW : MuAt 4 Wr.cells ws aw w) (hro : ∀ r ∈ rs, RtOk r) (hwo : ∀ x ∈ ws, x.n.size ≤ 281474976710656 ∧ x.v.size ≤ 281474976710656) (hm : w.cell? ⟨0, 0, none⟩ = some (.int .i64 mx)) :
    Calls Tryz.prog 19 #[.agg #[.int .i64 hd, .int .i64 bd, .slice ar rs.length cr, .slice aw ws.length cw]] w (NwPost rs ws (if (rtsE rs [] 0).2 = 0 then wrsE ws 0 else rtsE rs [] 0) w) := by
  obtain ⟨i0, hi, hz0, hz1, hz2⟩ := info_parts infoWr
  have HL := hid (fun W => rightLimits_any hd bd W)
  rw [h] at HL
  have hA := (Below.refl w.heap.size w).alloc (Nat.le_refl _) (.cells #[.int .i64 hd, .int .i64 bd, .slice ar rs.length cr, .slice aw ws.length cw] 27)
  have hg : (w.alloc (.cells #[.int .i64 hd, .int .i64 bd, .slice ar rs.length cr, .slice aw ws.length cw] 27)).heap[w.heap.size]? = some _ := heap_alloc_new w _
  have h1 : ¬ (24 : Int) < (rs.length : Int) := by omega
  have h2 : ¬ (6 : Int) < (ws.length : Int) := by omega
  have HRw := hid hR
  have HWw := hid hW
  have HRO := hid hro
  have HWO := hid hwo
  generalize hRR : rtsE rs [] 0 = RR
  have HRR := hid hRR
  clear hRR
  generalize hEE : (if RR.2 = 0 then wrsE ws 0 else RR) = EE
  have HEE := hid hEE
  clear h hR hW hro hwo hEE
  go_enter Tryz.func19, Tryz.ntmps19
  go_wp2_with fail
  refine (HL.out _).mono ?_
  rintro x w1 ⟨rfl, hb⟩
  have hB := bel_of hA hb
  have c2 : w1.cell? ⟨w.heap.size, 2, none⟩ = some (.slice ar rs.length cr) := cell_later hb (by rw [Lib.cell_of_heap hg]; rfl)
  have c3 : w1.cell? ⟨w.heap.size, 3, none⟩ = some (.slice aw ws.length cw) := cell_later hb (by rw [Lib.cell_of_heap hg]; rfl)
  have l1 := block_lt_of_cell c2
  clear hb hg hA HL
  have hA2 := (Below.refl w1.heap.size w1).alloc (Nat.le_refl _) (.cells #[.slice none 0 0, .slice none 0 0, .slice none 0 0] 76)
  have S0 := hid (StI.empty w1.heap.size _ (heap_alloc_new w1 (.cells #[.slice none 0 0, .slice none 0 0, .slice none 0 0] 76)))
  have e2 := cell_later hA2 c2
  have e3 := cell_later hA2 c3
  have el : w.heap.size < (w1.alloc (.cells #[.slice none 0 0, .slice none 0 0, .slice none 0 0] 76)).heap.size := by simp; exact Nat.lt_succ_of_lt l1
  have I0 : Hid (NwI w1.heap.size rs w1 0 (w1.alloc (.cells #[.slice none 0 0, .slice none 0 0, .slice none 0 0] 76))) := ⟨⟨[], _, _, rfl, S0.out⟩, hA2⟩
  go_wp2_with fail
  clear e2 e3 el S0 hA2
  go_loopw [30] (fun i wr => ∃ k : Nat, k ≤ rs.length ∧ i = .int .i64 k ∧ Hid (NwI w1.heap.size rs w1 k wr) ∧ Hid (rtsE (rs.drop k) ((rs.take k).map rtBare) k = RR)) (fun i _ => rs.length - (intOf i).toNat)
  case atStart => exact ⟨0, Nat.zero_le _, rfl, I0, HRR⟩
  case round =>
    obtain ⟨k, hk, rfl, HI, HK⟩ := hrel
    obtain ⟨⟨es, v, vh, hes, S⟩, hbw⟩ := HI.out
    have lgs := S.tb.lt
    have hbW : Below w.heap.size w wr := hB.trans (hbw.mono (by omega))
    have c3r : wr.cell? ⟨w.heap.size, 3, none⟩ = some (.slice aw ws.length cw) := by rw [World.cell?_of_block (hbw.block w.heap.size l1)]; exact c3
    have lr : w.heap.size < wr.heap.size := by omega
    by_cases hlt : k < rs.length
    · obtain ⟨g, o, rfl, hg, q0, q1, q2, q3, q4, q5⟩ := rt_cells (HRw.out.below hbW) hlt
      have hro := HRO.out _ (List.getElem_mem hlt)
      generalize hrk : rs[k] = r at *
      have hmr := cell_later hbW hm
      have HSA := hid (fun W (hW : Below wr.heap.size wr W) => siteAdd_any w1.heap.size w1.heap.size es _ [] v vh _ r mx W (S.below hW) hro (cell_later hW hmr) (Nat.le_refl _) (Nat.le_trans (Nat.le_of_lt lgs) hW.size) (by rw [List.length_map, List.length_take]; omega))
      have hAr := (Below.refl wr.heap.size wr).alloc (Nat.le_refl _) r.obj
      have HS := hid S
      have HN := hid (fun W x W' (hW : Below wr.heap.size wr W) (hp : SaPost w1.heap.size w1.heap.size es ((rs.take k).map Rt.h) [] (.slice none 0 0) r W x W') (h0 : rtE es r = 0) => NwI.next hlt hrk hes (hbw.trans (hW.mono (by omega))) hp h0)
      have HG := hid (fun h0 : rtE es r = 0 => rtsE_go hlt hrk hes HK.out h0)
      have HT := hid (fun h0 : rtE es r ≠ 0 => rtsE_stop hlt hrk hes HK.out h0)
      obtain ⟨rm, rp, ⟨rk, rst, rt, rn⟩⟩ := r
      simp only [Rt.agg, Rt.obj] at *
      clear S hes hro hrk HK HI hmr
      go_wp2_with fail
      refine (HSA.out _ hAr).mono ?_
      intro x w2 hpost
      obtain ⟨rfl, hb2, -⟩ := id hpost
      have HP := hid hpost
      clear hpost HSA
      generalize rtE es ⟨rm, rp, ⟨rk, rst, rt, rn⟩⟩ = ee at *
      by_cases h0 : ee = 0
      · subst h0
        have HN' := hid (HN.out _ _ _ hAr HP.out rfl)
        have HG' := hid (HG.out rfl)
        clear HN HG HT HP
        go_wp2
        exact ⟨⟨k + 1, by omega, by go_num, HN', HG'⟩, by simp [intOf]; omega⟩
      · have HT' := HT.out h0
        subst HT'
        have hB2 : Below w.heap.size w w2 := (hbW.trans (hAr.mono (by omega))).trans (hb2.mono (by omega))
        clear HN HG HT HP
        go_wp2
        try rw [Exit.noGoto_ret]
        refine bodyPost_ret (v := .tuple #[.pointer none, .int .i64 k, .int .i64 ee]) (by simp [results, Tryz.results19, go_sem]) rfl ?_
        have hE := HEE.out
        rw [if_neg h0] at hE
        subst hE
        exact NwPost.err rfl h0 hB2
    · have HJ0 := hid (HI.out.wares ws hlt)
      have hke : rs.drop k = [] := List.drop_eq_nil_of_le (by omega)
      rw [hke, rtsE] at HK
      have hR0 : RR.2 = 0 := by rw [← HK.out]
      have HW0 : Hid (wrsE (ws.drop 0) 0 = EE) := by have := HEE.out; rw [if_pos hR0] at this; exact this
      clear HK HRR HEE I0 S hes HI hke HRO HRw
      have hne : ¬ (k : Int) < (rs.length : Int) := by omega
      go_wp2_with fail
      clear c3r
      go_loopw [46] (fun i wr => ∃ k : Nat, k ≤ ws.length ∧ i = .int .i64 k ∧ Hid (NwJ w1.heap.size rs ws w1 k wr) ∧ Hid (wrsE (ws.drop k) k = EE)) (fun i _ => ws.length - (intOf i).toNat)
      case atStart => exact ⟨0, Nat.zero_le _, rfl, HJ0, HW0⟩
      case round =>
        clear HJ0 HW0 hbW lr hbw lgs
        obtain ⟨k, hk, rfl, HI, HK⟩ := hrel
        obtain ⟨⟨es, v, vh, vw, hes, S⟩, hbw⟩ := HI.out
        have lgs := S.tb.lt
        have hbW : Below w.heap.size w wr := hB.trans (hbw.mono (by omega))
        by_cases hlt : k < ws.length
        · obtain ⟨g, o, rfl, hg, q0, q1, q2, q3⟩ := wr_cells (HWw.out.below hbW) hlt
          obtain ⟨hx1, hx2⟩ := HWO.out _ (List.getElem_mem hlt)
          generalize hrk : ws[k] = r at *
          obtain ⟨HG1, HG2⟩ := wrsE_go hlt hrk HK.out
          have HRW := hid (fun W => rightWare_any r.k r.lim r.n r.v W (by unfold maxLen; omega))
          have HCW := hid (fun W => cloneWare_any r.k r.lim r.n r.v W hx1 hx2)
          obtain ⟨aq, cq, rfl⟩ := sl_of S.wr
          have hAr := (Below.refl wr.heap.size wr).alloc (Nat.le_refl _) (.cells #[.int .i64 r.k, .string r.n, .string r.v, .int .i64 r.lim] 72)
          have hgr := heap_alloc_new wr (.cells #[.int .i64 r.k, .string r.n, .string r.v, .int .i64 r.lim] 72)
          have HNX := hid (fun W4 w5 gg cap => NwJ.next (W4 := W4) (w5 := w5) (gg := gg) (cap := cap) hlt hrk hes hbw S)
          have hxc : r.cells = [.int .i64 r.k, .string r.n, .string r.v, .int .i64 r.lim] := rfl
          rw [hxc] at HNX
          have htl : (ws.take k).length ≤ 6 := by rw [List.length_take]; omega
          generalize ws.take k = WT at *
          generalize hBW : wareB r.k r.n.data.toList r.v.data.toList r.lim = bw at *
          obtain ⟨xk, xn, xv, xl⟩ := r
          simp only at *
          have HS := hid S
          have HG1' := hid HG1
          have HG2' := hid HG2
          clear S hes hrk HK HI hx1 hx2 hxc HG1 HG2 hBW
          go_wp2_with fail
          refine (HRW.out _).mono ?_
          rintro x w2 ⟨rfl, hb2⟩
          have hB2 := bel_of hAr hb2
          have d0 : w2.cell? ⟨wr.heap.size, 0, none⟩ = some (.int .i64 xk) := cell_later hb2 (by rw [Lib.cell_of_heap hgr]; rfl)
          have d1 : w2.cell? ⟨wr.heap.size, 1, none⟩ = some (.string xn) := cell_later hb2 (by rw [Lib.cell_of_heap hgr]; rfl)
          have d2 : w2.cell? ⟨wr.heap.size, 2, none⟩ = some (.string xv) := cell_later hb2 (by rw [Lib.cell_of_heap hgr]; rfl)
          have d3 : w2.cell? ⟨wr.heap.size, 3, none⟩ = some (.int .i64 xl) := cell_later hb2 (by rw [Lib.cell_of_heap hgr]; rfl)
          have dl := block_lt_of_cell d0
          have hBb : Below w.heap.size w w2 := bel_of hbW hB2
          clear hb2 hgr hAr HRW q0 q1 q2 q3
          cases bw
          · have hE := HG2'.out rfl
            subst hE
            clear HG1' HG2' HNX HS HCW
            go_wp2
            try rw [Exit.noGoto_ret]
            refine bodyPost_ret (v := .tuple #[.pointer none, .int .i64 k, .int .i64 13]) (by simp [results, Tryz.results19, go_sem]) rfl ?_
            exact NwPost.err rfl (by simp) hBb
          · have HG := hid (HG1'.out rfl)
            have S2 := hid (HS.out.below hB2)
            have cel3 : w2.cell? ⟨w1.heap.size, 2, none⟩ = some (.slice aq WT.length cq) := by rw [Lib.cell_of_heap S2.out.blk]; rfl
            have fre3 : w2.frozen? ⟨w1.heap.size, 2, none⟩ = false := Lib.frozen_of_heap S2.out.blk 2
            have lt3 : w1.heap.size < w2.heap.size := S2.out.tb.lt
            have ow3 := S2.out.wr
            have hnown := S2.out.w1
            clear HG1' HG2' HS
            go_wp2_with fail
            go_region_law
              (first
                | (refine step_append_lies _ (by rfl) _ _ _ (by rfl) w1.heap.size 72 i0 _ 4 48 Tryz.underlying25 hi hz0 hz1 hz2 rfl (by omega) (.slice aq WT.length cq) WT.length (wrC WT) (by rfl) ((owns_below ow3.drew hb4).alloc _) ⟨w4.heap.size, 0, none⟩ 1 1 [.int .i64 xk, .string xn, .string xv, .int .i64 xl] (by rfl) (by rfl) (World.news_of_block (cs := #[.int .i64 xk, .string xn, .string xv, .int .i64 xl]) (t := 72) (fr := (0, 0)) (heap_alloc_new w4 _)) (by simp [Value.oneCell']) (by omega) (by unfold maxLen; omega) (by omega) (Nat.le_trans (Nat.le_trans (Nat.le_of_lt lt3) hb4.size) (by simp)) (w4.heap.size + 1) (by simp) ?_; intro gg cap w5 hown5 hgrow hat hlt5; have c5 := cell_grown hgrow (cell_old k4) hnown; have f5 : w5.frozen? ⟨w1.heap.size, 2, none⟩ = false := frozen_add hgrow hb4 fre3 lt3 hnown; have l5 : w1.heap.size < w5.heap.size := Nat.lt_of_lt_of_le (Nat.lt_of_lt_of_le lt3 hb4.size) (Nat.le_trans (by simp) hgrow.size))
                | (go_simp; go_at_call 29; refine (HCW.out _).mono ?_; rintro e w4 ⟨rfl, hb4⟩; have k4 := cell_later hb4 (show w2.drew.cell? ⟨w1.heap.size, 2, none⟩ = _ from cel3); have l4 : w1.heap.size < w4.heap.size := Nat.lt_of_lt_of_le lt3 hb4.size))
            all_goals
              have hE := bel_of (bel_of hB2 (Below.refl w2.heap.size w2).drew) hb4
              have hE2 : Below wr.heap.size wr (w4.alloc (.cells #[.int .i64 xk, .string xn, .string xv, .int .i64 xl] 72)) := hE.alloc hE.size _
              have hAD := hid (HNX.out _ _ _ _ hE2 hgrow hown5 (hat.imp_right (fun h => by rw [h]; simp)))
              clear hE hE2 hgrow hown5 hat hlt5 HNX
              go_wp2
              exact ⟨⟨k + 1, by omega, by go_num, hAD, HG⟩, by simp [intOf]; omega⟩
        · have hke : ws.drop k = [] := List.drop_eq_nil_of_le (by omega)
          rw [hke, wrsE] at HK
          have hkk : k = ws.length := by omega
          have hE0 : EE.2 = 0 := by rw [← HK.out]
          have HF : Hid (NwJ w1.heap.size rs ws w1 ws.length wr) := by rw [← hkk]; exact HI.out
          clear HK HI S hes hke HWO HWw
          have hne : ¬ (k : Int) < (ws.length : Int) := by omega
          go_wp2
          try rw [Exit.noGoto_ret]
          refine bodyPost_ret (v := .tuple #[.pointer (some ⟨w1.heap.size, 0, none⟩), .int .i64 0, .int .i64 0]) (by simp [results, Tryz.results19, go_sem]) rfl ?_
          exact NwPost.ok rfl hE0 l1 HF.out hB
end Go.Proofs.YtpfendckgeoonaaGreatDoor
