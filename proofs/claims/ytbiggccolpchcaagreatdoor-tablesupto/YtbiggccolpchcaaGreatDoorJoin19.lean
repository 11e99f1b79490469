/- Texts that follow one another, joined. -/
import Derived.Test.YtbiggccolpchcaaGreatDoorJoin18
import Derived.Test.YtbiggccolpchcaaGreatDoorJoin14
import Derived.Sort.OwnSorted
import Derived.Shelf.Slices.In.SortNone
/- A site of a configuration: the routes, then the wares. -/
namespace Go.Proofs.YtbiggccolpchcaaGreatDoor
open Go.RowKit

theorem infoWr : (Tryz.prog.info? 241).map (fun i => (i.zero, i.size, i.bytes)) = some (some (.agg #[.int .i64 0, .string ⟨#[]⟩, .string ⟨#[]⟩, .int .i64 0]), 4, 48) := by kernel_rfl
theorem StI.empty (gs : Nat) (w : World) (h : w.heap[gs]? = some (.cells #[.slice none 0 0, .slice none 0 0, .slice none 0 0] 287 (0, 0))) : StI gs gs [] [] [] (.slice none 0 0) (.slice none 0 0) (.slice none 0 0) w :=
  ⟨h, ⟨by rw [Lib.cell_of_heap h]; rfl, Lib.frozen_of_heap h 0, World.ownsRow_nil _ _ _ _, fun i hi => absurd hi (by simp), fun i hi => absurd hi (by simp), fun i hi => absurd hi (by simp), by simp [Value.ownBlock], by simp, fun i hi => absurd hi (by simp), fun i hi => absurd hi (by simp)⟩, World.ownsRow_nil _ _ _ _, World.ownsRow_nil _ _ _ _, by simp [Value.ownBlock], fun r hr => by simp [Value.ownBlock] at hr, by simp [Value.ownBlock], fun r hr => by simp [Value.ownBlock] at hr⟩
/- the routes so far -/
def NwI (gs : Nat) (rs : List Rt) (w1 : World) (k : Nat) (wr : World) : Prop :=
  (∃ es v vh, es.map Ent.bare = (rs.take k).map rtBare ∧ StI gs gs es ((rs.take k).map Rt.h) [] v vh (.slice none 0 0) wr) ∧ Below gs w1 wr
/- the wares so far -/
def NwJ (gs : Nat) (rs : List Rt) (ws : List Wr) (w1 : World) (k : Nat) (wr : World) : Prop :=
  (∃ es v vh vw, es.map Ent.bare = rs.map rtBare ∧ StI gs gs es (rs.map Rt.h) (ws.take k) v vh vw wr) ∧ Below gs w1 wr
theorem NwI.step {gs : Nat} {rs : List Rt} {w1 wr wr' : World} {k : Nat} (h : NwI gs rs w1 k wr) (hb : Below wr.heap.size wr wr') (hg : gs ≤ wr.heap.size) : NwI gs rs w1 k wr' := by
  obtain ⟨⟨es, v, vh, h1, h2⟩, h3⟩ := h
  exact ⟨⟨es, v, vh, h1, h2.below hb⟩, h3.trans (hb.mono hg)⟩
theorem NwJ.step {gs : Nat} {rs : List Rt} {ws : List Wr} {w1 wr wr' : World} {k : Nat} (h : NwJ gs rs ws w1 k wr) (hb : Below wr.heap.size wr wr') (hg : gs ≤ wr.heap.size) : NwJ gs rs ws w1 k wr' := by
  obtain ⟨⟨es, v, vh, vw, h1, h2⟩, h3⟩ := h
  exact ⟨⟨es, v, vh, vw, h1, h2.below hb⟩, h3.trans (hb.mono hg)⟩
theorem take_snoc {α β : Type} (f : α → β) (l : List α) (k : Nat) (h : k < l.length) : (l.take (k + 1)).map f = (l.take k).map f ++ [f l[k]] := by
  rw [List.take_succ_eq_append_getElem h, List.map_append]; rfl
/- one route more -/
theorem NwI.next {gs : Nat} {rs : List Rt} {w1 wr wr' : World} {k : Nat} {es : List Ent} {x : Ending} {r : Rt} (h : k < rs.length) (hr : rs[k] = r) (he : es.map Ent.bare = (rs.take k).map rtBare) (hb : Below gs w1 wr) (hp : SaPost gs gs es ((rs.take k).map Rt.h) [] (.slice none 0 0) r wr x wr') (h0 : rtE es r = 0) : NwI gs rs w1 (k + 1) wr' := by
  subst hr
  obtain ⟨-, hb', h3⟩ := hp
  obtain ⟨es', v', vh', k1, k2⟩ := h3 h0
  refine ⟨⟨es', v', vh', ?_, ?_⟩, hb.trans hb'⟩
  · rw [k1, he, take_snoc rtBare rs k h]
  · rw [take_snoc Rt.h rs k h]; exact k2
theorem rtsE_go {rs : List Rt} {k : Nat} {es : List Ent} {r : Rt} {RR : Nat × Int} (h : k < rs.length) (hr : rs[k] = r) (he : es.map Ent.bare = (rs.take k).map rtBare) (hI : rtsE (rs.drop k) ((rs.take k).map rtBare) k = RR) (h0 : rtE es r = 0) : rtsE (rs.drop (k + 1)) ((rs.take (k + 1)).map rtBare) (k + 1) = RR := by
  subst hr
  rw [← List.getElem_cons_drop h, rtsE, ← he, rtE_bare, if_pos h0, he, ← take_snoc rtBare rs k h] at hI
  exact hI
theorem rtsE_stop {rs : List Rt} {k : Nat} {es : List Ent} {r : Rt} {RR : Nat × Int} (h : k < rs.length) (hr : rs[k] = r) (he : es.map Ent.bare = (rs.take k).map rtBare) (hI : rtsE (rs.drop k) ((rs.take k).map rtBare) k = RR) (h0 : rtE es r ≠ 0) : RR = (k, rtE es r) := by
  subst hr
  rw [← List.getElem_cons_drop h, rtsE, ← he, rtE_bare, if_neg h0] at hI
  exact hI.symm
theorem NwI.wares {gs : Nat} {rs : List Rt} {w1 wr : World} {k : Nat} (ws : List Wr) (h : NwI gs rs w1 k wr) (hk : ¬ k < rs.length) : NwJ gs rs ws w1 0 wr := by
  obtain ⟨⟨es, v, vh, h1, h2⟩, h3⟩ := h
  rw [List.take_of_length_le (by omega)] at h1 h2
  exact ⟨⟨es, v, vh, _, h1, by simpa using h2⟩, h3⟩
/- one ware more -/
theorem NwJ.next {gs : Nat} {rs : List Rt} {ws : List Wr} {w1 wr W4 w5 : World} {k gg cap : Nat} {x : Wr} {es : List Ent} {v vh vw : Value} (h : k < ws.length) (hx : ws[k] = x) (he : es.map Ent.bare = rs.map rtBare) (hb : Below gs w1 wr) (S : StI gs gs es (rs.map Rt.h) (ws.take k) v vh vw wr) (hbE : Below wr.heap.size wr W4) (hg : W4.grownBy w5 vw.ownBlock)
    (ho : w5.ownsRow gs 241 4 (.slice (some ⟨gg, 0, none⟩) ((ws.take k).length + 1) cap) ((ws.take k).length + 1) (wrC (ws.take k) ++ x.cells)) (hat : vw.ownBlock = some gg ∨ W4.heap.size ≤ gg) :
    NwJ gs rs ws w1 (k + 1) (w5.setCell ⟨gs, 2, none⟩ (.slice (some ⟨gg, 0, none⟩) ((ws.take k).length + 1) cap)) := by
  have S4 := S.below hbE
  have hl := S.tb.lt
  subst hx
  refine ⟨⟨es, v, vh, .slice (some ⟨gg, 0, none⟩) ((ws.take k).length + 1) cap, he, ?_⟩, (((hb.trans (hbE.mono (by omega))).grown hg (by have := hbE.size; omega) (fun k hk => own_ge S4.wr k hk)).setCell (Nat.le_refl _) _)⟩
  have e : ws.take (k + 1) = ws.take k ++ [ws[k]] := List.take_succ_eq_append_getElem h
  rw [e]
  exact S4.ware hg ho hat
theorem wrsE_go {ws : List Wr} {k : Nat} {x : Wr} {E : Nat × Int} (h : k < ws.length) (hx : ws[k] = x) (hI : wrsE (ws.drop k) k = E) : (wareB x.k x.n.data.toList x.v.data.toList x.lim = true → wrsE (ws.drop (k + 1)) (k + 1) = E) ∧ (wareB x.k x.n.data.toList x.v.data.toList x.lim = false → E = (k, 13)) := by
  subst hx
  rw [← List.getElem_cons_drop h, wrsE] at hI
  refine ⟨fun e => ?_, fun e => ?_⟩
  · rw [if_pos e] at hI; exact hI
  · rw [e, if_neg (by simp)] at hI; exact hI.symm
def NwPost (rs : List Rt) (ws : List Wr) (E : Nat × Int) (w : World) (x : Ending) (w' : World) : Prop :=
  (E.2 ≠ 0 → x = .returned (.tuple #[.pointer none, .int .i64 E.1, .int .i64 E.2])) ∧ (E.2 = 0 → ∃ gs es v vh vw, x = .returned (.tuple #[.pointer (some ⟨gs, 0, none⟩), .int .i64 0, .int .i64 0]) ∧ w.heap.size < gs ∧ es.map Ent.bare = rs.map rtBare ∧ StI gs gs es (rs.map Rt.h) ws v vh vw w') ∧ Below w.heap.size w w'
theorem NwPost.err {rs : List Rt} {ws : List Wr} {E : Nat × Int} {w w' : World} {x : Ending} (h : x = .returned (.tuple #[.pointer none, .int .i64 E.1, .int .i64 E.2])) (h0 : E.2 ≠ 0) (hb : Below w.heap.size w w') : NwPost rs ws E w x w' := ⟨fun _ => h, fun e => absurd e h0, hb⟩
theorem NwPost.ok {rs : List Rt} {ws : List Wr} {E : Nat × Int} {w w1 w' : World} {x : Ending} {gs : Nat} (h : x = .returned (.tuple #[.pointer (some ⟨gs, 0, none⟩), .int .i64 0, .int .i64 0])) (h0 : E.2 = 0) (hg : w.heap.size < gs) (hj : NwJ gs rs ws w1 ws.length w') (hb : Below w.heap.size w w1) : NwPost rs ws E w x w' := by
  obtain ⟨⟨es, v, vh, vw, h1, h2⟩, h3⟩ := hj
  rw [List.take_length] at h2
  exact ⟨fun e => absurd h0 e, fun _ => ⟨gs, es, v, vh, vw, h, hg, h1, h2⟩, hb.trans (h3.mono (by omega))⟩
set_option maxRecDepth 100000 in
set_option maxHeartbeats 8000000 in
theorem new_main (hd bd : Int) (rs : List Rt) (ws : List Wr) (ar : Option Addr) (cr : Nat) (aw : Option Addr) (cw : Nat) (mx : Int) (w : World) (h : decide (32 ≤ hd ∧ hd ≤ 500 ∧ 0 ≤ bd ∧ bd ≤ 200) = true) (hn : rs.length ≤ 24) (hw : ws.length ≤ 6) (hR : MuAt 6 Rt.cells rs ar w) (hW : MuAt 4 Wr.cells ws aw w) (hro : ∀ r ∈ rs, RtOk r) (hwo : ∀ x ∈ ws, x.n.size ≤ 281474976710656 ∧ x.v.size ≤ 281474976710656) (hm : w.cell? ⟨0, 0, none⟩ = some (.int .i64 mx)) :
    Calls Tryz.prog 144 #[.agg #[.int .i64 hd, .int .i64 bd, .slice ar rs.length cr, .slice aw ws.length cw]] w (NwPost rs ws (if (rtsE rs [] 0).2 = 0 then wrsE ws 0 else rtsE rs [] 0) w) := by
  obtain ⟨i0, hi, hz0, hz1, hz2⟩ := info_parts infoWr
  have HL := hid (fun W => rightLimits_any hd bd W)
  rw [h] at HL
  have hA := (Below.refl w.heap.size w).alloc (Nat.le_refl _) (.cells #[.int .i64 hd, .int .i64 bd, .slice ar rs.length cr, .slice aw ws.length cw] 44)
  have hg : (w.alloc (.cells #[.int .i64 hd, .int .i64 bd, .slice ar rs.length cr, .slice aw ws.length cw] 44)).heap[w.heap.size]? = some _ := heap_alloc_new w _
  have h1 : ¬ (24 : Int) < (rs.length : Int) := by omega
  have h2 : ¬ (6 : Int) < (ws.length : Int) := by omega
  have HRw := hid hR
  have HWw := hid hW
  have HRO := hid hro
  have HWO := hid hwo
  generalize hRR : rtsE rs [] 0 = RR
  have HRR := hid hRR
  clear hRR
  generalize hEE : (if RR.2 = 0 then wrsE ws 0 else RR) = EE
  have HEE := hid hEE
  clear h hR hW hro hwo hEE
  go_enter Tryz.func144, Tryz.ntmps144
  go_wp2_with fail
  refine (HL.out _).mono ?_
  rintro x w1 ⟨rfl, hb⟩
  have hB := bel_of hA hb
  have c2 : w1.cell? ⟨w.heap.size, 2, none⟩ = some (.slice ar rs.length cr) := cell_later hb (by rw [Lib.cell_of_heap hg]; rfl)
  have c3 : w1.cell? ⟨w.heap.size, 3, none⟩ = some (.slice aw ws.length cw) := cell_later hb (by rw [Lib.cell_of_heap hg]; rfl)
  have l1 := block_lt_of_cell c2
  clear hb hg hA HL
  have hA2 := (Below.refl w1.heap.size w1).alloc (Nat.le_refl _) (.cells #[.slice none 0 0, .slice none 0 0, .slice none 0 0] 287)
  have S0 := hid (StI.empty w1.heap.size _ (heap_alloc_new w1 (.cells #[.slice none 0 0, .slice none 0 0, .slice none 0 0] 287)))
  have e2 := cell_later hA2 c2
  have e3 := cell_later hA2 c3
  have el : w.heap.size < (w1.alloc (.cells #[.slice none 0 0, .slice none 0 0, .slice none 0 0] 287)).heap.size := by simp; exact Nat.lt_succ_of_lt l1
  have I0 : Hid (NwI w1.heap.size rs w1 0 (w1.alloc (.cells #[.slice none 0 0, .slice none 0 0, .slice none 0 0] 287))) := ⟨⟨[], _, _, rfl, S0.out⟩, hA2⟩
  go_wp2_with fail
  clear e2 e3 el S0 hA2
  go_loopw [30] (fun i wr => ∃ k : Nat, k ≤ rs.length ∧ i = .int .i64 k ∧ Hid (NwI w1.heap.size rs w1 k wr) ∧ Hid (rtsE (rs.drop k) ((rs.take k).map rtBare) k = RR)) (fun i _ => rs.length - (intOf i).toNat)
  case atStart => exact ⟨0, Nat.zero_le _, rfl, I0, HRR⟩
  case round =>
    obtain ⟨k, hk, rfl, HI, HK⟩ := hrel
    obtain ⟨⟨es, v, vh, hes, S⟩, hbw⟩ := HI.out
    have lgs := S.tb.lt
    have hbW : Below w.heap.size w wr := hB.trans (hbw.mono (by omega))
    have c3r : wr.cell? ⟨w.heap.size, 3, none⟩ = some (.slice aw ws.length cw) := by rw [World.cell?_of_block (hbw.block w.heap.size l1)]; exact c3
    have lr : w.heap.size < wr.heap.size := by omega
    by_cases hlt : k < rs.length
    · obtain ⟨g, o, rfl, hg, q0, q1, q2, q3, q4, q5⟩ := rt_cells (HRw.out.below hbW) hlt
      have hro := HRO.out _ (List.getElem_mem hlt)
      generalize hrk : rs[k] = r at *
      have hmr := cell_later hbW hm
      have HSA := hid (fun W (hW : Below wr.heap.size wr W) => siteAdd_any w1.heap.size w1.heap.size es _ [] v vh _ r mx W (S.below hW) hro (cell_later hW hmr) (Nat.le_refl _) (Nat.le_trans (Nat.le_of_lt lgs) hW.size) (by rw [List.length_map, List.length_take]; omega))
      have hAr := (Below.refl wr.heap.size wr).alloc (Nat.le_refl _) r.obj
      have HS := hid S
      have HN := hid (fun W x W' (hW : Below wr.heap.size wr W) (hp : SaPost w1.heap.size w1.heap.size es ((rs.take k).map Rt.h) [] (.slice none 0 0) r W x W') (h0 : rtE es r = 0) => NwI.next hlt hrk hes (hbw.trans (hW.mono (by omega))) hp h0)
      have HG := hid (fun h0 : rtE es r = 0 => rtsE_go hlt hrk hes HK.out h0)
      have HT := hid (fun h0 : rtE es r ≠ 0 => rtsE_stop hlt hrk hes HK.out h0)
      obtain ⟨rm, rp, ⟨rk, rst, rt, rn⟩⟩ := r
      simp only [Rt.agg, Rt.obj] at *
      clear S hes hro hrk HK HI hmr
      go_wp2_with fail
      refine (HSA.out _ hAr).mono ?_
      intro x w2 hpost
      obtain ⟨rfl, hb2, -⟩ := id hpost
      have HP := hid hpost
      clear hpost HSA
      generalize rtE es ⟨rm, rp, ⟨rk, rst, rt, rn⟩⟩ = ee at *
      by_cases h0 : ee = 0
      · subst h0
        have HN' := hid (HN.out _ _ _ hAr HP.out rfl)
        have HG' := hid (HG.out rfl)
        clear HN HG HT HP
        go_wp2
        exact ⟨⟨k + 1, by omega, by go_num, HN', HG'⟩, by simp [intOf]; omega⟩
      · have HT' := HT.out h0
        subst HT'
        have hB2 : Below w.heap.size w w2 := (hbW.trans (hAr.mono (by omega))).trans (hb2.mono (by omega))
        clear HN HG HT HP
        go_wp2
        try rw [Exit.noGoto_ret]
        refine bodyPost_ret (v := .tuple #[.pointer none, .int .i64 k, .int .i64 ee]) (by simp [results, Tryz.results144, go_sem]) rfl ?_
        have hE := HEE.out
        rw [if_neg h0] at hE
        subst hE
        exact NwPost.err rfl h0 hB2
    · have HJ0 := hid (HI.out.wares ws hlt)
      have hke : rs.drop k = [] := List.drop_eq_nil_of_le (by omega)
      rw [hke, rtsE] at HK
      have hR0 : RR.2 = 0 := by rw [← HK.out]
      have HW0 : Hid (wrsE (ws.drop 0) 0 = EE) := by have := HEE.out; rw [if_pos hR0] at this; exact this
      clear HK HRR HEE I0 S hes HI hke HRO HRw
      have hne : ¬ (k : Int) < (rs.length : Int) := by omega
      go_wp2_with fail
      clear c3r
      go_loopw [46] (fun i wr => ∃ k : Nat, k ≤ ws.length ∧ i = .int .i64 k ∧ Hid (NwJ w1.heap.size rs ws w1 k wr) ∧ Hid (wrsE (ws.drop k) k = EE)) (fun i _ => ws.length - (intOf i).toNat)
      case atStart => exact ⟨0, Nat.zero_le _, rfl, HJ0, HW0⟩
      case round =>
        clear HJ0 HW0 hbW lr hbw lgs
        obtain ⟨k, hk, rfl, HI, HK⟩ := hrel
        obtain ⟨⟨es, v, vh, vw, hes, S⟩, hbw⟩ := HI.out
        have lgs := S.tb.lt
        have hbW : Below w.heap.size w wr := hB.trans (hbw.mono (by omega))
        by_cases hlt : k < ws.length
        · obtain ⟨g, o, rfl, hg, q0, q1, q2, q3⟩ := wr_cells (HWw.out.below hbW) hlt
          obtain ⟨hx1, hx2⟩ := HWO.out _ (List.getElem_mem hlt)
          generalize hrk : ws[k] = r at *
          obtain ⟨HG1, HG2⟩ := wrsE_go hlt hrk HK.out
          have HRW := hid (fun W => rightWare_any r.k r.lim r.n r.v W (by unfold maxLen; omega))
          have HCW := hid (fun W => cloneWare_any r.k r.lim r.n r.v W hx1 hx2)
          obtain ⟨aq, cq, rfl⟩ := sl_of S.wr
          have hAr := (Below.refl wr.heap.size wr).alloc (Nat.le_refl _) (.cells #[.int .i64 r.k, .string r.n, .string r.v, .int .i64 r.lim] 241)
          have hgr := heap_alloc_new wr (.cells #[.int .i64 r.k, .string r.n, .string r.v, .int .i64 r.lim] 241)
          have HNX := hid (fun W4 w5 gg cap => NwJ.next (W4 := W4) (w5 := w5) (gg := gg) (cap := cap) hlt hrk hes hbw S)
          have hxc : r.cells = [.int .i64 r.k, .string r.n, .string r.v, .int .i64 r.lim] := rfl
          rw [hxc] at HNX
          have htl : (ws.take k).length ≤ 6 := by rw [List.length_take]; omega
          generalize ws.take k = WT at *
          generalize hBW : wareB r.k r.n.data.toList r.v.data.toList r.lim = bw at *
          obtain ⟨xk, xn, xv, xl⟩ := r
          simp only at *
          have HS := hid S
          have HG1' := hid HG1
          have HG2' := hid HG2
          clear S hes hrk HK HI hx1 hx2 hxc HG1 HG2 hBW
          go_wp2_with fail
          refine (HRW.out _).mono ?_
          rintro x w2 ⟨rfl, hb2⟩
          have hB2 := bel_of hAr hb2
          have d0 : w2.cell? ⟨wr.heap.size, 0, none⟩ = some (.int .i64 xk) := cell_later hb2 (by rw [Lib.cell_of_heap hgr]; rfl)
          have d1 : w2.cell? ⟨wr.heap.size, 1, none⟩ = some (.string xn) := cell_later hb2 (by rw [Lib.cell_of_heap hgr]; rfl)
          have d2 : w2.cell? ⟨wr.heap.size, 2, none⟩ = some (.string xv) := cell_later hb2 (by rw [Lib.cell_of_heap hgr]; rfl)
          have d3 : w2.cell? ⟨wr.heap.size, 3, none⟩ = some (.int .i64 xl) := cell_later hb2 (by rw [Lib.cell_of_heap hgr]; rfl)
          have dl := block_lt_of_cell d0
          have hBb : Below w.heap.size w w2 := bel_of hbW hB2
          clear hb2 hgr hAr HRW q0 q1 q2 q3
          cases bw
          · have hE := HG2'.out rfl
            subst hE
            clear HG1' HG2' HNX HS HCW
            go_wp2
            try rw [Exit.noGoto_ret]
            refine bodyPost_ret (v := .tuple #[.pointer none, .int .i64 k, .int .i64 13]) (by simp [results, Tryz.results144, go_sem]) rfl ?_
            exact NwPost.err rfl (by simp) hBb
          · have HG := hid (HG1'.out rfl)
            have S2 := hid (HS.out.below hB2)
            have cel3 : w2.cell? ⟨w1.heap.size, 2, none⟩ = some (.slice aq WT.length cq) := by rw [Lib.cell_of_heap S2.out.blk]; rfl
            have fre3 : w2.frozen? ⟨w1.heap.size, 2, none⟩ = false := Lib.frozen_of_heap S2.out.blk 2
            have lt3 : w1.heap.size < w2.heap.size := S2.out.tb.lt
            have ow3 := S2.out.wr
            have hnown := S2.out.w1
            clear HG1' HG2' HS
            go_wp2_with fail
            go_region_law
              (first
                | (refine step_append_lies _ (by rfl) _ _ _ (by rfl) w1.heap.size 241 i0 _ 4 48 Tryz.underlying42 hi hz0 hz1 hz2 rfl (by omega) (.slice aq WT.length cq) WT.length (wrC WT) (by rfl) ((owns_below ow3.drew hb4).alloc _) ⟨w4.heap.size, 0, none⟩ 1 1 [.int .i64 xk, .string xn, .string xv, .int .i64 xl] (by rfl) (by rfl) (World.news_of_block (cs := #[.int .i64 xk, .string xn, .string xv, .int .i64 xl]) (t := 241) (fr := (0, 0)) (heap_alloc_new w4 _)) (by simp [Value.oneCell']) (by omega) (by unfold maxLen; omega) (by omega) (Nat.le_trans (Nat.le_trans (Nat.le_of_lt lt3) hb4.size) (by simp)) (w4.heap.size + 1) (by simp) ?_; intro gg cap w5 hown5 hgrow hat hlt5; have c5 := cell_grown hgrow (cell_old k4) hnown; have f5 : w5.frozen? ⟨w1.heap.size, 2, none⟩ = false := frozen_add hgrow hb4 fre3 lt3 hnown; have l5 : w1.heap.size < w5.heap.size := Nat.lt_of_lt_of_le (Nat.lt_of_lt_of_le lt3 hb4.size) (Nat.le_trans (by simp) hgrow.size))
                | (go_simp; go_at_call 200; refine (HCW.out _).mono ?_; rintro e w4 ⟨rfl, hb4⟩; have k4 := cell_later hb4 (show w2.drew.cell? ⟨w1.heap.size, 2, none⟩ = _ from cel3); have l4 : w1.heap.size < w4.heap.size := Nat.lt_of_lt_of_le lt3 hb4.size))
            all_goals
              have hE := bel_of (bel_of hB2 (Below.refl w2.heap.size w2).drew) hb4
              have hE2 : Below wr.heap.size wr (w4.alloc (.cells #[.int .i64 xk, .string xn, .string xv, .int .i64 xl] 241)) := hE.alloc hE.size _
              have hAD := hid (HNX.out _ _ _ _ hE2 hgrow hown5 (hat.imp_right (fun h => by rw [h]; simp)))
              clear hE hE2 hgrow hown5 hat hlt5 HNX
              go_wp2
              exact ⟨⟨k + 1, by omega, by go_num, hAD, HG⟩, by simp [intOf]; omega⟩
        · have hke : ws.drop k = [] := List.drop_eq_nil_of_le (by omega)
          rw [hke, wrsE] at HK
          have hkk : k = ws.length := by omega
          have hE0 : EE.2 = 0 := by rw [← HK.out]
          have HF : Hid (NwJ w1.heap.size rs ws w1 ws.length wr) := by rw [← hkk]; exact HI.out
          clear HK HI S hes hke HWO HWw
          have hne : ¬ (k : Int) < (ws.length : Int) := by omega
          go_wp2
          try rw [Exit.noGoto_ret]
          refine bodyPost_ret (v := .tuple #[.pointer (some ⟨w1.heap.size, 0, none⟩), .int .i64 0, .int .i64 0]) (by simp [results, Tryz.results144, go_sem]) rfl ?_
          exact NwPost.ok rfl hE0 l1 HF.out hB
end Go.Proofs.YtbiggccolpchcaaGreatDoor

/- slices.Sort of one text or none; what Methods tells where one pattern at most has the path; nothing old in memory turns. -/
namespace Go.Proofs.YtbiggccolpchcaaGreatDoor
open Go.RowKit

set_option maxRecDepth 100000 in
set_option maxHeartbeats 1000000 in
theorem len64_small (n : Nat) (w : World) (hn : n = 0 ∨ n = 1) : Calls Tryz.prog 283 #[.int .u64 n] w fun e w' => e = .returned (.int .i64 n) ∧ Below w.heap.size w w' := by
  have e0 : Lib.len8 0 = 0 := by decide +kernel
  have e1 : Lib.len8 1 = 1 := by decide +kernel
  rcases hn with rfl | rfl
  · go_enter Tryz.func283, Tryz.ntmps283
    go_wp2
    refine bodyPost_ret (v := .int .i64 0) (by simp [results, Tryz.results283, go_sem]) rfl ?_
    exact ⟨rfl, Below.refl _ _⟩
  · go_enter Tryz.func283, Tryz.ntmps283
    go_wp2
    refine bodyPost_ret (v := .int .i64 1) (by simp [results, Tryz.results283, go_sem]) rfl ?_
    exact ⟨rfl, Below.refl _ _⟩
set_option maxRecDepth 100000 in
set_option maxHeartbeats 1000000 in
theorem bitsLen_small (n : Nat) (w : World) (hn : n = 0 ∨ n = 1) : Calls Tryz.prog 229 #[.int .u64 n] w fun e w' => e = .returned (.int .i64 n) ∧ Below w.heap.size w w' := by
  have HL := hid (fun W => len64_small n W hn)
  rcases hn with rfl | rfl
  all_goals
    go_enter Tryz.func229, Tryz.ntmps229
    go_wp2_with fail
    refine (HL.out _).mono ?_
    rintro e w1 ⟨rfl, hb1⟩
    go_wp2
    go_ret
    exact ⟨rfl, hb1⟩
set_option maxRecDepth 100000 in
set_option maxHeartbeats 1000000 in
theorem insertion_small (v : Value) (n : Nat) (w : World) (hn : n = 0 ∨ n = 1) : Calls Tryz.prog 273 #[v, .int .i64 0, .int .i64 n] w fun e w' => e = .returned (.tuple #[]) ∧ Below w.heap.size w w' := by
  have h1 : ¬ (1 : Int) < (n : Int) := by omega
  clear hn
  go_enter Tryz.func273, Tryz.ntmps273
  go_wp2
  go_loopw [6] (fun i wr => i = .int .i64 1 ∧ Below w.heap.size w wr) (fun _ _ => 0)
  case atStart => exact ⟨rfl, Below.refl _ _⟩
  case round =>
    obtain ⟨rfl, hbw⟩ := hrel
    go_wp2
    refine bodyPost_end (v := .tuple #[]) (by simp [results, Tryz.results273, go_sem]) rfl ?_
    exact ⟨rfl, hbw⟩
set_option maxRecDepth 100000 in
set_option maxHeartbeats 1000000 in
theorem pdq_small (v : Value) (n : Nat) (w : World) (hn : n = 0 ∨ n = 1) : Calls Tryz.prog 228 #[v, .int .i64 0, .int .i64 n, .int .i64 n] w fun e w' => e = .returned (.tuple #[]) ∧ Below w.heap.size w w' := by
  have HI := hid (fun W => insertion_small v n W hn)
  have h1 : (n : Int) ≤ 12 := by omega
  clear hn
  go_enter Tryz.func228, Tryz.ntmps228
  go_wp2
  go_loopw [1, 2, 3] (fun a b l wr => a = .int .i64 0 ∧ b = .int .i64 n ∧ l = .int .i64 n ∧ Below w.heap.size w wr) (fun _ _ _ _ => 0)
  case atStart => exact ⟨rfl, rfl, rfl, Below.refl _ _⟩
  case round =>
    obtain ⟨rfl, rfl, rfl, hbw⟩ := hrel
    go_wp2_with fail
    refine (HI.out _).mono ?_
    rintro e w1 ⟨rfl, hb1⟩
    have hB := bel_of hbw hb1
    go_wp2
    try rw [Exit.noGoto_ret]
    refine bodyPost_ret (v := .tuple #[]) (by simp [results, Tryz.results228, go_sem]) rfl ?_
    exact ⟨rfl, hB⟩
set_option maxRecDepth 100000 in
set_option maxHeartbeats 1000000 in
theorem sort_small (a : Option Addr) (n c : Nat) (w : World) (hn : n = 0 ∨ n = 1) : Calls Tryz.prog 163 #[.slice a n c] w fun e w' => e = .returned (.tuple #[]) ∧ Below w.heap.size w w' := by
  have HL := hid (fun W => bitsLen_small n W hn)
  have HP := hid (fun W => pdq_small (.slice a n c) n W hn)
  have hw : IntKind.u64.wrap (n : Int) = (n : Int) := by rcases hn with rfl | rfl <;> rfl
  clear hn
  go_enter Tryz.func163, Tryz.ntmps163
  go_wp2_with fail
  refine (HL.out _).mono ?_
  rintro e w1 ⟨rfl, hb1⟩
  go_wp2_with fail
  refine (HP.out _).mono ?_
  rintro e w2 ⟨rfl, hb2⟩
  have hB := bel_of hb1 hb2
  go_wp2
  refine bodyPost_end (v := .tuple #[]) (by simp [results, Tryz.results163, go_sem]) rfl ?_
  exact ⟨rfl, hB⟩
def methG (l : List UInt8) (es : List Ent) : List ByteArray := (es.filter fun e => (matchB e.ps (l.drop 1) true []).isSome).map (·.m)
theorem methG_next (l : List UInt8) (es : List Ent) (k : Nat) (h : k < es.length) : methG l (es.take (k + 1)) = methG l (es.take k) ++ (if (matchB es[k].ps (l.drop 1) true []).isSome = true then [es[k].m] else []) := by
  unfold methG
  rw [List.take_succ_eq_append_getElem h, List.filter_append, List.map_append]
  congr 1
  by_cases hm : (matchB es[k].ps (l.drop 1) true []).isSome = true
  · rw [if_pos hm]
    have : [es[k]].filter (fun e => (matchB e.ps (l.drop 1) true []).isSome) = [es[k]] := List.filter_cons_of_pos hm
    rw [this]; rfl
  · rw [if_neg hm]
    have : [es[k]].filter (fun e => (matchB e.ps (l.drop 1) true []).isSome) = [] := List.filter_cons_of_neg hm
    rw [this]; rfl
theorem methG_len (l : List UInt8) (es : List Ent) (k : Nat) : (methG l (es.take k)).length ≤ (es.take k).length := by
  unfold methG; rw [List.length_map]; exact List.length_filter_le _ _
set_option maxRecDepth 100000 in
set_option maxHeartbeats 2000000 in
theorem tMethods_any (gt o B : Nat) (es : List Ent) (v : Value) (s : ByteArray) (w : World) (hT : TbAt gt o B es v w) (hp : Pm.isPath s.data.toList = true) (h1s : 1 ≤ s.size) (hs : s.size ≤ 140737488355328) (hone : (methG s.data.toList es).length ≤ 1) :
    Calls Tryz.prog 109 #[.pointer (some ⟨gt, o, none⟩), .string s] w fun r w' => (∃ vv, r = .returned vv ∧ w'.ownsRow w.heap.size 9 1 vv (methG s.data.toList es).length ((methG s.data.toList es).map Value.string)) ∧ Below w.heap.size w w' := by
  obtain ⟨i0, hi, hz0, hz1, hz2⟩ := info_parts Tryz.info9
  have HIP := hid (fun W => wIsPath_any s W hs)
  rw [hp] at HIP
  have HT := hid hT
  obtain ⟨av, cv, rfl, hen⟩ := en_of_owns hT.row
  have HE := hid hen
  have cel := hT.cel
  have lt0 := hT.lt
  have hfw := hT.few
  clear hT hen
  go_enter Tryz.func109, Tryz.ntmps109
  go_wp2_with fail
  refine (HIP.out _).mono ?_
  rintro e w1 ⟨rfl, hb1⟩
  have cel1 := cell_later hb1 cel
  have lt1 : gt < w1.heap.size := Nat.lt_of_lt_of_le lt0 hb1.size
  clear HIP cel lt0
  go_wp2_with fail
  go_loopw [5, 18] (fun ms i wr => ∃ k : Nat, k ≤ es.length ∧ i = .int .i64 k ∧ wr.ownsRow w.heap.size 9 1 ms (methG s.data.toList (es.take k)).length ((methG s.data.toList (es.take k)).map Value.string) ∧ Below w.heap.size w wr) (fun _ i _ => es.length - (intOf i).toNat)
  case atStart => exact ⟨0, Nat.zero_le _, rfl, World.ownsRow_nil _ _ _ _, hb1⟩
  case round =>
    obtain ⟨k, hk, rfl, hown, hbw⟩ := hrel
    by_cases hlt : k < es.length
    · obtain ⟨g, rfl, hg, hc1, hc2⟩ := (HE.out.below hbw) k hlt
      have hpc := (HT.out.pat k hlt).below hbw
      have hps := HT.out.szs k hlt
      have HN := hid (methG_next s.data.toList es k hlt)
      have hml := methG_len s.data.toList es k
      rw [List.length_take] at hml
      generalize es[k] = en at *
      obtain ⟨em, eps, ea, ec⟩ := en
      simp only at hc1 hc2 hpc hps HN
      have hA := (Below.refl wr.heap.size wr).alloc (Nat.le_refl _) (.cells #[.string em, .slice ea eps.length ec] 233)
      have hB := bel_of hbw hA
      have HM := hid (fun W (hW : Below w.heap.size w W) (h : PcAt eps ea W) => match_any eps ea ec s W h hps h1s hs)
      have oA := owns_below hown hA
      have en0 := heap_alloc_new wr (.cells #[.string em, .slice ea eps.length ec] 233)
      go_wp2_with fail
      generalize hwa : wr.alloc (.cells #[.string em, .slice ea eps.length ec] 233) = wa at *
      refine (HM.out _ hB (hpc.below hA)).mono ?_
      rintro e w2 ⟨hma, hb2⟩
      have hB2 := bel_of hB hb2
      have o2 := owns_below oA hb2
      have ece : w2.cell? ⟨wr.heap.size, 0, none⟩ = some (.string em) := cell_later hb2 (by rw [Lib.cell_of_heap en0]; rfl)
      have elt : wr.heap.size < w2.heap.size := Nat.lt_of_lt_of_le (by rw [← hwa]; simp) hb2.size
      clear HM hb2 hA oA en0 hB hwa hpc
      generalize methG s.data.toList (es.take k) = MK at *
      cases hMB : matchB eps (List.drop 1 s.data.toList) true [] with
      | none =>
        rw [hMB] at hma HN
        obtain rfl : e = .returned (.tuple #[.slice none 0 0, .bool false]) := hma
        go_wp2
        refine ⟨⟨k + 1, by omega, by go_num, ?_, hB2⟩, by simp [intOf]; omega⟩
        rw [HN.out]; simpa using o2
      | some pf =>
        rw [hMB] at hma HN
        obtain ⟨vv, rfl, ow⟩ := hma
        have HN2 : Hid (methG s.data.toList (es.take (k + 1)) = MK ++ [em]) := by
          unfold Hid; rw [HN.out]; rfl
        clear ow HN hMB
        go_wp2_with (at_builtin; refine wpList_append_own _ rfl _ _ 99 rfl w.heap.size 9 i0 (.string ⟨#[]⟩) 1 16 Tryz.underlying99 hi hz0 hz1 hz2 rfl (by decide) _ _ _ rfl (o2.alloc _) ⟨w2.heap.size, 0, none⟩ 1 1 [.string em] rfl rfl ?c1 ?c2 ?c3 ?c4 ?c5 ?_)
        case c1 =>
          intro j u hj
          match j, hj with
          | 0, hj => simp at hj; subst hj; simp [Addr.add]
        case c2 => intro u hu; simp at hu; subst hu; rfl
        case c3 => unfold maxLen; omega
        case c4 => omega
        case c5 => have := hB2.size; simp; omega
        intro v' w3 hown' hgrow _
        have hb3 : Below w.heap.size w w3 := (hB2.alloc hB2.size _).grown hgrow (by have := hB2.size; simp; omega) (own_ge o2)
        clear hgrow
        go_wp2
        refine ⟨⟨k + 1, by omega, by go_num, ?_, hb3⟩, by simp [intOf]; omega⟩
        rw [HN2.out, List.length_append, List.map_append]
        exact hown'
    · have hke : es.take k = es := List.take_of_length_le (by omega)
      rw [hke] at hown
      have hlen : (methG s.data.toList es).length = 0 ∨ (methG s.data.toList es).length = 1 := by omega
      generalize hMK : methG s.data.toList es = MK at *
      obtain ⟨a', c', rfl⟩ : ∃ a c, u5 = .slice a MK.length c := by
        rcases hown.2 with ⟨h2, h3⟩ | ⟨g, cap, cur, hv, _⟩
        · exact ⟨none, 0, by rw [h3]; exact h2⟩
        · exact ⟨_, _, hv⟩
      have HS := hid (fun W => sort_small a' MK.length c' W hlen)
      go_wp2_with fail
      refine (HS.out _).mono ?_
      rintro e w2 ⟨rfl, hb2⟩
      have hB2 := bel_of hbw hb2
      have HO := hid (owns_below hown hb2)
      clear HS hown hlen
      go_wp2
      go_ret
      exact ⟨⟨.slice a' MK.length c', rfl, by rw [hMK]; exact HO.out⟩, hB2⟩
set_option maxHeartbeats 400000 in
theorem pMethods_any (gt B : Nat) (es : List Ent) (v : Value) (s : ByteArray) (w : World) (hT : TbAt gt 0 B es v w) (hp : Pm.isPath s.data.toList = true) (h1s : 1 ≤ s.size) (hs : s.size ≤ 140737488355328) (hone : (methG s.data.toList es).length ≤ 1) :
    Calls Tryz.prog 41 #[.pointer (some ⟨gt, 0, none⟩), .string s] w fun r w' => (∃ vv, r = .returned vv ∧ w'.ownsRow w.heap.size 9 1 vv (methG s.data.toList es).length ((methG s.data.toList es).map Value.string)) ∧ Below w.heap.size w w' := by
  have HF := hid (tMethods_any gt 0 B es v s w hT hp h1s hs hone)
  generalize methG s.data.toList es = FF at *
  have lt0 := hT.lt
  clear hT
  go_enter Tryz.func41, Tryz.ntmps41
  go_wp2_with fail
  refine HF.out.mono ?_
  rintro e w1 ⟨⟨vv, rfl, ow⟩, hb1⟩
  have HOW := hid ow
  clear ow HF
  go_wp2
  go_ret
  exact ⟨⟨vv, rfl, HOW.out⟩, hb1⟩
end Go.Proofs.YtbiggccolpchcaaGreatDoor

/- slices.Sort of texts that the call itself has made; Methods tells all methods, sorted. -/
namespace Go.Proofs.YtbiggccolpchcaaGreatDoor
open Go.RowKit
open Go.Sort

def srt (l : List (List UInt8)) : List (List UInt8) := l.mergeSort fun x y => decide (x ≤ y)
theorem srt_len (l : List (List UInt8)) : (srt l).length = l.length := by unfold srt; simp
def encs (l : List (List UInt8)) : List Value := l.map fun s => Value.string ⟨s.toArray⟩
theorem encs_of (l : List ByteArray) : encs (l.map fun b => b.data.toList) = l.map Value.string := by
  unfold encs; rw [List.map_map]; rfl
theorem encs_len (l : List (List UInt8)) : (encs l).length = l.length := by unfold encs; simp
theorem sort_own (v : Value) (l : List (List UInt8)) (B : Nat) (w : World) (h : w.ownsRow B 9 1 v l.length (encs l)) (hl : l.length ≤ 1000000) :
    Calls Tryz.prog 163 #[v] w fun e w' => e = .returned (.tuple #[]) ∧ w'.ownsRow B 9 1 v l.length (encs (srt l)) ∧ w.grownBy w' v.ownBlock := by
  rcases h.2 with ⟨rfl, h0⟩ | ⟨g, cap, cur, rfl, hB, hg, hc, hm, hs, ht⟩
  · have hl0 : l = [] := List.eq_nil_of_length_eq_zero h0
    subst hl0
    refine (Any.slices_Sort_string_none Tryz.lays190 none 0 w).mono ?_
    rintro e w' ⟨rfl, rfl⟩
    refine ⟨rfl, ?_, World.grownBy.refl _ _⟩
    have : srt [] = [] := by unfold srt; simp
    rw [this]; exact h
  · have hH : Holds encStr w g 0 l.toArray := holds_of_block hg (by rw [Nat.mul_one] at ht; exact ht)
    have hblk : g < w.heap.size := (Array.getElem?_eq_some_iff.1 hg).1
    refine (Tryz.slices_Sort_string g 0 cap l w hH hblk (by omega)).mono ?_
    rintro e w' ⟨rfl, n, os, rfl⟩
    refine ⟨rfl, ?_, grownBy_sorted _⟩
    exact ownsRow_sorted (srt_len l) hB hg hc hm hs
def methS (l : List UInt8) (es : List Ent) : List (List UInt8) := srt ((methG l es).map fun b => b.data.toList)
theorem methS_len (l : List UInt8) (es : List Ent) : (methS l es).length = (methG l es).length := by unfold methS; rw [srt_len, List.length_map]
set_option maxRecDepth 100000 in
set_option maxHeartbeats 2000000 in
theorem tMethods_all (gt o B : Nat) (es : List Ent) (v : Value) (s : ByteArray) (w : World) (hT : TbAt gt o B es v w) (hp : Pm.isPath s.data.toList = true) (h1s : 1 ≤ s.size) (hs : s.size ≤ 140737488355328) :
    Calls Tryz.prog 109 #[.pointer (some ⟨gt, o, none⟩), .string s] w fun r w' => (∃ vv, r = .returned vv ∧ w'.ownsRow w.heap.size 9 1 vv (methS s.data.toList es).length (encs (methS s.data.toList es))) ∧ Below w.heap.size w w' := by
  obtain ⟨i0, hi, hz0, hz1, hz2⟩ := info_parts Tryz.info9
  have HIP := hid (fun W => wIsPath_any s W hs)
  rw [hp] at HIP
  have HT := hid hT
  obtain ⟨av, cv, rfl, hen⟩ := en_of_owns hT.row
  have HE := hid hen
  have cel := hT.cel
  have lt0 := hT.lt
  have hfw := hT.few
  clear hT hen
  go_enter Tryz.func109, Tryz.ntmps109
  go_wp2_with fail
  refine (HIP.out _).mono ?_
  rintro e w1 ⟨rfl, hb1⟩
  have cel1 := cell_later hb1 cel
  have lt1 : gt < w1.heap.size := Nat.lt_of_lt_of_le lt0 hb1.size
  clear HIP cel lt0
  go_wp2_with fail
  go_loopw [5, 18] (fun ms i wr => ∃ k : Nat, k ≤ es.length ∧ i = .int .i64 k ∧ wr.ownsRow w.heap.size 9 1 ms (methG s.data.toList (es.take k)).length ((methG s.data.toList (es.take k)).map Value.string) ∧ Below w.heap.size w wr) (fun _ i _ => es.length - (intOf i).toNat)
  case atStart => exact ⟨0, Nat.zero_le _, rfl, World.ownsRow_nil _ _ _ _, hb1⟩
  case round =>
    obtain ⟨k, hk, rfl, hown, hbw⟩ := hrel
    by_cases hlt : k < es.length
    · obtain ⟨g, rfl, hg, hc1, hc2⟩ := (HE.out.below hbw) k hlt
      have hpc := (HT.out.pat k hlt).below hbw
      have hps := HT.out.szs k hlt
      have HN := hid (methG_next s.data.toList es k hlt)
      have hml := methG_len s.data.toList es k
      rw [List.length_take] at hml
      generalize es[k] = en at *
      obtain ⟨em, eps, ea, ec⟩ := en
      simp only at hc1 hc2 hpc hps HN
      have hA := (Below.refl wr.heap.size wr).alloc (Nat.le_refl _) (.cells #[.string em, .slice ea eps.length ec] 233)
      have hB := bel_of hbw hA
      have HM := hid (fun W (hW : Below w.heap.size w W) (h : PcAt eps ea W) => match_any eps ea ec s W h hps h1s hs)
      have oA := owns_below hown hA
      have en0 := heap_alloc_new wr (.cells #[.string em, .slice ea eps.length ec] 233)
      go_wp2_with fail
      generalize hwa : wr.alloc (.cells #[.string em, .slice ea eps.length ec] 233) = wa at *
      refine (HM.out _ hB (hpc.below hA)).mono ?_
      rintro e w2 ⟨hma, hb2⟩
      have hB2 := bel_of hB hb2
      have o2 := owns_below oA hb2
      have ece : w2.cell? ⟨wr.heap.size, 0, none⟩ = some (.string em) := cell_later hb2 (by rw [Lib.cell_of_heap en0]; rfl)
      have elt : wr.heap.size < w2.heap.size := Nat.lt_of_lt_of_le (by rw [← hwa]; simp) hb2.size
      clear HM hb2 hA oA en0 hB hwa hpc
      generalize methG s.data.toList (es.take k) = MK at *
      cases hMB : matchB eps (List.drop 1 s.data.toList) true [] with
      | none =>
        rw [hMB] at hma HN
        obtain rfl : e = .returned (.tuple #[.slice none 0 0, .bool false]) := hma
        go_wp2
        refine ⟨⟨k + 1, by omega, by go_num, ?_, hB2⟩, by simp [intOf]; omega⟩
        rw [HN.out]; simpa using o2
      | some pf =>
        rw [hMB] at hma HN
        obtain ⟨vv, rfl, ow⟩ := hma
        have HN2 : Hid (methG s.data.toList (es.take (k + 1)) = MK ++ [em]) := by
          unfold Hid; rw [HN.out]; rfl
        clear ow HN hMB
        go_wp2_with (at_builtin; refine wpList_append_own _ rfl _ _ 99 rfl w.heap.size 9 i0 (.string ⟨#[]⟩) 1 16 Tryz.underlying99 hi hz0 hz1 hz2 rfl (by decide) _ _ _ rfl (o2.alloc _) ⟨w2.heap.size, 0, none⟩ 1 1 [.string em] rfl rfl ?c1 ?c2 ?c3 ?c4 ?c5 ?_)
        case c1 =>
          intro j u hj
          match j, hj with
          | 0, hj => simp at hj; subst hj; simp [Addr.add]
        case c2 => intro u hu; simp at hu; subst hu; rfl
        case c3 => unfold maxLen; omega
        case c4 => omega
        case c5 => have := hB2.size; simp; omega
        intro v' w3 hown' hgrow _
        have hb3 : Below w.heap.size w w3 := (hB2.alloc hB2.size _).grown hgrow (by have := hB2.size; simp; omega) (own_ge o2)
        clear hgrow
        go_wp2
        refine ⟨⟨k + 1, by omega, by go_num, ?_, hb3⟩, by simp [intOf]; omega⟩
        rw [HN2.out, List.length_append, List.map_append]
        exact hown'
    · have hke : es.take k = es := List.take_of_length_le (by omega)
      rw [hke] at hown
      have hml := methG_len s.data.toList es k
      rw [hke] at hml
      have HSS : Hid (methS s.data.toList es = srt ((methG s.data.toList es).map fun b => b.data.toList)) := rfl
      generalize methG s.data.toList es = MK at *
      generalize hMS : methS s.data.toList es = MS at *
      have hown' : wr.ownsRow w.heap.size 9 1 u5 (MK.map fun b => b.data.toList).length (encs (MK.map fun b => b.data.toList)) := by rw [List.length_map, encs_of]; exact hown
      have HS := hid (sort_own u5 (MK.map fun b => b.data.toList) w.heap.size wr hown' (by rw [List.length_map]; omega))
      rw [← HSS.out] at HS
      have hown2 := hid hown'
      have hsz : MS.length = (MK.map fun b => b.data.toList).length := by rw [HSS.out, srt_len]
      generalize (MK.map fun b => b.data.toList) = MQ at *
      clear hown hown' HSS
      go_wp2_with fail
      refine HS.out.mono ?_
      rintro e w2 ⟨rfl, ho, hgr⟩
      have hB2 : Below w.heap.size w w2 := hbw.grown hgr hbw.size (own_ge hown2.out)
      have HO := hid ho
      clear HS ho hgr hown2
      go_wp2
      go_ret
      exact ⟨⟨u5, rfl, by rw [hMS, hsz]; exact HO.out⟩, hB2⟩
set_option maxHeartbeats 400000 in
theorem pMethods_all (gt B : Nat) (es : List Ent) (v : Value) (s : ByteArray) (w : World) (hT : TbAt gt 0 B es v w) (hp : Pm.isPath s.data.toList = true) (h1s : 1 ≤ s.size) (hs : s.size ≤ 140737488355328) :
    Calls Tryz.prog 41 #[.pointer (some ⟨gt, 0, none⟩), .string s] w fun r w' => (∃ vv, r = .returned vv ∧ w'.ownsRow w.heap.size 9 1 vv (methS s.data.toList es).length (encs (methS s.data.toList es))) ∧ Below w.heap.size w w' := by
  have HF := hid (tMethods_all gt 0 B es v s w hT hp h1s hs)
  generalize methS s.data.toList es = FF at *
  have lt0 := hT.lt
  clear hT
  go_enter Tryz.func41, Tryz.ntmps41
  go_wp2_with fail
  refine HF.out.mono ?_
  rintro e w1 ⟨⟨vv, rfl, ow⟩, hb1⟩
  have HOW := hid ow
  clear ow HF
  go_wp2
  go_ret
  exact ⟨⟨vv, rfl, HOW.out⟩, hb1⟩
end Go.Proofs.YtbiggccolpchcaaGreatDoor
