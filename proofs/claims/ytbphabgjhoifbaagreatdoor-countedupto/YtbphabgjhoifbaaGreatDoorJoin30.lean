/- Texts that follow one another, joined. -/
import Derived.Test.YtbphabgjhoifbaaGreatDoorJoin15
import Derived.Deep.RegionLaw
import Derived.Test.YtbphabgjhoifbaaGreatDoorJoin29
/- A connection's send. -/
namespace Go.Proofs.YtbphabgjhoifbaaGreatDoor
open Go.RowKit

theorem infoU8 : (Tryz.prog.info? 5).map (fun i => (i.zero, i.size, i.bytes)) = some (some (.int .u8 0), 1, 1) := by kernel_rfl
theorem step_call {P : Program} {w : World} {ops : Array Oper} {o : Oper} {a : Act} {K : Act → World → Prop} {Q : Exit → Act → World → Prop} {E : Prop} {f : FuncId} {fn : Func} (hgd : o.guard = none) (hf : P.funcs[f]? = some fn) (hname : (fn.name == "runtime.NumGoroutine") = false) (hb : fn.body.isSome = true) (xs : Array Operand) (ts : Array TypeId)
    (ho : o.op = .call { callee := .value (.func f), args := xs, argTypes := ts }) (args : Array Value) (hx : xs.map a.eval = args) {R : World → Prop} {v : Value}
    (hc : Calls P f args w fun e w' => e = .returned v ∧ R w') (h : ∀ w', R w' → K (a.put o.dst v) w') :
    if Region.wanted o (yielded ops a.tmps) = true then Oper.wp P o a w K Q else E := by
  have hw : Region.wanted o (yielded ops a.tmps) = true := by simp [Region.wanted, hgd]
  rw [if_pos hw]
  obtain ⟨cd, hcd⟩ := Option.isSome_iff_exists.1 hb
  have hr := Go.MuLone.run_callFunc_enter (P := P) hf hname hcd args w
  have e : (execOp a.eval o).run P w = .ok (.enter f args) w := by
    unfold execOp
    simp only [ho]
    simp [resolve, invoke, go_sem]
    rw [hx]; exact hr
  unfold Oper.wp
  rw [e, Oper.upon_enter]
  exact hc.mono fun e w' ⟨h1, h2⟩ => by subst h1; exact h w' h2
/- what a connection is behind an answer -/
def shutB (cl : Bool) (held : ByteArray) : ByteArray := if cl = true then ⟨#[]⟩ else held
theorem str_bytes (l : List UInt8) (s : ByteArray) : Lib.byteCells l ++ Lib.strCells s = Lib.byteCells (l ++ s.data.toList) := by
  simp [Lib.byteCells, Lib.strCells]
structure SnI (V : Sv) (c : Nat) (vo : Value) (held : ByteArray) (out : List UInt8) (rq : Nat) (cl : Bool) (w : World) (W : World) : Prop where
  i : ∃ vo', CnI V c vo' held out rq cl W ∧ ∀ r, vo'.ownBlock = some r → vo.ownBlock = some r ∨ w.heap.size ≤ r
  k : Kx (c :: vo.ownBlock.toList) w W
theorem bytes_len (l : List UInt8) : (Lib.byteCells l).length = l.length := by simp [Lib.byteCells]
theorem sn_done {V : Sv} {c : Nat} {vo : Value} {held : ByteArray} {out : List UInt8} {rq : Nat} {cl : Bool} {w w1 w2 w3 : World} {ad : Option Addr} {n cap : Nat} {text : ByteArray} (I : CnI V c vo held out rq cl w) (lw : V.s < w.heap.size) (lh : V.h < w.heap.size) (hA : Below w.heap.size w w1) (hb : Below w1.heap.size w1 w2) (hO : OwnO V.w1.heap.size 5 (.slice ad n cap) (Lib.byteCells out ++ Lib.strCells text) w3) (hg : w2.grownBy w3 vo.ownBlock) (hr : ∀ r, (Value.slice ad n cap).ownBlock = some r → vo.ownBlock = some r ∨ w2.heap.size ≤ r) : SnI V c vo held (out ++ text.data.toList) rq cl w (w3.setCell ⟨c, 2, none⟩ (.slice ad n cap)) := by
  have hB2 := bel_of hA hb
  have hz := hB2.size
  have lc := I.lt
  have k1 : Kx (c :: vo.ownBlock.toList) w w2 := Kx.of hB2
  have k2 : Kx (c :: vo.ownBlock.toList) w2 w3 := Kx.grown hg (fun k hk => by rw [hk]; simp)
  have k3 : Kx (c :: vo.ownBlock.toList) w3 (w3.setCell ⟨c, 2, none⟩ (.slice ad n cap)) := Kx.set _ _ (by simp)
  have hnc : (Value.slice ad n cap).ownBlock ≠ some c := fun e => by
    rcases hr c e with q | q
    · exact I.o1 q
    · omega
  have hb3 : w3.heap[c]? = some (.cells (cnC V held vo rq cl) 96 (0, 0)) := by
    rw [hg.block c (by omega) (fun e => I.o1 e.symm), hB2.block c lc]; exact I.blk
  refine ⟨⟨.slice ad n cap, ⟨heap_set hb3 2 (.slice ad n cap), ?_, I.ge, I.n1, I.n2, hnc, fun e => ?_, fun e => ?_⟩, fun r e => ?_⟩, (k1.trans k2 (fun _ h => .inl h)).trans k3 (fun _ h => .inl h)⟩
  · rw [← str_bytes]
    exact hO.keep fun r e => Below.heap_setCell _ _ _ _ (fun q => hnc (by rw [e, q]))
  · rcases hr _ e with q | q
    · exact I.o2 q
    · omega
  · rcases hr _ e with q | q
    · exact I.o3 q
    · omega
  · rcases hr r e with q | q
    · exact .inl q
    · exact .inr (by omega)
set_option maxRecDepth 100000 in
set_option maxHeartbeats 4000000 in
theorem send_of (V : Sv) (c : Nat) (vo : Value) (held : ByteArray) (out : List UInt8) (rq : Nat) (cl : Bool) (m : ByteArray) (st : Int) (pa : Option Addr) (pn pc : Nat) (b : ByteArray) (acl : Bool) (text : ByteArray) (w : World) (I : CnI V c vo held out rq cl w) (lw : V.s < w.heap.size) (lh : V.h < w.heap.size) (lv : V.w1.heap.size ≤ w.heap.size) (hlen : out.length + text.size ≤ 140737488355328)
    (HR : ∀ W, Below w.heap.size w W → Calls Tryz.prog 36 #[.string m, .agg (anA st (.slice pa pn pc) b acl)] W fun e w' => e = .returned (.string text) ∧ Below W.heap.size W w') :
    Calls Tryz.prog 41 #[.pointer (some ⟨c, 0, none⟩), .string m, .agg (anA st (.slice pa pn pc) b acl)] w fun x w' => x = .returned (.tuple #[]) ∧ SnI V c vo (shutB acl held) (out ++ text.data.toList) rq (acl || cl) w w' := by
  obtain ⟨i0, hi, hz0, hz1, hz2⟩ := info_parts infoU8
  have hA := (Below.refl w.heap.size w).alloc (Nat.le_refl _) (.cells (anA st (.slice pa pn pc) b acl) 64)
  have b1 := heap_alloc_new w (.cells (anA st (.slice pa pn pc) b acl) 64)
  have z1 : (w.alloc (.cells (anA st (.slice pa pn pc) b acl) 64)).heap.size = w.heap.size + 1 := by simp
  have a0 : (w.alloc (.cells (anA st (.slice pa pn pc) b acl) 64)).cell? ⟨w.heap.size, 0, none⟩ = some (.int .i64 st) := by rw [Lib.cell_of_heap b1]; rfl
  have a1 : (w.alloc (.cells (anA st (.slice pa pn pc) b acl) 64)).cell? ⟨w.heap.size, 1, none⟩ = some (.slice pa pn pc) := by rw [Lib.cell_of_heap b1]; rfl
  have a2 : (w.alloc (.cells (anA st (.slice pa pn pc) b acl) 64)).cell? ⟨w.heap.size, 2, none⟩ = some (.string b) := by rw [Lib.cell_of_heap b1]; rfl
  have a3 : (w.alloc (.cells (anA st (.slice pa pn pc) b acl) 64)).cell? ⟨w.heap.size, 3, none⟩ = some (.bool acl) := by rw [Lib.cell_of_heap b1]; rfl
  have I1 := I.below hA
  obtain ⟨-, -, c2, -, -⟩ := I1.cells
  have lc := I1.lt
  have lc0 := I.lt
  have hvo : ∀ r, vo.ownBlock = some r → r < w.heap.size := fun r hr => (I.out.lt hr).2
  have HRR := hid HR
  have HI := hid I
  have HI1 := hid I1
  have HB1 := hid b1
  have hun : Tryz.prog.underlying 94 = some (.slice 5) := Tryz.underlying94
  have hus : Tryz.prog.underlying 9 = some .string := Tryz.underlying9
  have hsl : ∃ va vn vc, vo = .slice va vn vc := by obtain ⟨va, vc, e⟩ := I.out.sl; exact ⟨va, _, vc, e⟩
  obtain ⟨va, vn, vc, rfl⟩ := hsl
  clear HR I I1 b1
  go_enter Tryz.func41, Tryz.ntmps41
  go_upto_region 1 with fail
  generalize w.alloc (.cells (anA st (.slice pa pn pc) b acl) 64) = w1 at *
  have cd2 : w1.drew.cell? ⟨c, 2, none⟩ = some (.slice va vn vc) := c2
  go_region_law (first | (refine step_call (f := 36) rfl Tryz.func36 (by kernel_rfl) (by kernel_rfl) _ _ rfl #[.string m, .agg (anA st (.slice pa pn pc) b acl)] (by simp [Act.eval]) (HRR.out w1.drew hA.drew) ?_; intro w2 hb2; have hb2' : Below w1.heap.size w1 w2 := (Below.refl w1.heap.size w1).drew.trans hb2; obtain ⟨-, -, e2, -, -⟩ := (HI1.out.below hb2').cells; have lq2 : w.heap.size < w2.heap.size := Nat.lt_of_lt_of_le (by rw [z1]; omega) hb2'.size; have O2 := (HI1.out.below hb2').out; have B2 := (HI1.out.below hb2').blk; clear hb2) | (refine step_append_ownO w2 rfl (.tmp 10) (.tmp 13) 94 9 rfl V.w1.heap.size 5 i0 hun hus hi hz0 hz1 hz2 (.slice va vn vc) (Lib.byteCells out) (by simp [Act.eval]) O2 text (by simp [Act.eval]) (by rw [bytes_len]; exact hlen) (by omega) ?_; intro ad n cap w3 hO3 hg3 hr3; have e3 : w3.cell? ⟨c, 2, none⟩ = some (.slice va vn vc) := (by rw [World.cell?_of_block (w := w2) (hg3.block c (by omega) (fun e => HI.out.o1 e.symm))]; exact e2); have zf3 : w3.frozen? ⟨c, 2, none⟩ = false := (by rw [World.frozen?_of_block (w := w2) (hg3.block c (by omega) (fun e => HI.out.o1 e.symm))]; exact Lib.frozen_of_heap B2 2)))
  all_goals
    have SD := sn_done HI.out lw lh hA hb2' hO3 hg3 hr3
    have q3 : (w3.setCell ⟨c, 2, none⟩ (.slice ad n cap)).cell? ⟨w.heap.size, 3, none⟩ = some (.bool acl) := by
      rw [World.cell?_setCell_other _ _ _ _ (by simp), World.cell?_of_block (w := w2) (hg3.block w.heap.size lq2 (fun e => by have := hvo _ e.symm; omega)), cell_later hb2' a3]
    generalize w3.setCell ⟨c, 2, none⟩ (.slice ad n cap) = W at *
    obtain ⟨⟨vo', J, hr'⟩, kk⟩ := SD
    have HJ := hid J
    have HCL := hid (close_any V c vo' held _ rq cl W J)
    have lqW := block_lt_of_cell q3
    clear J e2 e3 zf3 O2 B2 hO3 hg3 hr3 HI HI1 HRR HB1 cd2 c2 a0 a1 a2 a3
    cases acl
    · go_wp2_with fail
      refine bodyPost_end (v := .tuple #[]) (by simp [results, Tryz.results41, go_sem]) rfl ?_
      exact ⟨rfl, ⟨vo', HJ.out, hr'⟩, kk⟩
    · go_wp2_with (go_at_call 40; refine HCL.out.mono ?_; rintro x w4 ⟨rfl, J4, k4⟩)
      refine bodyPost_end (v := .tuple #[]) (by simp [results, Tryz.results41, go_sem]) rfl ?_
      exact ⟨rfl, ⟨vo', J4, hr'⟩, kk.trans k4 (fun b hb => by simp at hb; subst hb; exact .inl (by simp))⟩
end Go.Proofs.YtbphabgjhoifbaaGreatDoor

/- How great an answer of a server can be; the server's answer of any request. -/
namespace Go.Proofs.YtbphabgjhoifbaaGreatDoor
open Go.RowKit

theorem rts_hnd : ∀ (rs : List Rt) (es : List Ent) (k : Nat), (rtsE rs es k).2 = 0 → ∀ r ∈ rs, 200 ≤ r.h.st ∧ r.h.st ≤ 599
  | [], _, _, _, r, hr => by simp at hr
  | r0 :: rs, es, k, h, r, hr => by
    rw [rtsE] at h
    split at h
    · rename_i h0
      rcases List.mem_cons.1 hr with rfl | hr
      · unfold rtE at h0
        split at h0
        · exact absurd h0 (by decide)
        · split at h0
          · exact absurd h0 (by decide)
          · split at h0
            · exact absurd h0 (by decide)
            · split at h0
              · exact absurd h0 (by decide)
              · split at h0
                · exact absurd h0 (by decide)
                · rename_i hh
                  have hb : hndB r.h.k r.h.st r.h.t.data.toList = true := by
                    cases q : hndB r.h.k r.h.st r.h.t.data.toList
                    · exact absurd q hh
                    · rfl
                  unfold hndB at hb
                  rw [Bool.and_eq_true, decide_eq_true_eq] at hb
                  exact ⟨hb.1.1, hb.1.2.1⟩
      · exact rts_hnd rs _ _ h r hr
    · rename_i h0; exact absurd h h0
structure AnsB (R : Rp) : Prop where
  s0 : 0 ≤ R.st
  s1 : R.st ≤ 999
  n : R.fs.length ≤ 50000000
  z : (fldsL R.fs).length + R.b.size ≤ 33000000
def StB (s : Int) : Prop := 0 ≤ s ∧ s ≤ 999
theorem ware_st {x : Wr} {qf : List Prm} {qb : ByteArray} {G : Option An} (h : ∀ a, G = some a → StB a.st) {a : An} (e : wareG x qf qb G = some a) : StB a.st := by
  unfold wareG at e
  split at e
  · obtain ⟨b, hb, rfl⟩ := Option.map_eq_some_iff.1 e
    exact h b hb
  split at e
  · split at e
    · exact h a e
    · cases e; unfold StB; decide
  split at e
  · split at e
    · cases e; unfold StB; decide
    · exact h a e
  split at e
  · cases G with
    | none => cases e; unfold StB; decide
    | some b => exact h a e
  split at e
  · obtain ⟨b, hb, rfl⟩ := Option.map_eq_some_iff.1 e
    exact h b hb
  · exact h a e
theorem thr_st {qf : List Prm} {qb : ByteArray} {h : Hn} {ps : List Prm} (hs : StB h.st) : ∀ (ws : List Wr) (a : An), thrG qf qb h ps ws = some a → StB a.st
  | [], a, e => by
    have e' : handG h qb ps = some a := e
    unfold handG at e'
    split at e'
    · cases e'; exact hs
    split at e'
    · cases e'; exact hs
    split at e'
    · cases e'; exact hs
    split at e'
    · cases e'; exact hs
    · cases e'
  | x :: r, a, e => ware_st (fun b hb => thr_st hs r b hb) e
theorem dsp_st (m t : List UInt8) (es : List Ent) : StB (dspG m t es).st := by
  unfold dspG StB
  split
  · decide
  split
  · simp
  split
  · unfold movG; split <;> simp
  split
  · simp
  · decide
theorem ans_small {V : Sv} {C : Cf} {es : List Ent} {v vh vw : Value} {mx : Int} (ok : SvOk V C es v vh vw mx) (qm qt qb : ByteArray) (fs : List Prm) (ht : qt.size ≤ 2000000) (hq : qb.size ≤ 2000000) (hl : fs.length ≤ 500) (hz : ∀ p ∈ fs, p.1.size + p.2.size ≤ 500) :
    AnsB (repD (pdG C.hd C.bd C.rs C.ws qm.data.toList qt.data.toList) C.rs C.ws fs qb) := by
  have hpd : pdG C.hd C.bd C.rs C.ws qm.data.toList qt.data.toList = dspG qm.data.toList qt.data.toList es := by
    unfold pdG; rw [if_pos ok.E, ← ok.es, dspG_bare]
  obtain ⟨-, c2, c3, -⟩ := cfg_ok ok.E
  have hjn := site_join (Pm.ahead 63 qt.data.toList) ok.S ok.es c3
  have hqtl : qt.data.toList.length = qt.size := by simp
  have hps := dsp_small 4000000 qm.data.toList qt.data.toList es (by omega)
  have hdl := dsp_len qm.data.toList qt.data.toList es
  have hst := dsp_st qm.data.toList qt.data.toList es
  have hok := pd_ok C.hd C.bd C.rs C.ws qm.data.toList qt.data.toList
  rw [hpd] at hok ⊢
  generalize dspG qm.data.toList qt.data.toList es = D at *
  unfold repD
  by_cases he : D.e = 0
  · rw [if_pos he]
    cases hT : toG D C.rs C.ws fs qb with
    | none => exact ⟨by simp [finG], by simp [finG], by simp [finG], (by show (0 : Nat) + 0 ≤ 33000000; omega)⟩
    | some a =>
      have h1 := to_small (K := 4000000) (by omega) (fun p hp => by have := hz p hp; omega) (by omega) hps (fun x hx => by have := ok.ws x hx; omega) (fun r hr => by have := (ok.rs r hr).t; omega) (by omega) (by omega) c2 (by omega) hT
      have h2 : (fldsL a.fs).length ≤ 20000000 ∧ StB a.st := by
        unfold toG at hT
        split at hT
        · rename_i hs2
          have hro := (hok he).ro hs2
          have hr : ∃ r ∈ C.rs, hdOf C.rs D.ro = r.h := by
            unfold hdOf; rw [List.getElem?_eq_getElem hro]; exact ⟨_, List.getElem_mem hro, rfl⟩
          obtain ⟨r, hr1, hr2⟩ := hr
          have hst2 := rts_hnd C.rs [] 0 c3 r hr1
          have h3 := thr_sum (qf := fs) (qb := qb) (h := hdOf C.rs D.ro) (ps := D.ps) hl hz (by rw [hr2]; exact (ok.rs r hr1).t) hps C.ws a ok.ws hT
          have h4 := thr_st (qf := fs) (qb := qb) (h := hdOf C.rs D.ro) (ps := D.ps) (by rw [hr2]; exact ⟨by omega, by omega⟩) C.ws a hT
          exact ⟨by omega, h4⟩
        · cases hT
          unfold restG
          split
          · refine ⟨?_, hst⟩
            have e1 : locB.size ≤ 8 := by decide
            rw [fldsL_one]
            show locB.size + D.lo.toArray.size + 4 ≤ _
            simp; omega
          split
          · refine ⟨?_, hst⟩
            have e1 : allowB.size ≤ 8 := by decide
            rw [fldsL_one]
            show allowB.size + D.al.toArray.size + 4 ≤ _
            simp; omega
          · exact ⟨by simp [fldsL], hst⟩
      have h3 := h1.1.1
      unfold StB at h2
      unfold finG
      simp only
      split
      · exact ⟨by simp, by simp, (by show (0 : Nat) ≤ 50000000; omega), (by show (0 : Nat) + 0 ≤ 33000000; omega)⟩
      · exact ⟨h2.2.1, h2.2.2, h1.2, by simp only; omega⟩
  · rw [if_neg he]; exact ⟨by simp, by simp, (by show (0 : Nat) ≤ 50000000; omega), (by show (0 : Nat) + 0 ≤ 33000000; omega)⟩
end Go.Proofs.YtbphabgjhoifbaaGreatDoor

/- The server's answer of any request; what a connection sends. -/
namespace Go.Proofs.YtbphabgjhoifbaaGreatDoor
open Go.RowKit

abbrev dS (C : Cf) (qm qt : ByteArray) : DsR := pdG C.hd C.bd C.rs C.ws qm.data.toList qt.data.toList
abbrev rS (C : Cf) (qm qt qb : ByteArray) (fs : List Prm) : Rp := repD (dS C qm qt) C.rs C.ws fs qb
theorem fl_kx {fs : List Prm} {fa : Option Addr} {w W : World} {L : List Nat} (h : FlAt fs fa w) (hk : Kx L w W) (hn : ∀ g o, fa = some ⟨g, o, none⟩ → g ∉ L) : FlAt fs fa W := fun i hi => by
  obtain ⟨g, e, h1, h2, h3⟩ := h i hi
  have hb := hk.2 g h1 (hn g 0 e)
  exact ⟨g, e, Nat.lt_of_lt_of_le h1 hk.size, by rw [World.cell?_of_block (w := w) hb]; exact h2, by rw [World.cell?_of_block (w := w) hb]; exact h3⟩
theorem pd_ro {V : Sv} {C : Cf} {es : List Ent} {v vh vw : Value} {mx : Int} (ok : SvOk V C es v vh vw mx) (qm qt : ByteArray) (h : (dS C qm qt).st = 200) : (dS C qm qt).ro < C.rs.length := by
  have he : (dS C qm qt).e = 0 := by
    have hpd : dS C qm qt = dspG qm.data.toList qt.data.toList es := by
      unfold dS pdG; rw [if_pos ok.E, ← ok.es, dspG_bare]
    rw [hpd] at h ⊢
    unfold dspG at h ⊢
    split at h
    · simp at h
    · rename_i h0
      rw [if_neg h0]
      repeat' split
      all_goals rfl
  exact (pd_ok C.hd C.bd C.rs C.ws qm.data.toList qt.data.toList he).ro h
theorem answer_any {V : Sv} {C : Cf} {es : List Ent} {v vh vw : Value} {mx : Int} (ok : SvOk V C es v vh vw mx) (hs : List Int) (hb : ∀ x ∈ hs, 0 ≤ x ∧ x ≤ 4611686018427387904) (hl : hs.length = C.rs.length) (qm qt qb : ByteArray) (fs : List Prm) (fa : Option Addr) (fc : Nat) (w : World) (I : SvI V hs w)
    (hf : FlAt fs fa w) (hfl : fs.length ≤ 500) (hz : ∀ p ∈ fs, p.1.size + p.2.size ≤ 500) (hm : qm.size ≤ 2000000) (ht : qt.size ≤ 2000000) (hq : qb.size ≤ 2000000) (hn : ∀ g o, fa = some ⟨g, o, none⟩ → g ≠ V.s ∧ g ≠ V.h) :
    Calls Tryz.prog 42 #[.pointer (some ⟨V.s, 0, none⟩), .agg (rqA qm qt qb fa fs.length fc)] w fun x w' => (∃ pa pc, x = .returned (.agg (anA (rS C qm qt qb fs).st (.slice pa (rS C qm qt qb fs).fs.length pc) (rS C qm qt qb fs).b (rS C qm qt qb fs).cl)) ∧ w'.ownsRow w.heap.size 133 2 (.slice pa (rS C qm qt qb fs).fs.length pc) (rS C qm qt qb fs).fs.length (prCells (rS C qm qt qb fs).fs)) ∧ SvI V (hitS (dS C qm qt).st (dS C qm qt).ro hs) w' ∧ Kx [V.s, V.h] w w' := by
  have hpd : dS C qm qt = dspG qm.data.toList qt.data.toList es := by
    unfold dS pdG; rw [if_pos ok.E, ← ok.es, dspG_bare]
  obtain ⟨c1, c2, c3, c4⟩ := cfg_ok ok.E
  have hjn := site_join (Pm.ahead 63 qt.data.toList) ok.S ok.es c3
  have hmx : qm.size ≤ maxLen := by unfold maxLen; omega
  refine answer_of V hs _ qm qt qb fa fs.length fc (rS C qm qt qb fs).st (rS C qm qt qb fs).e (rS C qm qt qb fs).fs.length (prCells (rS C qm qt qb fs).fs) (rS C qm qt qb fs).b (rS C qm qt qb fs).cl w I ?_ ?_
  · intro W hW
    refine count_of V hs qm qt qb fa fs.length fc (dS C qm qt).st (dS C qm qt).e (dS C qm qt).ro W (I.below hW) (fun h => by rw [hl]; exact pd_ro ok qm qt h) hb ?_
    intro W2 hW2
    have S := ((I.below hW).below hW2).site ok
    refine (dispatch_any V.gs V.gs es v qm qt W2 S.tb hmx (by omega) (by omega)).mono ?_
    rintro x w' ⟨⟨vv, ua, ul, rfl, h1, h2, ow⟩, hb'⟩
    obtain ⟨pa, pc, rfl⟩ := sl_of ow
    rw [hpd]
    exact ⟨⟨pa, _, pc, ua, ul, rfl⟩, hb'⟩
  · intro W hB hK
    have hfW := fl_kx hf hK (fun g o e => by have := hn g o e; simp; omega)
    refine (siteReply_any V.gs C.hd C.bd C.rs C.ws es v vh vw qm qt qb fs fa fc W (ok.S.below hB) ok.es ok.E ok.rs ok.ws hfW (by omega) (fun i hi => ?_) (fun p hp => by have := hz p hp; omega) hmx ht hq).mono ?_
    · have := hz _ (List.getElem_mem hi); unfold maxLen; omega
    · rintro x w' ⟨⟨vv, rfl, ow⟩, hb'⟩
      obtain ⟨pa, pc, rfl⟩ := sl_of ow
      exact ⟨⟨pa, pc, rfl, ow⟩, hb'⟩
theorem send_any (V : Sv) (c : Nat) (vo : Value) (held : ByteArray) (out : List UInt8) (rq : Nat) (cl : Bool) (m : ByteArray) (R : Rp) (hR : AnsB R) (pa : Option Addr) (pc : Nat) (w : World) (I : CnI V c vo held out rq cl w) (lw : V.s < w.heap.size) (lh : V.h < w.heap.size) (lv : V.w1.heap.size ≤ w.heap.size) (hf : FlAt R.fs pa w) (hlen : out.length + (rendL m.data.toList R.st R.fs R.b.data.toList R.cl).length ≤ 140737488355328)
    (ht : Lib.TabBelow Tryz.prog w.heap.size w "internal/strconv.uint64pow10" .u64 Lib.pow10Tab) :
    Calls Tryz.prog 41 #[.pointer (some ⟨c, 0, none⟩), .string m, .agg (anA R.st (.slice pa R.fs.length pc) R.b R.cl)] w fun x w' => x = .returned (.tuple #[]) ∧ SnI V c vo (shutB R.cl held) (out ++ rendL m.data.toList R.st R.fs R.b.data.toList R.cl) rq (R.cl || cl) w w' := by
  have h := send_of V c vo held out rq cl m R.st pa R.fs.length pc R.b R.cl ⟨(rendL m.data.toList R.st R.fs R.b.data.toList R.cl).toArray⟩ w I lw lh lv (by show out.length + (rendL m.data.toList R.st R.fs R.b.data.toList R.cl).toArray.size ≤ _; simpa using hlen) (fun W hW => by
    refine wRender_any m R.st R.fs pa pc R.b R.cl W (by have := hR.s0; omega) (by have := hR.s1; omega) (fun i hi => ?_) (by have := hR.n; omega) (by have := hR.z; omega) (Lib.tabBelow_of_tabIs (ht W hW))
    obtain ⟨g, e, h1, h2, h3⟩ := hf.below hW i hi
    exact ⟨g, 0, e, h1, by rw [Nat.zero_add]; exact h2, by rw [Nat.zero_add]; exact h3⟩)
  exact h
end Go.Proofs.YtbphabgjhoifbaaGreatDoor

/- A connection while it is given bytes: plain mathematics and what stays. -/
namespace Go.Proofs.YtbphabgjhoifbaaGreatDoor
open Go.RowKit

theorem rend_len (m : List UInt8) (st : Int) (fs : List Pr2) (b : List UInt8) (cl : Bool) (h0 : 0 ≤ st) (h1 : st ≤ 999) (hb : b.length ≤ 1000000000) : (rendL m st fs b cl).length ≤ (fldsL fs).length + b.length + 600 := by
  have n1 := numT_le (b := 10) (n := st) (by omega) (by omega) (by omega)
  have n2 := numT_le (b := 10) (n := (b.length : Int)) (by omega) (by omega) (by omega)
  have hr := reason_le st
  have hr2 : (Pm.reasonB st).data.toList.length = (Pm.reasonB st).size := by simp
  have e1 : (if cl = true then fldL cCon cClose else ([] : List UInt8)).length ≤ 30 := by split <;> decide
  have e2 : (if m = cHead then [] else b).length ≤ b.length := by split <;> simp
  have e3 : cLen.length = 14 := rfl
  unfold rendL preL endL
  have e4 : (fldL cLen (numT 10 b.length)).length = 14 + (numT 10 b.length).length + 4 := by unfold fldL; simp [e3]; omega
  simp only [List.length_append, e4, List.length_cons, List.length_nil]
  omega
theorem frame_body {l : List UInt8} {hd bd : Int} : (frameG l hd bd).2.2.2.2.1.length ≤ l.length := by
  by_cases h : (frameG l hd bd).1 = 0
  · exact (frame_small l hd bd h).b
  · unfold frameG at h ⊢
    split
    · rename_i hr
      rw [if_pos hr] at h
      rw [frameS_bad l hd.toNat bd h]; exact Nat.zero_le _
    · exact Nat.zero_le _
theorem flds_small {l : List UInt8} {F : FrameR} (h : FrSm l F) : (fldsOf F.2.2.2.1).length ≤ 500 ∧ ∀ p ∈ fldsOf F.2.2.2.1, p.1.size + p.2.size ≤ 500 := by
  refine ⟨by unfold fldsOf; rw [List.length_map]; exact h.n, fun p hp => ?_⟩
  unfold fldsOf at hp
  obtain ⟨x, hx, rfl⟩ := List.mem_map.1 hp
  have := h.f x hx
  show x.1.toArray.size + x.2.toArray.size ≤ 500
  simpa using this
theorem ansS_small {V : Sv} {C : Cf} {es : List Ent} {v vh vw : Value} {mx : Int} (ok : SvOk V C es v vh vw mx) (l : List UInt8) (hl : l.length ≤ 2000000) (h : (frameG l C.hd C.bd).1 = 0) : AnsB (ansS C (frameG l C.hd C.bd)) ∧ (textS C (frameG l C.hd C.bd)).length ≤ 33000600 := by
  have hs := frame_small l C.hd C.bd h
  obtain ⟨f1, f2⟩ := flds_small hs
  have ht := hs.t
  have hb := hs.b
  generalize frameG l C.hd C.bd = F at *
  have hA := ans_small ok ⟨F.2.1.toArray⟩ ⟨F.2.2.1.toArray⟩ ⟨F.2.2.2.2.1.toArray⟩ (fldsOf F.2.2.2.1) (by show F.2.2.1.toArray.size ≤ _; simp; omega) (by show F.2.2.2.2.1.toArray.size ≤ _; simp; omega) f1 f2
  have hA' : AnsB (ansS C F) := hA
  refine ⟨hA', ?_⟩
  have hz := hA'.z
  have hbl : (ansS C F).b.data.toList.length = (ansS C F).b.size := by simp
  have := rend_len F.2.1 (ansS C F).st (ansS C F).fs (ansS C F).b.data.toList (ansS C F).cl hA'.s0 hA'.s1 (by omega)
  unfold textS
  omega
theorem refSt_in (e : Int) : 0 ≤ refSt e ∧ refSt e ≤ 999 := by
  unfold refSt
  repeat' split
  all_goals omega
theorem no_len (e : Int) : (rendL [] (refSt e) [] [] true).length ≤ 33000600 := by
  have h := refSt_in e
  have := rend_len [] (refSt e) [] [] true h.1 h.2 (by simp)
  simp [fldsL] at this
  omega
theorem give_fuel (C : Cf) : ∀ (j k : Nat) (S : Cs), S.held.length + 1 ≤ j → j ≤ k → giveL C k S = giveL C j S
  | 0, k, S, h, _ => absurd h (by omega)
  | j + 1, 0, S, _, h2 => absurd h2 (by omega)
  | j + 1, k + 1, S, h, h2 => by
    rw [giveL, giveL]
    split
    · rfl
    split
    · rfl
    split
    · rename_i h0
      have hs := frame_small S.held C.hd C.bd h0
      have hu := hs.u
      have hv := hs.v
      have hd : (oneS C (frameG S.held C.hd C.bd) S).held.length + 1 ≤ j ∨ (oneS C (frameG S.held C.hd C.bd) S).held = [] := by
        unfold oneS sayS
        split
        · exact .inr rfl
        · left; simp only [List.length_drop]; omega
      rcases hd with hd | hd
      · exact give_fuel C j k _ hd (by omega)
      · by_cases hj : 1 ≤ j
        · exact give_fuel C j k _ (by rw [hd]; simpa using hj) (by omega)
        · exfalso
          have : S.held.length = 0 := by omega
          omega
    · rfl
/- what a connection is while it reads -/
structure GvI (V : Sv) (C : Cf) (c : Nat) (vo0 : Value) (w : World) (FIN : Cs) (g : Nat) (S : Cs) (vo : Value) (wr : World) : Prop where
  eq : giveL C g S = FIN
  fu : S.cl = false → S.held.length + 1 ≤ g
  sv : SvI V S.hs wr
  cn : CnI V c vo ⟨S.held.toArray⟩ S.out S.rq S.cl wr
  kx : Kx (cnL V c vo0) w wr
  ob : ∀ r, vo.ownBlock = some r → vo0.ownBlock = some r ∨ w.heap.size ≤ r
  hl : S.hs.length = C.rs.length
  hb : ∀ x ∈ S.hs, 0 ≤ x ∧ x + S.held.length ≤ 4611686018427387904
  ol : S.out.length + (S.held.length + 1) * 34000000 ≤ 140737488355328
  rb : S.rq + S.held.length ≤ 4611686018427387904
  hz : S.held.length ≤ 2000000
theorem GvI.below {V : Sv} {C : Cf} {c : Nat} {vo0 vo : Value} {w wr wc : World} {FIN S : Cs} {g : Nat} (I : GvI V C c vo0 w FIN g S vo wr) (hb : Below wr.heap.size wr wc) : GvI V C c vo0 w FIN g S vo wc :=
  ⟨I.eq, I.fu, I.sv.below hb, I.cn.below hb, I.kx.next hb, I.ob, I.hl, I.hb, I.ol, I.rb, I.hz⟩
theorem hit_in {st : Int} {ro : Nat} {hs : List Int} {K L : Int} (h : ∀ x ∈ hs, 0 ≤ x ∧ x + K ≤ 4611686018427387904) (hK : L + 1 ≤ K) : ∀ x ∈ hitS st ro hs, 0 ≤ x ∧ x + L ≤ 4611686018427387904 := by
  unfold hitS
  intro x hx
  split at hx
  · rcases List.mem_or_eq_of_mem_set hx with q | q
    · have := h x q; omega
    · subst q
      cases hg : hs[ro]? with
      | none =>
        have hlen : hs.length ≤ ro := List.getElem?_eq_none_iff.1 hg
        rw [List.set_eq_of_length_le hlen, hg] at hx
        have := h _ hx
        omega
      | some y =>
        have := h y (List.mem_of_getElem? hg)
        simp only [Option.getD_some]; omega
  · have := h x hx; omega
end Go.Proofs.YtbphabgjhoifbaaGreatDoor

/- What Frame leaves behind, in memory. -/
namespace Go.Proofs.YtbphabgjhoifbaaGreatDoor
open Go.RowKit

theorem cfg_lim {hd bd : Int} {rs : List Rt} {ws : List Wr} (h : (cfgE hd bd rs ws).2 = 0) : 32 ≤ hd ∧ hd ≤ 500 ∧ 0 ≤ bd ∧ bd ≤ 200 := by
  unfold cfgE at h
  by_cases h1 : decide (32 ≤ hd ∧ hd ≤ 500 ∧ 0 ≤ bd ∧ bd ≤ 200) = false
  · rw [if_pos h1] at h; exact absurd h (by decide)
  · exact of_decide_eq_true (by cases q : decide (32 ≤ hd ∧ hd ≤ 500 ∧ 0 ≤ bd ∧ bd ≤ 200); exact absurd q h1; rfl)
theorem wFrameG_any (hd bd : Int) (l : List UInt8) (mx : Int) (w : World) (hr : 32 ≤ hd ∧ hd ≤ 500 ∧ 0 ≤ bd ∧ bd ≤ 200) (hl : l.length ≤ 2000000) (hm : w.cell? ⟨1, 0, none⟩ = some (.int .i64 mx)) :
    Calls Tryz.prog 35 #[.agg #[.int .i64 hd, .int .i64 bd], .string ⟨l.toArray⟩] w fun r w' => (∃ a cap, r = .returned (.tuple #[.agg (rqA ⟨(frameG l hd bd).2.1.toArray⟩ ⟨(frameG l hd bd).2.2.1.toArray⟩ ⟨(frameG l hd bd).2.2.2.2.1.toArray⟩ a (fldsOf (frameG l hd bd).2.2.2.1).length cap), .int .i64 (frameG l hd bd).2.2.2.2.2, .int .i64 (frameG l hd bd).1]) ∧ FlAt (fldsOf (frameG l hd bd).2.2.2.1) a w' ∧ ∀ g o, a = some ⟨g, o, none⟩ → w.heap.size ≤ g ∧ g < w'.heap.size) ∧ Below w.heap.size w w' := by
  obtain ⟨n, rfl⟩ : ∃ n : Nat, hd = n := ⟨hd.toNat, by omega⟩
  have e : frameG l n bd = frameS l n bd := by unfold frameG; rw [if_pos hr, Int.toNat_natCast]
  rw [e]
  refine (wFrame_any n bd ⟨l.toArray⟩ mx w (by show l.toArray.size ≤ _; simp; omega) (by omega) (by omega) (by omega) (by omega) hm).mono ?_
  rintro r w' ⟨⟨v, rfl, ow⟩, hb⟩
  have ow' : w'.ownsRow w.heap.size 133 2 v (frameS l n bd).2.2.2.1.length (flat (frameS l n bd).2.2.2.1) := ow
  obtain ⟨a, cap, rfl, hf⟩ := flat_at ow'
  exact ⟨⟨a, cap, rfl, hf, fun g o e => own_lt' ow' (by rw [e]; rfl)⟩, hb⟩
abbrev rqF (F : FrameR) (a : Option Addr) (cap : Nat) : Array Value := rqA ⟨F.2.1.toArray⟩ ⟨F.2.2.1.toArray⟩ ⟨F.2.2.2.2.1.toArray⟩ a (fldsOf F.2.2.2.1).length cap
abbrev rqZ : Array Value := #[.string ⟨#[]⟩, .string ⟨#[]⟩, .slice none 0 0, .string ⟨#[]⟩]
structure FqI (F : FrameR) (wr : World) (qb : Nat) (a : Option Addr) (cap : Nat) (W : World) : Prop where
  bel : Below wr.heap.size wr W
  ge : wr.heap.size ≤ qb
  blk : W.heap[qb]? = some (.cells (rqF F a cap) 58 (0, 0))
  fl : FlAt (fldsOf F.2.2.2.1) a W
  far : ∀ g o, a = some ⟨g, o, none⟩ → wr.heap.size ≤ g ∧ g ≠ qb
theorem rq_held {w1 w2 : World} (hb : Below (w1.drew.alloc (.cells rqZ 58)).heap.size (w1.drew.alloc (.cells rqZ 58)) w2) : w2.cell? ⟨w1.heap.size, 0, none⟩ = some (.string ⟨#[]⟩) ∧ w2.cell? ⟨w1.heap.size, 1, none⟩ = some (.string ⟨#[]⟩) ∧ w2.cell? ⟨w1.heap.size, 2, none⟩ = some (.slice none 0 0) ∧ w2.cell? ⟨w1.heap.size, 3, none⟩ = some (.string ⟨#[]⟩) ∧ w2.frozen? ⟨w1.heap.size, 0, none⟩ = false ∧ w2.frozen? ⟨w1.heap.size, 1, none⟩ = false ∧ w2.frozen? ⟨w1.heap.size, 2, none⟩ = false ∧ w2.frozen? ⟨w1.heap.size, 3, none⟩ = false := by
  have h : w2.heap[w1.heap.size]? = some (.cells rqZ 58 (0, 0)) := alloc_held (w1 := w1.drew) hb
  refine ⟨?_, ?_, ?_, ?_, Lib.frozen_of_heap h 0, Lib.frozen_of_heap h 1, Lib.frozen_of_heap h 2, Lib.frozen_of_heap h 3⟩ <;> (rw [Lib.cell_of_heap h]; rfl)
theorem fq_new {F : FrameR} {w1 w2 : World} {a : Option Addr} {cap B : Nat} (h : Below w1.heap.size w1 w2) (hf : FlAt (fldsOf F.2.2.2.1) a w2) (hn : ∀ g o, a = some ⟨g, o, none⟩ → B ≤ g ∧ g < w2.heap.size) (hB : w1.heap.size ≤ B) : FqI F w1 w2.heap.size a cap (w2.alloc (.cells (rqF F a cap) 58)) :=
  ⟨h.alloc h.size _, h.size, heap_alloc_new w2 _, hf.below ((Below.refl _ _).alloc (Nat.le_refl _) _), fun g o e => by have := hn g o e; omega⟩
theorem fq_set {F : FrameR} {w1 w2 : World} {a : Option Addr} {cap : Nat} (h : Below w1.heap.size w1 w2) (hz : w2.heap[w1.heap.size]? = some (.cells rqZ 58 (0, 0))) (hf : FlAt (fldsOf F.2.2.2.1) a w2) (hn : ∀ g o, a = some ⟨g, o, none⟩ → w1.heap.size + 1 ≤ g ∧ g < w2.heap.size) : FqI F w1 w1.heap.size a cap ((((w2.setCell ⟨w1.heap.size, 0, none⟩ (.string ⟨F.2.1.toArray⟩)).setCell ⟨w1.heap.size, 1, none⟩ (.string ⟨F.2.2.1.toArray⟩)).setCell ⟨w1.heap.size, 2, none⟩ (.slice a (fldsOf F.2.2.2.1).length cap)).setCell ⟨w1.heap.size, 3, none⟩ (.string ⟨F.2.2.2.2.1.toArray⟩)) := by
  have hb := heap_set (heap_set (heap_set (heap_set hz 0 (.string ⟨F.2.1.toArray⟩)) 1 (.string ⟨F.2.2.1.toArray⟩)) 2 (.slice a (fldsOf F.2.2.2.1).length cap)) 3 (.string ⟨F.2.2.2.2.1.toArray⟩)
  have hk := an_kx w1.heap.size w2 (.string ⟨F.2.1.toArray⟩) (.string ⟨F.2.2.1.toArray⟩) (.slice a (fldsOf F.2.2.2.1).length cap) (.string ⟨F.2.2.2.2.1.toArray⟩)
  exact ⟨an_set h _ _ _ _, Nat.le_refl _, hb, fl_kx hf hk (fun g o e => by have := hn g o e; simp; omega), fun g o e => by have := hn g o e; omega⟩
theorem gf_of {c sv : Nat} {hd bd : Int} {x : ByteArray} {w1 W : World} (h1 : w1.cell? ⟨c, 0, none⟩ = some (.pointer (some ⟨sv, 0, none⟩))) (h2 : w1.cell? ⟨c, 1, none⟩ = some (.string x)) (h3 : w1.cell? ⟨sv, 0, none⟩ = some (.int .i64 hd)) (h4 : w1.cell? ⟨sv, 1, none⟩ = some (.int .i64 bd)) (hb : Below w1.heap.size w1 W) : Below w1.heap.size w1 W ∧ W.cell? ⟨c, 0, none⟩ = some (.pointer (some ⟨sv, 0, none⟩)) ∧ W.cell? ⟨c, 1, none⟩ = some (.string x) ∧ W.cell? ⟨sv, 0, none⟩ = some (.int .i64 hd) ∧ W.cell? ⟨sv, 1, none⟩ = some (.int .i64 bd) :=
  ⟨hb, cell_later hb h1, cell_later hb h2, cell_later hb h3, cell_later hb h4⟩
theorem frame_none {hd bd : Int} (hr : 32 ≤ hd ∧ hd ≤ 500 ∧ 0 ≤ bd ∧ bd ≤ 200) : (frameG [] hd bd).1 = 2 := by
  unfold frameG
  rw [if_pos hr]
  have hl : Pm.lineS [] hd.toNat 5 = (2, [], 0) := by
    rw [Pm.lineS_none (by simp [Pm.behind])]
    rw [if_pos (by simp; omega)]
  have h : Pm.headS (hd.toNat + 1) true [] hd.toNat [] [] [] 0 = Pm.headBad 2 := by
    rw [headS_succ, hl]; rfl
  unfold frameS
  rw [h]
  rfl
theorem gv_next {V : Sv} {C : Cf} {c : Nat} {vo0 vo vo2 : Value} {w wc W : World} {FIN S S' : Cs} {f : Nat} (I : GvI V C c vo0 w FIN (f + 1) S vo wc) (hcl : S.cl = false) (he : giveL C f S' = FIN) (hlt : S'.held.length + 1 ≤ S.held.length) (sv : SvI V S'.hs W) (cn : CnI V c vo2 ⟨S'.held.toArray⟩ S'.out S'.rq S'.cl W) (kx : Kx (cnL V c vo) wc W)
    (ob : ∀ r, vo2.ownBlock = some r → vo.ownBlock = some r ∨ wc.heap.size ≤ r) (hl : S'.hs.length = S.hs.length) (hb : ∀ x ∈ S'.hs, 0 ≤ x ∧ x + S'.held.length ≤ 4611686018427387904) (ho : S'.out.length ≤ S.out.length + 33000600) (hr : S'.rq ≤ S.rq + 1) : GvI V C c vo0 w FIN f S' vo2 W := by
  have h1 := I.fu hcl
  have h2 := I.ol
  have h3 := I.rb
  have h4 := I.hz
  have h5 := I.kx.size
  refine ⟨he, fun _ => by omega, sv, cn, I.kx.trans kx (fun b hb => ?_), fun r hr => ?_, by rw [hl]; exact I.hl, hb, by omega, by omega, by omega⟩
  · simp only [List.mem_append, List.mem_cons, List.not_mem_nil, or_false, Option.mem_toList] at hb ⊢
    rcases hb with hb | hb
    · exact .inl (.inl hb)
    · rcases I.ob b hb with q | q
      · exact .inl (.inr q)
      · exact .inr q
  · rcases ob r hr with q | q
    · exact I.ob r q
    · exact .inr (by omega)
theorem gq_of {qb c sv cap : Nat} {F : FrameR} {fa : Option Addr} {W : World} (hq : W.heap[qb]? = some (.cells (rqF F fa cap) 58 (0, 0))) (hc : W.cell? ⟨c, 0, none⟩ = some (.pointer (some ⟨sv, 0, none⟩))) : W.cell? ⟨qb, 0, none⟩ = some (.string ⟨F.2.1.toArray⟩) ∧ W.cell? ⟨qb, 1, none⟩ = some (.string ⟨F.2.2.1.toArray⟩) ∧ W.cell? ⟨qb, 2, none⟩ = some (.slice fa (fldsOf F.2.2.2.1).length cap) ∧ W.cell? ⟨qb, 3, none⟩ = some (.string ⟨F.2.2.2.2.1.toArray⟩) ∧ W.cell? ⟨c, 0, none⟩ = some (.pointer (some ⟨sv, 0, none⟩)) := by
  refine ⟨?_, ?_, ?_, ?_, hc⟩ <;> (rw [Lib.cell_of_heap hq]; rfl)
theorem sn_kx {V : Sv} {c : Nat} {vo : Value} {w W : World} (h : Kx (c :: vo.ownBlock.toList) w W) : Kx (cnL V c vo) w W :=
  h.mono (fun b hb => .inl (by simp only [List.mem_append, List.mem_cons, List.not_mem_nil, or_false] at hb ⊢; rcases hb with q | q; exact .inl (.inr (.inr q)); exact .inr q))
end Go.Proofs.YtbphabgjhoifbaaGreatDoor
