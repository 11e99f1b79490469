/- Texts that follow one another, joined. -/
import Derived.Test.YtfdhmeojkagokaaGreatDoorJoin25
import Derived.Test.YtfdhmeojkagokaaGreatDoorJoin22
import Derived.RegionDies
/- What comes of a request that leads to a route, by the reference. -/
namespace Go.Proofs.YtfdhmeojkagokaaGreatDoor
open Go.RowKit

def AwPost (F : Rp) (w : World) (x : Ending) (w' : World) : Prop :=
  (∃ vv, x = .returned (.agg #[.int .i64 F.st, vv, .string F.b, .bool F.cl]) ∧ w'.ownsRow w.heap.size 70 2 vv F.fs.length (prCells F.fs)) ∧ Below w.heap.size w w'
theorem ro_six {w wr : World} {h b rv wv q0 q1 q2 q3 s0 s1 s2 s3 s4 vv v2 v3 v4 v5 : Value} {ga g k : Nat} {st : Int} {bb : ByteArray} (I : RoI w #[h, b, rv, wv] #[q0, q1, q2, q3] #[s0, s1, s2, s3, s4] ga st vv bb wr) (p2 : w.cell? ⟨g, k + 2, none⟩ = some v2) (p3 : w.cell? ⟨g, k + 3, none⟩ = some v3) (p4 : w.cell? ⟨g, k + 4, none⟩ = some v4) (p5 : w.cell? ⟨g, k + 5, none⟩ = some v5) :
    wr.cell? ⟨w.heap.size, 2, none⟩ = some rv ∧ wr.cell? ⟨w.heap.size + 1 + 1, 1, none⟩ = some s1 ∧ wr.cell? ⟨w.heap.size + 1 + 1, 2, none⟩ = some s2 ∧ wr.cell? ⟨g, k + 2, none⟩ = some v2 ∧ wr.cell? ⟨g, k + 3, none⟩ = some v3 ∧ wr.cell? ⟨g, k + 4, none⟩ = some v4 ∧ wr.cell? ⟨g, k + 5, none⟩ = some v5 ∧ wr.cell? ⟨w.heap.size + 1, 0, none⟩ = some q0 ∧ wr.cell? ⟨w.heap.size + 1, 1, none⟩ = some q1 ∧ wr.cell? ⟨w.heap.size + 1, 2, none⟩ = some q2 ∧ wr.cell? ⟨w.heap.size + 1, 3, none⟩ = some q3 :=
  ⟨(I.c.cell 2).trans rfl, (I.f.cell 1).trans rfl, (I.f.cell 2).trans rfl, cell_later I.bl p2, cell_later I.bl p3, cell_later I.bl p4, cell_later I.bl p5, (I.q.cell 0).trans rfl, (I.q.cell 1).trans rfl, (I.q.cell 2).trans rfl, (I.q.cell 3).trans rfl⟩
set_option maxRecDepth 100000 in
set_option maxHeartbeats 16000000 in
theorem rrouted_any (hd bd : Int) (rs : List Rt) (ws : List Wr) (ar : Option Addr) (cr : Nat) (aw : Option Addr) (cw : Nat) (qm qt qb : ByteArray) (fs : List Prm) (fa : Option Addr) (fc : Nat) (st : Int) (ro : Nat) (ps : List Prm) (pa : Option Addr) (pc : Nat) (ua ul : ByteArray) (w : World)
    (hR : MuAt 6 Rt.cells rs ar w) (hW : MuAt 4 Wr.cells ws aw w) (hwl : ws.length ≤ 6) (hcw : ws.length ≤ cw) (hro : ro < rs.length) (hf : FoAt fs fa w) (hl : fs.length ≤ 1000000) (hz : ∀ i (h : i < fs.length), fs[i].1.size ≤ maxLen) (hz2 : ∀ p ∈ fs, p.2.size ≤ 2000000) (hwn : ∀ x ∈ ws, x.n.size ≤ 1048576 ∧ x.v.size ≤ 1048576) (hp : FlAt ps pa w) (hpl : ps.length ≤ 1000000)
    (hsm : ∀ a, thrG fs qb (hdOf rs ro) ps ws = some a → SmA 4000000 a) :
    Calls Tryz.prog 49 #[.agg #[.int .i64 hd, .int .i64 bd, .slice ar rs.length cr, .slice aw ws.length cw], .agg #[.string qm, .string qt, .slice fa fs.length fc, .string qb], .agg #[.int .i64 st, .int .i64 ro, .slice pa ps.length pc, .string ua, .string ul]] w (AwPost (finG (askG fs) (thrG fs qb (hdOf rs ro) ps ws)) w) := by
  obtain ⟨hA, C0, Q0, F0, R0⟩ := roI_new #[.int .i64 hd, .int .i64 bd, .slice ar rs.length cr, .slice aw ws.length cw] #[.string qm, .string qt, .slice fa fs.length fc, .string qb] #[.int .i64 st, .int .i64 ro, .slice pa ps.length pc, .string ua, .string ul] w
  have HCL := hid (fun W (hb : Below w.heap.size w W) => rclosing_any qm qt qb fs fa fc W (hf.below hb) hl hz (fun x hx => by
    obtain ⟨p, hp, rfl⟩ := vals_in hx
    have := hz2 p hp
    unfold maxLen; omega))
  have hwm : ∀ x ∈ ws, x.n.size ≤ maxLen := fun x hx => by have := hwn x hx; unfold maxLen; omega
  have HDP := hid (fun W (hb : Below w.heap.size w W) => rdeep_any ws aw cw qm qt qb fs fa fc W (hW.below hb) (by omega) (hf.below hb) hl hz hwm)
  have hdl := deep_le fs qb ws
  have htd := thr_deep fs qb (hdOf rs ro) ps ws
  have HHD := hid (fun W (hb : Below w.heap.size w W) => rhandled_any (hdOf rs ro).k (hdOf rs ro).st (hdOf rs ro).t (hdOf rs ro).n qm qt qb fa fs.length fc ps pa pc W (hp.below hb) hpl)
  have hgl : ∀ a, (if (deepG fs qb ws).2 = 0 then handG (hdOf rs ro) qb ps else some ⟨(deepG fs qb ws).2, [], ⟨#[]⟩⟩) = some a → a.fs.length ≤ 1 := fun a h => by
    split at h
    · exact handG_le h
    · cases h; simp
  have hbig : ∀ n k a, aroG fs (if (deepG fs qb ws).2 = 0 then handG (hdOf rs ro) qb ps else some ⟨(deepG fs qb ws).2, [], ⟨#[]⟩⟩) ((ws.take n).drop k) = some a → a.fs.length ≤ 50000000 := fun n k a h => by
    have h1 := aro_le fs _ 1 hgl _ a h
    have h2 : ((ws.take n).drop k).length ≤ 6 := by simp; omega
    have h3 : ((ws.take n).drop k).length * (fs.length + 1) ≤ 6 * (fs.length + 1) := Nat.mul_le_mul_right _ h2
    omega
  have HAR := hid (fun (W : World) (n : Nat) (st : Int) (b : ByteArray) (f0 : List Prm) (v0 : Value) (up : Bool) (hb : Below w.heap.size w W) ho hG hup => raround_any (ws.take n) aw cw qm qt qb fs fa fc st b f0 v0 up (if (deepG fs qb ws).2 = 0 then handG (hdOf rs ro) qb ps else some ⟨(deepG fs qb ws).2, [], ⟨#[]⟩⟩) w W hb ho hG hup (mu_take hW n) (by simp; omega) hf hl hz (fun x hx => hwm x (List.mem_of_mem_take hx)) (hbig n))
  obtain ⟨gR, oR, hgR⟩ : ∃ gR oR, ar = some ⟨gR, oR, none⟩ := by
    obtain ⟨g, o, h1, _⟩ := hR ro hro
    exact ⟨g, o, h1⟩
  subst hgR
  obtain ⟨g', o', e', hg0, -, -, p2, p3, p4, p5⟩ := rt_cells hR hro
  simp only [Option.some.injEq, Addr.mk.injEq, and_true] at e'
  obtain ⟨rfl, rfl⟩ := e'
  have hhd : hdOf rs ro = rs[ro].h := by unfold hdOf; rw [List.getElem?_eq_getElem hro]
  rw [← hhd] at p2 p3 p4 p5
  have hsm2 := hsm
  rw [htd] at hsm2 ⊢
  generalize hDD : deepG fs qb ws = DD at *
  obtain ⟨n, stop⟩ := DD
  simp only at *
  generalize hdOf rs ro = hx at *
  obtain ⟨xk, xst, xt, xn⟩ := hx
  simp only at *
  have hnn : (ws.take n).length = n := by rw [List.length_take]; omega
  have HAR2 := hid (fun W st b f0 v0 up hb ho hG hup => HAR.out W n st b f0 v0 up hb ho hG hup)
  rw [hnn] at HAR2
  generalize askG fs = sh at *
  have HSM := hid hsm2
  have HLE := hid (fun a (h : aroG fs (if stop = 0 then handG ⟨xk, xst, xt, xn⟩ qb ps else some ⟨stop, [], ⟨#[]⟩⟩) (ws.take n) = some a) => Nat.le_trans (hbig n 0 a (by rw [List.drop_zero]; exact h)) (show 50000000 ≤ 100000000 by decide))
  clear HAR hR hW hf hz hz2 hwn hp hpl hsm hsm2 htd hbig hgl hwm hhd hDD
  generalize hGG : (if stop = 0 then handG ⟨xk, xst, xt, xn⟩ qb ps else some ⟨stop, [], ⟨#[]⟩⟩ : Option An) = GG at *
  have HGG := hid hGG
  clear hGG
  generalize handG ⟨xk, xst, xt, xn⟩ qb ps = HG at *
  have hFIN : ∀ G2, aroG fs GG (ws.take n) = G2 → finG sh (aroG fs GG (ws.take n)) = finG sh G2 := fun _ h => by rw [h]
  generalize hG2 : aroG fs GG (ws.take n) = G2 at *
  clear hFIN hG2
  go_enter Tryz.func49, Tryz.ntmps49
  go_wp2_with fail
  generalize (((w.alloc (.cells #[.int .i64 hd, .int .i64 bd, .slice (some ⟨gR, oR, none⟩) rs.length cr, .slice aw ws.length cw] 27)).alloc (.cells #[.string qm, .string qt, .slice fa fs.length fc, .string qb] 30)).alloc (.cells #[.int .i64 st, .int .i64 ro, .slice pa ps.length pc, .string ua, .string ul] 63)).alloc (.cells #[.int .i64 0, .slice none 0 0, .string ⟨#[]⟩, .bool false] 44) = w1 at *
  refine (HCL.out _ hA).mono ?_
  rintro x w2 ⟨rfl, hb2⟩
  have hB2 := bel_of hA hb2
  have C2 := C0.below hb2
  have Q2 := Q0.below hb2
  have F2 := F0.below hb2
  have R2 := R0.below hb2
  have c3 : w2.cell? ⟨w.heap.size, 3, none⟩ = some (.slice aw ws.length cw) := (C2.cell 3).trans rfl
  have q0 : w2.cell? ⟨w.heap.size + 1, 0, none⟩ = some (.string qm) := (Q2.cell 0).trans rfl
  have q1 : w2.cell? ⟨w.heap.size + 1, 1, none⟩ = some (.string qt) := (Q2.cell 1).trans rfl
  have q2 : w2.cell? ⟨w.heap.size + 1, 2, none⟩ = some (.slice fa fs.length fc) := (Q2.cell 2).trans rfl
  have q3 : w2.cell? ⟨w.heap.size + 1, 3, none⟩ = some (.string qb) := (Q2.cell 3).trans rfl
  have lc := C2.lt
  have lq := Q2.lt
  clear HCL C0 Q0 F0 R0
  go_wp2_with fail
  refine (HDP.out _ hB2).mono ?_
  rintro x w3 ⟨rfl, hb3⟩
  have hB3 := bel_of hB2 hb3
  have b4 := (Below.refl w3.heap.size w3).alloc (Nat.le_refl _) (.cells #[.int .i64 stop, .slice none 0 0, .string ⟨#[]⟩, .bool false] 44)
  have R3 := R2.below hb3
  have l3 := R3.lt
  have A4 : AnB w3.heap.size stop (.slice none 0 0) ⟨#[]⟩ false (w3.alloc (.cells #[.int .i64 stop, .slice none 0 0, .string ⟨#[]⟩, .bool false] 44)) := heap_alloc_new w3 _
  have I4 : RoI w #[.int .i64 hd, .int .i64 bd, .slice (some ⟨gR, oR, none⟩) rs.length cr, .slice aw ws.length cw] #[.string qm, .string qt, .slice fa fs.length fc, .string qb] #[.int .i64 st, .int .i64 ro, .slice pa ps.length pc, .string ua, .string ul] w3.heap.size stop (.slice none 0 0) ⟨#[]⟩ _ := ⟨(C2.below hb3).below b4, (Q2.below hb3).below b4, (F2.below hb3).below b4, R3.below b4, A4, l3, bel_of hB3 b4⟩
  have HI4 := hid I4
  clear HDP C2 Q2 F2 R2 R3 A4 b4 c3 q0 q1 q2 q3 I4
  go_upto_if 26 with fail
  generalize w3.alloc (.cells #[.int .i64 stop, .slice none 0 0, .string ⟨#[]⟩, .bool false] 44) = w4 at *
  go_cut [11] from 27 (fun ok wx => Hid (RoG w #[.int .i64 hd, .int .i64 bd, .slice (some ⟨gR, oR, none⟩) rs.length cr, .slice aw ws.length cw] #[.string qm, .string qt, .slice fa fs.length fc, .string qb] #[.int .i64 st, .int .i64 ro, .slice pa ps.length pc, .string ua, .string ul] w3.heap.size GG ok wx))
  case first =>
    by_cases h0 : stop = 0
    · have e0 : (stop == 0) = true := by simpa using h0
      have hg := HGG.out
      rw [if_pos h0] at hg
      subst hg
      obtain ⟨x1, x2, x3, x4, x5, x6, x7, x8, x9, x10, x11⟩ := ro_six HI4.out p2 p3 p4 p5
      have lc4 := HI4.out.c.lt
      have lq4 := HI4.out.q.lt
      have lf4 := HI4.out.f.lt
      have la4 := HI4.out.a.lt
      have hg4 : gR < w4.heap.size := Nat.lt_of_lt_of_le hg0 HI4.out.bl.size
      have HP := hid (And.intro p2 (And.intro p3 (And.intro p4 p5)))
      have hbd := HI4.out.bl.drew
      clear HGG HAR2 HSM p2 p3 p4 p5 e0
      subst h0
      cases HG with
      | none =>
        go_wp2_with fail
        go_region_held3 (fun W => W.cell? ⟨w.heap.size, 2, none⟩ = some (.slice (some ⟨gR, oR, none⟩) rs.length cr) ∧ W.cell? ⟨w.heap.size + 1 + 1, 1, none⟩ = some (.int .i64 ro) ∧ W.cell? ⟨w.heap.size + 1 + 1, 2, none⟩ = some (.slice pa ps.length pc) ∧ W.cell? ⟨gR, oR + ro * 6 + 2, none⟩ = some (.int .i64 xk) ∧ W.cell? ⟨gR, oR + ro * 6 + 3, none⟩ = some (.int .i64 xst) ∧ W.cell? ⟨gR, oR + ro * 6 + 4, none⟩ = some (.string xt) ∧ W.cell? ⟨gR, oR + ro * 6 + 5, none⟩ = some (.string xn) ∧ W.cell? ⟨w.heap.size + 1, 0, none⟩ = some (.string qm) ∧ W.cell? ⟨w.heap.size + 1, 1, none⟩ = some (.string qt) ∧ W.cell? ⟨w.heap.size + 1, 2, none⟩ = some (.slice fa fs.length fc) ∧ W.cell? ⟨w.heap.size + 1, 3, none⟩ = some (.string qb)) (first | exact HKEEP.out | go_keep)
          (first | (go_at_call 88; refine (HHD.out _ hbd).mono ?_; rintro x w5 ⟨rfl, hb5⟩; have I5 := HI4.out.below (bel_of (Below.refl w4.heap.size w4).drew hb5); have J5 := I5.set 0 (.slice none 0 0) ⟨#[]⟩; have HJ5 := hid J5; have HKEEP := hid (ro_six J5 HP.out.1 HP.out.2.1 HP.out.2.2.1 HP.out.2.2.2); obtain ⟨y1, y2, y3, y4, y5, y6, y7, y8, y9, y10, y11⟩ := ro_six I5 HP.out.1 HP.out.2.1 HP.out.2.2.1 HP.out.2.2.2; obtain ⟨m0, m1, m2, m3⟩ := I5.a.cells; have n0 := I5.a.free 0; have n1 := I5.a.free 1; have n2 := I5.a.free 2; have n3 := I5.a.free 3; have l5 := I5.a.lt; unfold setA at HKEEP HJ5; clear I5 J5 hb5))
        all_goals
          go_wp2_with fail
          go_meet
          exact ⟨rfl, HJ5.out⟩
      | some an =>
        go_wp2_with fail
        go_region_held3 (fun W => W.cell? ⟨w.heap.size, 2, none⟩ = some (.slice (some ⟨gR, oR, none⟩) rs.length cr) ∧ W.cell? ⟨w.heap.size + 1 + 1, 1, none⟩ = some (.int .i64 ro) ∧ W.cell? ⟨w.heap.size + 1 + 1, 2, none⟩ = some (.slice pa ps.length pc) ∧ W.cell? ⟨gR, oR + ro * 6 + 2, none⟩ = some (.int .i64 xk) ∧ W.cell? ⟨gR, oR + ro * 6 + 3, none⟩ = some (.int .i64 xst) ∧ W.cell? ⟨gR, oR + ro * 6 + 4, none⟩ = some (.string xt) ∧ W.cell? ⟨gR, oR + ro * 6 + 5, none⟩ = some (.string xn) ∧ W.cell? ⟨w.heap.size + 1, 0, none⟩ = some (.string qm) ∧ W.cell? ⟨w.heap.size + 1, 1, none⟩ = some (.string qt) ∧ W.cell? ⟨w.heap.size + 1, 2, none⟩ = some (.slice fa fs.length fc) ∧ W.cell? ⟨w.heap.size + 1, 3, none⟩ = some (.string qb)) (first | exact HKEEP.out | go_keep)
          (first | (go_at_call 88; refine (HHD.out _ hbd).mono ?_; rintro x w5 ⟨⟨vv, rfl, ow5⟩, hb5⟩; obtain ⟨ax, cx, rfl⟩ := sl_of ow5; have I5 := HI4.out.below (bel_of (Below.refl w4.heap.size w4).drew hb5); have J5 := I5.set an.st (.slice ax an.fs.length cx) an.b; have hno : ∀ g, (Value.slice ax an.fs.length cx).ownBlock = some g → w3.heap.size < g := fun g e => Nat.lt_of_lt_of_le la4 (own_ge ow5 g e); have HJ5 := hid (And.intro J5 (And.intro (owns_setA (g := w3.heap.size) (st := an.st) (vv := .slice ax an.fs.length cx) (b := an.b) (cl := false) (owns_base ow5 hbd.size) (fun e => Nat.lt_irrefl _ (hno _ e))) hno)); have HKEEP := hid (ro_six J5 HP.out.1 HP.out.2.1 HP.out.2.2.1 HP.out.2.2.2); obtain ⟨y1, y2, y3, y4, y5, y6, y7, y8, y9, y10, y11⟩ := ro_six I5 HP.out.1 HP.out.2.1 HP.out.2.2.1 HP.out.2.2.2; obtain ⟨m0, m1, m2, m3⟩ := I5.a.cells; have n0 := I5.a.free 0; have n1 := I5.a.free 1; have n2 := I5.a.free 2; have n3 := I5.a.free 3; have l5 := I5.a.lt; unfold setA at HKEEP HJ5; clear I5 J5 hb5 ow5 hno))
        all_goals
          go_wp2_with fail
          go_meet
          exact ⟨rfl, _, HJ5.out⟩
    · have e0 : (stop == 0) = false := by simpa using h0
      have hg := HGG.out
      rw [if_neg h0] at hg
      subst hg
      clear HGG HAR2 HSM HHD
      go_wp2_with fail
      go_meet
      exact ⟨rfl, _, HI4.out, World.ownsRow_nil _ _ _ _, fun g e => by simp [Value.ownBlock] at e⟩
  case rest =>
    clear HHD HGG HI4 p2 p3 p4 p5 hg0
    go_upto_region 7 with fail
    go_cut [12] from 41 (fun up wx => Hid (RuG w #[.int .i64 hd, .int .i64 bd, .slice (some ⟨gR, oR, none⟩) rs.length cr, .slice aw ws.length cw] #[.string qm, .string qt, .slice fa fs.length fc, .string qb] #[.int .i64 st, .int .i64 ro, .slice pa ps.length pc, .string ua, .string ul] w3.heap.size G2 up wx))
    case first =>
      cases GG with
      | none =>
        obtain ⟨rfl, I⟩ := hcut.out
        have c3 : wc.cell? ⟨w.heap.size, 3, none⟩ = some (.slice aw ws.length cw) := (I.c.cell 3).trans rfl
        have q0 : wc.cell? ⟨w.heap.size + 1, 0, none⟩ = some (.string qm) := (I.q.cell 0).trans rfl
        have q1 : wc.cell? ⟨w.heap.size + 1, 1, none⟩ = some (.string qt) := (I.q.cell 1).trans rfl
        have q2 : wc.cell? ⟨w.heap.size + 1, 2, none⟩ = some (.slice fa fs.length fc) := (I.q.cell 2).trans rfl
        have q3 : wc.cell? ⟨w.heap.size + 1, 3, none⟩ = some (.string qb) := (I.q.cell 3).trans rfl
        obtain ⟨m0, m1, m2, m3⟩ := I.a.cells
        have lc5 := I.c.lt
        have lq5 := I.q.lt
        have la5 := I.a.lt
        have hga := I.g
        have hnw : (n : Int) ≤ (cw : Int) := by omega
        have HI := hid I
        have HAC := hid (HAR2.out wc.drew 0 ⟨#[]⟩ [] (.slice none 0 0) true I.bl.drew (World.ownsRow_nil _ _ _ _) (by rfl) (fun _ => ⟨rfl, rfl, rfl, rfl⟩))
        clear HAR2 hcut I HSM
        cases G2 with
        | none =>
          go_region_with (first | (go_at_call 89; refine HAC.out.mono ?_; rintro x w6 ⟨rfl, hb6, hz6, hk6⟩; have I6 := HI.out.keep (w' := w6) (fun g hg => hk6 g (Nat.lt_of_le_of_lt hg la5) (by simp [Value.ownBlock])) hb6; obtain ⟨r0, r1, r2, r3⟩ := I6.a.cells; have n0 := I6.a.free 0; have n1 := I6.a.free 1; have n2 := I6.a.free 2; have n3 := I6.a.free 3; have l6 := I6.a.lt; have HJ := hid (I6.set 0 (.slice none 0 0) ⟨#[]⟩); unfold setA at HJ; clear I6 hk6))
          all_goals
            go_wp2_with fail
            go_meet
            exact ⟨rfl, HJ.out⟩
        | some an2 =>
          go_region_with (first | (go_at_call 89; refine HAC.out.mono ?_; rintro x w6 ⟨⟨vv6, rfl, ow6, nk6⟩, hb6, hz6, hk6⟩; obtain ⟨ax, cx, rfl⟩ := sl_of ow6; have I6 := HI.out.keep (w' := w6) (fun g hg => hk6 g (Nat.lt_of_le_of_lt hg la5) (by simp [Value.ownBlock])) hb6; obtain ⟨r0, r1, r2, r3⟩ := I6.a.cells; have n0 := I6.a.free 0; have n1 := I6.a.free 1; have n2 := I6.a.free 2; have n3 := I6.a.free 3; have l6 := I6.a.lt; have hno6 : ∀ g, g ≤ w3.heap.size → (Value.slice ax an2.fs.length cx).ownBlock ≠ some g := fun g hg => nk6 g (Nat.lt_of_le_of_lt hg la5) (by simp [Value.ownBlock]); have HJ := hid (And.intro (I6.set an2.st (.slice ax an2.fs.length cx) an2.b) (And.intro (owns_setA (g := w3.heap.size) (st := an2.st) (vv := .slice ax an2.fs.length cx) (b := an2.b) (cl := false) ow6 (hno6 _ (Nat.le_refl _))) hno6)); unfold setA at HJ; clear I6 hk6 nk6 ow6))
          all_goals
            go_wp2_with fail
            go_meet
            exact ⟨rfl, _, HJ.out⟩
      | some an =>
        obtain ⟨rfl, vv0, I, ow, hno⟩ := hcut.out
        obtain ⟨a0, e0, rfl⟩ := sl_of ow
        have c3 : wc.cell? ⟨w.heap.size, 3, none⟩ = some (.slice aw ws.length cw) := (I.c.cell 3).trans rfl
        have q0 : wc.cell? ⟨w.heap.size + 1, 0, none⟩ = some (.string qm) := (I.q.cell 0).trans rfl
        have q1 : wc.cell? ⟨w.heap.size + 1, 1, none⟩ = some (.string qt) := (I.q.cell 1).trans rfl
        have q2 : wc.cell? ⟨w.heap.size + 1, 2, none⟩ = some (.slice fa fs.length fc) := (I.q.cell 2).trans rfl
        have q3 : wc.cell? ⟨w.heap.size + 1, 3, none⟩ = some (.string qb) := (I.q.cell 3).trans rfl
        obtain ⟨m0, m1, m2, m3⟩ := I.a.cells
        have lc5 := I.c.lt
        have lq5 := I.q.lt
        have la5 := I.a.lt
        have hga := I.g
        have hnw : (n : Int) ≤ (cw : Int) := by omega
        have HI := hid I
        have HAC := hid (HAR2.out wc.drew an.st an.b an.fs (.slice a0 an.fs.length e0) false I.bl.drew ow.drew (by simp) (fun h => by cases h))
        have hn0 : ∀ g, g ≤ w3.heap.size → (Value.slice a0 an.fs.length e0).ownBlock ≠ some g := fun g hg e => by have := hno g e; omega
        clear HAR2 hcut I HSM ow hno
        cases G2 with
        | none =>
          go_region_with (first | (go_at_call 89; refine HAC.out.mono ?_; rintro x w6 ⟨rfl, hb6, hz6, hk6⟩; have I6 := HI.out.keep (w' := w6) (fun g hg => hk6 g (Nat.lt_of_le_of_lt hg la5) (hn0 g hg)) hb6; obtain ⟨r0, r1, r2, r3⟩ := I6.a.cells; have n0 := I6.a.free 0; have n1 := I6.a.free 1; have n2 := I6.a.free 2; have n3 := I6.a.free 3; have l6 := I6.a.lt; have HJ := hid (I6.set 0 (.slice none 0 0) ⟨#[]⟩); unfold setA at HJ; clear I6 hk6))
          all_goals
            go_wp2_with fail
            go_meet
            exact ⟨rfl, HJ.out⟩
        | some an2 =>
          go_region_with (first | (go_at_call 89; refine HAC.out.mono ?_; rintro x w6 ⟨⟨vv6, rfl, ow6, nk6⟩, hb6, hz6, hk6⟩; obtain ⟨ax, cx, rfl⟩ := sl_of ow6; have I6 := HI.out.keep (w' := w6) (fun g hg => hk6 g (Nat.lt_of_le_of_lt hg la5) (hn0 g hg)) hb6; obtain ⟨r0, r1, r2, r3⟩ := I6.a.cells; have n0 := I6.a.free 0; have n1 := I6.a.free 1; have n2 := I6.a.free 2; have n3 := I6.a.free 3; have l6 := I6.a.lt; have hno6 : ∀ g, g ≤ w3.heap.size → (Value.slice ax an2.fs.length cx).ownBlock ≠ some g := fun g hg => nk6 g (Nat.lt_of_le_of_lt hg la5) (hn0 g hg); have HJ := hid (And.intro (I6.set an2.st (.slice ax an2.fs.length cx) an2.b) (And.intro (owns_setA (g := w3.heap.size) (st := an2.st) (vv := .slice ax an2.fs.length cx) (b := an2.b) (cl := false) ow6 (hno6 _ (Nat.le_refl _))) hno6)); unfold setA at HJ; clear I6 hk6 nk6 ow6))
          all_goals
            go_wp2_with fail
            go_meet
            exact ⟨rfl, _, HJ.out⟩
    case rest =>
      clear HAR2
      cases G2 with
      | none =>
        obtain ⟨rfl, I⟩ := hcut.out
        obtain ⟨c0, c1, c2, c3⟩ := I.r.cells
        have f0 := I.r.free 0
        have f1 := I.r.free 1
        have f2 := I.r.free 2
        have f3 := I.r.free 3
        have lr := I.r.lt
        obtain ⟨d0, d1, d2, d3⟩ := (I.r.set 500 (.slice none 0 0) ⟨#[]⟩ true).cells
        have HB := hid (below_setA (g := w.heap.size + 1 + 1 + 1) (st := 500) (vv := .slice none 0 0) (b := ⟨#[]⟩) (cl := true) I.bl (by omega))
        unfold setA at d0 d1 d2 d3 HB
        clear I hcut HSM
        go_wp2_with fail
        refine bodyPost_ret (v := .agg #[.int .i64 500, .slice none 0 0, .string ⟨#[]⟩, .bool true]) (by simp [results, Tryz.results49, go_sem, d0, d1, d2, d3]) rfl ?_
        exact ⟨⟨_, rfl, World.ownsRow_nil _ _ _ _⟩, HB.out⟩
      | some an =>
        obtain ⟨rfl, vv, I, ow, hno⟩ := hcut.out
        obtain ⟨ax, cx, rfl⟩ := sl_of ow
        have hsm := HSM.out an rfl
        have HCL := hid (rclean_any an.fs ax cx wc (fl_own ow) (HLE.out an rfl) (fun i hi => by have := (hsm.2 _ (List.getElem_mem hi)).2; unfold maxLen; omega))
        have hFIN1 : an.fs.any (fun p => endG p.2) = true → finG sh (some an) = ⟨500, [], ⟨#[]⟩, sh, 0⟩ := fun h => any_end h an rfl sh
        have hFIN2 : an.fs.any (fun p => endG p.2) = false → finG sh (some an) = ⟨an.st, an.fs, an.b, sh, 0⟩ := fun h => any_no h an rfl sh
        have HF1 := hid hFIN1
        have HF2 := hid hFIN2
        generalize finG sh (some an) = FIN at *
        generalize an.fs.any (fun p => endG p.2) = EB at *
        obtain ⟨x0, x1, x2, x3⟩ := I.a.cells
        have la := I.a.lt
        have HI := hid I
        have HOW := hid ow
        have HNO := hid hno
        clear I ow hno hcut HSM hFIN1 hFIN2 hsm HLE
        go_wp2_with fail
        refine HCL.out.mono ?_
        rintro x w8 ⟨rfl, hb8⟩
        have I8 := HI.out.below hb8
        have ow8 := owns_below HOW.out hb8
        clear HCL x0 x1 x2 x3
        have hg8 := I8.g
        cases EB with
        | true =>
          have hf := HF1.out rfl
          subst hf
          obtain ⟨c0, c1, c2, c3⟩ := I8.r.cells
          have f0 := I8.r.free 0
          have f1 := I8.r.free 1
          have f2 := I8.r.free 2
          have f3 := I8.r.free 3
          have lr := I8.r.lt
          obtain ⟨d0, d1, d2, d3⟩ := (I8.r.set 500 (.slice none 0 0) ⟨#[]⟩ sh).cells
          have HB := hid (below_setA (g := w.heap.size + 1 + 1 + 1) (st := 500) (vv := .slice none 0 0) (b := ⟨#[]⟩) (cl := sh) I8.bl (by omega))
          unfold setA at d0 d1 d2 d3 HB
          clear I8 HI HF1 HF2 HOW HNO ow8
          go_wp2_with fail
          refine bodyPost_ret (v := .agg #[.int .i64 500, .slice none 0 0, .string ⟨#[]⟩, .bool sh]) (by simp [results, Tryz.results49, go_sem, d0, d1, d2, d3]) rfl ?_
          exact ⟨⟨_, rfl, World.ownsRow_nil _ _ _ _⟩, HB.out⟩
        | false =>
          have hf := HF2.out rfl
          subst hf
          have t3 := I8.a.free 3
          obtain ⟨z0, z1, z2, z3⟩ := I8.a.cells
          have la8 := I8.a.lt
          have A9 : AnB w3.heap.size an.st (.slice ax an.fs.length cx) an.b sh (w8.setCell ⟨w3.heap.size, 3, none⟩ (.bool sh)) := by
            have := I8.a
            unfold AnB at *
            rw [heap_setCell_same _ w3.heap.size 3 _ _ _ this]; rfl
          have R9 := I8.r.bl.other (show w.heap.size + 1 + 1 + 1 ≠ w3.heap.size by omega) 3 (.bool sh)
          have R9' : AnB (w.heap.size + 1 + 1 + 1) 0 (.slice none 0 0) ⟨#[]⟩ false _ := R9
          have hB9 := I8.bl.setCell (p := ⟨w3.heap.size, 3, none⟩) (show w.heap.size ≤ w3.heap.size by omega) (.bool sh)
          obtain ⟨y0, y1, y2, y3⟩ := A9.cells
          obtain ⟨c0, c1, c2, c3⟩ := R9'.cells
          have f0 := R9'.free 0
          have f1 := R9'.free 1
          have f2 := R9'.free 2
          have f3 := R9'.free 3
          have lr := R9'.lt
          have l9 := A9.lt
          obtain ⟨d0, d1, d2, d3⟩ := (R9'.set an.st (.slice ax an.fs.length cx) an.b sh).cells
          have HB := hid (below_setA (g := w.heap.size + 1 + 1 + 1) (st := an.st) (vv := .slice ax an.fs.length cx) (b := an.b) (cl := sh) hB9 (by omega))
          have HO := hid (owns_setA (g := w.heap.size + 1 + 1 + 1) (st := an.st) (vv := .slice ax an.fs.length cx) (b := an.b) (cl := sh) (owns_not ow8 (HNO.out _ (Nat.le_refl _)) 3 (.bool sh)) (HNO.out _ (by omega)))
          unfold setA at d0 d1 d2 d3 HB HO
          clear I8 HI HF1 HF2 HOW HNO ow8 A9 R9 R9' hB9
          go_wp2_with fail
          refine bodyPost_ret (v := .agg #[.int .i64 an.st, .slice ax an.fs.length cx, .string an.b, .bool sh]) (by simp [results, Tryz.results49, go_sem, d0, d1, d2, d3]) rfl ?_
          exact ⟨⟨_, rfl, HO.out⟩, HB.out⟩
end Go.Proofs.YtfdhmeojkagokaaGreatDoor

/- The rest of the wares, from within. -/
namespace Go.Proofs.YtfdhmeojkagokaaGreatDoor
open Go.RowKit

set_option maxRecDepth 100000 in
set_option maxHeartbeats 8000000 in
theorem inside_one (r : Rn) (g1 g2 g o : Nat) (G : Option An) (w : World) (R : RnB g1 r w) (hs : w.cell? ⟨g2, 0, none⟩ = some (.slice (some ⟨g, o, none⟩) 1 1)) (HIN : ∀ W, Below w.heap.size w W → Calls Tryz.prog 66 #[.agg r.vals, .slice (some ⟨g, o, none⟩) 0 0] W (ThPost G W)) :
    Calls Tryz.prog 111 #[.pointer (some ⟨g1, 0, none⟩), .pointer (some ⟨g2, 0, none⟩)] w (ThPost G w) := by
  have hA := (Below.refl w.heap.size w).alloc (Nat.le_refl _) (.cells #[.int .i64 0, .slice none 0 0, .string ⟨#[]⟩, .bool false] 44)
  have A1 : AnB w.heap.size 0 (.slice none 0 0) ⟨#[]⟩ false (w.alloc (.cells #[.int .i64 0, .slice none 0 0, .string ⟨#[]⟩, .bool false] 44)) := heap_alloc_new w _
  have R1 := R.below hA
  have s1 := cell_later hA hs
  have HI := hid HIN
  obtain ⟨r0, r1, r2, r3, r4, r5, r6, r7, r8⟩ := R1.cells
  have lr := R1.lt
  have lr0 := R.lt
  have ls := block_lt_of_cell s1
  have ls0 := block_lt_of_cell hs
  clear HIN R1 R hs
  obtain ⟨qm, qt, qb, fs, fa, fc, ps, pa, pc, ⟨hk', hst, ht, hn'⟩⟩ := r
  simp only [Rn.vals] at *
  go_enter Tryz.func111, Tryz.ntmps111
  go_upto_region 1 with fail
  generalize w.alloc (.cells #[.int .i64 0, .slice none 0 0, .string ⟨#[]⟩, .bool false] 44) = w1 at *
  have la := A1.lt
  have HI1 := hid (fun W (hW : Below w1.heap.size w1 W) => HI.out W (bel_of hA hW))
  have HA1 := hid A1
  have hb1 := Below.refl w1.heap.size w1
  clear HI
  cases G with
  | none =>
    go_region_dies
    all_goals go_wp2_with (go_at_call 66; refine (HI1.out _ hb1.drew).mono ?_; rintro x wA ⟨rfl, hbA⟩; exact ⟨rfl, rfl, bel_of hA (bel_of hb1.drew hbA)⟩)
  | some a =>
    have nr : g1 ≠ w.heap.size := by omega
    have ns : g2 ≠ w.heap.size := by omega
    have HE := hid (fun (ax : Option Addr) (cx : Nat) (w3 : World) (o3 : w3.ownsRow w1.heap.size 70 2 (.slice ax a.fs.length cx) a.fs.length (prCells a.fs)) (hb3 : Below w1.heap.size w1 w3) => (And.intro (owns_setA (st := a.st) (vv := .slice ax a.fs.length cx) (b := a.b) (cl := false) (owns_base o3 hA.size) (fun e => by have := own_ge o3 _ e; omega)) (below_setA (st := a.st) (vv := .slice ax a.fs.length cx) (b := a.b) (cl := false) (bel_of hA hb3) (Nat.le_refl w.heap.size)) : (setA w.heap.size a.st (.slice ax a.fs.length cx) a.b false w3).ownsRow w.heap.size 70 2 (.slice ax a.fs.length cx) a.fs.length (prCells a.fs) ∧ Below w.heap.size w (setA w.heap.size a.st (.slice ax a.fs.length cx) a.b false w3)))
    have HKP : Hid (∀ (w3 w4 : World), (∃ vv, w4 = setA w.heap.size a.st vv a.b false w3) → Below w1.heap.size w1 w3 → w4.cell? ⟨g2, 0, none⟩ = some (.slice (some ⟨g, o, none⟩) 1 1) ∧ w4.cell? ⟨g1, 0, none⟩ = some (.string qm) ∧ w4.cell? ⟨g1, 1, none⟩ = some (.string qt) ∧ w4.cell? ⟨g1, 2, none⟩ = some (.slice fa fs.length fc) ∧ w4.cell? ⟨g1, 3, none⟩ = some (.string qb) ∧ w4.cell? ⟨g1, 4, none⟩ = some (.slice pa ps.length pc) ∧ w4.cell? ⟨g1, 5, none⟩ = some (.int .i64 hk') ∧ w4.cell? ⟨g1, 6, none⟩ = some (.int .i64 hst) ∧ w4.cell? ⟨g1, 7, none⟩ = some (.string ht) ∧ w4.cell? ⟨g1, 8, none⟩ = some (.string hn')) := by
      rintro w3 w4 ⟨vv, rfl⟩ hb
      exact ⟨(cell_setA ns).trans (cell_later hb s1), (cell_setA nr).trans (cell_later hb r0), (cell_setA nr).trans (cell_later hb r1), (cell_setA nr).trans (cell_later hb r2), (cell_setA nr).trans (cell_later hb r3), (cell_setA nr).trans (cell_later hb r4), (cell_setA nr).trans (cell_later hb r5), (cell_setA nr).trans (cell_later hb r6), (cell_setA nr).trans (cell_later hb r7), (cell_setA nr).trans (cell_later hb r8)⟩
    go_region_held3 (fun W => W.cell? ⟨g2, 0, none⟩ = some (.slice (some ⟨g, o, none⟩) 1 1) ∧ W.cell? ⟨g1, 0, none⟩ = some (.string qm) ∧ W.cell? ⟨g1, 1, none⟩ = some (.string qt) ∧ W.cell? ⟨g1, 2, none⟩ = some (.slice fa fs.length fc) ∧ W.cell? ⟨g1, 3, none⟩ = some (.string qb) ∧ W.cell? ⟨g1, 4, none⟩ = some (.slice pa ps.length pc) ∧ W.cell? ⟨g1, 5, none⟩ = some (.int .i64 hk') ∧ W.cell? ⟨g1, 6, none⟩ = some (.int .i64 hst) ∧ W.cell? ⟨g1, 7, none⟩ = some (.string ht) ∧ W.cell? ⟨g1, 8, none⟩ = some (.string hn')) (first | go_keep | exact HKEEP.out)
      (first | (go_at_call 66; refine (HI1.out _ hb1.drew).mono ?_; rintro x w3 ⟨⟨vv, rfl, ow⟩, hb3⟩; obtain ⟨ax, cx, rfl⟩ := sl_of ow; have hbD := bel_of hb1.drew hb3; have o3 := owns_base ow hb1.drew.size; have A3 := HA1.out.below hbD; obtain ⟨c0, c1, c2, c3⟩ := A3.cells; have f0 := A3.free 0; have f1 := A3.free 1; have f2 := A3.free 2; have f3 := A3.free 3; have l3 := A3.lt; obtain ⟨d0, d1, d2, d3⟩ := (A3.set a.st (.slice ax a.fs.length cx) a.b false).cells; have HF := hid (HE.out ax cx w3 o3 hbD); have z0 := cell_later hbD r0; have z1 := cell_later hbD r1; have z2 := cell_later hbD r2; have z3 := cell_later hbD r3; have z4 := cell_later hbD r4; have z5 := cell_later hbD r5; have z6 := cell_later hbD r6; have z7 := cell_later hbD r7; have z8 := cell_later hbD r8; have zs := cell_later hbD s1; have HKEEP := hid (HKP.out w3 (setA w.heap.size a.st (.slice ax a.fs.length cx) a.b false w3) ⟨_, rfl⟩ hbD); unfold setA at d0 d1 d2 d3 HKEEP; clear ow o3))
    all_goals clear HI1 HE HKP A1
    all_goals go_wp2_with fail
    all_goals
      refine bodyPost_ret (v := .agg #[.int .i64 a.st, .slice ax a.fs.length cx, .string a.b, .bool false]) (by simp [results, Tryz.results111, go_sem, d0, d1, d2, d3]) rfl ?_
      exact ⟨⟨_, rfl, HF.out.1⟩, HF.out.2⟩
set_option maxRecDepth 100000 in
set_option maxHeartbeats 8000000 in
theorem inside_more (r : Rn) (g1 g2 g o n c : Nat) (G : Option An) (w : World) (R : RnB g1 r w) (hs : w.cell? ⟨g2, 0, none⟩ = some (.slice (some ⟨g, o, none⟩) (n + 1) c)) (hc : n + 1 ≤ c) (hn : n ≤ 1000000) (hc1 : ¬ c = 1) (HIN : ∀ W, Below w.heap.size w W → Calls Tryz.prog 66 #[.agg r.vals, .slice (some ⟨g, o + 4, none⟩) n (c - 1)] W (ThPost G W)) :
    Calls Tryz.prog 111 #[.pointer (some ⟨g1, 0, none⟩), .pointer (some ⟨g2, 0, none⟩)] w (ThPost G w) := by
  have hA := (Below.refl w.heap.size w).alloc (Nat.le_refl _) (.cells #[.int .i64 0, .slice none 0 0, .string ⟨#[]⟩, .bool false] 44)
  have A1 : AnB w.heap.size 0 (.slice none 0 0) ⟨#[]⟩ false (w.alloc (.cells #[.int .i64 0, .slice none 0 0, .string ⟨#[]⟩, .bool false] 44)) := heap_alloc_new w _
  have R1 := R.below hA
  have s1 := cell_later hA hs
  have HI := hid HIN
  obtain ⟨r0, r1, r2, r3, r4, r5, r6, r7, r8⟩ := R1.cells
  have lr := R1.lt
  have lr0 := R.lt
  have ls := block_lt_of_cell s1
  have ls0 := block_lt_of_cell hs
  have k1 : (1 : Int) ≤ (n : Int) + 1 := by omega
  have k2 : (n : Int) + 1 ≤ (c : Int) := by omega
  clear HIN R1 R hs
  obtain ⟨qm, qt, qb, fs, fa, fc, ps, pa, pc, ⟨hk', hst, ht, hn'⟩⟩ := r
  simp only [Rn.vals] at *
  go_enter Tryz.func111, Tryz.ntmps111
  go_upto_region 1 with fail
  generalize w.alloc (.cells #[.int .i64 0, .slice none 0 0, .string ⟨#[]⟩, .bool false] 44) = w1 at *
  have la := A1.lt
  have HI1 := hid (fun W (hW : Below w1.heap.size w1 W) => HI.out W (bel_of hA hW))
  have HA1 := hid A1
  have hb1 := Below.refl w1.heap.size w1
  clear HI
  cases G with
  | none =>
    go_region_dies
    all_goals go_wp2_with (go_at_call 66; refine (HI1.out _ hb1.drew).mono ?_; rintro x wA ⟨rfl, hbA⟩; exact ⟨rfl, rfl, bel_of hA (bel_of hb1.drew hbA)⟩)
  | some a =>
    have nr : g1 ≠ w.heap.size := by omega
    have ns : g2 ≠ w.heap.size := by omega
    have HE := hid (fun (ax : Option Addr) (cx : Nat) (w3 : World) (o3 : w3.ownsRow w1.heap.size 70 2 (.slice ax a.fs.length cx) a.fs.length (prCells a.fs)) (hb3 : Below w1.heap.size w1 w3) => (And.intro (owns_setA (st := a.st) (vv := .slice ax a.fs.length cx) (b := a.b) (cl := false) (owns_base o3 hA.size) (fun e => by have := own_ge o3 _ e; omega)) (below_setA (st := a.st) (vv := .slice ax a.fs.length cx) (b := a.b) (cl := false) (bel_of hA hb3) (Nat.le_refl w.heap.size)) : (setA w.heap.size a.st (.slice ax a.fs.length cx) a.b false w3).ownsRow w.heap.size 70 2 (.slice ax a.fs.length cx) a.fs.length (prCells a.fs) ∧ Below w.heap.size w (setA w.heap.size a.st (.slice ax a.fs.length cx) a.b false w3)))
    have HKP : Hid (∀ (w3 w4 : World), (∃ vv, w4 = setA w.heap.size a.st vv a.b false w3) → Below w1.heap.size w1 w3 → w4.cell? ⟨g2, 0, none⟩ = some (.slice (some ⟨g, o, none⟩) (n + 1) c) ∧ w4.cell? ⟨g1, 0, none⟩ = some (.string qm) ∧ w4.cell? ⟨g1, 1, none⟩ = some (.string qt) ∧ w4.cell? ⟨g1, 2, none⟩ = some (.slice fa fs.length fc) ∧ w4.cell? ⟨g1, 3, none⟩ = some (.string qb) ∧ w4.cell? ⟨g1, 4, none⟩ = some (.slice pa ps.length pc) ∧ w4.cell? ⟨g1, 5, none⟩ = some (.int .i64 hk') ∧ w4.cell? ⟨g1, 6, none⟩ = some (.int .i64 hst) ∧ w4.cell? ⟨g1, 7, none⟩ = some (.string ht) ∧ w4.cell? ⟨g1, 8, none⟩ = some (.string hn')) := by
      rintro w3 w4 ⟨vv, rfl⟩ hb
      exact ⟨(cell_setA ns).trans (cell_later hb s1), (cell_setA nr).trans (cell_later hb r0), (cell_setA nr).trans (cell_later hb r1), (cell_setA nr).trans (cell_later hb r2), (cell_setA nr).trans (cell_later hb r3), (cell_setA nr).trans (cell_later hb r4), (cell_setA nr).trans (cell_later hb r5), (cell_setA nr).trans (cell_later hb r6), (cell_setA nr).trans (cell_later hb r7), (cell_setA nr).trans (cell_later hb r8)⟩
    go_region_held3 (fun W => W.cell? ⟨g2, 0, none⟩ = some (.slice (some ⟨g, o, none⟩) (n + 1) c) ∧ W.cell? ⟨g1, 0, none⟩ = some (.string qm) ∧ W.cell? ⟨g1, 1, none⟩ = some (.string qt) ∧ W.cell? ⟨g1, 2, none⟩ = some (.slice fa fs.length fc) ∧ W.cell? ⟨g1, 3, none⟩ = some (.string qb) ∧ W.cell? ⟨g1, 4, none⟩ = some (.slice pa ps.length pc) ∧ W.cell? ⟨g1, 5, none⟩ = some (.int .i64 hk') ∧ W.cell? ⟨g1, 6, none⟩ = some (.int .i64 hst) ∧ W.cell? ⟨g1, 7, none⟩ = some (.string ht) ∧ W.cell? ⟨g1, 8, none⟩ = some (.string hn')) (first | go_keep | exact HKEEP.out)
      (first | (go_at_call 66; refine (HI1.out _ hb1.drew).mono ?_; rintro x w3 ⟨⟨vv, rfl, ow⟩, hb3⟩; obtain ⟨ax, cx, rfl⟩ := sl_of ow; have hbD := bel_of hb1.drew hb3; have o3 := owns_base ow hb1.drew.size; have A3 := HA1.out.below hbD; obtain ⟨c0, c1, c2, c3⟩ := A3.cells; have f0 := A3.free 0; have f1 := A3.free 1; have f2 := A3.free 2; have f3 := A3.free 3; have l3 := A3.lt; obtain ⟨d0, d1, d2, d3⟩ := (A3.set a.st (.slice ax a.fs.length cx) a.b false).cells; have HF := hid (HE.out ax cx w3 o3 hbD); have z0 := cell_later hbD r0; have z1 := cell_later hbD r1; have z2 := cell_later hbD r2; have z3 := cell_later hbD r3; have z4 := cell_later hbD r4; have z5 := cell_later hbD r5; have z6 := cell_later hbD r6; have z7 := cell_later hbD r7; have z8 := cell_later hbD r8; have zs := cell_later hbD s1; have HKEEP := hid (HKP.out w3 (setA w.heap.size a.st (.slice ax a.fs.length cx) a.b false w3) ⟨_, rfl⟩ hbD); unfold setA at d0 d1 d2 d3 HKEEP; clear ow o3))
    all_goals clear HI1 HE HKP A1
    all_goals go_wp2_with fail
    all_goals
      refine bodyPost_ret (v := .agg #[.int .i64 a.st, .slice ax a.fs.length cx, .string a.b, .bool false]) (by simp [results, Tryz.results111, go_sem, d0, d1, d2, d3]) rfl ?_
      exact ⟨⟨_, rfl, HF.out.1⟩, HF.out.2⟩
theorem inside_any (r : Rn) (g1 g2 g o n c : Nat) (G : Option An) (w : World) (R : RnB g1 r w) (hs : w.cell? ⟨g2, 0, none⟩ = some (.slice (some ⟨g, o, none⟩) (n + 1) c)) (hc : n + 1 ≤ c) (hn : n ≤ 1000000) (HIN : ∀ W, Below w.heap.size w W → Calls Tryz.prog 66 #[.agg r.vals, .slice (if c = 1 then some ⟨g, o, none⟩ else some ⟨g, o + 4, none⟩) n (c - 1)] W (ThPost G W)) :
    Calls Tryz.prog 111 #[.pointer (some ⟨g1, 0, none⟩), .pointer (some ⟨g2, 0, none⟩)] w (ThPost G w) := by
  by_cases hc1 : c = 1
  · subst hc1
    obtain rfl : n = 0 := by omega
    exact inside_one r g1 g2 g o G w R hs HIN
  · refine inside_more r g1 g2 g o n c G w R hs hc hn hc1 (fun W hW => ?_)
    have := HIN W hW
    rw [if_neg hc1] at this
    exact this
end Go.Proofs.YtfdhmeojkagokaaGreatDoor

/- Through all wares. -/
namespace Go.Proofs.YtfdhmeojkagokaaGreatDoor
open Go.RowKit

theorem through_mem (r : Rn) (v : Value) (w : World) : Below w.heap.size w (((w.alloc (.cells r.vals 124)).alloc (.cells #[v] 25)).alloc (.cells #[.int .i64 0, .slice none 0 0, .string ⟨#[]⟩, .bool false] 44)) ∧ RnB w.heap.size r (((w.alloc (.cells r.vals 124)).alloc (.cells #[v] 25)).alloc (.cells #[.int .i64 0, .slice none 0 0, .string ⟨#[]⟩, .bool false] 44)) ∧ (((w.alloc (.cells r.vals 124)).alloc (.cells #[v] 25)).alloc (.cells #[.int .i64 0, .slice none 0 0, .string ⟨#[]⟩, .bool false] 44)).cell? ⟨w.heap.size + 1, 0, none⟩ = some v ∧ AnB (w.heap.size + 1 + 1) 0 (.slice none 0 0) ⟨#[]⟩ false (((w.alloc (.cells r.vals 124)).alloc (.cells #[v] 25)).alloc (.cells #[.int .i64 0, .slice none 0 0, .string ⟨#[]⟩, .bool false] 44)) := by
  have hA1 := (Below.refl w.heap.size w).alloc (Nat.le_refl _) (.cells r.vals 124)
  have hA2 := hA1.alloc hA1.size (.cells #[v] 25)
  have hA := hA2.alloc hA2.size (.cells #[.int .i64 0, .slice none 0 0, .string ⟨#[]⟩, .bool false] 44)
  have z1 : (w.alloc (.cells r.vals 124)).heap.size = w.heap.size + 1 := by simp
  have z2 : ((w.alloc (.cells r.vals 124)).alloc (.cells #[v] 25)).heap.size = w.heap.size + 1 + 1 := by simp
  have b1 : Below (w.alloc (.cells r.vals 124)).heap.size (w.alloc (.cells r.vals 124)) ((w.alloc (.cells r.vals 124)).alloc (.cells #[v] 25)) := (Below.refl _ _).alloc (Nat.le_refl _) _
  have b2 : Below ((w.alloc (.cells r.vals 124)).alloc (.cells #[v] 25)).heap.size ((w.alloc (.cells r.vals 124)).alloc (.cells #[v] 25)) (((w.alloc (.cells r.vals 124)).alloc (.cells #[v] 25)).alloc (.cells #[.int .i64 0, .slice none 0 0, .string ⟨#[]⟩, .bool false] 44)) := (Below.refl _ _).alloc (Nat.le_refl _) _
  have R0 : RnB w.heap.size r (w.alloc (.cells r.vals 124)) := heap_alloc_new w _
  have X0 : ((w.alloc (.cells r.vals 124)).alloc (.cells #[v] 25)).cell? ⟨w.heap.size + 1, 0, none⟩ = some v := by
    have h := heap_alloc_new (w.alloc (.cells r.vals 124)) (.cells #[v] 25)
    rw [z1] at h; rw [Lib.cell_of_heap h]; rfl
  have A0 : AnB (w.heap.size + 1 + 1) 0 (.slice none 0 0) ⟨#[]⟩ false (((w.alloc (.cells r.vals 124)).alloc (.cells #[v] 25)).alloc (.cells #[.int .i64 0, .slice none 0 0, .string ⟨#[]⟩, .bool false] 44)) := by
    have h := heap_alloc_new ((w.alloc (.cells r.vals 124)).alloc (.cells #[v] 25)) (.cells #[.int .i64 0, .slice none 0 0, .string ⟨#[]⟩, .bool false] 44)
    rw [z2] at h; exact h
  exact ⟨hA, (R0.below b1).below b2, cell_later b2 X0, A0⟩
set_option maxRecDepth 100000 in
set_option maxHeartbeats 8000000 in
theorem through_nil (r : Rn) (a : Option Addr) (c : Nat) (w : World) (hr : RnAt r w) :
    Calls Tryz.prog 66 #[.agg r.vals, .slice a 0 c] w (ThPost (handG r.h r.qb r.ps) w) := by
  obtain ⟨hA, R1, s1, A1⟩ := through_mem r (.slice a 0 c) w
  have HH := hid (fun W (hW : Below w.heap.size w W) => handle_any r W (hr.below hW))
  generalize handG r.h r.qb r.ps = G at *
  obtain ⟨r0, r1, r2, r3, r4, r5, r6, r7, r8⟩ := R1.cells
  have lr := R1.lt
  clear hr R1
  obtain ⟨qm, qt, qb, fs, fa, fc, ps, pa, pc, ⟨hk', hst, ht, hn⟩⟩ := r
  simp only [Rn.vals] at *
  go_enter Tryz.func66, Tryz.ntmps66
  go_upto_region 2 with fail
  generalize ((w.alloc (.cells #[.string qm, .string qt, .slice fa fs.length fc, .string qb, .slice pa ps.length pc, .int .i64 hk', .int .i64 hst, .string ht, .string hn] 124)).alloc (.cells #[.slice a 0 c] 25)).alloc (.cells #[.int .i64 0, .slice none 0 0, .string ⟨#[]⟩, .bool false] 44) = w1 at *
  have HEND := hid (HH.out w1 hA)
  have la := A1.lt
  clear HH
  go_wp2_with fail
  refine HEND.out.mono ?_
  cases G with
  | none =>
    rintro x w2 ⟨rfl, hb2⟩
    exact ⟨rfl, rfl, bel_of hA hb2⟩
  | some a =>
    rintro x w2 ⟨⟨vv, rfl, ow⟩, hb2⟩
    have A2 := A1.below hb2
    have hB2 := bel_of hA hb2
    have hno : vv.ownBlock ≠ some (w.heap.size + 1 + 1) := fun e => by have := own_ge ow _ e; omega
    have HO := hid (owns_base ow hA.size)
    obtain ⟨ax, cx, rfl⟩ := sl_of ow
    obtain ⟨c0, c1, c2, c3⟩ := A2.cells
    have f0 := A2.free 0
    have f1 := A2.free 1
    have f2 := A2.free 2
    have f3 := A2.free 3
    have l2 := A2.lt
    obtain ⟨d0, d1, d2, d3⟩ := (A2.set a.st (.slice ax a.fs.length cx) a.b false).cells
    have HF : Hid ((setA (w.heap.size + 1 + 1) a.st (.slice ax a.fs.length cx) a.b false w2).ownsRow w.heap.size 70 2 (.slice ax a.fs.length cx) a.fs.length (prCells a.fs) ∧ Below w.heap.size w (setA (w.heap.size + 1 + 1) a.st (.slice ax a.fs.length cx) a.b false w2)) := ⟨owns_setA HO.out hno, below_setA hB2 (by omega)⟩
    unfold setA at d0 d1 d2 d3
    clear ow HO A1
    go_wp2_with fail
    refine bodyPost_ret (v := .agg #[.int .i64 a.st, .slice ax a.fs.length cx, .string a.b, .bool false]) (by simp [results, Tryz.results66, go_sem, d0, d1, d2, d3]) rfl ?_
    exact ⟨⟨_, rfl, HF.out.1⟩, HF.out.2⟩
end Go.Proofs.YtfdhmeojkagokaaGreatDoor

/- Through the first ware and the rest. -/
namespace Go.Proofs.YtfdhmeojkagokaaGreatDoor
open Go.RowKit

set_option maxRecDepth 100000 in
set_option maxHeartbeats 16000000 in
theorem through_cons (r : Rn) (x : Wr) (g o n c : Nat) (G : Option An) (w : World) (h0 : w.cell? ⟨g, o, none⟩ = some (.int .i64 x.k)) (h1 : w.cell? ⟨g, o + 1, none⟩ = some (.string x.n)) (h2 : w.cell? ⟨g, o + 2, none⟩ = some (.string x.v)) (h3 : w.cell? ⟨g, o + 3, none⟩ = some (.int .i64 x.lim)) (hn : n ≤ 1000000)
    (HAR : ∀ W, Below w.heap.size w W → RnB w.heap.size r W → W.cell? ⟨w.heap.size + 1, 0, none⟩ = some (.slice (some ⟨g, o, none⟩) (n + 1) c) → Calls Tryz.prog 110 #[.agg r.vals, .agg #[.int .i64 x.k, .string x.n, .string x.v, .int .i64 x.lim], .func (.func 111) #[] #[.pointer (some ⟨w.heap.size, 0, none⟩), .pointer (some ⟨w.heap.size + 1, 0, none⟩)]] W (ThPost G W)) :
    Calls Tryz.prog 66 #[.agg r.vals, .slice (some ⟨g, o, none⟩) (n + 1) c] w (ThPost G w) := by
  obtain ⟨hA, R1, s1, A1⟩ := through_mem r (.slice (some ⟨g, o, none⟩) (n + 1) c) w
  have HA := hid (HAR _ (hA.drew) (by have := R1; unfold RnB at *; exact this) s1)
  clear HAR
  obtain ⟨r0, r1, r2, r3, r4, r5, r6, r7, r8⟩ := R1.cells
  have lr := R1.lt
  have ls := block_lt_of_cell s1
  have y0 := cell_later hA h0
  have y1 := cell_later hA h1
  have y2 := cell_later hA h2
  have y3 := cell_later hA h3
  have lg := block_lt_of_cell h0
  have lg1 := block_lt_of_cell y0
  have k0 : (0 : Int) < (n : Int) + 1 := by omega
  have k1 : ((n : Int) + 1 == 0) = false := by have : (n : Int) + 1 ≠ 0 := by omega
                                               simpa using this
  have k2 : ¬ ((n : Int) + 1 = 0) := by omega
  clear R1 h0 h1 h2 h3
  obtain ⟨qm, qt, qb, fs, fa, fc, ps, pa, pc, ⟨hk', hst, ht, hn'⟩⟩ := r
  obtain ⟨xk, xn, xv, xl⟩ := x
  simp only [Rn.vals] at *
  go_enter Tryz.func66, Tryz.ntmps66
  go_upto_region 3 with fail
  generalize ((w.alloc (.cells #[.string qm, .string qt, .slice fa fs.length fc, .string qb, .slice pa ps.length pc, .int .i64 hk', .int .i64 hst, .string ht, .string hn'] 124)).alloc (.cells #[.slice (some ⟨g, o, none⟩) (n + 1) c] 25)).alloc (.cells #[.int .i64 0, .slice none 0 0, .string ⟨#[]⟩, .bool false] 44) = w1 at *
  have la := A1.lt
  have HA1 := hid A1
  have hb1 := Below.refl w1.heap.size w1
  cases G with
  | none =>
    go_region_dies
    all_goals go_wp2_with (go_at_call 110; refine HA.out.mono ?_; rintro x wA ⟨rfl, hbA⟩; exact ⟨rfl, rfl, bel_of hA (bel_of hb1.drew hbA)⟩)
  | some a =>
    have nr : w.heap.size ≠ w.heap.size + 1 + 1 := by omega
    have ns : w.heap.size + 1 ≠ w.heap.size + 1 + 1 := by omega
    have ng : g ≠ w.heap.size + 1 + 1 := by omega
    have HE := hid (fun (ax : Option Addr) (cx : Nat) (w3 : World) (o3 : w3.ownsRow w1.heap.size 70 2 (.slice ax a.fs.length cx) a.fs.length (prCells a.fs)) (hb3 : Below w1.heap.size w1 w3) => (And.intro (owns_setA (st := a.st) (vv := .slice ax a.fs.length cx) (b := a.b) (cl := false) (owns_base o3 hA.size) (fun e => by have := own_ge o3 _ e; omega)) (below_setA (st := a.st) (vv := .slice ax a.fs.length cx) (b := a.b) (cl := false) (bel_of hA hb3) (by omega)) : (setA (w.heap.size + 1 + 1) a.st (.slice ax a.fs.length cx) a.b false w3).ownsRow w.heap.size 70 2 (.slice ax a.fs.length cx) a.fs.length (prCells a.fs) ∧ Below w.heap.size w (setA (w.heap.size + 1 + 1) a.st (.slice ax a.fs.length cx) a.b false w3)))
    have HKP : Hid (∀ (w3 w4 : World), (∃ vv, w4 = setA (w.heap.size + 1 + 1) a.st vv a.b false w3) → Below w1.heap.size w1 w3 → w4.cell? ⟨w.heap.size + 1, 0, none⟩ = some (.slice (some ⟨g, o, none⟩) (n + 1) c) ∧ w4.cell? ⟨w.heap.size, 0, none⟩ = some (.string qm) ∧ w4.cell? ⟨w.heap.size, 1, none⟩ = some (.string qt) ∧ w4.cell? ⟨w.heap.size, 2, none⟩ = some (.slice fa fs.length fc) ∧ w4.cell? ⟨w.heap.size, 3, none⟩ = some (.string qb) ∧ w4.cell? ⟨w.heap.size, 4, none⟩ = some (.slice pa ps.length pc) ∧ w4.cell? ⟨w.heap.size, 5, none⟩ = some (.int .i64 hk') ∧ w4.cell? ⟨w.heap.size, 6, none⟩ = some (.int .i64 hst) ∧ w4.cell? ⟨w.heap.size, 7, none⟩ = some (.string ht) ∧ w4.cell? ⟨w.heap.size, 8, none⟩ = some (.string hn') ∧ w4.cell? ⟨g, o, none⟩ = some (.int .i64 xk) ∧ w4.cell? ⟨g, o + 1, none⟩ = some (.string xn) ∧ w4.cell? ⟨g, o + 2, none⟩ = some (.string xv) ∧ w4.cell? ⟨g, o + 3, none⟩ = some (.int .i64 xl)) := by
      rintro w3 w4 ⟨vv, rfl⟩ hb
      exact ⟨(cell_setA ns).trans (cell_later hb s1), (cell_setA nr).trans (cell_later hb r0), (cell_setA nr).trans (cell_later hb r1), (cell_setA nr).trans (cell_later hb r2), (cell_setA nr).trans (cell_later hb r3), (cell_setA nr).trans (cell_later hb r4), (cell_setA nr).trans (cell_later hb r5), (cell_setA nr).trans (cell_later hb r6), (cell_setA nr).trans (cell_later hb r7), (cell_setA nr).trans (cell_later hb r8), (cell_setA ng).trans (cell_later hb y0), (cell_setA ng).trans (cell_later hb y1), (cell_setA ng).trans (cell_later hb y2), (cell_setA ng).trans (cell_later hb y3)⟩
    go_region_held3 (fun W => W.cell? ⟨w.heap.size + 1, 0, none⟩ = some (.slice (some ⟨g, o, none⟩) (n + 1) c) ∧ W.cell? ⟨w.heap.size, 0, none⟩ = some (.string qm) ∧ W.cell? ⟨w.heap.size, 1, none⟩ = some (.string qt) ∧ W.cell? ⟨w.heap.size, 2, none⟩ = some (.slice fa fs.length fc) ∧ W.cell? ⟨w.heap.size, 3, none⟩ = some (.string qb) ∧ W.cell? ⟨w.heap.size, 4, none⟩ = some (.slice pa ps.length pc) ∧ W.cell? ⟨w.heap.size, 5, none⟩ = some (.int .i64 hk') ∧ W.cell? ⟨w.heap.size, 6, none⟩ = some (.int .i64 hst) ∧ W.cell? ⟨w.heap.size, 7, none⟩ = some (.string ht) ∧ W.cell? ⟨w.heap.size, 8, none⟩ = some (.string hn') ∧ W.cell? ⟨g, o, none⟩ = some (.int .i64 xk) ∧ W.cell? ⟨g, o + 1, none⟩ = some (.string xn) ∧ W.cell? ⟨g, o + 2, none⟩ = some (.string xv) ∧ W.cell? ⟨g, o + 3, none⟩ = some (.int .i64 xl)) (first | exact HKEEP.out | go_keep)
      (first | (go_at_call 110; refine HA.out.mono ?_; rintro x w3 ⟨⟨vv, rfl, ow⟩, hb3⟩; obtain ⟨ax, cx, rfl⟩ := sl_of ow; have hbD := bel_of hb1.drew hb3; have o3 := owns_base ow hb1.drew.size; have A3 := HA1.out.below hbD; obtain ⟨c0, c1, c2, c3⟩ := A3.cells; have f0 := A3.free 0; have f1 := A3.free 1; have f2 := A3.free 2; have f3 := A3.free 3; have l3 := A3.lt; obtain ⟨d0, d1, d2, d3⟩ := (A3.set a.st (.slice ax a.fs.length cx) a.b false).cells; have HF := hid (HE.out ax cx w3 o3 hbD); have z0 := cell_later hbD r0; have z1 := cell_later hbD r1; have z2 := cell_later hbD r2; have z3 := cell_later hbD r3; have z4 := cell_later hbD r4; have z5 := cell_later hbD r5; have z6 := cell_later hbD r6; have z7 := cell_later hbD r7; have z8 := cell_later hbD r8; have zs := cell_later hbD s1; have zy0 := cell_later hbD y0; have zy1 := cell_later hbD y1; have zy2 := cell_later hbD y2; have zy3 := cell_later hbD y3; have HKEEP := hid (HKP.out w3 (setA (w.heap.size + 1 + 1) a.st (.slice ax a.fs.length cx) a.b false w3) ⟨_, rfl⟩ hbD); unfold setA at d0 d1 d2 d3 HKEEP; clear ow o3))
    all_goals clear HA HE HKP A1
    all_goals go_wp2_with fail
    all_goals
      refine bodyPost_ret (v := .agg #[.int .i64 a.st, .slice ax a.fs.length cx, .string a.b, .bool false]) (by simp [results, Tryz.results66, go_sem, d0, d1, d2, d3]) rfl ?_
      exact ⟨⟨_, rfl, HF.out.1⟩, HF.out.2⟩
end Go.Proofs.YtfdhmeojkagokaaGreatDoor
