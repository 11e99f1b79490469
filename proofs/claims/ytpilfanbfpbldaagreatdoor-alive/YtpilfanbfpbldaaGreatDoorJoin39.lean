/- Texts that follow one another, joined. -/
import Derived.Test.YtpilfanbfpbldaaGreatDoorJoin36
import Derived.Test.YtpilfanbfpbldaaGreatDoorJoin38
import Derived.Test.YtpilfanbfpbldaaGreatDoorJoin09
/- The small configuration; the statement's own opened and greets. -/
namespace Go.Proofs.YtpilfanbfpbldaaGreatDoor
open Go.RowKit

theorem seven_alloc (w : World) (o1 o2 o3 o4 o5 o6 o7 : Obj) : Below w.heap.size w (((((((w.alloc o1).alloc o2).alloc o3).alloc o4).alloc o5).alloc o6).alloc o7) ∧ (((((((w.alloc o1).alloc o2).alloc o3).alloc o4).alloc o5).alloc o6).alloc o7).heap[w.heap.size + 1 + 1 + 1 + 1]? = some o5 ∧ (((((((w.alloc o1).alloc o2).alloc o3).alloc o4).alloc o5).alloc o6).alloc o7).heap[w.heap.size + 1 + 1 + 1 + 1 + 1 + 1]? = some o7 := by
  obtain ⟨h1, h2⟩ := six_alloc w o1 o2 o3 o4 o5 o6
  have hz : ((((((w.alloc o1).alloc o2).alloc o3).alloc o4).alloc o5).alloc o6).heap.size = w.heap.size + 1 + 1 + 1 + 1 + 1 + 1 := by simp
  generalize (((((w.alloc o1).alloc o2).alloc o3).alloc o4).alloc o5).alloc o6 = W at *
  have hn := heap_alloc_new W o7
  rw [hz] at hn
  refine ⟨h1.alloc h1.size _, ?_, hn⟩
  rw [Below.heap_alloc _ _ _ (by omega)]; exact h2
set_option maxRecDepth 100000 in
set_option maxHeartbeats 1000000 in
theorem small_true (w : World) :
    Calls Tryz.prog 5 #[.bool true] w fun x w' => (∃ g gw, x = .returned (.agg #[.int .i64 200, .int .i64 50, .slice (some ⟨g, 0, none⟩) 3 3, .slice (some ⟨gw, 0, none⟩) 1 1]) ∧ MuAt 6 Rt.cells smallR (some ⟨g, 0, none⟩) w' ∧ MuAt 4 Wr.cells (smW true) (some ⟨gw, 0, none⟩) w') ∧ Below w.heap.size w w' := by
  go_enter Tryz.func5, Tryz.ntmps5
  go_wp2
  refine bodyPost_ret (v := .agg #[.int .i64 200, .int .i64 50, .slice (some ⟨w.heap.size + 1 + 1 + 1 + 1, 0, none⟩) 3 3, .slice (some ⟨w.heap.size + 1 + 1 + 1 + 1 + 1 + 1, 0, none⟩) 1 1]) (by simp [results, Tryz.results5, go_sem]) rfl ?_
  refine ⟨⟨w.heap.size + 1 + 1 + 1 + 1, w.heap.size + 1 + 1 + 1 + 1 + 1 + 1, rfl, ?_, ?_⟩, (seven_alloc w _ _ _ _ _ _ _).1⟩
  · exact mu_of_block (sz := 6) (f := Rt.cells) (l := smallR) (fun _ => rfl) (seven_alloc w _ _ _ _ _ _ _).2.1 rfl
  · exact mu_of_block (sz := 4) (f := Wr.cells) (l := smW true) (fun _ => rfl) (seven_alloc w _ _ _ _ _ _ _).2.2 rfl
theorem small_b (b : Bool) (w : World) :
    Calls Tryz.prog 5 #[.bool b] w fun x w' => (∃ ar aw cw, x = .returned (.agg #[.int .i64 200, .int .i64 50, .slice ar smallR.length 3, .slice aw (smW b).length cw]) ∧ MuAt 6 Rt.cells smallR ar w' ∧ MuAt 4 Wr.cells (smW b) aw w') ∧ Below w.heap.size w w' := by
  cases b
  · refine (small_any w).mono ?_
    rintro x w' ⟨⟨g, -, rfl, hR⟩, hb⟩
    exact ⟨⟨_, none, 0, rfl, hR, fun i hi => absurd hi (by simp [smW])⟩, hb⟩
  · refine (small_true w).mono ?_
    rintro x w' ⟨⟨g, gw, rfl, hR, hW⟩, hb⟩
    exact ⟨⟨_, _, 1, rfl, hR, hW⟩, hb⟩
theorem small_cfg (b : Bool) : (cfgE 200 50 smallR (smW b)).2 = 0 := by cases b <;> kernel_rfl
theorem small_sm : ∀ r ∈ smallR, RtSm r := by
  intro r hr
  simp only [smallR, List.mem_cons, List.not_mem_nil, or_false] at hr
  rcases hr with rfl | rfl | rfl <;> exact ⟨by decide, by decide, by decide, by decide⟩
theorem small_ws (b : Bool) : ∀ x ∈ smW b, x.n.size ≤ 1048576 ∧ x.v.size ≤ 1048576 := by
  intro x hx
  cases b
  · simp [smW] at hx
  · simp only [smW, if_true, List.mem_singleton] at hx; subst hx; exact ⟨by decide, by decide⟩
abbrev TabW (w : World) : Prop := Lib.TabBelow Tryz.prog w.heap.size w "internal/strconv.uint64pow10" .u64 Lib.pow10Tab
abbrev PsAt (ps s : Nat) (w : World) : Prop := w.heap[ps]? = some (.cells #[.pointer (some ⟨s, 0, none⟩)] 50 (0, 0))
/- a server of a right configuration is made -/
theorem newC_any (C : Cf) (ar : Option Addr) (cr : Nat) (aw : Option Addr) (cw : Nat) (mx : Int) (w : World) (hR : MuAt 6 Rt.cells C.rs ar w) (hW : MuAt 4 Wr.cells C.ws aw w) (hro : ∀ r ∈ C.rs, RtSm r) (hwo : ∀ x ∈ C.ws, x.n.size ≤ 1048576 ∧ x.v.size ≤ 1048576) (hm : w.cell? ⟨1, 0, none⟩ = some (.int .i64 mx)) (ht : TabW w) (hE : (cfgE C.hd C.bd C.rs C.ws).2 = 0) :
    Calls Tryz.prog 4 #[.agg #[.int .i64 C.hd, .int .i64 C.bd, .slice ar C.rs.length cr, .slice aw C.ws.length cw]] w fun x w' => ∃ ps V es v vh vw, x = .returned (.tuple #[.pointer (some ⟨ps, 0, none⟩), .int .i64 0]) ∧ PsAt ps V.s w' ∧ SvOk V C es v vh vw mx ∧ SvI V (C.rs.map fun _ => 0) w' ∧ V.w1.heap.size ≤ ps ∧ ps ≠ V.s ∧ ps ≠ V.h ∧ Below w.heap.size w V.w1 := by
  refine (pNew_any C.hd C.bd C.rs C.ws ar cr aw cw mx w hR hW (fun r hr => (hro r hr).ok) (fun x hx => by have := hwo x hx; omega) hm hE).mono ?_
  rintro x w' ⟨ps, s, gs, h, w1, es, v, vh, vw, rfl, hp, hS, hes, hB, hI, l1, l2, l3⟩
  exact ⟨ps, ⟨s, gs, h, C.hd, C.bd, w1⟩, es, v, vh, vw, rfl, hp, ⟨rfl, rfl, hS, hes, hE, hro, hwo, cell_later hB hm, Lib.tabBelow_of_tabIs (ht w1 hB)⟩, hI, l1, l2, l3, hB⟩
/- a connection is opened -/
theorem cn_new (V : Sv) (hs : List Int) (w : World) (I : SvI V hs w) : CnI V w.heap.size (.slice none 0 0) ⟨#[]⟩ [] 0 false ((w.alloc (.cells (cnC V ⟨#[]⟩ (.slice none 0 0) 0 false) 81)).alloc (.cells #[.pointer (some ⟨w.heap.size, 0, none⟩)] 63)) ∧ PcAt2 (w.heap.size + 1) w.heap.size ((w.alloc (.cells (cnC V ⟨#[]⟩ (.slice none 0 0) 0 false) 81)).alloc (.cells #[.pointer (some ⟨w.heap.size, 0, none⟩)] 63)) ∧ Below w.heap.size w ((w.alloc (.cells (cnC V ⟨#[]⟩ (.slice none 0 0) 0 false) 81)).alloc (.cells #[.pointer (some ⟨w.heap.size, 0, none⟩)] 63)) := by
  have h1 := (Below.refl w.heap.size w).alloc (Nat.le_refl _) (.cells (cnC V ⟨#[]⟩ (.slice none 0 0) 0 false) 81)
  have b1 := heap_alloc_new w (.cells (cnC V ⟨#[]⟩ (.slice none 0 0) 0 false) 81)
  have z1 : (w.alloc (.cells (cnC V ⟨#[]⟩ (.slice none 0 0) 0 false) 81)).heap.size = w.heap.size + 1 := by simp
  have l1 := I.ls
  have l2 := I.lh
  refine ⟨⟨?_, OwnO.nil _ _ _, I.bel.size, by omega, by omega, by simp [Value.ownBlock], by simp [Value.ownBlock], by simp [Value.ownBlock]⟩, ?_, h1.alloc h1.size _⟩
  · rw [Below.heap_alloc _ _ _ (by rw [z1]; omega)]; exact b1
  · have := heap_alloc_new (w.alloc (.cells (cnC V ⟨#[]⟩ (.slice none 0 0) 0 false) 81)) (.cells #[.pointer (some ⟨w.heap.size, 0, none⟩)] 63)
    rw [z1] at this
    exact this
set_option maxRecDepth 100000 in
set_option maxHeartbeats 4000000 in
theorem opened_any (C : Cf) (ar : Option Addr) (cr : Nat) (aw : Option Addr) (cw : Nat) (mx : Int) (w : World) (hR : MuAt 6 Rt.cells C.rs ar w) (hW : MuAt 4 Wr.cells C.ws aw w) (hro : ∀ r ∈ C.rs, RtSm r) (hwo : ∀ x ∈ C.ws, x.n.size ≤ 1048576 ∧ x.v.size ≤ 1048576) (hm : w.cell? ⟨1, 0, none⟩ = some (.int .i64 mx)) (ht : TabW w) (hE : (cfgE C.hd C.bd C.rs C.ws).2 = 0) :
    Calls Tryz.prog 14 #[.agg #[.int .i64 C.hd, .int .i64 C.bd, .slice ar C.rs.length cr, .slice aw C.ws.length cw]] w fun x w' => ∃ pc c V es v vh vw, x = .returned (.pointer (some ⟨pc, 0, none⟩)) ∧ PcAt2 pc c w' ∧ SvOk V C es v vh vw mx ∧ SvI V (C.rs.map fun _ => 0) w' ∧ CnI V c (.slice none 0 0) ⟨#[]⟩ [] 0 false w' ∧ Below w.heap.size w V.w1 ∧ V.w1.heap.size ≤ pc ∧ pc ≠ V.s ∧ pc ≠ V.h ∧ pc ≠ c := by
  have HN := hid (fun W (hb : Below w.heap.size w W) => newC_any C ar cr aw cw mx W (hR.below hb) (hW.below hb) hro hwo (cell_later hb hm) (Lib.tabBelow_of_tabIs (ht W hb)) hE)
  have hA := (Below.refl w.heap.size w).alloc (Nat.le_refl _) (.cells #[.int .i64 C.hd, .int .i64 C.bd, .slice ar C.rs.length cr, .slice aw C.ws.length cw] 32)
  clear hR hW hro hwo hm ht
  go_enter Tryz.func14, Tryz.ntmps14
  go_wp2_with fail
  generalize w.alloc (.cells #[.int .i64 C.hd, .int .i64 C.bd, .slice ar C.rs.length cr, .slice aw C.ws.length cw] 32) = w1 at *
  refine (HN.out _ hA).mono ?_
  rintro x w2 ⟨ps, V, es, v, vh, vw, rfl, hp, ok, I, l1, l2, l3, hB⟩
  have HO := hid (pOpen_any V ps w2 hp)
  have HC := hid (cn_new V _ w2 I)
  have HI := hid I
  have HK := hid ok
  have q1 := I.ls
  have q2 := I.lh
  have q3 := I.bel.size
  have hB0 := bel_of hA hB
  clear HN hp ok I
  go_wp2_with fail
  refine HO.out.mono ?_
  rintro x w3 ⟨rfl, rfl⟩
  obtain ⟨J, hpc, hb⟩ := HC.out
  have HJ := hid J
  have HP := hid hpc
  have HII := hid (HI.out.below hb)
  clear J hpc HO HC HI
  generalize (w2.alloc (.cells (cnC V ⟨#[]⟩ (.slice none 0 0) 0 false) 81)).alloc (.cells #[.pointer (some ⟨w2.heap.size, 0, none⟩)] 63) = w3 at *
  go_wp2_with fail
  go_ret
  exact ⟨_, _, V, es, v, vh, vw, rfl, HP.out, HK.out, HII.out, HJ.out, hB0, by omega, by omega, by omega, by omega⟩
end Go.Proofs.YtpilfanbfpbldaaGreatDoor

/- The statement's own greets: the small configuration's server answers. -/
namespace Go.Proofs.YtpilfanbfpbldaaGreatDoor
open Go.RowKit

def hitK (k : Nat) (hs : List Int) : List Int := if k < 3 then hs.set k ((hs[k]?).getD 0 + 1) else hs
def rqK (k rq : Nat) : Nat := if k < 3 then rq + 1 else rq
def shutK (k : Nat) (b : Bool) : Bool := decide (k = 3) || (decide (k = 1) && !b)
theorem ask_len (k : Nat) : (askL k).length ≤ 100 := by
  unfold askL
  repeat' split
  all_goals decide
theorem ask_any {b : Bool} {V : Sv} {es : List Ent} {v vh vw : Value} {mx : Int} (ok : SvOk V (smC b) es v vh vw mx) (k : Nat) (hk : k < 4) (pc c : Nat) (vo : Value) (out : List UInt8) (rq : Nat) (hs : List Int) (w : World) (hp : PcAt2 pc c w) (I : SvI V hs w) (J : CnI V c vo ⟨#[]⟩ out rq false w) (hl : hs.length = 3) (hb : ∀ x ∈ hs, 0 ≤ x ∧ x ≤ 4611686018427380000) (ho : out.length ≤ 1000) (hr : rq ≤ 4611686018427380000) :
    Calls Tryz.prog 9 #[.pointer (some ⟨pc, 0, none⟩), .string ⟨(askL k).toArray⟩] w fun x w' => x = .returned (.int .i64 0) ∧ ∃ vo', SvI V (hitK k hs) w' ∧ CnI V c vo' ⟨#[]⟩ (out ++ saidL k b) (rqK k rq) (shutK k b) w' ∧ Kx (cnL V c vo) w w' ∧ ∀ r, vo'.ownBlock = some r → vo.ownBlock = some r ∨ w.heap.size ≤ r := by
  have hz : (ByteArray.mk (askL k).toArray).size = (askL k).length := by show (askL k).toArray.size = _; simp
  have hl2 := ask_len k
  have h := give_any ok c vo ⟨[], out, rq, false, hs⟩ ⟨(askL k).toArray⟩ w rfl I J hl (fun x hx => by have := hb x hx; rw [hz]; simp; omega) (by rw [hz]; simp; omega) (by rw [hz]; simp; omega) (by rw [hz]; simp; omega)
  have e : giveS (smC b) ⟨[], out, rq, false, hs⟩ (ByteArray.mk (askL k).toArray).data.toList = ⟨[], out ++ saidL k b, rqK k rq, shutK k b, hitK k hs⟩ := alive_plain b k hk out rq hs
  rw [e] at h
  exact pGive_of pc c _ 0 _ w hp h
set_option maxRecDepth 100000 in
set_option maxHeartbeats 4000000 in
theorem greets_any (mx : Int) (w : World) (hm : w.cell? ⟨1, 0, none⟩ = some (.int .i64 mx)) (ht : TabW w) :
    Calls Tryz.prog 6 #[] w fun x w' => x = .returned (.bool true) ∧ Below w.heap.size w w' := by
  have HOP := hid (fun ar aw cw W (hb : Below w.heap.size w W) (hR : MuAt 6 Rt.cells smallR ar W) (hW : MuAt 4 Wr.cells (smW false) aw W) => opened_any (smC false) ar 3 aw cw mx W hR hW small_sm (small_ws false) (cell_later hb hm) (Lib.tabBelow_of_tabIs (ht W hb)) (small_cfg false))
  have HSM := hid (small_b false w)
  clear hm ht
  go_enter Tryz.func6, Tryz.ntmps6
  go_wp2_with fail
  refine HSM.out.mono ?_
  rintro x w2 ⟨⟨ar, aw, cw, rfl, hR, hW⟩, hb2⟩
  have HO2 := hid (HOP.out ar aw cw w2 hb2 hR hW)
  clear HOP HSM hR hW
  go_wp2_with fail
  refine HO2.out.mono ?_
  rintro x w3 ⟨pc, c, V, es, v, vh, vw, rfl, hp, ok, I, J, hB, l1, l2, l3, l4⟩
  have HG := hid (ask_any ok 0 (by omega) pc c _ [] 0 [0, 0, 0] w3 hp I J rfl (fun x hx => by simp at hx; omega) (by simp) (by omega))
  have lp := heap_lt hp
  have HP := hid hp
  clear HO2 hp I J
  go_wp2_with fail
  refine HG.out.mono ?_
  rintro x w4 ⟨rfl, vo', I4, J4, k4, o4⟩
  have hp4 : PcAt2 pc c w4 := k4.heap HP.out (by simp [Value.ownBlock]; omega)
  have HT := hid (pTake_of pc c 1000 ⟨saidYou.toArray⟩ (fun w' => SvI V [0 + 1, 0, 0] w') w4 hp4 ((take_any V c vo' ⟨#[]⟩ ([] ++ saidL 0 false) 1 false 1000 w4 J4 (by omega)).mono (fun x w' h => by
    obtain ⟨rfl, vo2, h1, h2, h3, h4⟩ := h
    exact ⟨rfl, SvI.far (c := c) I4 h2 J4.ge J4.n1 J4.n2⟩)))
  have lp4 := heap_lt hp4
  clear HG HP hp4 I4 J4 k4
  go_wp2_with fail
  refine HT.out.mono ?_
  rintro x w5 ⟨rfl, I5⟩
  have HB := hid (bel_of hb2 (hB.trans (I5.bel.mono hB.size)))
  clear HT I5
  go_wp2_with fail
  go_ret
  exact ⟨congrArg (fun b => Ending.returned (Value.bool b)) (beq_self_eq_true saidYou), HB.out⟩
end Go.Proofs.YtpilfanbfpbldaaGreatDoor

/- The law's own small help: pick and bounded. -/
namespace Go.Proofs.YtpilfanbfpbldaaGreatDoor
open Go.RowKit

def pickS (c n : Int) : Int := (if c < 0 then -(c + 1) else c) % n

set_option maxHeartbeats 1000000 in
theorem pick_any (c n : Int) (w : World) (h1 : -9223372036854775808 ≤ c) (h2 : c ≤ 9223372036854775807) (hn : 0 < n) (hn2 : n ≤ 9223372036854775807) :
    Calls Tryz.prog 8 #[.int .i64 c, .int .i64 n] w fun e w' => e = .returned (.int .i64 (pickS c n)) ∧ w' = w := by
  unfold pickS
  by_cases hc : c < 0
  · rw [if_pos hc]
    have w1 : IntKind.i64.wrap (c + 1) = c + 1 := by simp [IntKind.wrap, IntKind.bits, IntKind.signed]; omega
    have w2 : IntKind.i64.wrap (-(c + 1)) = -(c + 1) := by simp [IntKind.wrap, IntKind.bits, IntKind.signed]; omega
    have hz : ¬ n = 0 := by omega
    go_enter Tryz.func8, Tryz.ntmps8
    go_wp2
    go_ret
    refine ⟨?_, rfl⟩
    rw [show -(c + 1).tmod n = -(c + 1) % n from by rw [← Int.neg_tmod, Int.tmod_eq_emod_of_nonneg (by omega)]]
    rfl
  · rw [if_neg hc]
    have hz : ¬ n = 0 := by omega
    go_enter Tryz.func8, Tryz.ntmps8
    go_wp2
    go_ret
    exact ⟨rfl, rfl⟩
end Go.Proofs.YtpilfanbfpbldaaGreatDoor

/- Two connections to one server: what stays from turn to turn. -/
namespace Go.Proofs.YtpilfanbfpbldaaGreatDoor
open Go.RowKit

abbrev nilV : Value := .slice none 0 0
/- the blocks are apart -/
structure AlD (V : Sv) (ps : Nat) (pc c : Bool → Nat) (hb sb N : Nat) : Prop where
  p1 : ps ≠ V.s
  p2 : ps ≠ V.h
  a1 : V.s < c false
  a2 : V.h < c false
  a3 : ps < c false
  a4 : c false < pc false
  a5 : pc false < c true
  a6 : c true < pc true
  a7 : pc true < hb
  a8 : hb < sb
  a9 : sb < N
  g1 : V.w1.heap.size ≤ ps
structure AlI (w0 : World) (V : Sv) (ps : Nat) (pc c : Bool → Nat) (hb sb N : Nat) (hs hh : List Int) (vo : Bool → Value) (out : Bool → List UInt8) (rq : Bool → Nat) (cl : Bool → Bool) (sh : Bool → Bool) (w : World) : Prop where
  d : AlD V ps pc c hb sb N
  n : N ≤ w.heap.size
  sv : SvI V hs w
  ps : PsAt ps V.s w
  pa : ∀ d, PcAt2 (pc d) (c d) w
  ja : ∀ d, CnI V (c d) (vo d) ⟨#[]⟩ (out d) (rq d) (cl d) w
  ow : ∀ d r, (vo d).ownBlock = some r → N ≤ r
  hh : w.heap[hb]? = some (.cells (hiC hh) 37 (0, 0))
  ss : w.heap[sb]? = some (.cells #[.bool (sh false), .bool (sh true)] 38 (0, 0))
  bel : Below w0.heap.size w0 w
  lw : w0.heap.size ≤ V.w1.heap.size
structure AlL (V : Sv) (ps pcd cd hb sb N : Nat) : Prop where
  sN : V.s < N
  hN : V.h < N
  pN : ps < N
  cN : cd < N
  pcN : pcd < N
  hbN : hb < N
  sbN : sb < N
  c1 : cd ≠ V.s
  c2 : cd ≠ V.h
  c3 : cd ≠ ps
  c4 : cd ≠ hb
  c5 : cd ≠ sb
  p1 : pcd ≠ V.s
  p2 : pcd ≠ V.h
  p4 : pcd ≠ hb
  p5 : pcd ≠ sb
  h1 : hb ≠ V.s
  h2 : hb ≠ V.h
  h3 : hb ≠ ps
  s1 : sb ≠ V.s
  s2 : sb ≠ V.h
  s3 : sb ≠ ps
  s4 : hb ≠ sb
  g2 : V.w1.heap.size ≤ hb
  g3 : V.w1.heap.size ≤ sb
theorem AlD.lts {V : Sv} {ps : Nat} {pc c : Bool → Nat} {hb sb N : Nat} (h : AlD V ps pc c hb sb N) (d : Bool) : AlL V ps (pc d) (c d) hb sb N := by
  obtain ⟨h1, h2, h3, h4, h5, h6, h7, h8, h9, h10, h11, h12⟩ := h
  clear h1 h2
  cases d <;> constructor <;> omega
theorem AlD.cross {V : Sv} {ps : Nat} {pc c : Bool → Nat} {hb sb N : Nat} (h : AlD V ps pc c hb sb N) (d e : Bool) : pc e ≠ c d ∧ (e ≠ d → c e ≠ c d) := by
  obtain ⟨h1, h2, h3, h4, h5, h6, h7, h8, h9, h10, h11, h12⟩ := h
  cases d <;> cases e <;> simp <;> omega
/- a change of the server's blocks and of one connection's alone -/
theorem AlI.turn {w0 : World} {V : Sv} {ps : Nat} {pc c : Bool → Nat} {hb sb N : Nat} {hs hh : List Int} {vo : Bool → Value} {out : Bool → List UInt8} {rq : Bool → Nat} {cl sh : Bool → Bool} {w w' : World} (I : AlI w0 V ps pc c hb sb N hs hh vo out rq cl sh w) (d : Bool) {L : List Nat} (hk : Kx L w w') (hL : ∀ b ∈ L, b = V.s ∨ b = V.h ∨ b = c d) {hs2 : List Int} {vo2 : Value} {out2 : List UInt8} {rq2 : Nat} {cl2 : Bool} (sv : SvI V hs2 w') (J : CnI V (c d) vo2 ⟨#[]⟩ out2 rq2 cl2 w') (ho : ∀ r, vo2.ownBlock = some r → N ≤ r) :
    AlI w0 V ps pc c hb sb N hs2 hh (fun e => if e = d then vo2 else vo e) (fun e => if e = d then out2 else out e) (fun e => if e = d then rq2 else rq e) (fun e => if e = d then cl2 else cl e) sh w' := by
  have q := I.d.lts d
  have ge := (I.ja d).ge
  have g1 := I.sv.ge1
  have g2 := I.sv.ge2
  have hnl : ∀ x, x ≠ V.s → x ≠ V.h → x ≠ c d → x ∉ L := fun x h1 h2 h3 hm => by
    rcases hL x hm with r | r | r
    · exact h1 r
    · exact h2 r
    · exact h3 r
  refine ⟨I.d, Nat.le_trans I.n hk.size, sv, hk.heap I.ps (hnl _ I.d.p1 I.d.p2 q.c3.symm), fun e => hk.heap (I.pa e) (hnl _ (I.d.lts e).p1 (I.d.lts e).p2 (I.d.cross d e).1), fun e => ?_, fun e r hr => ?_, hk.heap I.hh (hnl _ q.h1 q.h2 q.c4.symm), hk.heap I.ss (hnl _ q.s1 q.s2 q.c5.symm), I.bel.trans (hk.below (fun b hb => ?_) I.bel.size), I.lw⟩
  · by_cases he : e = d
    · subst he; simp only [if_true]; exact J
    · simp only [he, if_false]
      have qe := I.d.lts e
      refine (I.ja e).kx hk (hnl _ qe.c1 qe.c2 ((I.d.cross d e).2 he)) (fun r hr => ?_)
      have h := I.ow e r hr
      exact hnl r (Nat.ne_of_gt (Nat.lt_of_lt_of_le q.sN h)) (Nat.ne_of_gt (Nat.lt_of_lt_of_le q.hN h)) (Nat.ne_of_gt (Nat.lt_of_lt_of_le q.cN h))
  · by_cases he : e = d
    · subst he; simp only [if_true] at hr; exact ho r hr
    · simp only [he, if_false] at hr; exact I.ow e r hr
  · have l := I.lw
    rcases hL b hb with rfl | rfl | rfl
    · exact Nat.le_trans l g1
    · exact Nat.le_trans l g2
    · exact Nat.le_trans l ge
theorem upd_id {α : Type} (f : Bool → α) (d : Bool) (x : α) (h : f d = x) : (fun e => if e = d then x else f e) = f := by
  funext e; by_cases he : e = d
  · subst he; simp [h]
  · simp [he]
abbrev upd {α : Type} (f : Bool → α) (d : Bool) (x : α) : Bool → α := fun e => if e = d then x else f e
/- a turn: bytes are given to a connection that is open, and answered -/
theorem al_give {b : Bool} {V : Sv} {es : List Ent} {v vh vw : Value} {mx : Int} (ok : SvOk V (smC b) es v vh vw mx) {w0 : World} {ps : Nat} {pc c : Bool → Nat} {hb sb N : Nat} {hs hh : List Int} {vo : Bool → Value} {out : Bool → List UInt8} {rq : Bool → Nat} {cl sh : Bool → Bool} {w : World} (I : AlI w0 V ps pc c hb sb N hs hh vo out rq cl sh w) (d : Bool) (hv : vo d = nilV) (ho : out d = []) (hcl : cl d = false) (k : Nat) (hk : k < 4) (hl : hs.length = 3) (hbd : ∀ x ∈ hs, 0 ≤ x ∧ x ≤ 4611686018427380000) (hr : rq d ≤ 4611686018427380000) :
    Calls Tryz.prog 9 #[.pointer (some ⟨pc d, 0, none⟩), .string ⟨(askL k).toArray⟩] w fun x w' => x = .returned (.int .i64 0) ∧ ∃ vo', AlI w0 V ps pc c hb sb N (hitK k hs) hh (upd vo d vo') (upd out d (saidL k b)) (upd rq d (rqK k (rq d))) (upd cl d (shutK k b)) sh w' := by
  have J := I.ja d
  rw [hv, ho, hcl] at J
  refine (ask_any ok k hk (pc d) (c d) nilV [] (rq d) hs w (I.pa d) I.sv J hl hbd (by simp) hr).mono ?_
  rintro x w' ⟨rfl, vo', I1, J1, k1, o1⟩
  refine ⟨rfl, vo', I.turn d k1 (fun x hx => ?_) I1 J1 (fun r hr => ?_)⟩
  · simp [Value.ownBlock] at hx; exact hx
  · rcases o1 r hr with q | q
    · simp [Value.ownBlock] at q
    · have := I.n; omega
theorem al_shut {V : Sv} {w0 : World} {ps : Nat} {pc c : Bool → Nat} {hb sb N : Nat} {hs hh : List Int} {vo : Bool → Value} {out : Bool → List UInt8} {rq : Bool → Nat} {cl sh : Bool → Bool} {w : World} (I : AlI w0 V ps pc c hb sb N hs hh vo out rq cl sh w) (d : Bool) (hcl : cl d = true) (s : ByteArray) :
    Calls Tryz.prog 9 #[.pointer (some ⟨pc d, 0, none⟩), .string s] w fun x w' => x = .returned (.int .i64 14) ∧ w' = w := by
  have J := I.ja d
  rw [hcl] at J
  exact pGive_of (pc d) (c d) s 14 (fun w' => w' = w) w (I.pa d) (give_shut V (c d) (vo d) ⟨#[]⟩ (out d) (rq d) s w J)
theorem al_rest {V : Sv} {w0 : World} {ps : Nat} {pc c : Bool → Nat} {hb sb N : Nat} {hs hh : List Int} {vo : Bool → Value} {out : Bool → List UInt8} {rq : Bool → Nat} {cl sh : Bool → Bool} {w : World} (I : AlI w0 V ps pc c hb sb N hs hh vo out rq cl sh w) (d : Bool) :
    Calls Tryz.prog 11 #[.pointer (some ⟨pc d, 0, none⟩)] w fun x w' => x = .returned (.string ⟨(out d).toArray⟩) ∧ AlI w0 V ps pc c hb sb N hs hh (upd vo d nilV) (upd out d []) rq cl sh w' := by
  refine (rest_any V (pc d) (c d) (vo d) ⟨#[]⟩ (out d) (rq d) (cl d) w (I.pa d) (I.ja d)).mono ?_
  rintro x w' ⟨rfl, J, k⟩
  have q := I.d.lts d
  have sv := I.sv.far k (I.ja d).ge (I.ja d).n1 (I.ja d).n2
  have h := I.turn d k (fun x hx => by simp at hx; exact .inr (.inr hx)) sv J (fun r hr => by simp [Value.ownBlock] at hr)
  rw [upd_id rq d (rq d) rfl, upd_id cl d (cl d) rfl] at h
  exact ⟨rfl, h⟩
/- the statement's own counts and marks -/
theorem al_mark {V : Sv} {w0 : World} {ps : Nat} {pc c : Bool → Nat} {hb sb N : Nat} {hs hh : List Int} {vo : Bool → Value} {out : Bool → List UInt8} {rq : Bool → Nat} {cl sh : Bool → Bool} {w : World} (I : AlI w0 V ps pc c hb sb N hs hh vo out rq cl sh w) (d x : Bool) :
    AlI w0 V ps pc c hb sb N hs hh vo out rq cl (upd sh d x) (w.setCell ⟨sb, if d = true then 1 else 0, none⟩ (.bool x)) := by
  have hk : Kx [sb] w (w.setCell ⟨sb, if d = true then 1 else 0, none⟩ (.bool x)) := Kx.set _ _ (by simp)
  have q := I.d.lts false
  have hn : ∀ y, y ≠ sb → y ∉ [sb] := fun y h hm => h (by simpa using hm)
  refine ⟨I.d, Nat.le_trans I.n hk.size, I.sv.kx hk (fun b hb => by simp at hb; subst hb; exact q.g3) (hn _ q.s1.symm) (hn _ q.s2.symm), hk.heap I.ps (hn _ q.s3.symm), fun e => hk.heap (I.pa e) (hn _ (I.d.lts e).p5), fun e => (I.ja e).kx hk (hn _ (I.d.lts e).c5) (fun r hr => hn r (Nat.ne_of_gt (Nat.lt_of_lt_of_le q.sbN (I.ow e r hr)))), I.ow, hk.heap I.hh (hn _ q.s4), ?_, I.bel.trans (hk.below (fun b hb => ?_) I.bel.size), I.lw⟩
  · have h := heap_set I.ss (if d = true then 1 else 0) (.bool x)
    cases d <;> exact h
  · simp at hb; subst hb; exact Nat.le_trans I.lw q.g3
theorem al_count {V : Sv} {w0 : World} {ps : Nat} {pc c : Bool → Nat} {hb sb N : Nat} {hs hh : List Int} {vo : Bool → Value} {out : Bool → List UInt8} {rq : Bool → Nat} {cl sh : Bool → Bool} {w : World} (I : AlI w0 V ps pc c hb sb N hs hh vo out rq cl sh w) (k : Nat) (x : Int) :
    AlI w0 V ps pc c hb sb N hs (hh.set k x) vo out rq cl sh (w.setCell ⟨hb, k, none⟩ (.int .i64 x)) := by
  have hk : Kx [hb] w (w.setCell ⟨hb, k, none⟩ (.int .i64 x)) := Kx.set _ _ (by simp)
  have q := I.d.lts false
  have hn : ∀ y, y ≠ hb → y ∉ [hb] := fun y h hm => h (by simpa using hm)
  refine ⟨I.d, Nat.le_trans I.n hk.size, I.sv.kx hk (fun b h => by simp at h; subst h; exact q.g2) (hn _ q.h1.symm) (hn _ q.h2.symm), hk.heap I.ps (hn _ q.h3.symm), fun e => hk.heap (I.pa e) (hn _ (I.d.lts e).p4), fun e => (I.ja e).kx hk (hn _ (I.d.lts e).c4) (fun r hr => hn r (Nat.ne_of_gt (Nat.lt_of_lt_of_le q.hbN (I.ow e r hr)))), I.ow, ?_, hk.heap I.ss (hn _ q.s4.symm), I.bel.trans (hk.below (fun b h => ?_) I.bel.size), I.lw⟩
  · rw [heap_set I.hh k (.int .i64 x)]
    congr 2
    apply Array.ext'
    simp [List.map_set]
  · simp at h; subst h; exact Nat.le_trans I.lw q.g2
end Go.Proofs.YtpilfanbfpbldaaGreatDoor
