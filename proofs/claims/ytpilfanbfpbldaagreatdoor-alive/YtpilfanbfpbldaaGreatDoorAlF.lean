/- Alive itself: whatever the script. -/
import Derived.Test.YtpilfanbfpbldaaGreatDoorJoin39
import Derived.Deep.LoopGhost
import Derived.Deep.CutRange
namespace Go.Proofs.YtpilfanbfpbldaaGreatDoor
open Go.RowKit

set_option maxRecDepth 100000 in
theorem wanted_any (k : Nat) (hk : k < 4) (b : Bool) (w : World) : Calls Tryz.prog 10 #[.int .i64 k, .bool b] w fun x w' => x = .returned (.string ⟨(saidL k b).toArray⟩) ∧ w' = w := by
  match k, hk with
  | 0, _ =>
    go_enter Tryz.func10, Tryz.ntmps10
    go_wp2; go_ret; exact ⟨rfl, rfl⟩
  | 1, _ =>
    cases b
    · go_enter Tryz.func10, Tryz.ntmps10
      go_wp2; go_ret; exact ⟨rfl, rfl⟩
    · go_enter Tryz.func10, Tryz.ntmps10
      go_wp2; go_ret; exact ⟨rfl, rfl⟩
  | 2, _ =>
    go_enter Tryz.func10, Tryz.ntmps10
    go_wp2; go_ret; exact ⟨rfl, rfl⟩
  | 3, _ =>
    go_enter Tryz.func10, Tryz.ntmps10
    go_wp2; go_ret; exact ⟨rfl, rfl⟩
def ScAt (zs : List Int) (a : Option Addr) (w : World) : Prop :=
  ∀ i (h : i < zs.length), ∃ g o, a = some ⟨g, o, none⟩ ∧ g < w.heap.size ∧ w.cell? ⟨g, o + i, none⟩ = some (.int .i64 zs[i])
theorem ScAt.below {zs : List Int} {a : Option Addr} {w w' : World} (h : ScAt zs a w) (hb : Below w.heap.size w w') : ScAt zs a w' := fun i hi => by
  obtain ⟨g, o, h1, h2, h3⟩ := h i hi
  exact ⟨g, o, h1, Nat.lt_of_lt_of_le h2 hb.size, cell_later hb h3⟩
/- from turn to turn -/
structure AlT (w0 : World) (V : Sv) (ps : Nat) (pc c : Bool → Nat) (hb sb N : Nat) (n : Nat) (h0 h1 h2 : Int) (rq : Bool → Nat) (cl : Bool → Bool) (w : World) : Prop where
  i : AlI w0 V ps pc c hb sb N [h0, h1, h2] [h0, h1, h2] (fun _ => nilV) (fun _ => []) rq cl cl w
  b0 : 0 ≤ h0 ∧ h0 ≤ n
  b1 : 0 ≤ h1 ∧ h1 ≤ n
  b2 : 0 ≤ h2 ∧ h2 ≤ n
  r : ∀ d, rq d ≤ n
theorem ix4 (a b c d : ByteArray) (W : World) : (Instr.index 40 (.agg #[.string a, .string b, .string c, .string d]) (.int .i64 0)).run Tryz.prog W = .ok (.string a) W ∧ (Instr.index 40 (.agg #[.string a, .string b, .string c, .string d]) (.int .i64 1)).run Tryz.prog W = .ok (.string b) W ∧ (Instr.index 40 (.agg #[.string a, .string b, .string c, .string d]) (.int .i64 2)).run Tryz.prog W = .ok (.string c) W ∧ (Instr.index 40 (.agg #[.string a, .string b, .string c, .string d]) (.int .i64 3)).run Tryz.prog W = .ok (.string d) W := by
  refine ⟨?_, ?_, ?_, ?_⟩ <;> simp [Instr.index, run_underlying Tryz.underlying40, asIntOf, go_sem]
theorem upd_nil (d : Bool) (v : Value) : upd (upd (fun _ => nilV) d v) d nilV = fun _ => nilV := by
  funext e; by_cases h : e = d <;> simp [upd, h]
theorem upd_nil1 (d : Bool) : upd (fun _ => nilV) d nilV = fun _ => nilV := by
  funext e; by_cases h : e = d <;> simp [upd, h]
theorem upd_none1 (d : Bool) : upd (fun _ => ([] : List UInt8)) d [] = fun _ => [] := by
  funext e; by_cases h : e = d <;> simp [upd, h]
theorem rq_le {rq : Bool → Nat} {n : Nat} (h : ∀ d, rq d ≤ n) (d : Bool) (k : Nat) (e : Bool) : upd rq d (rqK k (rq d)) e ≤ n + 1 := by
  have h1 := h e
  have h2 := h d
  unfold rqK
  by_cases he : e = d
  · subst he; simp only [upd, if_true]; split <;> omega
  · simp only [upd, he, if_false]; omega
theorem upd_none (d : Bool) (v : List UInt8) : upd (upd (fun _ => ([] : List UInt8)) d v) d [] = fun _ => [] := by
  funext e; by_cases h : e = d <;> simp [upd, h]
theorem al_start {w w4 w5 w6 : World} {V : Sv} {ps : Nat} (lw : Below w.heap.size w w4) (l0 : w.heap.size ≤ V.w1.heap.size) (hb5 : Below w4.heap.size w4 w5) (hb6 : Below w5.heap.size w5 w6) (q1 : V.s < w4.heap.size) (q2 : V.h < w4.heap.size) (q3 : ps < w4.heap.size) (l1 : V.w1.heap.size ≤ ps) (l2 : ps ≠ V.s) (l3 : ps ≠ V.h) (z5 : w5.heap.size = w4.heap.size + 2) (z6 : w6.heap.size = w5.heap.size + 2) (I : SvI V [0, 0, 0] w6) (Ja : CnI V w4.heap.size nilV ⟨#[]⟩ [] 0 false w6) (Jb : CnI V w5.heap.size nilV ⟨#[]⟩ [] 0 false w6) (ha : PcAt2 (w4.heap.size + 1) w4.heap.size w6) (hb : PcAt2 (w5.heap.size + 1) w5.heap.size w6) (hp : PsAt ps V.s w6) :
    AlT w V ps (fun d => if d = true then w4.heap.size + 2 + 1 else w4.heap.size + 1) (fun d => if d = true then w4.heap.size + 2 else w4.heap.size) (w4.heap.size + 2 + 2) (w4.heap.size + 2 + 2 + 1) (w4.heap.size + 2 + 2 + 2) 0 0 0 0 (fun _ => 0) (fun _ => false) ((w6.alloc (.cells #[.int .i64 0, .int .i64 0, .int .i64 0] 37)).alloc (.cells #[.bool false, .bool false] 38)) := by
  have h1 := (Below.refl w6.heap.size w6).alloc (Nat.le_refl _) (.cells #[.int .i64 0, .int .i64 0, .int .i64 0] 37)
  have h2 := h1.alloc h1.size (.cells #[.bool false, .bool false] 38)
  have y1 : (w6.alloc (.cells #[.int .i64 0, .int .i64 0, .int .i64 0] 37)).heap.size = w6.heap.size + 1 := by simp
  have y6 : w6.heap.size = w4.heap.size + 2 + 2 := by omega
  have B1 := heap_alloc_new w6 (.cells #[.int .i64 0, .int .i64 0, .int .i64 0] 37)
  have B2 := heap_alloc_new (w6.alloc (.cells #[.int .i64 0, .int .i64 0, .int .i64 0] 37)) (.cells #[.bool false, .bool false] 38)
  rw [y1, y6] at B2
  rw [y6] at B1
  rw [z5] at Jb hb
  refine ⟨⟨⟨l2, l3, q1, q2, q3, by simp, by simp, by simp, by simp, by simp, by omega, l1⟩, ?_, I.below h2, ?_, fun d => ?_, fun d => ?_, fun d r hr => by simp [Value.ownBlock] at hr, ?_, B2, (lw.trans (((hb5.mono lw.size).trans (hb6.mono (Nat.le_trans lw.size hb5.size))).trans (h2.mono (by have := lw.size; have := hb5.size; have := hb6.size; omega)))), l0⟩, ⟨by omega, by omega⟩, ⟨by omega, by omega⟩, ⟨by omega, by omega⟩, fun _ => Nat.le_refl _⟩
  · simp; omega
  · unfold PsAt; rw [h2.block ps (by omega)]; exact hp
  · cases d
    · show ((w6.alloc _).alloc _).heap[w4.heap.size + 1]? = _
      rw [h2.block _ (by omega)]; exact ha
    · show ((w6.alloc _).alloc _).heap[w4.heap.size + 2 + 1]? = _
      rw [h2.block _ (by omega)]; exact hb
  · cases d
    · exact Ja.below h2
    · exact Jb.below h2
  · rw [Below.heap_alloc _ _ _ (by rw [y1]; omega)]; exact B1
theorem pick8 (c : Int) : ∃ k : Nat, k < 8 ∧ pickS c 8 = (k : Int) := by
  unfold pickS
  have h := Int.emod_nonneg (if c < 0 then -(c + 1) else c) (show (8 : Int) ≠ 0 by decide)
  have h2 := Int.emod_lt_of_pos (if c < 0 then -(c + 1) else c) (show (0 : Int) < 8 by decide)
  exact ⟨((if c < 0 then -(c + 1) else c) % 8).toNat, by omega, by omega⟩
set_option maxRecDepth 100000 in
set_option maxHeartbeats 40000000 in
theorem alive_law (zs : List Int) (sa : Option Addr) (sc : Nat) (b : Bool) (mx : Int) (w : World) (hz : ScAt zs sa w) (hzl : zs.length ≤ 4611686018427300000) (hzb : ∀ i (h : i < zs.length), -9223372036854775808 ≤ zs[i] ∧ zs[i] ≤ 9223372036854775807) (hm : w.cell? ⟨1, 0, none⟩ = some (.int .i64 mx)) (ht : TabW w) :
    Calls Tryz.prog 3 #[.slice sa zs.length sc, .bool b] w fun x w' => x = .returned (.bool true) ∧ Below w.heap.size w w' := by
  have HNW := hid (fun ar aw cw W (hb : Below w.heap.size w W) (hR : MuAt 6 Rt.cells smallR ar W) (hW : MuAt 4 Wr.cells (smW b) aw W) => newC_any (smC b) ar 3 aw cw mx W hR hW small_sm (small_ws b) (cell_later hb hm) (Lib.tabBelow_of_tabIs (ht W hb)) (small_cfg b))
  have HSM := hid (small_b b w)
  have HGR := hid (fun W (hb : Below w.heap.size w W) => greets_any mx W (cell_later hb hm) (Lib.tabBelow_of_tabIs (ht W hb)))
  have HZ := hid hz
  clear hm ht hz
  go_enter Tryz.func3, Tryz.ntmps3
  go_wp2_with fail
  refine HSM.out.mono ?_
  rintro x w2 ⟨⟨ar, aw, cw, rfl, hR, hW⟩, hb2⟩
  have HN2 := hid (HNW.out ar aw cw w2 hb2 hR hW)
  clear HNW HSM hR hW
  go_wp2_with fail
  refine HN2.out.mono ?_
  rintro x w3 ⟨ps, V, es, v, vh, vw, rfl, hp, ok, I3, l1, l2, l3, hB⟩
  have hB0 := bel_of hb2 hB
  have hB3 := hB0.trans (I3.bel.mono hB0.size)
  have HG3 := hid (HGR.out w3 hB3)
  have HP := hid hp
  have HI := hid I3
  have HOK := hid ok
  clear HN2 HGR hp I3 ok
  go_wp2_with fail
  refine HG3.out.mono ?_
  rintro x w4 ⟨rfl, hb4⟩
  have I4 := HI.out.below hb4
  have hp4 : PsAt ps V.s w4 := by unfold PsAt; rw [hb4.block ps (heap_lt HP.out)]; exact HP.out
  have HO4 := hid (pOpen_any V ps w4 hp4)
  have HC4 := hid (cn_new V _ w4 I4)
  have q1 := I4.ls
  have q2 := I4.lh
  have q3 := heap_lt hp4
  have lw4 := hid (bel_of hB3 hb4)
  clear HG3 HP HI
  go_wp2_with fail
  refine HO4.out.mono ?_
  rintro x w5 ⟨rfl, hw5⟩
  rw [← hw5] at HC4
  obtain ⟨Ja, hpa, hb5⟩ := HC4.out
  have z5 : w5.heap.size = w4.heap.size + 2 := by rw [hw5]; simp
  clear hw5 HC4 HO4
  have I5 := I4.below hb5
  have hp5 : PsAt ps V.s w5 := by unfold PsAt; rw [hb5.block ps q3]; exact hp4
  have HO5 := hid (pOpen_any V ps w5 hp5)
  have HC5 := hid (cn_new V _ w5 I5)
  have HJa := hid Ja
  have Hpa := hid hpa
  have Hp5 := hid hp5
  have HI5 := hid I5
  clear Ja hpa hp4 hp5 I4 I5
  go_wp2_with fail
  refine HO5.out.mono ?_
  rintro x w6 ⟨rfl, hw6⟩
  rw [← hw6] at HC5
  obtain ⟨Jb, hpb, hb6⟩ := HC5.out
  have z6 : w6.heap.size = w5.heap.size + 2 := by rw [hw6]; simp
  clear hw6 HC5 HO5
  have HI6 := hid (HI5.out.below hb6)
  have HJa6 := hid (HJa.out.below hb6)
  have HJb := hid Jb
  have Hpa6 : Hid (PcAt2 (w4.heap.size + 1) w4.heap.size w6) := by unfold Hid PcAt2; rw [hb6.block _ (heap_lt Hpa.out)]; exact Hpa.out
  have Hpb := hid hpb
  have Hp6 : Hid (PsAt ps V.s w6) := by unfold Hid PsAt; rw [hb6.block ps (heap_lt Hp5.out)]; exact Hp5.out
  clear HI5 HJa Jb Hpa hpb Hp5
  have hAT := al_start lw4.out hB0.size hb5 hb6 q1 q2 q3 l1 l2 l3 z5 z6 HI6.out HJa6.out HJb.out Hpa6.out Hpb.out Hp6.out
  have HAT := hid hAT
  clear hAT HI6 HJa6 HJb Hpa6 Hpb Hp6
  go_wp2_with fail
  generalize (w6.alloc (.cells #[.int .i64 0, .int .i64 0, .int .i64 0] 37)).alloc (.cells #[.bool false, .bool false] 38) = w7 at *
  clear z5 z6 hb5 hb6 hb4 q1 q2 q3 l1 l2 l3 hB hB0 hB3 lw4
  generalize w4.heap.size = M at *
  go_loopg [6, 12, 13, 14, 15, 16, 17] zs.length (fun g _ i _ _ _ _ _ wr => ∃ (n : Nat) (h0 h1 h2 : Int) (rq : Bool → Nat) (cl : Bool → Bool), i = .int .i64 n ∧ n ≤ zs.length ∧ g = zs.length - n ∧ AlT w V ps (fun d => if d = true then M + 2 + 1 else M + 1) (fun d => if d = true then M + 2 else M) (M + 2 + 2) (M + 2 + 2 + 1) (M + 2 + 2 + 2) n h0 h1 h2 rq cl wr)
  case atStart => exact ⟨0, 0, 0, 0, _, _, rfl, Nat.zero_le _, rfl, HAT.out⟩
  case round =>
    obtain ⟨n, h0, h1, h2, rq, cl, rfl, hn, rfl, T⟩ := hrel
    have hbel := T.i.bel
    have b0 := T.b0
    have b1 := T.b1
    have b2 := T.b2
    have lhb := heap_lt T.i.hh
    have lsb := heap_lt T.i.ss
    by_cases hlt : n < zs.length
    · have hnl : (n : Int) < (zs.length : Int) := by omega
      have hn0 : (0 : Int) ≤ (n : Int) := by omega
      obtain ⟨g, o, hsa, hg, hcell⟩ := HZ.out n hlt
      have hcw := cell_later hbel hcell
      have lgw := block_lt_of_cell hcw
      have hzn := hzb n hlt
      obtain ⟨k, hk8, hkk⟩ := pick8 zs[n]
      have HPK := hid (fun W => pick_any zs[n] 8 W hzn.1 hzn.2 (by omega) (by omega))
      generalize hzx : zs[n] = zx at *
      rw [hkk] at HPK
      have HT := hid T
      have hr1 : (n : Int) + 1 ≤ 9223372036854775807 := by omega
      clear T hkk hcell
      subst hsa
      by_cases hk0 : k = 0
      · subst hk0
        have hix := fun a b c d W => (ix4 a b c d W).1
        cases hcl : cl false
        · have HGV := hid (show Calls Tryz.prog 9 #[.pointer (some ⟨M + 1, 0, none⟩), .string ⟨(askL 0).toArray⟩] _ _ from al_give HOK.out HT.out.i false rfl rfl hcl 0 (by omega) rfl (fun x hx => by simp at hx; omega) (by have := HT.out.r false; omega))
          obtain ⟨TX, hTX⟩ : ∃ TX : ByteArray, TX = ⟨(saidL 0 b).toArray⟩ := ⟨_, rfl⟩
          have HWN := hid (fun W => wanted_any 0 (by omega) b W)
          rw [← hTX] at HWN
          have HT2 := HT
          go_wp2_with (go_at_call 8; refine (HPK.out _).mono ?_; rintro e w' ⟨rfl, rfl⟩)
          refine HGV.out.mono ?_
          rintro x w8 ⟨rfl, vo', I8⟩
          have ss8 := I8.ss
          have hh8 := I8.hh
          have s0 : w8.cell? ⟨M + 2 + 2 + 1, 0, none⟩ = some (.bool false) := (Lib.cell_of_heap ss8 _).trans (show some (Value.bool (cl false)) = _ by rw [hcl])
          have y0 := Lib.frozen_of_heap ss8 0
          have lsb8 := heap_lt ss8
          have I9 : AlI _ _ _ _ _ _ _ _ _ _ _ _ _ _ _ (w8.setCell ⟨M + 2 + 2 + 1, 0, none⟩ (.bool false)) := al_mark I8 false false
          have t0 : (w8.setCell ⟨M + 2 + 2 + 1, 0, none⟩ (.bool false)).cell? ⟨M + 2 + 2, 0, none⟩ = some (.int .i64 h0) := (Lib.cell_of_heap I9.hh _).trans rfl
          have y1 : (w8.setCell ⟨M + 2 + 2 + 1, 0, none⟩ (.bool false)).frozen? ⟨M + 2 + 2, 0, none⟩ = false := Lib.frozen_of_heap I9.hh 0
          have lhb8 := heap_lt hh8
          have I10 := al_count I9 0 (h0 + 1)
          have HRS := hid (show Calls Tryz.prog 11 #[.pointer (some ⟨M + 1, 0, none⟩)] _ (fun x w' => x = .returned (.string TX) ∧ AlI _ _ _ _ _ _ _ _ _ _ _ _ _ _ _ w') from by rw [hTX]; exact al_rest I10 false)
          have bh : (0 : Int) ≤ h0 + 1 ∧ h0 + 1 ≤ 9223372036854775807 := by omega
          clear HGV I8 I9 I10 ss8 hh8 hTX
          go_wp2_with (go_at_call 10; refine (HWN.out _).mono ?_; rintro e w' ⟨rfl, rfl⟩)
          refine HRS.out.mono ?_
          rintro x w11 ⟨rfl, I11⟩
          have HI11 := hid I11
          clear I11 HRS
          go_wp2_with fail
          go_roundg (zs.length - (n + 1))
          case measure => omega
          case rel =>
            refine ⟨n + 1, h0 + 1, h1, h2, upd rq false (rqK 0 (rq false)), upd cl false (shutK 0 b), by simp, by omega, rfl, ⟨?_, by omega, by omega, by omega, fun e => ?_⟩⟩
            · have h := HI11.out
              rw [upd_nil, upd_none] at h
              exact h
            · exact rq_le HT2.out.r _ _ e
        · have HGV := hid (show Calls Tryz.prog 9 #[.pointer (some ⟨M + 1, 0, none⟩), .string ⟨(askL 0).toArray⟩] _ _ from al_shut HT.out.i false hcl ⟨(askL 0).toArray⟩)
          have HRS := hid (show Calls Tryz.prog 11 #[.pointer (some ⟨M + 1, 0, none⟩)] _ _ from al_rest HT.out.i false)
          have ss8 := HT.out.i.ss
          have s0 : wr.cell? ⟨M + 2 + 2 + 1, 0, none⟩ = some (.bool true) := (Lib.cell_of_heap ss8 _).trans (show some (Value.bool (cl false)) = _ by rw [hcl])
          have HT2 := HT
          clear ss8
          go_wp2_with (go_at_call 8; refine (HPK.out _).mono ?_; rintro e w' ⟨rfl, rfl⟩)
          refine HGV.out.mono ?_
          rintro x w8 ⟨rfl, rfl⟩
          clear HGV
          go_wp2_with fail
          refine HRS.out.mono ?_
          rintro x w11 ⟨rfl, I11⟩
          have HI11 := hid I11
          clear I11 HRS
          go_wp2_with fail
          go_roundg (zs.length - (n + 1))
          case measure => omega
          case rel =>
            refine ⟨n + 1, h0, h1, h2, rq, cl, by simp, by omega, rfl, ⟨?_, by omega, by omega, by omega, fun e => by have := HT2.out.r e; omega⟩⟩
            have h := HI11.out
            rw [upd_nil1, upd_none1] at h
            exact h
      by_cases hk1 : k = 1
      · subst hk1
        have hix := fun a b c d W => (ix4 a b c d W).2.1
        cases hcl : cl false
        · have HGV := hid (show Calls Tryz.prog 9 #[.pointer (some ⟨M + 1, 0, none⟩), .string ⟨(askL 1).toArray⟩] _ _ from al_give HOK.out HT.out.i false rfl rfl hcl 1 (by omega) rfl (fun x hx => by simp at hx; omega) (by have := HT.out.r false; omega))
          obtain ⟨TX, hTX⟩ : ∃ TX : ByteArray, TX = ⟨(saidL 1 b).toArray⟩ := ⟨_, rfl⟩
          have HWN := hid (fun W => wanted_any 1 (by omega) b W)
          rw [← hTX] at HWN
          have HT2 := HT
          go_wp2_with (go_at_call 8; refine (HPK.out _).mono ?_; rintro e w' ⟨rfl, rfl⟩)
          refine HGV.out.mono ?_
          rintro x w8 ⟨rfl, vo', I8⟩
          have ss8 := I8.ss
          have hh8 := I8.hh
          have s0 : w8.cell? ⟨M + 2 + 2 + 1, 0, none⟩ = some (.bool false) := (Lib.cell_of_heap ss8 _).trans (show some (Value.bool (cl false)) = _ by rw [hcl])
          have y0 := Lib.frozen_of_heap ss8 0
          have lsb8 := heap_lt ss8
          have I9 : AlI _ _ _ _ _ _ _ _ _ _ _ _ _ _ _ (w8.setCell ⟨M + 2 + 2 + 1, 0, none⟩ (.bool (!b))) := al_mark I8 false (!b)
          have t0 : (w8.setCell ⟨M + 2 + 2 + 1, 0, none⟩ (.bool (!b))).cell? ⟨M + 2 + 2, 1, none⟩ = some (.int .i64 h1) := (Lib.cell_of_heap I9.hh _).trans rfl
          have y1 : (w8.setCell ⟨M + 2 + 2 + 1, 0, none⟩ (.bool (!b))).frozen? ⟨M + 2 + 2, 1, none⟩ = false := Lib.frozen_of_heap I9.hh 1
          have lhb8 := heap_lt hh8
          have I10 := al_count I9 1 (h1 + 1)
          have HRS := hid (show Calls Tryz.prog 11 #[.pointer (some ⟨M + 1, 0, none⟩)] _ (fun x w' => x = .returned (.string TX) ∧ AlI _ _ _ _ _ _ _ _ _ _ _ _ _ _ _ w') from by rw [hTX]; exact al_rest I10 false)
          have bh : (0 : Int) ≤ h1 + 1 ∧ h1 + 1 ≤ 9223372036854775807 := by omega
          clear HGV I8 I9 I10 ss8 hh8 hTX
          go_wp2_with (go_at_call 10; refine (HWN.out _).mono ?_; rintro e w' ⟨rfl, rfl⟩)
          refine HRS.out.mono ?_
          rintro x w11 ⟨rfl, I11⟩
          have HI11 := hid I11
          clear I11 HRS
          go_wp2_with fail
          go_roundg (zs.length - (n + 1))
          case measure => omega
          case rel =>
            refine ⟨n + 1, h0, h1 + 1, h2, upd rq false (rqK 1 (rq false)), upd cl false (shutK 1 b), by simp, by omega, rfl, ⟨?_, by omega, by omega, by omega, fun e => ?_⟩⟩
            · have h := HI11.out
              rw [upd_nil, upd_none] at h
              exact h
            · exact rq_le HT2.out.r _ _ e
        · have HGV := hid (show Calls Tryz.prog 9 #[.pointer (some ⟨M + 1, 0, none⟩), .string ⟨(askL 1).toArray⟩] _ _ from al_shut HT.out.i false hcl ⟨(askL 1).toArray⟩)
          have HRS := hid (show Calls Tryz.prog 11 #[.pointer (some ⟨M + 1, 0, none⟩)] _ _ from al_rest HT.out.i false)
          have ss8 := HT.out.i.ss
          have s0 : wr.cell? ⟨M + 2 + 2 + 1, 0, none⟩ = some (.bool true) := (Lib.cell_of_heap ss8 _).trans (show some (Value.bool (cl false)) = _ by rw [hcl])
          have HT2 := HT
          clear ss8
          go_wp2_with (go_at_call 8; refine (HPK.out _).mono ?_; rintro e w' ⟨rfl, rfl⟩)
          refine HGV.out.mono ?_
          rintro x w8 ⟨rfl, rfl⟩
          clear HGV
          go_wp2_with fail
          refine HRS.out.mono ?_
          rintro x w11 ⟨rfl, I11⟩
          have HI11 := hid I11
          clear I11 HRS
          go_wp2_with fail
          go_roundg (zs.length - (n + 1))
          case measure => omega
          case rel =>
            refine ⟨n + 1, h0, h1, h2, rq, cl, by simp, by omega, rfl, ⟨?_, by omega, by omega, by omega, fun e => by have := HT2.out.r e; omega⟩⟩
            have h := HI11.out
            rw [upd_nil1, upd_none1] at h
            exact h
      by_cases hk2 : k = 2
      · subst hk2
        have hix := fun a b c d W => (ix4 a b c d W).2.2.1
        cases hcl : cl false
        · have HGV := hid (show Calls Tryz.prog 9 #[.pointer (some ⟨M + 1, 0, none⟩), .string ⟨(askL 2).toArray⟩] _ _ from al_give HOK.out HT.out.i false rfl rfl hcl 2 (by omega) rfl (fun x hx => by simp at hx; omega) (by have := HT.out.r false; omega))
          obtain ⟨TX, hTX⟩ : ∃ TX : ByteArray, TX = ⟨(saidL 2 b).toArray⟩ := ⟨_, rfl⟩
          have HWN := hid (fun W => wanted_any 2 (by omega) b W)
          rw [← hTX] at HWN
          have HT2 := HT
          go_wp2_with (go_at_call 8; refine (HPK.out _).mono ?_; rintro e w' ⟨rfl, rfl⟩)
          refine HGV.out.mono ?_
          rintro x w8 ⟨rfl, vo', I8⟩
          have ss8 := I8.ss
          have hh8 := I8.hh
          have s0 : w8.cell? ⟨M + 2 + 2 + 1, 0, none⟩ = some (.bool false) := (Lib.cell_of_heap ss8 _).trans (show some (Value.bool (cl false)) = _ by rw [hcl])
          have y0 := Lib.frozen_of_heap ss8 0
          have lsb8 := heap_lt ss8
          have I9 : AlI _ _ _ _ _ _ _ _ _ _ _ _ _ _ _ (w8.setCell ⟨M + 2 + 2 + 1, 0, none⟩ (.bool false)) := al_mark I8 false false
          have t0 : (w8.setCell ⟨M + 2 + 2 + 1, 0, none⟩ (.bool false)).cell? ⟨M + 2 + 2, 2, none⟩ = some (.int .i64 h2) := (Lib.cell_of_heap I9.hh _).trans rfl
          have y1 : (w8.setCell ⟨M + 2 + 2 + 1, 0, none⟩ (.bool false)).frozen? ⟨M + 2 + 2, 2, none⟩ = false := Lib.frozen_of_heap I9.hh 2
          have lhb8 := heap_lt hh8
          have I10 := al_count I9 2 (h2 + 1)
          have HRS := hid (show Calls Tryz.prog 11 #[.pointer (some ⟨M + 1, 0, none⟩)] _ (fun x w' => x = .returned (.string TX) ∧ AlI _ _ _ _ _ _ _ _ _ _ _ _ _ _ _ w') from by rw [hTX]; exact al_rest I10 false)
          have bh : (0 : Int) ≤ h2 + 1 ∧ h2 + 1 ≤ 9223372036854775807 := by omega
          clear HGV I8 I9 I10 ss8 hh8 hTX
          go_wp2_with (go_at_call 10; refine (HWN.out _).mono ?_; rintro e w' ⟨rfl, rfl⟩)
          refine HRS.out.mono ?_
          rintro x w11 ⟨rfl, I11⟩
          have HI11 := hid I11
          clear I11 HRS
          go_wp2_with fail
          go_roundg (zs.length - (n + 1))
          case measure => omega
          case rel =>
            refine ⟨n + 1, h0, h1, h2 + 1, upd rq false (rqK 2 (rq false)), upd cl false (shutK 2 b), by simp, by omega, rfl, ⟨?_, by omega, by omega, by omega, fun e => ?_⟩⟩
            · have h := HI11.out
              rw [upd_nil, upd_none] at h
              exact h
            · exact rq_le HT2.out.r _ _ e
        · have HGV := hid (show Calls Tryz.prog 9 #[.pointer (some ⟨M + 1, 0, none⟩), .string ⟨(askL 2).toArray⟩] _ _ from al_shut HT.out.i false hcl ⟨(askL 2).toArray⟩)
          have HRS := hid (show Calls Tryz.prog 11 #[.pointer (some ⟨M + 1, 0, none⟩)] _ _ from al_rest HT.out.i false)
          have ss8 := HT.out.i.ss
          have s0 : wr.cell? ⟨M + 2 + 2 + 1, 0, none⟩ = some (.bool true) := (Lib.cell_of_heap ss8 _).trans (show some (Value.bool (cl false)) = _ by rw [hcl])
          have HT2 := HT
          clear ss8
          go_wp2_with (go_at_call 8; refine (HPK.out _).mono ?_; rintro e w' ⟨rfl, rfl⟩)
          refine HGV.out.mono ?_
          rintro x w8 ⟨rfl, rfl⟩
          clear HGV
          go_wp2_with fail
          refine HRS.out.mono ?_
          rintro x w11 ⟨rfl, I11⟩
          have HI11 := hid I11
          clear I11 HRS
          go_wp2_with fail
          go_roundg (zs.length - (n + 1))
          case measure => omega
          case rel =>
            refine ⟨n + 1, h0, h1, h2, rq, cl, by simp, by omega, rfl, ⟨?_, by omega, by omega, by omega, fun e => by have := HT2.out.r e; omega⟩⟩
            have h := HI11.out
            rw [upd_nil1, upd_none1] at h
            exact h
      by_cases hk3 : k = 3
      · subst hk3
        have hix := fun a b c d W => (ix4 a b c d W).2.2.2
        cases hcl : cl false
        · have HGV := hid (show Calls Tryz.prog 9 #[.pointer (some ⟨M + 1, 0, none⟩), .string ⟨(askL 3).toArray⟩] _ _ from al_give HOK.out HT.out.i false rfl rfl hcl 3 (by omega) rfl (fun x hx => by simp at hx; omega) (by have := HT.out.r false; omega))
          obtain ⟨TX, hTX⟩ : ∃ TX : ByteArray, TX = ⟨(saidL 3 b).toArray⟩ := ⟨_, rfl⟩
          have HWN := hid (fun W => wanted_any 3 (by omega) b W)
          rw [← hTX] at HWN
          have HT2 := HT
          go_wp2_with (go_at_call 8; refine (HPK.out _).mono ?_; rintro e w' ⟨rfl, rfl⟩)
          refine HGV.out.mono ?_
          rintro x w8 ⟨rfl, vo', I8⟩
          have ss8 := I8.ss
          have hh8 := I8.hh
          have s0 : w8.cell? ⟨M + 2 + 2 + 1, 0, none⟩ = some (.bool false) := (Lib.cell_of_heap ss8 _).trans (show some (Value.bool (cl false)) = _ by rw [hcl])
          have y0 := Lib.frozen_of_heap ss8 0
          have lsb8 := heap_lt ss8
          have I9 : AlI _ _ _ _ _ _ _ _ _ _ _ _ _ _ _ (w8.setCell ⟨M + 2 + 2 + 1, 0, none⟩ (.bool true)) := al_mark I8 false true
          have HRS := hid (show Calls Tryz.prog 11 #[.pointer (some ⟨M + 1, 0, none⟩)] _ (fun x w' => x = .returned (.string TX) ∧ AlI _ _ _ _ _ _ _ _ _ _ _ _ _ _ _ w') from by rw [hTX]; exact al_rest I9 false)
          clear HGV I8 I9 ss8 hh8 hTX
          go_wp2_with (go_at_call 10; refine (HWN.out _).mono ?_; rintro e w' ⟨rfl, rfl⟩)
          refine HRS.out.mono ?_
          rintro x w11 ⟨rfl, I11⟩
          have HI11 := hid I11
          clear I11 HRS
          go_wp2_with fail
          go_roundg (zs.length - (n + 1))
          case measure => omega
          case rel =>
            refine ⟨n + 1, h0, h1, h2, upd rq false (rqK 3 (rq false)), upd cl false (shutK 3 b), by simp, by omega, rfl, ⟨?_, by omega, by omega, by omega, fun e => ?_⟩⟩
            · have h := HI11.out
              rw [upd_nil, upd_none] at h
              exact h
            · exact rq_le HT2.out.r _ _ e
        · have HGV := hid (show Calls Tryz.prog 9 #[.pointer (some ⟨M + 1, 0, none⟩), .string ⟨(askL 3).toArray⟩] _ _ from al_shut HT.out.i false hcl ⟨(askL 3).toArray⟩)
          have HRS := hid (show Calls Tryz.prog 11 #[.pointer (some ⟨M + 1, 0, none⟩)] _ _ from al_rest HT.out.i false)
          have ss8 := HT.out.i.ss
          have s0 : wr.cell? ⟨M + 2 + 2 + 1, 0, none⟩ = some (.bool true) := (Lib.cell_of_heap ss8 _).trans (show some (Value.bool (cl false)) = _ by rw [hcl])
          have HT2 := HT
          clear ss8
          go_wp2_with (go_at_call 8; refine (HPK.out _).mono ?_; rintro e w' ⟨rfl, rfl⟩)
          refine HGV.out.mono ?_
          rintro x w8 ⟨rfl, rfl⟩
          clear HGV
          go_wp2_with fail
          refine HRS.out.mono ?_
          rintro x w11 ⟨rfl, I11⟩
          have HI11 := hid I11
          clear I11 HRS
          go_wp2_with fail
          go_roundg (zs.length - (n + 1))
          case measure => omega
          case rel =>
            refine ⟨n + 1, h0, h1, h2, rq, cl, by simp, by omega, rfl, ⟨?_, by omega, by omega, by omega, fun e => by have := HT2.out.r e; omega⟩⟩
            have h := HI11.out
            rw [upd_nil1, upd_none1] at h
            exact h
      by_cases hk4 : k = 4
      · subst hk4
        have hix := fun a b c d W => (ix4 a b c d W).1
        cases hcl : cl true
        · have HGV := hid (show Calls Tryz.prog 9 #[.pointer (some ⟨M + 2 + 1, 0, none⟩), .string ⟨(askL 0).toArray⟩] _ _ from al_give HOK.out HT.out.i true rfl rfl hcl 0 (by omega) rfl (fun x hx => by simp at hx; omega) (by have := HT.out.r true; omega))
          obtain ⟨TX, hTX⟩ : ∃ TX : ByteArray, TX = ⟨(saidL 0 b).toArray⟩ := ⟨_, rfl⟩
          have HWN := hid (fun W => wanted_any 0 (by omega) b W)
          rw [← hTX] at HWN
          have HT2 := HT
          go_wp2_with (go_at_call 8; refine (HPK.out _).mono ?_; rintro e w' ⟨rfl, rfl⟩)
          refine HGV.out.mono ?_
          rintro x w8 ⟨rfl, vo', I8⟩
          have ss8 := I8.ss
          have hh8 := I8.hh
          have s0 : w8.cell? ⟨M + 2 + 2 + 1, 1, none⟩ = some (.bool false) := (Lib.cell_of_heap ss8 _).trans (show some (Value.bool (cl true)) = _ by rw [hcl])
          have y0 := Lib.frozen_of_heap ss8 1
          have lsb8 := heap_lt ss8
          have I9 : AlI _ _ _ _ _ _ _ _ _ _ _ _ _ _ _ (w8.setCell ⟨M + 2 + 2 + 1, 1, none⟩ (.bool false)) := al_mark I8 true false
          have t0 : (w8.setCell ⟨M + 2 + 2 + 1, 1, none⟩ (.bool false)).cell? ⟨M + 2 + 2, 0, none⟩ = some (.int .i64 h0) := (Lib.cell_of_heap I9.hh _).trans rfl
          have y1 : (w8.setCell ⟨M + 2 + 2 + 1, 1, none⟩ (.bool false)).frozen? ⟨M + 2 + 2, 0, none⟩ = false := Lib.frozen_of_heap I9.hh 0
          have lhb8 := heap_lt hh8
          have I10 := al_count I9 0 (h0 + 1)
          have HRS := hid (show Calls Tryz.prog 11 #[.pointer (some ⟨M + 2 + 1, 0, none⟩)] _ (fun x w' => x = .returned (.string TX) ∧ AlI _ _ _ _ _ _ _ _ _ _ _ _ _ _ _ w') from by rw [hTX]; exact al_rest I10 true)
          have bh : (0 : Int) ≤ h0 + 1 ∧ h0 + 1 ≤ 9223372036854775807 := by omega
          clear HGV I8 I9 I10 ss8 hh8 hTX
          go_wp2_with (go_at_call 10; refine (HWN.out _).mono ?_; rintro e w' ⟨rfl, rfl⟩)
          refine HRS.out.mono ?_
          rintro x w11 ⟨rfl, I11⟩
          have HI11 := hid I11
          clear I11 HRS
          go_wp2_with fail
          go_roundg (zs.length - (n + 1))
          case measure => omega
          case rel =>
            refine ⟨n + 1, h0 + 1, h1, h2, upd rq true (rqK 0 (rq true)), upd cl true (shutK 0 b), by simp, by omega, rfl, ⟨?_, by omega, by omega, by omega, fun e => ?_⟩⟩
            · have h := HI11.out
              rw [upd_nil, upd_none] at h
              exact h
            · exact rq_le HT2.out.r _ _ e
        · have HGV := hid (show Calls Tryz.prog 9 #[.pointer (some ⟨M + 2 + 1, 0, none⟩), .string ⟨(askL 0).toArray⟩] _ _ from al_shut HT.out.i true hcl ⟨(askL 0).toArray⟩)
          have HRS := hid (show Calls Tryz.prog 11 #[.pointer (some ⟨M + 2 + 1, 0, none⟩)] _ _ from al_rest HT.out.i true)
          have ss8 := HT.out.i.ss
          have s0 : wr.cell? ⟨M + 2 + 2 + 1, 1, none⟩ = some (.bool true) := (Lib.cell_of_heap ss8 _).trans (show some (Value.bool (cl true)) = _ by rw [hcl])
          have HT2 := HT
          clear ss8
          go_wp2_with (go_at_call 8; refine (HPK.out _).mono ?_; rintro e w' ⟨rfl, rfl⟩)
          refine HGV.out.mono ?_
          rintro x w8 ⟨rfl, rfl⟩
          clear HGV
          go_wp2_with fail
          refine HRS.out.mono ?_
          rintro x w11 ⟨rfl, I11⟩
          have HI11 := hid I11
          clear I11 HRS
          go_wp2_with fail
          go_roundg (zs.length - (n + 1))
          case measure => omega
          case rel =>
            refine ⟨n + 1, h0, h1, h2, rq, cl, by simp, by omega, rfl, ⟨?_, by omega, by omega, by omega, fun e => by have := HT2.out.r e; omega⟩⟩
            have h := HI11.out
            rw [upd_nil1, upd_none1] at h
            exact h
      by_cases hk5 : k = 5
      · subst hk5
        have hix := fun a b c d W => (ix4 a b c d W).2.1
        cases hcl : cl true
        · have HGV := hid (show Calls Tryz.prog 9 #[.pointer (some ⟨M + 2 + 1, 0, none⟩), .string ⟨(askL 1).toArray⟩] _ _ from al_give HOK.out HT.out.i true rfl rfl hcl 1 (by omega) rfl (fun x hx => by simp at hx; omega) (by have := HT.out.r true; omega))
          obtain ⟨TX, hTX⟩ : ∃ TX : ByteArray, TX = ⟨(saidL 1 b).toArray⟩ := ⟨_, rfl⟩
          have HWN := hid (fun W => wanted_any 1 (by omega) b W)
          rw [← hTX] at HWN
          have HT2 := HT
          go_wp2_with (go_at_call 8; refine (HPK.out _).mono ?_; rintro e w' ⟨rfl, rfl⟩)
          refine HGV.out.mono ?_
          rintro x w8 ⟨rfl, vo', I8⟩
          have ss8 := I8.ss
          have hh8 := I8.hh
          have s0 : w8.cell? ⟨M + 2 + 2 + 1, 1, none⟩ = some (.bool false) := (Lib.cell_of_heap ss8 _).trans (show some (Value.bool (cl true)) = _ by rw [hcl])
          have y0 := Lib.frozen_of_heap ss8 1
          have lsb8 := heap_lt ss8
          have I9 : AlI _ _ _ _ _ _ _ _ _ _ _ _ _ _ _ (w8.setCell ⟨M + 2 + 2 + 1, 1, none⟩ (.bool (!b))) := al_mark I8 true (!b)
          have t0 : (w8.setCell ⟨M + 2 + 2 + 1, 1, none⟩ (.bool (!b))).cell? ⟨M + 2 + 2, 1, none⟩ = some (.int .i64 h1) := (Lib.cell_of_heap I9.hh _).trans rfl
          have y1 : (w8.setCell ⟨M + 2 + 2 + 1, 1, none⟩ (.bool (!b))).frozen? ⟨M + 2 + 2, 1, none⟩ = false := Lib.frozen_of_heap I9.hh 1
          have lhb8 := heap_lt hh8
          have I10 := al_count I9 1 (h1 + 1)
          have HRS := hid (show Calls Tryz.prog 11 #[.pointer (some ⟨M + 2 + 1, 0, none⟩)] _ (fun x w' => x = .returned (.string TX) ∧ AlI _ _ _ _ _ _ _ _ _ _ _ _ _ _ _ w') from by rw [hTX]; exact al_rest I10 true)
          have bh : (0 : Int) ≤ h1 + 1 ∧ h1 + 1 ≤ 9223372036854775807 := by omega
          clear HGV I8 I9 I10 ss8 hh8 hTX
          go_wp2_with (go_at_call 10; refine (HWN.out _).mono ?_; rintro e w' ⟨rfl, rfl⟩)
          refine HRS.out.mono ?_
          rintro x w11 ⟨rfl, I11⟩
          have HI11 := hid I11
          clear I11 HRS
          go_wp2_with fail
          go_roundg (zs.length - (n + 1))
          case measure => omega
          case rel =>
            refine ⟨n + 1, h0, h1 + 1, h2, upd rq true (rqK 1 (rq true)), upd cl true (shutK 1 b), by simp, by omega, rfl, ⟨?_, by omega, by omega, by omega, fun e => ?_⟩⟩
            · have h := HI11.out
              rw [upd_nil, upd_none] at h
              exact h
            · exact rq_le HT2.out.r _ _ e
        · have HGV := hid (show Calls Tryz.prog 9 #[.pointer (some ⟨M + 2 + 1, 0, none⟩), .string ⟨(askL 1).toArray⟩] _ _ from al_shut HT.out.i true hcl ⟨(askL 1).toArray⟩)
          have HRS := hid (show Calls Tryz.prog 11 #[.pointer (some ⟨M + 2 + 1, 0, none⟩)] _ _ from al_rest HT.out.i true)
          have ss8 := HT.out.i.ss
          have s0 : wr.cell? ⟨M + 2 + 2 + 1, 1, none⟩ = some (.bool true) := (Lib.cell_of_heap ss8 _).trans (show some (Value.bool (cl true)) = _ by rw [hcl])
          have HT2 := HT
          clear ss8
          go_wp2_with (go_at_call 8; refine (HPK.out _).mono ?_; rintro e w' ⟨rfl, rfl⟩)
          refine HGV.out.mono ?_
          rintro x w8 ⟨rfl, rfl⟩
          clear HGV
          go_wp2_with fail
          refine HRS.out.mono ?_
          rintro x w11 ⟨rfl, I11⟩
          have HI11 := hid I11
          clear I11 HRS
          go_wp2_with fail
          go_roundg (zs.length - (n + 1))
          case measure => omega
          case rel =>
            refine ⟨n + 1, h0, h1, h2, rq, cl, by simp, by omega, rfl, ⟨?_, by omega, by omega, by omega, fun e => by have := HT2.out.r e; omega⟩⟩
            have h := HI11.out
            rw [upd_nil1, upd_none1] at h
            exact h
      by_cases hk6 : k = 6
      · subst hk6
        have hix := fun a b c d W => (ix4 a b c d W).2.2.1
        cases hcl : cl true
        · have HGV := hid (show Calls Tryz.prog 9 #[.pointer (some ⟨M + 2 + 1, 0, none⟩), .string ⟨(askL 2).toArray⟩] _ _ from al_give HOK.out HT.out.i true rfl rfl hcl 2 (by omega) rfl (fun x hx => by simp at hx; omega) (by have := HT.out.r true; omega))
          obtain ⟨TX, hTX⟩ : ∃ TX : ByteArray, TX = ⟨(saidL 2 b).toArray⟩ := ⟨_, rfl⟩
          have HWN := hid (fun W => wanted_any 2 (by omega) b W)
          rw [← hTX] at HWN
          have HT2 := HT
          go_wp2_with (go_at_call 8; refine (HPK.out _).mono ?_; rintro e w' ⟨rfl, rfl⟩)
          refine HGV.out.mono ?_
          rintro x w8 ⟨rfl, vo', I8⟩
          have ss8 := I8.ss
          have hh8 := I8.hh
          have s0 : w8.cell? ⟨M + 2 + 2 + 1, 1, none⟩ = some (.bool false) := (Lib.cell_of_heap ss8 _).trans (show some (Value.bool (cl true)) = _ by rw [hcl])
          have y0 := Lib.frozen_of_heap ss8 1
          have lsb8 := heap_lt ss8
          have I9 : AlI _ _ _ _ _ _ _ _ _ _ _ _ _ _ _ (w8.setCell ⟨M + 2 + 2 + 1, 1, none⟩ (.bool false)) := al_mark I8 true false
          have t0 : (w8.setCell ⟨M + 2 + 2 + 1, 1, none⟩ (.bool false)).cell? ⟨M + 2 + 2, 2, none⟩ = some (.int .i64 h2) := (Lib.cell_of_heap I9.hh _).trans rfl
          have y1 : (w8.setCell ⟨M + 2 + 2 + 1, 1, none⟩ (.bool false)).frozen? ⟨M + 2 + 2, 2, none⟩ = false := Lib.frozen_of_heap I9.hh 2
          have lhb8 := heap_lt hh8
          have I10 := al_count I9 2 (h2 + 1)
          have HRS := hid (show Calls Tryz.prog 11 #[.pointer (some ⟨M + 2 + 1, 0, none⟩)] _ (fun x w' => x = .returned (.string TX) ∧ AlI _ _ _ _ _ _ _ _ _ _ _ _ _ _ _ w') from by rw [hTX]; exact al_rest I10 true)
          have bh : (0 : Int) ≤ h2 + 1 ∧ h2 + 1 ≤ 9223372036854775807 := by omega
          clear HGV I8 I9 I10 ss8 hh8 hTX
          go_wp2_with (go_at_call 10; refine (HWN.out _).mono ?_; rintro e w' ⟨rfl, rfl⟩)
          refine HRS.out.mono ?_
          rintro x w11 ⟨rfl, I11⟩
          have HI11 := hid I11
          clear I11 HRS
          go_wp2_with fail
          go_roundg (zs.length - (n + 1))
          case measure => omega
          case rel =>
            refine ⟨n + 1, h0, h1, h2 + 1, upd rq true (rqK 2 (rq true)), upd cl true (shutK 2 b), by simp, by omega, rfl, ⟨?_, by omega, by omega, by omega, fun e => ?_⟩⟩
            · have h := HI11.out
              rw [upd_nil, upd_none] at h
              exact h
            · exact rq_le HT2.out.r _ _ e
        · have HGV := hid (show Calls Tryz.prog 9 #[.pointer (some ⟨M + 2 + 1, 0, none⟩), .string ⟨(askL 2).toArray⟩] _ _ from al_shut HT.out.i true hcl ⟨(askL 2).toArray⟩)
          have HRS := hid (show Calls Tryz.prog 11 #[.pointer (some ⟨M + 2 + 1, 0, none⟩)] _ _ from al_rest HT.out.i true)
          have ss8 := HT.out.i.ss
          have s0 : wr.cell? ⟨M + 2 + 2 + 1, 1, none⟩ = some (.bool true) := (Lib.cell_of_heap ss8 _).trans (show some (Value.bool (cl true)) = _ by rw [hcl])
          have HT2 := HT
          clear ss8
          go_wp2_with (go_at_call 8; refine (HPK.out _).mono ?_; rintro e w' ⟨rfl, rfl⟩)
          refine HGV.out.mono ?_
          rintro x w8 ⟨rfl, rfl⟩
          clear HGV
          go_wp2_with fail
          refine HRS.out.mono ?_
          rintro x w11 ⟨rfl, I11⟩
          have HI11 := hid I11
          clear I11 HRS
          go_wp2_with fail
          go_roundg (zs.length - (n + 1))
          case measure => omega
          case rel =>
            refine ⟨n + 1, h0, h1, h2, rq, cl, by simp, by omega, rfl, ⟨?_, by omega, by omega, by omega, fun e => by have := HT2.out.r e; omega⟩⟩
            have h := HI11.out
            rw [upd_nil1, upd_none1] at h
            exact h
      by_cases hk7 : k = 7
      · subst hk7
        have hix := fun a b c d W => (ix4 a b c d W).2.2.2
        cases hcl : cl true
        · have HGV := hid (show Calls Tryz.prog 9 #[.pointer (some ⟨M + 2 + 1, 0, none⟩), .string ⟨(askL 3).toArray⟩] _ _ from al_give HOK.out HT.out.i true rfl rfl hcl 3 (by omega) rfl (fun x hx => by simp at hx; omega) (by have := HT.out.r true; omega))
          obtain ⟨TX, hTX⟩ : ∃ TX : ByteArray, TX = ⟨(saidL 3 b).toArray⟩ := ⟨_, rfl⟩
          have HWN := hid (fun W => wanted_any 3 (by omega) b W)
          rw [← hTX] at HWN
          have HT2 := HT
          go_wp2_with (go_at_call 8; refine (HPK.out _).mono ?_; rintro e w' ⟨rfl, rfl⟩)
          refine HGV.out.mono ?_
          rintro x w8 ⟨rfl, vo', I8⟩
          have ss8 := I8.ss
          have hh8 := I8.hh
          have s0 : w8.cell? ⟨M + 2 + 2 + 1, 1, none⟩ = some (.bool false) := (Lib.cell_of_heap ss8 _).trans (show some (Value.bool (cl true)) = _ by rw [hcl])
          have y0 := Lib.frozen_of_heap ss8 1
          have lsb8 := heap_lt ss8
          have I9 : AlI _ _ _ _ _ _ _ _ _ _ _ _ _ _ _ (w8.setCell ⟨M + 2 + 2 + 1, 1, none⟩ (.bool true)) := al_mark I8 true true
          have HRS := hid (show Calls Tryz.prog 11 #[.pointer (some ⟨M + 2 + 1, 0, none⟩)] _ (fun x w' => x = .returned (.string TX) ∧ AlI _ _ _ _ _ _ _ _ _ _ _ _ _ _ _ w') from by rw [hTX]; exact al_rest I9 true)
          clear HGV I8 I9 ss8 hh8 hTX
          go_wp2_with (go_at_call 10; refine (HWN.out _).mono ?_; rintro e w' ⟨rfl, rfl⟩)
          refine HRS.out.mono ?_
          rintro x w11 ⟨rfl, I11⟩
          have HI11 := hid I11
          clear I11 HRS
          go_wp2_with fail
          go_roundg (zs.length - (n + 1))
          case measure => omega
          case rel =>
            refine ⟨n + 1, h0, h1, h2, upd rq true (rqK 3 (rq true)), upd cl true (shutK 3 b), by simp, by omega, rfl, ⟨?_, by omega, by omega, by omega, fun e => ?_⟩⟩
            · have h := HI11.out
              rw [upd_nil, upd_none] at h
              exact h
            · exact rq_le HT2.out.r _ _ e
        · have HGV := hid (show Calls Tryz.prog 9 #[.pointer (some ⟨M + 2 + 1, 0, none⟩), .string ⟨(askL 3).toArray⟩] _ _ from al_shut HT.out.i true hcl ⟨(askL 3).toArray⟩)
          have HRS := hid (show Calls Tryz.prog 11 #[.pointer (some ⟨M + 2 + 1, 0, none⟩)] _ _ from al_rest HT.out.i true)
          have ss8 := HT.out.i.ss
          have s0 : wr.cell? ⟨M + 2 + 2 + 1, 1, none⟩ = some (.bool true) := (Lib.cell_of_heap ss8 _).trans (show some (Value.bool (cl true)) = _ by rw [hcl])
          have HT2 := HT
          clear ss8
          go_wp2_with (go_at_call 8; refine (HPK.out _).mono ?_; rintro e w' ⟨rfl, rfl⟩)
          refine HGV.out.mono ?_
          rintro x w8 ⟨rfl, rfl⟩
          clear HGV
          go_wp2_with fail
          refine HRS.out.mono ?_
          rintro x w11 ⟨rfl, I11⟩
          have HI11 := hid I11
          clear I11 HRS
          go_wp2_with fail
          go_roundg (zs.length - (n + 1))
          case measure => omega
          case rel =>
            refine ⟨n + 1, h0, h1, h2, rq, cl, by simp, by omega, rfl, ⟨?_, by omega, by omega, by omega, fun e => by have := HT2.out.r e; omega⟩⟩
            have h := HI11.out
            rw [upd_nil1, upd_none1] at h
            exact h
      exfalso; omega
    · have hge : ¬ (n : Int) < (zs.length : Int) := by omega
      have hp := T.i.ps
      have HH := hid (pHits_any V ps [h0, h1, h2] wr hp T.i.sv (by simp))
      have HT := hid T
      clear T
      go_wp2_with fail
      refine HH.out.mono ?_
      rintro x w8 ⟨⟨g, cap, rfl, hc⟩, I8, k8⟩
      have c0 : w8.cell? ⟨g, 0, none⟩ = some (.int .i64 h0) := hc 0 (by simp)
      have c1 : w8.cell? ⟨g, 1, none⟩ = some (.int .i64 h1) := hc 1 (by simp)
      have c2 : w8.cell? ⟨g, 2, none⟩ = some (.int .i64 h2) := hc 2 (by simp)
      have q := HT.out.i.d.lts false
      have hh8 := k8.heap HT.out.i.hh (by simp; exact q.h1)
      have d0 : w8.cell? ⟨M + 2 + 2, 0, none⟩ = some (.int .i64 h0) := by rw [Lib.cell_of_heap hh8]; rfl
      have d1 : w8.cell? ⟨M + 2 + 2, 1, none⟩ = some (.int .i64 h1) := by rw [Lib.cell_of_heap hh8]; rfl
      have d2 : w8.cell? ⟨M + 2 + 2, 2, none⟩ = some (.int .i64 h2) := by rw [Lib.cell_of_heap hh8]; rfl
      have HB := hid (HT.out.i.bel.trans (k8.below (fun b hb => by simp at hb; subst hb; exact Nat.le_trans HT.out.i.lw HT.out.i.sv.ge1) HT.out.i.bel.size))
      have lg := block_lt_of_cell c0
      have lh := block_lt_of_cell d0
      have e0 : (h0 == h0) = true := by simp
      have e1 : (h1 == h1) = true := by simp
      have e2 : (h2 == h2) = true := by simp
      clear HH HT hc I8 k8 hh8 q
      go_wp2_with fail
      go_quiet (fail)
      go_wp2_with fail
      go_ret
      exact ⟨rfl, below_drewN HB.out _⟩
end Go.Proofs.YtpilfanbfpbldaaGreatDoor
