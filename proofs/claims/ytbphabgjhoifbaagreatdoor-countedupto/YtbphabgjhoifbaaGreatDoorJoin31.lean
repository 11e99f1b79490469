/- Texts that follow one another, joined. -/
import Derived.Test.YtbphabgjhoifbaaGreatDoorJoin30
import Derived.Deep.CutRange
import Derived.Deep.LoopGhost
import Derived.Laws.BytesArg
import Derived.Deep.RegionHeld3
import Derived.Defers
import Derived.Test.YtbphabgjhoifbaaGreatDoorJoin29
/- A connection is given bytes. -/
namespace Go.Proofs.YtbphabgjhoifbaaGreatDoor
open Go.RowKit

theorem SvI.far {V : Sv} {hs : List Int} {w w' : World} (h : SvI V hs w) {c : Nat} (hk : Kx [c] w w') (h0 : V.w1.heap.size ≤ c) (h1 : c ≠ V.s) (h2 : c ≠ V.h) : SvI V hs w' :=
  h.kx hk (fun b hb => by simp at hb; omega) (by simp; omega) (by simp; omega)
theorem CnI.hold {V : Sv} {c : Nat} {vo : Value} {held : ByteArray} {out : List UInt8} {rq : Nat} {cl : Bool} {w : World} (h : CnI V c vo held out rq cl w) (x : ByteArray) : CnI V c vo x out rq cl (w.setCell ⟨c, 1, none⟩ (.string x)) ∧ Kx [c] w (w.setCell ⟨c, 1, none⟩ (.string x)) := by
  have hk : Kx [c] w (w.setCell ⟨c, 1, none⟩ (.string x)) := Kx.set _ _ (by simp)
  exact ⟨⟨heap_set h.blk 1 (.string x), h.out.kx hk (fun r hr hm => by simp at hm; subst hm; exact h.o1 hr), h.ge, h.n1, h.n2, h.o1, h.o2, h.o3⟩, hk⟩
theorem CnI.more {V : Sv} {c : Nat} {vo : Value} {held : ByteArray} {out : List UInt8} {rq : Nat} {cl : Bool} {w : World} (h : CnI V c vo held out rq cl w) : CnI V c vo held out (rq + 1) cl (w.setCell ⟨c, 3, none⟩ (.int .i64 ((rq : Int) + 1))) ∧ Kx [c] w (w.setCell ⟨c, 3, none⟩ (.int .i64 ((rq : Int) + 1))) := by
  have hk : Kx [c] w (w.setCell ⟨c, 3, none⟩ (.int .i64 ((rq : Int) + 1))) := Kx.set _ _ (by simp)
  exact ⟨⟨heap_set h.blk 3 (.int .i64 ((rq : Int) + 1)), h.out.kx hk (fun r hr hm => by simp at hm; subst hm; exact h.o1 hr), h.ge, h.n1, h.n2, h.o1, h.o2, h.o3⟩, hk⟩
theorem ba_app (l : List UInt8) (s : ByteArray) : (⟨l.toArray⟩ : ByteArray) ++ s = ⟨(l ++ s.data.toList).toArray⟩ := by
  apply ByteArray.ext; simp
theorem gv_start {V : Sv} {C : Cf} {c : Nat} {vo : Value} {S0 : Cs} {s : ByteArray} {w : World} {FIN : Cs} (hF : giveS C S0 s.data.toList = FIN) (I0 : SvI V S0.hs w) (J0 : CnI V c vo ⟨S0.held.toArray⟩ S0.out S0.rq S0.cl w)
    (hl : S0.hs.length = C.rs.length) (hb : ∀ x ∈ S0.hs, 0 ≤ x ∧ x + (S0.held.length + s.size : Nat) ≤ 4611686018427387904) (ol : S0.out.length + (S0.held.length + s.size + 1) * 34000000 ≤ 140737488355328) (rb : S0.rq + (S0.held.length + s.size) ≤ 4611686018427387904) (hz : S0.held.length + s.size ≤ 2000000) :
    GvI V C c vo w FIN (S0.held.length + s.size + 1) ⟨S0.held ++ s.data.toList, S0.out, S0.rq, S0.cl, S0.hs⟩ vo (w.setCell ⟨c, 1, none⟩ (.string (⟨S0.held.toArray⟩ ++ s))) := by
  have hsl : s.data.toList.length = s.size := by simp
  have hll : (S0.held ++ s.data.toList).length = S0.held.length + s.size := by rw [List.length_append, hsl]
  obtain ⟨J1, k1⟩ := J0.hold (⟨S0.held.toArray⟩ ++ s)
  have hJ : (⟨S0.held.toArray⟩ : ByteArray) ++ s = ⟨(S0.held ++ s.data.toList).toArray⟩ := ba_app _ _
  refine { eq := ?_, fu := fun _ => by simp only [hll]; omega, sv := I0.far k1 J0.ge J0.n1 J0.n2, cn := ?_, kx := k1.mono (fun b hb => .inl (by simp at hb; subst hb; simp)), ob := fun r hr => .inl hr, hl := hl, hb := fun x hx => by simp only [hll]; exact hb x hx, ol := by simp only [hll]; exact ol, rb := by simp only [hll]; exact rb, hz := by simp only [hll]; exact hz }
  · rw [← hF]; unfold giveS; rw [hsl]
  · rw [← hJ]; exact J1
theorem gv_no {V : Sv} {C : Cf} {c : Nat} {vo0 vo : Value} {w wc w3 w4 : World} {FIN S : Cs} {f : Nat} {e : Int} (I : GvI V C c vo0 w FIN (f + 1) S vo wc) (hcl : S.cl = false) (he : noS e S = FIN) (hne : 1 ≤ S.held.length) (hb : Below wc.heap.size wc w3) (SN : SnI V c vo (shutB true ⟨S.held.toArray⟩) (S.out ++ rendL [] (refSt e) [] [] true) S.rq (true || S.cl) w3 w4) : ∃ vo2, GvI V C c vo0 w FIN f (noS e S) vo2 w4 := by
  obtain ⟨⟨vo2, J, ob⟩, kk⟩ := SN
  have hz := hb.size
  have J3 := I.cn.below hb
  have hn := no_len e
  have hvo : ∀ r, vo.ownBlock = some r → r ≠ V.s ∧ r ≠ V.h ∧ V.w1.heap.size ≤ r := fun r hr => ⟨fun q => I.cn.o2 (by rw [hr, q]), fun q => I.cn.o3 (by rw [hr, q]), (I.cn.out.lt hr).1⟩
  have hL : ∀ b ∈ c :: vo.ownBlock.toList, b ≠ V.s ∧ b ≠ V.h ∧ V.w1.heap.size ≤ b := fun b hb => by
    simp only [List.mem_cons, Option.mem_toList] at hb
    rcases hb with rfl | hb
    · exact ⟨I.cn.n1, I.cn.n2, I.cn.ge⟩
    · exact hvo b hb
  refine ⟨vo2, gv_next I hcl (by rw [giveL_closed C f (noS e S) rfl]; exact he) (by show 0 + 1 ≤ _; omega) ((I.sv.below hb).kx kk (fun b hb => (hL b hb).2.2) (fun h => (hL _ h).1 rfl) (fun h => (hL _ h).2.1 rfl)) J ((Kx.of hb).trans (sn_kx kk) (fun b hb => .inl hb)) (fun r hr => ?_) rfl (fun x hx => ?_) (by show (S.out ++ _).length ≤ _; rw [List.length_append]; omega) (by show S.rq ≤ S.rq + 1; omega)⟩
  · rcases ob r hr with q | q
    · exact .inl q
    · exact .inr (by omega)
  · have h := I.hb x hx
    exact ⟨h.1, by show x + ((0 : Nat) : Int) ≤ _; omega⟩
theorem ba_drop (l : List UInt8) (n : Nat) : (ByteArray.mk l.toArray).extract n l.length = ⟨(l.drop n).toArray⟩ := by
  apply ByteArray.ext
  simp [ByteArray.data_extract]
  exact List.take_of_length_le (by simp)
theorem sn_out {qb c : Nat} {vo : Value} (h : qb ∉ [c]) (hv : ∀ r, vo.ownBlock = some r → r ≠ qb) : qb ∉ c :: vo.ownBlock.toList := by
  simp only [List.mem_cons, List.not_mem_nil, or_false, Option.mem_toList] at h ⊢
  rintro (q | q)
  · exact h q
  · exact hv _ q rfl
theorem gv_one {V : Sv} {C : Cf} {c : Nat} {vo0 vo : Value} {w wc W1 w5 w6 : World} {FIN S : Cs} {f : Nat} {F : FrameR} (I : GvI V C c vo0 w FIN (f + 1) S vo wc) (hcl : S.cl = false) (he : giveL C f (oneS C F S) = FIN) (hs : FrSm S.held F) (kW : Kx [c] wc W1) (k5 : Kx [V.s, V.h] W1.drew w5) (I5 : SvI V (hitS (ledS C F).st (ledS C F).ro S.hs) w5) (hA : (textS C F).length ≤ 33000600) (SN : SnI V c vo (shutB (ansS C F).cl ⟨(S.held.drop F.2.2.2.2.2).toArray⟩) (S.out ++ textS C F) (S.rq + 1) ((ansS C F).cl || S.cl) w5 w6) : ∃ vo2, GvI V C c vo0 w FIN f (oneS C F S) vo2 w6 := by
  obtain ⟨⟨vo2, J, ob⟩, kk⟩ := SN
  have z1 := kW.size
  have z5 : W1.heap.size ≤ w5.heap.size := k5.size
  have hu := hs.u
  have hv := hs.v
  have hL : ∀ b ∈ c :: vo.ownBlock.toList, b ≠ V.s ∧ b ≠ V.h ∧ V.w1.heap.size ≤ b := fun b hb => by
    simp only [List.mem_cons, Option.mem_toList] at hb
    rcases hb with rfl | hb
    · exact ⟨I.cn.n1, I.cn.n2, I.cn.ge⟩
    · exact ⟨fun q => I.cn.o2 (by rw [hb, q]), fun q => I.cn.o3 (by rw [hb, q]), (I.cn.out.lt hb).1⟩
  have kd : Kx [c] wc W1.drew := kW.next (Below.refl _ _).drew
  have K1 : Kx (cnL V c vo) wc W1.drew := kd.mono (fun b hb => .inl (by simp at hb; subst hb; simp))
  have K5 : Kx (cnL V c vo) W1.drew w5 := k5.mono (fun b hb => .inl (by simp only [List.mem_cons, List.not_mem_nil, or_false] at hb; rcases hb with rfl | rfl <;> simp))
  have KK := (K1.trans K5 (fun _ h => .inl h)).trans (sn_kx kk) (fun _ h => .inl h)
  have hev : (oneS C F S).held = (if (ansS C F).cl = true then [] else S.held.drop F.2.2.2.2.2) ∧ (oneS C F S).out = S.out ++ textS C F ∧ (oneS C F S).rq = S.rq + 1 ∧ (oneS C F S).cl = ((ansS C F).cl || S.cl) ∧ (oneS C F S).hs = hitS (ledS C F).st (ledS C F).ro S.hs := by
    unfold oneS sayS
    cases (ansS C F).cl <;> simp
  obtain ⟨v1, v2, v3, v4, v5⟩ := hev
  have hll : (oneS C F S).held.length + 1 ≤ S.held.length := by
    rw [v1]; split
    · simp; omega
    · rw [List.length_drop]; omega
  refine ⟨vo2, gv_next I hcl he hll ?_ ?_ KK (fun r hr => ?_) ?_ ?_ ?_ ?_⟩
  · rw [v5]; exact I5.kx kk (fun b hb => (hL b hb).2.2) (fun h => (hL _ h).1 rfl) (fun h => (hL _ h).2.1 rfl)
  · rw [v2, v3, v4, v1]
    have e : (⟨(if (ansS C F).cl = true then [] else S.held.drop F.2.2.2.2.2).toArray⟩ : ByteArray) = shutB (ansS C F).cl ⟨(S.held.drop F.2.2.2.2.2).toArray⟩ := by
      unfold shutB; cases (ansS C F).cl <;> rfl
    rw [e]; exact J
  · rcases ob r hr with q | q
    · exact .inl q
    · exact .inr (by omega)
  · rw [v5, hit_len]
  · rw [v5]; exact hit_in I.hb (by omega)
  · rw [v2, List.length_append]; omega
  · rw [v3]; omega
theorem gv_end {V : Sv} {C : Cf} {c : Nat} {vo0 vo : Value} {w wr w3 : World} {FIN S : Cs} {g : Nat} (I : GvI V C c vo0 w FIN g S vo wr) (hS : S = FIN) (hb : Below wr.heap.size wr w3) :
    ∃ vo', SvI V FIN.hs (w3.setCell ⟨c, 1, none⟩ (.string ⟨S.held.toArray⟩)) ∧ CnI V c vo' ⟨FIN.held.toArray⟩ FIN.out FIN.rq FIN.cl (w3.setCell ⟨c, 1, none⟩ (.string ⟨S.held.toArray⟩)) ∧ Kx (cnL V c vo0) w (w3.setCell ⟨c, 1, none⟩ (.string ⟨S.held.toArray⟩)) ∧ ∀ r, vo'.ownBlock = some r → vo0.ownBlock = some r ∨ w.heap.size ≤ r := by
  subst hS
  have J := I.cn.below hb
  obtain ⟨J1, k1⟩ := J.hold ⟨S.held.toArray⟩
  exact ⟨vo, (I.sv.below hb).far k1 J.ge J.n1 J.n2, J1, (I.kx.next hb).trans k1 (fun b hb => by simp at hb; subst hb; exact .inl (by simp)), I.ob⟩
set_option maxRecDepth 100000 in
set_option maxHeartbeats 8000000 in
theorem give_any {V : Sv} {C : Cf} {es : List Ent} {v vh vw : Value} {mx : Int} (ok : SvOk V C es v vh vw mx) (c : Nat) (vo : Value) (S0 : Cs) (s : ByteArray) (w : World) (hc : S0.cl = false) (I0 : SvI V S0.hs w) (J0 : CnI V c vo ⟨S0.held.toArray⟩ S0.out S0.rq S0.cl w)
    (hl : S0.hs.length = C.rs.length) (hb : ∀ x ∈ S0.hs, 0 ≤ x ∧ x + (S0.held.length + s.size : Nat) ≤ 4611686018427387904) (ol : S0.out.length + (S0.held.length + s.size + 1) * 34000000 ≤ 140737488355328) (rb : S0.rq + (S0.held.length + s.size) ≤ 4611686018427387904) (hz : S0.held.length + s.size ≤ 2000000) :
    Calls Tryz.prog 29 #[.pointer (some ⟨c, 0, none⟩), .string s] w fun x w' => x = .returned (.int .i64 0) ∧ ∃ vo', SvI V (giveS C S0 s.data.toList).hs w' ∧ CnI V c vo' ⟨(giveS C S0 s.data.toList).held.toArray⟩ (giveS C S0 s.data.toList).out (giveS C S0 s.data.toList).rq (giveS C S0 s.data.toList).cl w' ∧ Kx (cnL V c vo) w w' ∧ ∀ r, vo'.ownBlock = some r → vo.ownBlock = some r ∨ w.heap.size ≤ r := by
  obtain ⟨c0, c1, c2, c3, c4⟩ := J0.cells
  rw [hc] at c4
  have lc := J0.lt
  have z1 := Lib.frozen_of_heap J0.blk 1
  generalize hFIN : giveS C S0 s.data.toList = FIN
  have HFIN := hid hFIN
  clear hFIN
  have GI := gv_start HFIN.out I0 J0 hl hb ol rb hz
  have HG := hid GI
  have hzs : (ByteArray.mk S0.held.toArray).size = S0.held.length := by show S0.held.toArray.size = _; simp
  have hadd : ¬ (9223372036854775807 < (ByteArray.mk S0.held.toArray).size + s.size) := by omega
  clear I0 J0 GI hl hb rb HFIN
  go_enter Tryz.func29, Tryz.ntmps29
  go_wp2_with fail
  go_step3
  go_wp2_with fail
  go_step3
  go_wp2_with fail
  go_loopg [5, 6, 7] (S0.held.length + s.size + 1) (fun g _ _ _ wr => ∃ (S : Cs) (vo' : Value), GvI V C c vo w FIN g S vo' wr)
  case atStart => exact ⟨_, _, HG.out⟩
  case round =>
    obtain ⟨S, vo', I⟩ := hrel
    obtain ⟨d0, d1, d2, d3, d4⟩ := I.cn.cells
    have ld := I.cn.lt
    have zd1 := Lib.frozen_of_heap I.cn.blk 1
    have zd3 := Lib.frozen_of_heap I.cn.blk 3
    cases hcl : S.cl
    case true =>
      have hS : S = FIN := by rw [← I.eq, giveL_closed C _ S hcl]
      rw [hcl] at d4
      have HCL := hid (fun W => clone_any ⟨S.held.toArray⟩ W (by show S.held.toArray.size ≤ _; have := I.hz; simp; omega))
      have HE := hid (fun w3 hb => gv_end (w3 := w3) I hS hb)
      have HJ := hid (fun w3 (hb : Below wr.heap.size wr w3) => I.cn.below hb)
      clear I hS
      go_wp2_with fail
      refine (HCL.out _).mono ?_
      rintro x w3 ⟨rfl, hb3⟩
      obtain ⟨-, g1, -, -, -⟩ := (HJ.out w3 hb3).cells
      have y1 := Lib.frozen_of_heap (HJ.out w3 hb3).blk 1
      have lg := (HJ.out w3 hb3).lt
      have HEE := hid (HE.out w3 hb3)
      clear HE HJ HCL
      go_wp2_with fail
      rw [Exit.noGoto_ret]
      go_ret
      exact ⟨rfl, HEE.out⟩
    case false =>
     cases gk with
     | zero => exact absurd (I.fu hcl) (by omega)
     | succ f =>
        rw [hcl] at d4
        obtain ⟨e0, e1, -, -, -, -⟩ := I.sv.cells
        have le := I.sv.ls
        have le2 := I.sv.lh
        have HF := hid (fun W (hb : Below wr.heap.size wr W) => wFrameG_any V.hd V.bd S.held mx W (by rw [ok.hd, ok.bd]; exact cfg_lim ok.E) I.hz (cell_later hb (I.sv.mx ok)))
        rw [ok.hd, ok.bd] at HF
        have HI := hid I
        rw [ok.hd] at e0
        rw [ok.bd] at e1
        generalize hFF : frameG S.held C.hd C.bd = F at *
        have HFF := hid hFF
        clear I hFF
        go_upto_region 5 with fail
        go_cut [5, 6, 7] from 20 to 75 (fun p n e wx => ∃ qb fa cap, p = .pointer (some ⟨qb, 0, none⟩) ∧ n = .int .i64 F.2.2.2.2.2 ∧ e = .int .i64 F.1 ∧ Hid (FqI F wr qb fa cap wx))
        case first =>
          go_region_held3 (fun W => Below wr.heap.size wr W ∧ W.cell? ⟨c, 0, none⟩ = some (.pointer (some ⟨V.s, 0, none⟩)) ∧ W.cell? ⟨c, 1, none⟩ = some (.string ⟨S.held.toArray⟩) ∧ W.cell? ⟨V.s, 0, none⟩ = some (.int .i64 C.hd) ∧ W.cell? ⟨V.s, 1, none⟩ = some (.int .i64 C.bd)) ((refine gf_of d0 d1 e0 e1 ?_; first | exact (Below.refl _ _).drew | (have hh := (‹_ ∧ _ ∧ _ ∧ _ ∧ _›).1; first | exact hh.alloc hh.size _ | exact hh.drew | exact hB3 | exact hB3.alloc hB3.size _ | exact an_set hB3 _ _ _ _))) (first | (go_at_call 35; refine (HF.out (wr.drew.alloc (.cells rqZ 58)) (‹_ ∧ _ ∧ _ ∧ _ ∧ _›).1).mono ?_; rintro x w3 ⟨⟨fa, cap, rfl, fl3, far3⟩, hb3⟩; have hB3 := bel_of (‹_ ∧ _ ∧ _ ∧ _ ∧ _›).1 hb3; have F3 := alloc_held (w1 := wr.drew) hb3; obtain ⟨f0, f1, f2, f3, y0, y1, y2, y3⟩ := rq_held hb3) | (go_at_call 35; refine (HF.out wr.drew (‹_ ∧ _ ∧ _ ∧ _ ∧ _›).1).mono ?_; rintro x w3 ⟨⟨fa, cap, rfl, fl3, far3⟩, hb3⟩; have hB3 := bel_of (‹_ ∧ _ ∧ _ ∧ _ ∧ _›).1 hb3))
          all_goals (go_wp2_with fail; go_meet)
          all_goals first | exact ⟨_, fa, cap, rfl, rfl, rfl, fq_new hB3 fl3 far3 (Nat.le_refl _)⟩ | exact ⟨_, fa, cap, rfl, rfl, rfl, fq_set hB3 F3 fl3 (fun g o e => by have := far3 g o e; simp at this; exact this)⟩
        case rest =>
          obtain ⟨qb, fa, cap, rfl, rfl, rfl, HQ⟩ := hcut
          obtain ⟨hB, hge, hbk, hfl, hfar⟩ := HQ.out
          have hvw : ∀ r, vo'.ownBlock = some r → r < wr.heap.size := fun r hr => (HI.out.cn.out.lt hr).2
          have Ic := HI.out.below hB
          have HIc := hid Ic
          have hzz := hB.size
          obtain ⟨d0', d1', d2', d3', d4'⟩ := Ic.cn.cells
          have ldc := Ic.cn.lt
          have zc1 := Lib.frozen_of_heap Ic.cn.blk 1
          have zc3 := Lib.frozen_of_heap Ic.cn.blk 3
          have hEQ := Ic.eq
          rw [giveL, if_neg (by rw [hcl]; simp), HFF.out] at hEQ
          by_cases h2 : F.1 = 2
          · have b0 : (F.1 == 0) = false := by rw [h2]; rfl
            have b2 : (F.1 == 2) = true := by rw [h2]; rfl
            rw [if_pos h2] at hEQ
            have HCL := hid (fun W => clone_any ⟨S.held.toArray⟩ W (by show S.held.toArray.size ≤ _; have := Ic.hz; simp; omega))
            have HE := hid (fun w3 hb => gv_end (w3 := w3) Ic hEQ hb)
            have HJ := hid (fun w3 (hb : Below wc.heap.size wc w3) => Ic.cn.below hb)
            clear HI HIc Ic HQ hEQ HF h2 hbk hfl hfar
            go_wp2_with fail
            refine (HCL.out _).mono ?_
            rintro x w3 ⟨rfl, hb3⟩
            obtain ⟨-, g1, -, -, -⟩ := (HJ.out w3 hb3).cells
            have y1 := Lib.frozen_of_heap (HJ.out w3 hb3).blk 1
            have lg := (HJ.out w3 hb3).lt
            have HEE := hid (HE.out w3 hb3)
            clear HE HJ HCL
            go_wp2_with fail
            try rw [Exit.noGoto_ret]
            go_ret
            exact ⟨rfl, HEE.out⟩
          · rw [if_neg h2] at hEQ
            have hne : 1 ≤ S.held.length := by
              rcases Nat.eq_zero_or_pos S.held.length with q | q
              · exfalso
                have e : S.held = [] := List.eq_nil_of_length_eq_zero q
                have h := frame_none (cfg_lim ok.E)
                rw [← e, HFF.out] at h
                exact h2 h
              · exact q
            have b2 : (F.1 == 2) = false := by simpa using h2
            have lsc := Ic.sv.ls
            have lhc := Ic.sv.lh
            have lvc := Ic.sv.bel.size
            have htb := hid (fun W (hW : Below V.w1.heap.size V.w1 W) => Lib.tabBelow_of_tabIs (ok.tab W hW))
            by_cases h0 : F.1 = 0
            · rw [if_pos h0] at hEQ
              have b0 : (F.1 == 0) = true := by rw [h0]; rfl
              have hsm : FrSm S.held F := by have := frame_small S.held C.hd C.bd (by rw [HFF.out]; exact h0); rw [HFF.out] at this; exact this
              have hu1 := hsm.u
              have hu2 := hsm.v
              have n0 : (0 : Int) ≤ (F.2.2.2.2.2 : Int) := by omega
              have hsz : (ByteArray.mk S.held.toArray).size = S.held.length := by show S.held.toArray.size = _; simp
              have n1 : (F.2.2.2.2.2 : Int) ≤ ((ByteArray.mk S.held.toArray).size : Int) := by omega
              have hrb := Ic.rb
              have r0 : (0 : Int) ≤ (S.rq : Int) + 1 := by omega
              have r1 : (S.rq : Int) + 1 ≤ 9223372036854775807 := by omega
              obtain ⟨Ja, ka⟩ := Ic.cn.hold ⟨(S.held.drop F.2.2.2.2.2).toArray⟩
              obtain ⟨J1, kb⟩ := Ja.more
              have kW := ka.trans kb (fun _ h => .inl h)
              have hqc : qb ∉ [c] := by simp; omega
              have I1 := Ic.sv.far kW Ic.cn.ge Ic.cn.n1 Ic.cn.n2
              have Q1 := kW.heap hbk hqc
              have fl1 := fl_kx hfl kW (fun g o e => by have := hfar g o e; simp; omega)
              have hex : (ByteArray.mk S.held.toArray).extract F.2.2.2.2.2 S.held.length = ⟨(S.held.drop F.2.2.2.2.2).toArray⟩ := ba_drop _ _
              clear HI HQ HF Ja ka kb
              go_wp2_with fail
              clear hex
              generalize (wc.setCell ⟨c, 1, none⟩ (.string ⟨(S.held.drop F.2.2.2.2.2).toArray⟩)).setCell ⟨c, 3, none⟩ (.int .i64 ((S.rq : Int) + 1)) = W1 at *
              have hdr : Below W1.heap.size W1 W1.drew := (Below.refl _ _).drew
              obtain ⟨f1, f2⟩ := flds_small hsm
              have hAS := ansS_small ok S.held Ic.hz (by rw [HFF.out]; exact h0)
              rw [HFF.out] at hAS
              obtain ⟨hAB, hAL⟩ := hAS
              have hzh := Ic.hz
              have hmm := hsm.m
              have htt := hsm.t
              have hbb := hsm.b
              have hnq : qb ∉ [V.s, V.h] := by simp; omega
              have hnc : c ∉ [V.s, V.h] := by have := Ic.cn.n1; have := Ic.cn.n2; simp; omega
              have hno : ∀ r, vo'.ownBlock = some r → r ∉ [V.s, V.h] := fun r hr => by
                simp only [List.mem_cons, List.not_mem_nil, or_false]
                rintro (rfl | rfl)
                · exact Ic.cn.o2 hr
                · exact Ic.cn.o3 hr
              have hqv : ∀ r, vo'.ownBlock = some r → r ≠ qb := fun r hr => by have := (HIc.out.cn.out.lt hr).2; have := (hvw r hr); omega
              have Q1d : W1.drew.heap[qb]? = some (.cells (rqF F fa cap) 58 (0, 0)) := Q1
              have J1d := J1.below hdr
              obtain ⟨cd0, -, -, -, -⟩ := J1d.cells
              have lW := hid kW
              have HAN := hid (answer_any ok S.hs (fun x hx => by have := Ic.hb x hx; omega) Ic.hl ⟨F.2.1.toArray⟩ ⟨F.2.2.1.toArray⟩ ⟨F.2.2.2.2.1.toArray⟩ (fldsOf F.2.2.2.1) fa cap W1.drew (I1.below hdr) (fl1.below hdr) f1 f2 (by show F.2.1.toArray.size ≤ _; simp; omega) (by show F.2.2.1.toArray.size ≤ _; simp; omega) (by show F.2.2.2.2.1.toArray.size ≤ _; simp; omega) (fun g o e => by have := hfar g o e; omega))
              have hol := Ic.ol
              have HSN := hid (fun w5 pa pc (k5 : Kx [V.s, V.h] W1.drew w5) (I5 : SvI V (hitS (ledS C F).st (ledS C F).ro S.hs) w5) (ow : w5.ownsRow W1.drew.heap.size 133 2 (.slice pa (ansS C F).fs.length pc) (ansS C F).fs.length (prCells (ansS C F).fs)) => send_any V c vo' ⟨(S.held.drop F.2.2.2.2.2).toArray⟩ S.out (S.rq + 1) S.cl ⟨F.2.1.toArray⟩ (ansS C F) hAB pa pc w5 (J1d.kx k5 hnc hno) I5.ls I5.lh I5.bel.size (fl_own ow) (by show S.out.length + (textS C F).length ≤ _; omega) (htb.out w5 I5.bel))
              have HN := hid (fun w5 w6 k5 I5 (SN : SnI V c vo' (shutB (ansS C F).cl ⟨(S.held.drop F.2.2.2.2.2).toArray⟩) (S.out ++ textS C F) (S.rq + 1) ((ansS C F).cl || S.cl) w5 w6) => gv_one Ic hcl hEQ hsm kW (W1 := W1) (w5 := w5) k5 I5 hAL SN)
              have HJ1 := hid J1d
              clear Ic HIc hEQ hbk hfl hfar HFF htb hol hAB J1 J1d Q1 fl1 I1 kW hsm
              go_region_held3 (fun W => W.cell? ⟨qb, 0, none⟩ = some (.string ⟨F.2.1.toArray⟩) ∧ W.cell? ⟨qb, 1, none⟩ = some (.string ⟨F.2.2.1.toArray⟩) ∧ W.cell? ⟨qb, 2, none⟩ = some (.slice fa (fldsOf F.2.2.2.1).length cap) ∧ W.cell? ⟨qb, 3, none⟩ = some (.string ⟨F.2.2.2.2.1.toArray⟩) ∧ W.cell? ⟨c, 0, none⟩ = some (.pointer (some ⟨V.s, 0, none⟩))) (first | exact gq_of Q1d cd0 | exact gq_of B5 c5 | exact gq_of B6 c6) (first | (go_at_call 42; refine HAN.out.mono ?_; rintro x w5 ⟨⟨pa, pc, rfl, ow⟩, I5, k5⟩; have B5 := k5.heap Q1d hnq; obtain ⟨c5, -, -, -, -⟩ := (HJ1.out.kx k5 hnc hno).cells) | (go_at_call 41; refine (HSN.out _ _ _ k5 I5 ow).mono ?_; rintro x w6 ⟨rfl, SN⟩; have B6 := SN.k.heap B5 (sn_out hqc hqv); obtain ⟨vo2, J6, -⟩ := SN.i; obtain ⟨c6, -, -, -, -⟩ := J6.cells; clear J6))
              have HX := hid (HN.out _ _ k5 I5 SN)
              clear HN SN HSN HAN k5 I5 ow B5 B6 c5 c6
              go_wp2_with fail
              go_roundg f
              case measure => omega
              case rel => exact ⟨_, HX.out⟩
            · rw [if_neg h0] at hEQ
              have b0 : (F.1 == 0) = false := by simpa using h0
              have HRF := hid (fun W => refusal_any F.1 W)
              have hAB : AnsB ⟨refSt F.1, [], ⟨#[]⟩, true, 0⟩ := ⟨(refSt_in F.1).1, (refSt_in F.1).2, (by show (0 : Nat) ≤ 50000000; omega), (by show (0 : Nat) + 0 ≤ 33000000; omega)⟩
              have hol := Ic.ol
              have hnl := no_len F.1
              have HSN := hid (fun w3 (hb : Below wc.heap.size wc w3) => send_any V c vo' ⟨S.held.toArray⟩ S.out S.rq S.cl ⟨#[]⟩ ⟨refSt F.1, [], ⟨#[]⟩, true, 0⟩ hAB none 0 w3 (Ic.cn.below hb) (Nat.lt_of_lt_of_le lsc hb.size) (Nat.lt_of_lt_of_le lhc hb.size) (Nat.le_trans lvc hb.size) (fun i hi => absurd hi (by simp)) (by show S.out.length + (rendL [] (refSt F.1) [] [] true).length ≤ _; omega) (htb.out w3 (Ic.sv.below hb).bel))
              have HN := hid (fun w3 w4 (hb : Below wc.heap.size wc w3) (SN : SnI V c vo' (shutB true ⟨S.held.toArray⟩) (S.out ++ rendL [] (refSt F.1) [] [] true) S.rq (true || S.cl) w3 w4) => gv_no Ic hcl hEQ hne hb SN)
              clear HI HIc Ic HQ hEQ HF h2 hbk hfl hfar HFF htb hol hAB
              go_wp2_with fail
              refine (HRF.out _).mono ?_
              rintro x w3 ⟨rfl, hb3⟩
              have HSS := hid (HSN.out w3 hb3)
              clear HRF HSN
              go_wp2_with fail
              refine HSS.out.mono ?_
              rintro x w4 ⟨rfl, SN⟩
              have HX := hid (HN.out w3 w4 hb3 SN)
              clear HN HSS SN
              go_wp2_with fail
              go_roundg f
              case measure => omega
              case rel => exact ⟨_, HX.out⟩
end Go.Proofs.YtbphabgjhoifbaaGreatDoor

/- A connection's other calls. -/
namespace Go.Proofs.YtbphabgjhoifbaaGreatDoor
open Go.RowKit

theorem bytes_strO {P : Program} {src e dst : TypeId} (hs : P.underlying src = some (.slice e)) (he : P.underlying e = some (.int .u8)) (hd : P.underlying dst = some .string) {g o : Nat} {ds : List UInt8} {w : World} (h : ∀ j (h : j < ds.length), w.cell? ⟨g, o + j, none⟩ = some (.int .u8 (ds[j].toNat : Int))) (n cap : Nat) (hn : ds.length = n) :
    (convert src dst (.slice (some ⟨g, o, none⟩) n cap)).run P w = .ok (.string ⟨ds.toArray⟩) w := by
  have := run_convert_bytes_arg (P := P) w src e hs he g o n cap (ds.map (fun c => (c.toNat : Int))) (by rw [List.length_map, hn]) (fun i hi => by
    rw [h i (by omega)]
    simp [List.getD_eq_getElem?_getD, List.getElem?_map, List.getElem?_eq_getElem (show i < ds.length by omega)]) dst hd
  rw [this]
  congr 2
  unfold strOfNums
  rw [List.map_map]
  congr 2
  exact (List.map_congr_left (fun c _ => by simp)).trans (List.map_id _)
theorem conv_row {w : World} {g off n cap : Nat} {l : List UInt8} (hn : l.length = n) (h : ∀ j (h : j < l.length), w.cell? ⟨g, off + j, none⟩ = some (.int .u8 (l[j].toNat : Int))) : (convert 94 9 (.slice (some ⟨g, off, none⟩) n cap)).run Tryz.prog w = .ok (.string ⟨l.toArray⟩) w :=
  bytes_strO Tryz.underlying94 Tryz.underlying5 Tryz.underlying9 h n cap hn
theorem conv_own {B : Nat} {w : World} {g off n cap : Nat} {l : List UInt8} (h : OwnO B 5 (.slice (some ⟨g, off, none⟩) n cap) (Lib.byteCells l) w) (k : Nat) (hk : k ≤ l.length) : (convert 94 9 (.slice (some ⟨g, off, none⟩) k cap)).run Tryz.prog w = .ok (.string ⟨(l.take k).toArray⟩) w := by
  refine conv_row (by rw [List.length_take]; omega) (fun j hj => ?_)
  rw [List.length_take] at hj
  refine h.cell j _ ?_
  unfold Lib.byteCells
  rw [List.getElem?_map, List.getElem?_eq_getElem (by omega), List.getElem_take]
  rfl
theorem CnI.outs {V : Sv} {c : Nat} {vo v1 vo2 : Value} {held : ByteArray} {out out2 : List UInt8} {rq : Nat} {cl : Bool} {w : World} (h : CnI V c vo held out rq cl w) (ho : OwnO V.w1.heap.size 5 vo2 (Lib.byteCells out2) w) (hs : ∀ r, vo2.ownBlock = some r → vo.ownBlock = some r) : (CnI V c vo2 held out2 rq cl (w.setCell ⟨c, 2, none⟩ vo2) ∧ Kx [c] w (w.setCell ⟨c, 2, none⟩ vo2)) ∧ (CnI V c vo2 held out2 rq cl ((w.setCell ⟨c, 2, none⟩ v1).setCell ⟨c, 2, none⟩ vo2) ∧ Kx [c] w ((w.setCell ⟨c, 2, none⟩ v1).setCell ⟨c, 2, none⟩ vo2)) := by
  have k1 : ∀ v (W : World), Kx [c] W (W.setCell ⟨c, 2, none⟩ v) := fun v W => Kx.set _ _ (by simp)
  have hno : ∀ r, vo2.ownBlock = some r → r ∉ [c] := fun r hr hm => by simp at hm; subst hm; exact h.o1 (hs _ hr)
  have o1 : vo2.ownBlock ≠ some c := fun e => h.o1 (hs _ e)
  have o2 : vo2.ownBlock ≠ some V.s := fun e => h.o2 (hs _ e)
  have o3 : vo2.ownBlock ≠ some V.h := fun e => h.o3 (hs _ e)
  have kk := (k1 v1 w).trans (k1 vo2 _) (fun _ h => .inl h)
  exact ⟨⟨⟨heap_set h.blk 2 vo2, ho.kx (k1 _ _) hno, h.ge, h.n1, h.n2, o1, o2, o3⟩, k1 _ _⟩, ⟨⟨heap_set (heap_set h.blk 2 v1) 2 vo2, ho.kx kk hno, h.ge, h.n1, h.n2, o1, o2, o3⟩, kk⟩⟩
abbrev TkPost (V : Sv) (c : Nat) (vo : Value) (held : ByteArray) (out : List UInt8) (rq : Nat) (cl : Bool) (k : Nat) (w : World) (x : Ending) (w' : World) : Prop :=
  x = .returned (.tuple #[.string ⟨(out.take k).toArray⟩, .int .i64 0]) ∧ ∃ vo2, CnI V c vo2 held (out.drop k) rq cl w' ∧ Kx [c] w w' ∧ (∀ r, vo2.ownBlock = some r → vo.ownBlock = some r) ∧ (out.length ≤ k → vo2 = .slice none 0 0)
set_option maxRecDepth 100000 in
set_option maxHeartbeats 4000000 in
theorem take_all (V : Sv) (c : Nat) (g off cap : Nat) (held : ByteArray) (out : List UInt8) (rq : Nat) (cl : Bool) (n : Int) (w : World) (J : CnI V c (.slice (some ⟨g, off, none⟩) out.length cap) held out rq cl w) (hn : (out.length : Int) ≤ n) (hc : out.length ≤ cap) (hm : cap ≤ maxLen) :
    Calls Tryz.prog 33 #[.pointer (some ⟨c, 0, none⟩), .int .i64 n] w (TkPost V c (.slice (some ⟨g, off, none⟩) out.length cap) held out rq cl out.length w) := by
  obtain ⟨c0, c1, c2, c3, c4⟩ := J.cells
  have lc := J.lt
  have z2 := Lib.frozen_of_heap J.blk 2
  have h0 : ¬ n < 0 := by omega
  have hmn : min n (out.length : Int) = (out.length : Int) := by omega
  have hlm : (out.length : Int) ≤ 9223372036854775807 := by unfold maxLen at hm; omega
  have hlc : (out.length : Int) ≤ (cap : Int) := by omega
  have hcv := conv_own J.out out.length (Nat.le_refl _)
  have HT := hid (fun v1 => (J.outs (v1 := v1) (out2 := []) (OwnO.nil V.w1.heap.size 5 w) (fun r hr => by simp [Value.ownBlock] at hr)).2)
  rw [List.take_length] at hcv
  unfold TkPost
  rw [List.take_length, List.drop_length]
  clear J
  go_enter Tryz.func33, Tryz.ntmps33
  go_wp2
  all_goals
    refine bodyPost_ret (results_tmp2 rfl _ _ _) rfl ?_
    exact ⟨rfl, _, (HT.out _).1, (HT.out _).2, fun r hr => by simp [Value.ownBlock] at hr, by first | rfl | exact fun _ => rfl⟩
set_option maxRecDepth 100000 in
set_option maxHeartbeats 4000000 in
theorem take_none (V : Sv) (c : Nat) (held : ByteArray) (rq : Nat) (cl : Bool) (n : Int) (w : World) (J : CnI V c (.slice none 0 0) held [] rq cl w) (hn : 0 ≤ n) (k : Nat) :
    Calls Tryz.prog 33 #[.pointer (some ⟨c, 0, none⟩), .int .i64 n] w (TkPost V c (.slice none 0 0) held [] rq cl k w) := by
  obtain ⟨c0, c1, c2, c3, c4⟩ := J.cells
  have lc := J.lt
  have z2 := Lib.frozen_of_heap J.blk 2
  have h0 : ¬ n < 0 := by omega
  have hmn : min n (0 : Int) = (0 : Int) := by omega
  have hcv := run_convert_bytes_nil (P := Tryz.prog) w 94 5 Tryz.underlying94 Tryz.underlying5 0 0 9 Tryz.underlying9
  have HT := hid (fun v1 => (J.outs (v1 := v1) (out2 := []) (OwnO.nil V.w1.heap.size 5 w) (fun r hr => by simp [Value.ownBlock] at hr)).2)
  unfold TkPost
  rw [List.take_nil, List.drop_nil]
  clear J
  go_enter Tryz.func33, Tryz.ntmps33
  go_wp2
  all_goals
    refine bodyPost_ret (results_tmp2 rfl _ _ _) rfl ?_
    exact ⟨rfl, _, (HT.out _).1, (HT.out _).2, fun r hr => by simp [Value.ownBlock] at hr, by first | rfl | exact fun _ => rfl⟩
theorem OwnO.drop {B : Nat} {e : TypeId} {g off n cap : Nat} {xs : List Value} {w : World} (h : OwnO B e (.slice (some ⟨g, off, none⟩) n cap) xs w) (k : Nat) (hk : k ≤ xs.length) : OwnO B e (.slice (some ⟨g, off + k, none⟩) (n - k) (cap - k)) (xs.drop k) w := by
  rcases h with ⟨h, _⟩ | ⟨g', off', cap', cur, h0, h1, h2, h3, h4, h5, h6⟩
  · simp at h
  · simp only [Value.slice.injEq, Option.some.injEq, Addr.mk.injEq, and_true] at h0
    obtain ⟨⟨rfl, rfl⟩, rfl, rfl⟩ := h0
    refine .inr ⟨g, off + k, cap - k, cur, by rw [List.length_drop], h1, h2, by rw [List.length_drop]; omega, by omega, by omega, ?_⟩
    rw [List.length_drop, ← List.drop_drop]
    conv => rhs; rw [← h6]
    rw [List.drop_take]
set_option maxRecDepth 100000 in
set_option maxHeartbeats 4000000 in
theorem take_part (V : Sv) (c : Nat) (g off cap : Nat) (held : ByteArray) (out : List UInt8) (rq : Nat) (cl : Bool) (k : Nat) (w : World) (J : CnI V c (.slice (some ⟨g, off, none⟩) out.length cap) held out rq cl w) (hn : k < out.length) (hc : out.length ≤ cap) (hm : cap ≤ maxLen) :
    Calls Tryz.prog 33 #[.pointer (some ⟨c, 0, none⟩), .int .i64 k] w (TkPost V c (.slice (some ⟨g, off, none⟩) out.length cap) held out rq cl k w) := by
  obtain ⟨c0, c1, c2, c3, c4⟩ := J.cells
  have lc := J.lt
  have z2 := Lib.frozen_of_heap J.blk 2
  have h0 : ¬ (k : Int) < 0 := by omega
  have hmn : min (k : Int) (out.length : Int) = (k : Int) := by omega
  have hlm : (out.length : Int) ≤ 9223372036854775807 := by unfold maxLen at hm; omega
  have hlc : (k : Int) ≤ (cap : Int) := by omega
  have hl1 : (k : Int) ≤ (out.length : Int) := by omega
  have hne : ¬ (cap = k) := by omega
  have hne2 : ¬ (cap - k = 0) := by omega
  have hnz : ¬ (out.length - k = 0) := by omega
  have hnb : (((out.length - k : Nat) : Int) == 0) = false := by simp; omega
  have hcv := conv_own J.out k (by omega)
  have bl : (Lib.byteCells out).drop k = Lib.byteCells (out.drop k) := by unfold Lib.byteCells; rw [List.map_drop]
  have HT := hid (J.outs (v1 := .slice none 0 0) (vo2 := .slice (some ⟨g, off + k, none⟩) (out.length - k) (cap - k)) (out2 := out.drop k) (by rw [← bl]; exact J.out.drop k (by rw [bytes_len]; omega)) (fun r hr => by simpa [Value.ownBlock] using hr)).1
  clear J
  go_enter Tryz.func33, Tryz.ntmps33
  go_wp2
  refine bodyPost_ret (results_tmp2 rfl _ _ _) rfl ?_
  exact ⟨rfl, _, HT.out.1, HT.out.2, fun r hr => by simpa [Value.ownBlock] using hr, fun h => absurd h (by omega)⟩
theorem take_any (V : Sv) (c : Nat) (vo : Value) (held : ByteArray) (out : List UInt8) (rq : Nat) (cl : Bool) (n : Int) (w : World) (J : CnI V c vo held out rq cl w) (hn : 0 ≤ n) :
    Calls Tryz.prog 33 #[.pointer (some ⟨c, 0, none⟩), .int .i64 n] w (TkPost V c vo held out rq cl n.toNat w) := by
  rcases J.out with ⟨rfl, h⟩ | ⟨g, off, cap, cur, h0, h1, h2, h3, h4, h5, h6⟩
  · have ho : out = [] := by
      have := congrArg List.length h; rw [bytes_len] at this; exact List.eq_nil_of_length_eq_zero this
    subst ho
    exact take_none V c held rq cl n w J hn _
  · rw [bytes_len] at h0 h3
    subst h0
    by_cases hk : n.toNat < out.length
    · obtain ⟨k, rfl⟩ : ∃ k : Nat, n = k := ⟨n.toNat, by omega⟩
      rw [Int.toNat_natCast] at hk ⊢
      exact take_part V c g off cap held out rq cl k w J hk h3 h4
    · have h := take_all V c g off cap held out rq cl n w J (by omega) h3 h4
      unfold TkPost at h ⊢
      rw [List.take_length, List.drop_length] at h
      rw [List.take_of_length_le (by omega), List.drop_of_length_le (by omega)]
      exact h.mono fun x w' ⟨h1, vo2, h2, h3, h4, h5⟩ => ⟨h1, vo2, h2, h3, h4, fun _ => h5 (Nat.le_refl _)⟩
theorem st_of {c : Nat} {v1 v2 v3 v4 : Value} {W W' : World} (hk : W'.heap[c]? = W.heap[c]?) (h : W.cell? ⟨c, 1, none⟩ = some v1 ∧ W.cell? ⟨c, 2, none⟩ = some v2 ∧ W.cell? ⟨c, 3, none⟩ = some v3 ∧ W.cell? ⟨c, 4, none⟩ = some v4) : W'.cell? ⟨c, 1, none⟩ = some v1 ∧ W'.cell? ⟨c, 2, none⟩ = some v2 ∧ W'.cell? ⟨c, 3, none⟩ = some v3 ∧ W'.cell? ⟨c, 4, none⟩ = some v4 := by
  rw [World.cell?_of_block (w := W) (a := ⟨c, 1, none⟩) hk, World.cell?_of_block (w := W) (a := ⟨c, 2, none⟩) hk, World.cell?_of_block (w := W) (a := ⟨c, 3, none⟩) hk, World.cell?_of_block (w := W) (a := ⟨c, 4, none⟩) hk]
  exact h
set_option maxRecDepth 100000 in
set_option maxHeartbeats 4000000 in
theorem status_any (V : Sv) (c : Nat) (vo : Value) (held : ByteArray) (out : List UInt8) (rq : Nat) (cl : Bool) (w : World) (J : CnI V c vo held out rq cl w) :
    Calls Tryz.prog 28 #[.pointer (some ⟨c, 0, none⟩)] w fun x w' => x = .returned (.agg #[.int .i64 rq, .int .i64 held.size, .int .i64 out.length, .bool cl]) ∧ Below w.heap.size w w' := by
  have hA := (Below.refl w.heap.size w).alloc (Nat.le_refl _) (.cells #[.int .i64 0, .int .i64 0, .int .i64 0, .bool false] 44)
  have B1 := heap_alloc_new w (.cells #[.int .i64 0, .int .i64 0, .int .i64 0, .bool false] 44)
  obtain ⟨a, cp, e⟩ := J.out.sl
  rw [bytes_len] at e
  subst e
  have J1 := J.below hA
  obtain ⟨c0, c1, c2, c3, c4⟩ := J1.cells
  have lc := J.lt
  have lc1 := J1.lt
  clear J J1
  go_enter Tryz.func28, Tryz.ntmps28
  go_upto_region 1 with fail
  generalize w.alloc (.cells #[.int .i64 0, .int .i64 0, .int .i64 0, .bool false] 44) = w1 at *
  have d0 : w1.cell? ⟨w.heap.size, 0, none⟩ = some (.int .i64 0) := by rw [Lib.cell_of_heap B1]; rfl
  have d1 : w1.cell? ⟨w.heap.size, 1, none⟩ = some (.int .i64 0) := by rw [Lib.cell_of_heap B1]; rfl
  have d2 : w1.cell? ⟨w.heap.size, 2, none⟩ = some (.int .i64 0) := by rw [Lib.cell_of_heap B1]; rfl
  have d3 : w1.cell? ⟨w.heap.size, 3, none⟩ = some (.bool false) := by rw [Lib.cell_of_heap B1]; rfl
  have z0 := Lib.frozen_of_heap B1 0
  have z1 := Lib.frozen_of_heap B1 1
  have z2 := Lib.frozen_of_heap B1 2
  have z3 := Lib.frozen_of_heap B1 3
  have lq := heap_lt B1
  have hX := an_kx w.heap.size w1 (.int .i64 rq) (.int .i64 held.size) (.int .i64 out.length) (.bool cl)
  have BF := heap_set (heap_set (heap_set (heap_set (show w1.heap[w.heap.size]? = some (.cells #[.int .i64 0, .int .i64 0, .int .i64 0, .bool false] 44 (0, 0)) from B1) 0 (.int .i64 rq)) 1 (.int .i64 held.size)) 2 (.int .i64 out.length)) 3 (.bool cl)
  have e0 := (Lib.cell_of_heap BF (j := 0)).trans (show _ = some (Value.int .i64 rq) from rfl)
  have e1 := (Lib.cell_of_heap BF (j := 1)).trans (show _ = some (Value.int .i64 held.size) from rfl)
  have e2 := (Lib.cell_of_heap BF (j := 2)).trans (show _ = some (Value.int .i64 out.length) from rfl)
  have e3 := (Lib.cell_of_heap BF (j := 3)).trans (show _ = some (Value.bool cl) from rfl)
  have hc0 : c ∉ [w.heap.size] := by simp; omega
  have HB := hid (hA.trans (hX.below (B := w.heap.size) (fun b hb => by simp at hb; omega) (Nat.le_of_lt lq))).drew
  have HX := hid hX
  clear BF hX B1
  go_region_held3 (fun W => W.cell? ⟨c, 1, none⟩ = some (.string held) ∧ W.cell? ⟨c, 2, none⟩ = some (.slice a out.length cp) ∧ W.cell? ⟨c, 3, none⟩ = some (.int .i64 rq) ∧ W.cell? ⟨c, 4, none⟩ = some (.bool cl)) (first | exact ⟨c1, c2, c3, c4⟩ | exact st_of (HX.out.2 c lc1 hc0) ⟨c1, c2, c3, c4⟩) (fail)
  go_wp2_with fail
  refine bodyPost_ret (v := .agg #[.int .i64 rq, .int .i64 held.size, .int .i64 out.length, .bool cl]) (by simp [results, Tryz.results28, go_sem, e0, e1, e2, e3]) rfl ?_
  exact ⟨rfl, HB.out⟩
/- a connection's closed ends -/
set_option maxRecDepth 100000 in
theorem give_shut (V : Sv) (c : Nat) (vo : Value) (held : ByteArray) (out : List UInt8) (rq : Nat) (s : ByteArray) (w : World) (J : CnI V c vo held out rq true w) :
    Calls Tryz.prog 29 #[.pointer (some ⟨c, 0, none⟩), .string s] w fun x w' => x = .returned (.int .i64 14) ∧ w' = w := by
  obtain ⟨c0, c1, c2, c3, c4⟩ := J.cells
  have lc := J.lt
  clear J
  go_enter Tryz.func29, Tryz.ntmps29
  go_wp2_with fail
  go_step3
  go_wp2_with fail
  try rw [Exit.noGoto_ret]
  go_ret
  exact ⟨rfl, rfl⟩
end Go.Proofs.YtbphabgjhoifbaaGreatDoor

/- A server is made; its counts are told; the face's own calls. -/
namespace Go.Proofs.YtbphabgjhoifbaaGreatDoor
open Go.RowKit Go.MuLone

theorem sv_new (gs : Nat) (hd bd : Int) (hs : List Int) (n : Nat) (w2 : World) (hn : n = hs.length) : SvI ⟨w2.heap.size + 1, gs, w2.heap.size, hd, bd, w2⟩ hs ((w2.alloc (.cells (hiC hs) 3)).alloc (.cells #[.int .i64 hd, .int .i64 bd, .pointer (some ⟨gs, 0, none⟩), .int .i32 0, .int .u32 0, .slice (some ⟨w2.heap.size, 0, none⟩) n n] 105)).drew := by
  subst hn
  have h1 := (Below.refl w2.heap.size w2).alloc (Nat.le_refl _) (.cells (hiC hs) 3)
  have z1 : (w2.alloc (.cells (hiC hs) 3)).heap.size = w2.heap.size + 1 := by simp
  refine ⟨(h1.alloc h1.size _).drew, ?_, ?_, Nat.le_succ _, Nat.le_refl _, by show w2.heap.size + 1 ≠ w2.heap.size; omega⟩
  · have := heap_alloc_new (w2.alloc (.cells (hiC hs) 3)) (.cells #[.int .i64 hd, .int .i64 bd, .pointer (some ⟨gs, 0, none⟩), .int .i32 0, .int .u32 0, .slice (some ⟨w2.heap.size, 0, none⟩) hs.length hs.length] 105)
    rw [z1] at this
    exact this
  · show ((w2.alloc (.cells (hiC hs) 3)).alloc _).heap[w2.heap.size]? = _
    rw [Below.heap_alloc _ _ _ (by rw [z1]; omega)]
    exact heap_alloc_new w2 _
theorem made_zero (rs : List Rt) : madeCells (Value.int .i64 0).cells rs.length = hiC (rs.map fun _ => 0) := by
  apply Array.ext
  · simp [madeCells]
  · intro i h1 h2
    simp [madeCells, Value.cells, Nat.mod_one]
theorem infoInt : (Tryz.prog.info? 3).map (fun i => (i.zero, i.size, i.bytes)) = some (some (.int .i64 0), 1, 8) := by kernel_rfl
set_option maxRecDepth 100000 in
set_option maxHeartbeats 4000000 in
theorem sNew_any (hd bd : Int) (rs : List Rt) (ws : List Wr) (ar : Option Addr) (cr : Nat) (aw : Option Addr) (cw : Nat) (mx : Int) (w : World) (hR : MuAt 6 Rt.cells rs ar w) (hW : MuAt 4 Wr.cells ws aw w) (hro : ∀ r ∈ rs, RtOk r) (hwo : ∀ x ∈ ws, x.n.size ≤ 281474976710656 ∧ x.v.size ≤ 281474976710656) (hm : w.cell? ⟨1, 0, none⟩ = some (.int .i64 mx)) (hE : (cfgE hd bd rs ws).2 = 0) :
    Calls Tryz.prog 38 #[.agg #[.int .i64 hd, .int .i64 bd, .slice ar rs.length cr, .slice aw ws.length cw]] w fun x w' => ∃ s gs h w1 es v vh vw, x = .returned (.tuple #[.pointer (some ⟨s, 0, none⟩), .int .i64 0]) ∧ StI gs gs es (rs.map Rt.h) ws v vh vw w1 ∧ es.map Ent.bare = rs.map rtBare ∧ Below w.heap.size w w1 ∧ SvI ⟨s, gs, h, hd, bd, w1⟩ (rs.map fun _ => 0) w' := by
  have HN := hid (fun W (hb : Below w.heap.size w W) => new_any hd bd rs ws ar cr aw cw mx W (hR.below hb) (hW.below hb) hro hwo (cell_later hb hm))
  have hA := (Below.refl w.heap.size w).alloc (Nat.le_refl _) (.cells #[.int .i64 hd, .int .i64 bd, .slice ar rs.length cr, .slice aw ws.length cw] 27)
  have b1 := heap_alloc_new w (.cells #[.int .i64 hd, .int .i64 bd, .slice ar rs.length cr, .slice aw ws.length cw] 27)
  have q0 : (w.alloc (.cells #[.int .i64 hd, .int .i64 bd, .slice ar rs.length cr, .slice aw ws.length cw] 27)).cell? ⟨w.heap.size, 0, none⟩ = some (.int .i64 hd) := by rw [Lib.cell_of_heap b1]; rfl
  have q1 : (w.alloc (.cells #[.int .i64 hd, .int .i64 bd, .slice ar rs.length cr, .slice aw ws.length cw] 27)).cell? ⟨w.heap.size, 1, none⟩ = some (.int .i64 bd) := by rw [Lib.cell_of_heap b1]; rfl
  have q2 : (w.alloc (.cells #[.int .i64 hd, .int .i64 bd, .slice ar rs.length cr, .slice aw ws.length cw] 27)).cell? ⟨w.heap.size, 2, none⟩ = some (.slice ar rs.length cr) := by rw [Lib.cell_of_heap b1]; rfl
  have q3 : (w.alloc (.cells #[.int .i64 hd, .int .i64 bd, .slice ar rs.length cr, .slice aw ws.length cw] 27)).cell? ⟨w.heap.size, 3, none⟩ = some (.slice aw ws.length cw) := by rw [Lib.cell_of_heap b1]; rfl
  clear hR hW hro hwo hm b1
  go_enter Tryz.func38, Tryz.ntmps38
  go_wp2_with fail
  generalize w.alloc (.cells #[.int .i64 hd, .int .i64 bd, .slice ar rs.length cr, .slice aw ws.length cw] 27) = w1 at *
  refine (HN.out _ hA).mono ?_
  rintro x w2 ⟨k1, k2, hb2⟩
  obtain ⟨gs, es, v, vh, vw, rfl, hgs, hes, hSt⟩ := k2 hE
  have p0 := cell_later hb2 q0
  have p1 := cell_later hb2 q1
  have p2 := cell_later hb2 q2
  have p3 := cell_later hb2 q3
  have lq := block_lt_of_cell p0
  have hl24 := (cfg_ok hE).1
  obtain ⟨i0, hi, hz0, hz1, hz2⟩ := info_parts infoInt
  have g0 : (0 : Int) ≤ (rs.length : Int) := by omega
  have g1 : (rs.length : Int) ≤ 24 := by omega
  have hmk := run_make (P := Tryz.prog) w2.drew 28 3 i0 (.int .i64 0) Tryz.underlying28 hi hz0 .i64 .i64 (rs.length : Int) (rs.length : Int) g0 (Int.le_refl _) (by rw [hz2]; omega) (by omega)
  simp only [Int.toNat_natCast, hz1, Nat.mul_one] at hmk
  rw [made_zero rs] at hmk
  go_upto_region 4 with fail
  go_region
  go_wp2_with fail
  refine bodyPost_ret (results_tmp2 rfl _ _ _) rfl ?_
  exact ⟨w2.heap.size + 1, gs, w2.heap.size, w2, es, v, vh, vw, rfl, hSt, hes, bel_of hA hb2, sv_new _ _ _ _ _ _ (by simp)⟩
theorem open_any (V : Sv) (w : World) : Calls Tryz.prog 39 #[.pointer (some ⟨V.s, 0, none⟩)] w fun x w' => x = .returned (.pointer (some ⟨w.heap.size, 0, none⟩)) ∧ w' = w.alloc (.cells (cnC V ⟨#[]⟩ (.slice none 0 0) 0 false) 96) := by
  go_enter Tryz.func39, Tryz.ntmps39
  go_wp2
  go_ret
  exact ⟨rfl, rfl⟩
theorem pOpen_any (V : Sv) (ps : Nat) (w : World) (hp : w.heap[ps]? = some (.cells #[.pointer (some ⟨V.s, 0, none⟩)] 92 (0, 0))) : Calls Tryz.prog 25 #[.pointer (some ⟨ps, 0, none⟩)] w fun x w' => x = .returned (.pointer (some ⟨w.heap.size + 1, 0, none⟩)) ∧ w' = (w.alloc (.cells (cnC V ⟨#[]⟩ (.slice none 0 0) 0 false) 96)).alloc (.cells #[.pointer (some ⟨w.heap.size, 0, none⟩)] 74) := by
  have c0 : w.cell? ⟨ps, 0, none⟩ = some (.pointer (some ⟨V.s, 0, none⟩)) := by rw [Lib.cell_of_heap hp]; rfl
  have lp := heap_lt hp
  clear hp
  go_enter Tryz.func25, Tryz.ntmps25
  go_wp2_with (go_at_call 39; refine (open_any V _).mono ?_; rintro x w' ⟨rfl, rfl⟩)
  go_ret
  exact ⟨by simp, rfl⟩
abbrev PcAt2 (pc c : Nat) (w : World) : Prop := w.heap[pc]? = some (.cells #[.pointer (some ⟨c, 0, none⟩)] 74 (0, 0))
theorem pGive_of (pc c : Nat) (s : ByteArray) (e : Int) (Q : World → Prop) (w : World) (hp : PcAt2 pc c w) (H : Calls Tryz.prog 29 #[.pointer (some ⟨c, 0, none⟩), .string s] w fun x w' => x = .returned (.int .i64 e) ∧ Q w') : Calls Tryz.prog 14 #[.pointer (some ⟨pc, 0, none⟩), .string s] w fun x w' => x = .returned (.int .i64 e) ∧ Q w' := by
  have c0 : w.cell? ⟨pc, 0, none⟩ = some (.pointer (some ⟨c, 0, none⟩)) := by rw [Lib.cell_of_heap hp]; rfl
  have lp := heap_lt hp
  have HH := hid H
  clear hp H
  go_enter Tryz.func14, Tryz.ntmps14
  go_wp2_with (go_at_call 29; refine HH.out.mono ?_; rintro x w' ⟨rfl, hq⟩)
  go_ret
  exact ⟨rfl, hq⟩
theorem pTake_of (pc c : Nat) (n : Int) (t : ByteArray) (Q : World → Prop) (w : World) (hp : PcAt2 pc c w) (H : Calls Tryz.prog 33 #[.pointer (some ⟨c, 0, none⟩), .int .i64 n] w fun x w' => x = .returned (.tuple #[.string t, .int .i64 0]) ∧ Q w') : Calls Tryz.prog 17 #[.pointer (some ⟨pc, 0, none⟩), .int .i64 n] w fun x w' => x = .returned (.tuple #[.string t, .int .i64 0]) ∧ Q w' := by
  have c0 : w.cell? ⟨pc, 0, none⟩ = some (.pointer (some ⟨c, 0, none⟩)) := by rw [Lib.cell_of_heap hp]; rfl
  have lp := heap_lt hp
  have HH := hid H
  clear hp H
  go_enter Tryz.func17, Tryz.ntmps17
  go_wp2_with (go_at_call 33; refine HH.out.mono ?_; rintro x w' ⟨rfl, hq⟩)
  refine bodyPost_ret (results_tmp2 rfl _ _ _) rfl ?_
  exact ⟨rfl, hq⟩
end Go.Proofs.YtbphabgjhoifbaaGreatDoor

/- The face's other calls, and the statement's own rest. -/
namespace Go.Proofs.YtbphabgjhoifbaaGreatDoor
open Go.RowKit

abbrev stA (a b c : Int) (d : Bool) : Array Value := #[.int .i64 a, .int .i64 b, .int .i64 c, .bool d]
theorem pStatus_of (pc c : Nat) (x0 x1 x2 : Int) (x3 : Bool) (w : World) (hp : PcAt2 pc c w) (H : ∀ W, Below w.heap.size w W → Calls Tryz.prog 28 #[.pointer (some ⟨c, 0, none⟩)] W fun x w' => x = .returned (.agg (stA x0 x1 x2 x3)) ∧ Below W.heap.size W w') : Calls Tryz.prog 13 #[.pointer (some ⟨pc, 0, none⟩)] w fun x w' => x = .returned (.agg (stA x0 x1 x2 x3)) ∧ Below w.heap.size w w' := by
  have hA := (Below.refl w.heap.size w).alloc (Nat.le_refl _) (.cells (stA 0 0 0 false) 44)
  have B1 := heap_alloc_new w (.cells (stA 0 0 0 false) 44)
  have lp := heap_lt hp
  have hp1 : PcAt2 pc c (w.alloc (.cells (stA 0 0 0 false) 44)) := by unfold PcAt2; rw [hA.block pc lp]; exact hp
  have c0 : (w.alloc (.cells (stA 0 0 0 false) 44)).cell? ⟨pc, 0, none⟩ = some (.pointer (some ⟨c, 0, none⟩)) := by rw [Lib.cell_of_heap hp1]; rfl
  have lp1 := heap_lt hp1
  have HH := hid (H _ hA)
  clear hp H hp1
  go_enter Tryz.func13, Tryz.ntmps13
  go_wp2_with fail
  generalize w.alloc (.cells (stA 0 0 0 false) 44) = w1 at *
  refine HH.out.mono ?_
  rintro x w2 ⟨rfl, hb2⟩
  have lq1 := heap_lt B1
  have B2 : w2.heap[w.heap.size]? = some (.cells (stA 0 0 0 false) 44 (0, 0)) := by rw [hb2.block _ lq1]; exact B1
  have d0 : w2.cell? ⟨w.heap.size, 0, none⟩ = some (.int .i64 0) := by rw [Lib.cell_of_heap B2]; rfl
  have d1 : w2.cell? ⟨w.heap.size, 1, none⟩ = some (.int .i64 0) := by rw [Lib.cell_of_heap B2]; rfl
  have d2 : w2.cell? ⟨w.heap.size, 2, none⟩ = some (.int .i64 0) := by rw [Lib.cell_of_heap B2]; rfl
  have d3 : w2.cell? ⟨w.heap.size, 3, none⟩ = some (.bool false) := by rw [Lib.cell_of_heap B2]; rfl
  have z0 := Lib.frozen_of_heap B2 0
  have z1 := Lib.frozen_of_heap B2 1
  have z2 := Lib.frozen_of_heap B2 2
  have z3 := Lib.frozen_of_heap B2 3
  have lq := heap_lt B2
  have hX := an_kx w.heap.size w2 (.int .i64 x0) (.int .i64 x1) (.int .i64 x2) (.bool x3)
  have BF := heap_set (heap_set (heap_set (heap_set B2 0 (.int .i64 x0)) 1 (.int .i64 x1)) 2 (.int .i64 x2)) 3 (.bool x3)
  have e0 := (Lib.cell_of_heap BF (j := 0)).trans (show _ = some (Value.int .i64 x0) from rfl)
  have e1 := (Lib.cell_of_heap BF (j := 1)).trans (show _ = some (Value.int .i64 x1) from rfl)
  have e2 := (Lib.cell_of_heap BF (j := 2)).trans (show _ = some (Value.int .i64 x2) from rfl)
  have e3 := (Lib.cell_of_heap BF (j := 3)).trans (show _ = some (Value.bool x3) from rfl)
  have HB := hid ((bel_of hA hb2).trans (hX.below (B := w.heap.size) (fun b hb => by simp at hb; omega) (Nat.le_of_lt lq)))
  clear BF hX B1 B2 HH
  go_wp2_with fail
  refine bodyPost_ret (v := .agg (stA x0 x1 x2 x3)) (by simp [results, Tryz.results13, go_sem, e0, e1, e2, e3]) rfl ?_
  exact ⟨rfl, HB.out⟩
set_option maxRecDepth 100000 in
set_option maxHeartbeats 4000000 in
theorem pNew_any (hd bd : Int) (rs : List Rt) (ws : List Wr) (ar : Option Addr) (cr : Nat) (aw : Option Addr) (cw : Nat) (mx : Int) (w : World) (hR : MuAt 6 Rt.cells rs ar w) (hW : MuAt 4 Wr.cells ws aw w) (hro : ∀ r ∈ rs, RtOk r) (hwo : ∀ x ∈ ws, x.n.size ≤ 281474976710656 ∧ x.v.size ≤ 281474976710656) (hm : w.cell? ⟨1, 0, none⟩ = some (.int .i64 mx)) (hE : (cfgE hd bd rs ws).2 = 0) :
    Calls Tryz.prog 24 #[.agg #[.int .i64 hd, .int .i64 bd, .slice ar rs.length cr, .slice aw ws.length cw]] w fun x w' => ∃ ps s gs h w1 es v vh vw, x = .returned (.tuple #[.pointer (some ⟨ps, 0, none⟩), .int .i64 0]) ∧ w'.heap[ps]? = some (.cells #[.pointer (some ⟨s, 0, none⟩)] 92 (0, 0)) ∧ StI gs gs es (rs.map Rt.h) ws v vh vw w1 ∧ es.map Ent.bare = rs.map rtBare ∧ Below w.heap.size w w1 ∧ SvI ⟨s, gs, h, hd, bd, w1⟩ (rs.map fun _ => 0) w' ∧ w1.heap.size ≤ ps ∧ ps ≠ s ∧ ps ≠ h := by
  have HN := hid (fun W (hb : Below w.heap.size w W) => sNew_any hd bd rs ws ar cr aw cw mx W (hR.below hb) (hW.below hb) hro hwo (cell_later hb hm) hE)
  have hA := (Below.refl w.heap.size w).alloc (Nat.le_refl _) (.cells #[.int .i64 hd, .int .i64 bd, .slice ar rs.length cr, .slice aw ws.length cw] 27)
  clear hR hW hro hwo hm
  go_enter Tryz.func24, Tryz.ntmps24
  go_wp2_with fail
  generalize w.alloc (.cells #[.int .i64 hd, .int .i64 bd, .slice ar rs.length cr, .slice aw ws.length cw] 27) = w1 at *
  refine (HN.out _ hA).mono ?_
  rintro x w2 ⟨s, gs, h, W1, es, v, vh, vw, rfl, hSt, hes, hB, hI⟩
  have hb3 := (Below.refl w2.heap.size w2).alloc (Nat.le_refl _) (.cells #[.pointer (some ⟨s, 0, none⟩)] 92)
  have B3 := heap_alloc_new w2 (.cells #[.pointer (some ⟨s, 0, none⟩)] 92)
  have HI := hid (hI.below hb3)
  have l1 : s < w2.heap.size := hI.ls
  have l2 : h < w2.heap.size := hI.lh
  have l3 := hI.bel.size
  have HSt := hid hSt
  clear hSt HN hI
  go_wp2_with fail
  refine bodyPost_ret (results_tmp2 rfl _ _ _) rfl ?_
  exact ⟨w2.heap.size, s, gs, h, W1, es, v, vh, vw, rfl, B3, HSt.out, hes, bel_of hA hB, HI.out, l3, by omega, by omega⟩
set_option maxRecDepth 100000 in
set_option maxHeartbeats 4000000 in
theorem rest_any (V : Sv) (pc c : Nat) (vo : Value) (held : ByteArray) (out : List UInt8) (rq : Nat) (cl : Bool) (w : World) (hp : PcAt2 pc c w) (J : CnI V c vo held out rq cl w) :
    Calls Tryz.prog 12 #[.pointer (some ⟨pc, 0, none⟩)] w fun x w' => x = .returned (.string ⟨out.toArray⟩) ∧ CnI V c (.slice none 0 0) held [] rq cl w' ∧ Kx [c] w w' := by
  have HS := hid (pStatus_of pc c (rq : Int) (held.size : Int) (out.length : Int) cl w hp (fun W hb => status_any V c vo held out rq cl W (J.below hb)))
  have lp := heap_lt hp
  have lc := J.lt
  have HT := hid (fun W (hb : Below w.heap.size w W) => pTake_of pc c (out.length : Int) ⟨out.toArray⟩ (fun w' => CnI V c (.slice none 0 0) held [] rq cl w' ∧ Kx [c] W w') W (by unfold PcAt2; rw [hb.block pc lp]; exact hp) (by
    have h := take_any V c vo held out rq cl (out.length : Int) W (J.below hb) (by omega)
    unfold TkPost at h
    rw [Int.toNat_natCast, List.take_length, List.drop_length] at h
    exact h.mono fun x w' ⟨h1, vo2, h2, h3, h4, h5⟩ => ⟨h1, by rw [h5 (Nat.le_refl _)] at h2; exact h2, h3⟩))
  have hsz : (ByteArray.mk out.toArray).size = out.length := by show out.toArray.size = _; simp
  clear hp J
  go_enter Tryz.func12, Tryz.ntmps12
  go_wp2_with fail
  refine HS.out.mono ?_
  rintro x w2 ⟨rfl, hb2⟩
  have hb3 := hb2.alloc hb2.size (.cells (stA (rq : Int) (held.size : Int) (out.length : Int) cl) 44)
  have B3 := heap_alloc_new w2 (.cells (stA (rq : Int) (held.size : Int) (out.length : Int) cl) 44)
  have f2 : (w2.alloc (.cells (stA (rq : Int) (held.size : Int) (out.length : Int) cl) 44)).cell? ⟨w2.heap.size, 2, none⟩ = some (.int .i64 out.length) := by rw [Lib.cell_of_heap B3]; rfl
  have z3 : (w2.alloc (.cells (stA (rq : Int) (held.size : Int) (out.length : Int) cl) 44)).heap.size = w2.heap.size + 1 := by simp
  have HT3 := hid (HT.out _ hb3)
  have lz := hb2.size
  clear HS HT
  go_wp2_with fail
  generalize w2.alloc (.cells (stA (rq : Int) (held.size : Int) (out.length : Int) cl) 44) = w3 at *
  refine HT3.out.mono ?_
  rintro x w4 ⟨rfl, J4, k4⟩
  have f4 : w4.cell? ⟨w2.heap.size, 2, none⟩ = some (.int .i64 out.length) := by
    rw [Lib.cell_of_heap (k4.heap B3 (by simp; omega))]; rfl
  have KK := (Kx.of hb3).trans k4 (fun _ h => .inl h)
  have lf := block_lt_of_cell f4
  have HJ4 := hid J4
  clear J4 B3 HT3 k4 hb3
  go_wp2_with fail
  go_ret
  exact ⟨rfl, HJ4.out, KK⟩
end Go.Proofs.YtbphabgjhoifbaaGreatDoor

/- The small configuration; the statement's own opened and greets. -/
namespace Go.Proofs.YtbphabgjhoifbaaGreatDoor
open Go.RowKit

theorem seven_alloc (w : World) (o1 o2 o3 o4 o5 o6 o7 : Obj) : Below w.heap.size w (((((((w.alloc o1).alloc o2).alloc o3).alloc o4).alloc o5).alloc o6).alloc o7) ∧ (((((((w.alloc o1).alloc o2).alloc o3).alloc o4).alloc o5).alloc o6).alloc o7).heap[w.heap.size + 1 + 1 + 1 + 1]? = some o5 ∧ (((((((w.alloc o1).alloc o2).alloc o3).alloc o4).alloc o5).alloc o6).alloc o7).heap[w.heap.size + 1 + 1 + 1 + 1 + 1 + 1]? = some o7 := by
  obtain ⟨h1, h2⟩ := six_alloc w o1 o2 o3 o4 o5 o6
  have hz : ((((((w.alloc o1).alloc o2).alloc o3).alloc o4).alloc o5).alloc o6).heap.size = w.heap.size + 1 + 1 + 1 + 1 + 1 + 1 := by simp
  generalize (((((w.alloc o1).alloc o2).alloc o3).alloc o4).alloc o5).alloc o6 = W at *
  have hn := heap_alloc_new W o7
  rw [hz] at hn
  refine ⟨h1.alloc h1.size _, ?_, hn⟩
  rw [Below.heap_alloc _ _ _ (by omega)]; exact h2
set_option maxRecDepth 100000 in
set_option maxHeartbeats 1000000 in
theorem small_true (w : World) :
    Calls Tryz.prog 18 #[.bool true] w fun x w' => (∃ g gw, x = .returned (.agg #[.int .i64 200, .int .i64 50, .slice (some ⟨g, 0, none⟩) 3 3, .slice (some ⟨gw, 0, none⟩) 1 1]) ∧ MuAt 6 Rt.cells smallR (some ⟨g, 0, none⟩) w' ∧ MuAt 4 Wr.cells (smW true) (some ⟨gw, 0, none⟩) w') ∧ Below w.heap.size w w' := by
  go_enter Tryz.func18, Tryz.ntmps18
  go_wp2
  refine bodyPost_ret (v := .agg #[.int .i64 200, .int .i64 50, .slice (some ⟨w.heap.size + 1 + 1 + 1 + 1, 0, none⟩) 3 3, .slice (some ⟨w.heap.size + 1 + 1 + 1 + 1 + 1 + 1, 0, none⟩) 1 1]) (by simp [results, Tryz.results18, go_sem]) rfl ?_
  refine ⟨⟨w.heap.size + 1 + 1 + 1 + 1, w.heap.size + 1 + 1 + 1 + 1 + 1 + 1, rfl, ?_, ?_⟩, (seven_alloc w _ _ _ _ _ _ _).1⟩
  · exact mu_of_block (sz := 6) (f := Rt.cells) (l := smallR) (fun _ => rfl) (seven_alloc w _ _ _ _ _ _ _).2.1 rfl
  · exact mu_of_block (sz := 4) (f := Wr.cells) (l := smW true) (fun _ => rfl) (seven_alloc w _ _ _ _ _ _ _).2.2 rfl
theorem small_b (b : Bool) (w : World) :
    Calls Tryz.prog 18 #[.bool b] w fun x w' => (∃ ar aw cw, x = .returned (.agg #[.int .i64 200, .int .i64 50, .slice ar smallR.length 3, .slice aw (smW b).length cw]) ∧ MuAt 6 Rt.cells smallR ar w' ∧ MuAt 4 Wr.cells (smW b) aw w') ∧ Below w.heap.size w w' := by
  cases b
  · refine (small_any w).mono ?_
    rintro x w' ⟨⟨g, -, rfl, hR⟩, hb⟩
    exact ⟨⟨_, none, 0, rfl, hR, fun i hi => absurd hi (by simp [smW])⟩, hb⟩
  · refine (small_true w).mono ?_
    rintro x w' ⟨⟨g, gw, rfl, hR, hW⟩, hb⟩
    exact ⟨⟨_, _, 1, rfl, hR, hW⟩, hb⟩
theorem small_cfg (b : Bool) : (cfgE 200 50 smallR (smW b)).2 = 0 := by cases b <;> kernel_rfl
theorem small_sm : ∀ r ∈ smallR, RtSm r := by
  intro r hr
  simp only [smallR, List.mem_cons, List.not_mem_nil, or_false] at hr
  rcases hr with rfl | rfl | rfl <;> exact ⟨by decide, by decide, by decide, by decide⟩
theorem small_ws (b : Bool) : ∀ x ∈ smW b, x.n.size ≤ 1048576 ∧ x.v.size ≤ 1048576 := by
  intro x hx
  cases b
  · simp [smW] at hx
  · simp only [smW, if_true, List.mem_singleton] at hx; subst hx; exact ⟨by decide, by decide⟩
abbrev TabW (w : World) : Prop := Lib.TabBelow Tryz.prog w.heap.size w "internal/strconv.uint64pow10" .u64 Lib.pow10Tab
abbrev PsAt (ps s : Nat) (w : World) : Prop := w.heap[ps]? = some (.cells #[.pointer (some ⟨s, 0, none⟩)] 92 (0, 0))
/- a server of a right configuration is made -/
theorem newC_any (C : Cf) (ar : Option Addr) (cr : Nat) (aw : Option Addr) (cw : Nat) (mx : Int) (w : World) (hR : MuAt 6 Rt.cells C.rs ar w) (hW : MuAt 4 Wr.cells C.ws aw w) (hro : ∀ r ∈ C.rs, RtSm r) (hwo : ∀ x ∈ C.ws, x.n.size ≤ 1048576 ∧ x.v.size ≤ 1048576) (hm : w.cell? ⟨1, 0, none⟩ = some (.int .i64 mx)) (ht : TabW w) (hE : (cfgE C.hd C.bd C.rs C.ws).2 = 0) :
    Calls Tryz.prog 24 #[.agg #[.int .i64 C.hd, .int .i64 C.bd, .slice ar C.rs.length cr, .slice aw C.ws.length cw]] w fun x w' => ∃ ps V es v vh vw, x = .returned (.tuple #[.pointer (some ⟨ps, 0, none⟩), .int .i64 0]) ∧ PsAt ps V.s w' ∧ SvOk V C es v vh vw mx ∧ SvI V (C.rs.map fun _ => 0) w' ∧ V.w1.heap.size ≤ ps ∧ ps ≠ V.s ∧ ps ≠ V.h ∧ Below w.heap.size w V.w1 := by
  refine (pNew_any C.hd C.bd C.rs C.ws ar cr aw cw mx w hR hW (fun r hr => (hro r hr).ok) (fun x hx => by have := hwo x hx; omega) hm hE).mono ?_
  rintro x w' ⟨ps, s, gs, h, w1, es, v, vh, vw, rfl, hp, hS, hes, hB, hI, l1, l2, l3⟩
  exact ⟨ps, ⟨s, gs, h, C.hd, C.bd, w1⟩, es, v, vh, vw, rfl, hp, ⟨rfl, rfl, hS, hes, hE, hro, hwo, cell_later hB hm, Lib.tabBelow_of_tabIs (ht w1 hB)⟩, hI, l1, l2, l3, hB⟩
/- a connection is opened -/
theorem cn_new (V : Sv) (hs : List Int) (w : World) (I : SvI V hs w) : CnI V w.heap.size (.slice none 0 0) ⟨#[]⟩ [] 0 false ((w.alloc (.cells (cnC V ⟨#[]⟩ (.slice none 0 0) 0 false) 96)).alloc (.cells #[.pointer (some ⟨w.heap.size, 0, none⟩)] 74)) ∧ PcAt2 (w.heap.size + 1) w.heap.size ((w.alloc (.cells (cnC V ⟨#[]⟩ (.slice none 0 0) 0 false) 96)).alloc (.cells #[.pointer (some ⟨w.heap.size, 0, none⟩)] 74)) ∧ Below w.heap.size w ((w.alloc (.cells (cnC V ⟨#[]⟩ (.slice none 0 0) 0 false) 96)).alloc (.cells #[.pointer (some ⟨w.heap.size, 0, none⟩)] 74)) := by
  have h1 := (Below.refl w.heap.size w).alloc (Nat.le_refl _) (.cells (cnC V ⟨#[]⟩ (.slice none 0 0) 0 false) 96)
  have b1 := heap_alloc_new w (.cells (cnC V ⟨#[]⟩ (.slice none 0 0) 0 false) 96)
  have z1 : (w.alloc (.cells (cnC V ⟨#[]⟩ (.slice none 0 0) 0 false) 96)).heap.size = w.heap.size + 1 := by simp
  have l1 := I.ls
  have l2 := I.lh
  refine ⟨⟨?_, OwnO.nil _ _ _, I.bel.size, by omega, by omega, by simp [Value.ownBlock], by simp [Value.ownBlock], by simp [Value.ownBlock]⟩, ?_, h1.alloc h1.size _⟩
  · rw [Below.heap_alloc _ _ _ (by rw [z1]; omega)]; exact b1
  · have := heap_alloc_new (w.alloc (.cells (cnC V ⟨#[]⟩ (.slice none 0 0) 0 false) 96)) (.cells #[.pointer (some ⟨w.heap.size, 0, none⟩)] 74)
    rw [z1] at this
    exact this
set_option maxRecDepth 100000 in
set_option maxHeartbeats 4000000 in
theorem opened_any (C : Cf) (ar : Option Addr) (cr : Nat) (aw : Option Addr) (cw : Nat) (mx : Int) (w : World) (hR : MuAt 6 Rt.cells C.rs ar w) (hW : MuAt 4 Wr.cells C.ws aw w) (hro : ∀ r ∈ C.rs, RtSm r) (hwo : ∀ x ∈ C.ws, x.n.size ≤ 1048576 ∧ x.v.size ≤ 1048576) (hm : w.cell? ⟨1, 0, none⟩ = some (.int .i64 mx)) (ht : TabW w) (hE : (cfgE C.hd C.bd C.rs C.ws).2 = 0) :
    Calls Tryz.prog 9 #[.agg #[.int .i64 C.hd, .int .i64 C.bd, .slice ar C.rs.length cr, .slice aw C.ws.length cw]] w fun x w' => ∃ pc c V es v vh vw, x = .returned (.pointer (some ⟨pc, 0, none⟩)) ∧ PcAt2 pc c w' ∧ SvOk V C es v vh vw mx ∧ SvI V (C.rs.map fun _ => 0) w' ∧ CnI V c (.slice none 0 0) ⟨#[]⟩ [] 0 false w' ∧ Below w.heap.size w V.w1 ∧ V.w1.heap.size ≤ pc ∧ pc ≠ V.s ∧ pc ≠ V.h ∧ pc ≠ c := by
  have HN := hid (fun W (hb : Below w.heap.size w W) => newC_any C ar cr aw cw mx W (hR.below hb) (hW.below hb) hro hwo (cell_later hb hm) (Lib.tabBelow_of_tabIs (ht W hb)) hE)
  have hA := (Below.refl w.heap.size w).alloc (Nat.le_refl _) (.cells #[.int .i64 C.hd, .int .i64 C.bd, .slice ar C.rs.length cr, .slice aw C.ws.length cw] 27)
  clear hR hW hro hwo hm ht
  go_enter Tryz.func9, Tryz.ntmps9
  go_wp2_with fail
  generalize w.alloc (.cells #[.int .i64 C.hd, .int .i64 C.bd, .slice ar C.rs.length cr, .slice aw C.ws.length cw] 27) = w1 at *
  refine (HN.out _ hA).mono ?_
  rintro x w2 ⟨ps, V, es, v, vh, vw, rfl, hp, ok, I, l1, l2, l3, hB⟩
  have HO := hid (pOpen_any V ps w2 hp)
  have HC := hid (cn_new V _ w2 I)
  have HI := hid I
  have HK := hid ok
  have q1 := I.ls
  have q2 := I.lh
  have q3 := I.bel.size
  have hB0 := bel_of hA hB
  clear HN hp ok I
  go_wp2_with fail
  refine HO.out.mono ?_
  rintro x w3 ⟨rfl, rfl⟩
  obtain ⟨J, hpc, hb⟩ := HC.out
  have HJ := hid J
  have HP := hid hpc
  have HII := hid (HI.out.below hb)
  clear J hpc HO HC HI
  generalize (w2.alloc (.cells (cnC V ⟨#[]⟩ (.slice none 0 0) 0 false) 96)).alloc (.cells #[.pointer (some ⟨w2.heap.size, 0, none⟩)] 74) = w3 at *
  go_wp2_with fail
  go_ret
  exact ⟨_, _, V, es, v, vh, vw, rfl, HP.out, HK.out, HII.out, HJ.out, hB0, by omega, by omega, by omega, by omega⟩
end Go.Proofs.YtbphabgjhoifbaaGreatDoor
