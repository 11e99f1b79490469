/- Texts that follow one another, joined. -/
import Derived.Test.YtbphabgjhoifbaaGreatDoorJoin32
import Derived.Deep.LoopGhost
import Derived.Deep.CutRange
import Derived.Deep.RegionLaw
/- The face's Frame, Reply and Render, told by a configuration. -/
namespace Go.Proofs.YtbphabgjhoifbaaGreatDoor
open Go.RowKit

theorem pFrameC_any (hd bd : Int) (l : List UInt8) (mx : Int) (w : World) (hr : 32 ≤ hd ∧ hd ≤ 500 ∧ 0 ≤ bd ∧ bd ≤ 200) (hl : l.length ≤ 2000000) (hm : w.cell? ⟨1, 0, none⟩ = some (.int .i64 mx)) :
    Calls Tryz.prog 20 #[.agg #[.int .i64 hd, .int .i64 bd], .string ⟨l.toArray⟩] w fun r w' => (∃ a cap, r = .returned (.tuple #[.agg (rqF (frameG l hd bd) a cap), .int .i64 (frameG l hd bd).2.2.2.2.2, .int .i64 (frameG l hd bd).1]) ∧ FlAt (fldsOf (frameG l hd bd).2.2.2.1) a w' ∧ ∀ g o, a = some ⟨g, o, none⟩ → w.heap.size ≤ g ∧ g < w'.heap.size) ∧ Below w.heap.size w w' := by
  obtain ⟨n, rfl⟩ : ∃ n : Nat, hd = n := ⟨hd.toNat, by omega⟩
  have e : frameG l n bd = frameS l n bd := by unfold frameG; rw [if_pos hr, Int.toNat_natCast]
  rw [e]
  refine (pFrame_any n bd ⟨l.toArray⟩ mx w (by show l.toArray.size ≤ _; simp; omega) (by omega) (by omega) (by omega) (by omega) hm).mono ?_
  rintro r w' ⟨⟨v, rfl, ow⟩, hb⟩
  have ow' : w'.ownsRow w.heap.size 133 2 v (frameS l n bd).2.2.2.1.length (flat (frameS l n bd).2.2.2.1) := ow
  obtain ⟨a, cap, rfl, hf⟩ := flat_at ow'
  exact ⟨⟨a, cap, rfl, hf, fun g o e => own_lt' ow' (by rw [e]; rfl)⟩, hb⟩
/- the reply to what was framed -/
theorem pReplyC_any (C : Cf) (ar : Option Addr) (cr : Nat) (aw : Option Addr) (cw : Nat) (mx : Int) (l : List UInt8) (a : Option Addr) (cap : Nat) (w : World) (h : CfAt C ar aw w) (hm : w.cell? ⟨1, 0, none⟩ = some (.int .i64 mx)) (hl : l.length ≤ 2000000) (h0 : (frameG l C.hd C.bd).1 = 0) (hE : (cfgE C.hd C.bd C.rs C.ws).2 = 0) (hf : FlAt (fldsOf (frameG l C.hd C.bd).2.2.2.1) a w) :
    Calls Tryz.prog 23 #[.agg (cfV C ar cr aw cw), .agg (rqF (frameG l C.hd C.bd) a cap)] w fun x w' => (∃ pa pc, x = .returned (.tuple #[.agg (anA (ansS C (frameG l C.hd C.bd)).st (.slice pa (ansS C (frameG l C.hd C.bd)).fs.length pc) (ansS C (frameG l C.hd C.bd)).b (ansS C (frameG l C.hd C.bd)).cl), .int .i64 0]) ∧ FlAt (ansS C (frameG l C.hd C.bd)).fs pa w') ∧ Below w.heap.size w w' := by
  have hs := frame_small l C.hd C.bd h0
  obtain ⟨f1, f2⟩ := flds_small hs
  have he := ans_right hE l h0
  have hm1 := hs.m
  have ht := hs.t
  have hb := hs.b
  generalize frameG l C.hd C.bd = F at *
  refine (pReply_any C.hd C.bd C.rs C.ws ar cr aw cw ⟨F.2.1.toArray⟩ ⟨F.2.2.1.toArray⟩ ⟨F.2.2.2.2.1.toArray⟩ (fldsOf F.2.2.2.1) a cap mx w h.R h.W hm h.rs h.ws hf (by omega) (fun i hi => by have := f2 _ (List.getElem_mem hi); unfold maxLen; omega) (fun p hp => by have := f2 p hp; omega) (by show F.2.1.toArray.size ≤ _; unfold maxLen; simp; omega) (by show F.2.2.1.toArray.size ≤ _; simp; omega) (by show F.2.2.2.2.1.toArray.size ≤ _; simp; omega)).mono ?_
  rintro x w' ⟨⟨vv, rfl, ow⟩, hb'⟩
  obtain ⟨pa, pc, rfl⟩ := sl_of ow
  refine ⟨⟨pa, pc, ?_, fl_own ow⟩, hb'⟩
  have e : (ansS C F).e = (repD (pdG C.hd C.bd C.rs C.ws (ByteArray.mk F.2.1.toArray).data.toList (ByteArray.mk F.2.2.1.toArray).data.toList) C.rs C.ws (fldsOf F.2.2.2.1) ⟨F.2.2.2.2.1.toArray⟩).e := rfl
  rw [← e, he]
  rfl
theorem pRenderC_any (m : ByteArray) (R : Rp) (hR : AnsB R) (pa : Option Addr) (pc : Nat) (w : World) (hf : FlAt R.fs pa w) (ht : TabW w) :
    Calls Tryz.prog 22 #[.string m, .agg (anA R.st (.slice pa R.fs.length pc) R.b R.cl)] w fun e w' => e = .returned (.string ⟨(rendL m.data.toList R.st R.fs R.b.data.toList R.cl).toArray⟩) ∧ Below w.heap.size w w' := by
  have hA := (Below.refl w.heap.size w).alloc (Nat.le_refl _) (.cells (anA R.st (.slice pa R.fs.length pc) R.b R.cl) 64)
  have HW := hid (wRender_any m R.st R.fs pa pc R.b R.cl _ (by have := hR.s0; omega) (by have := hR.s1; omega) (fun i hi => by
    obtain ⟨g, e, h1, h2, h3⟩ := hf.below hA i hi
    exact ⟨g, 0, e, h1, by rw [Nat.zero_add]; exact h2, by rw [Nat.zero_add]; exact h3⟩) (by have := hR.n; omega) (by have := hR.z; omega) (Lib.tabBelow_of_tabIs (ht _ hA)))
  have HA := hid hA
  clear hf ht hA
  generalize rendL m.data.toList R.st R.fs R.b.data.toList R.cl = RL at *
  go_enter Tryz.func22, Tryz.ntmps22
  go_wp2_with fail
  refine HW.out.mono ?_
  rintro e w1 ⟨rfl, hb1⟩
  have hB1 := bel_of HA.out hb1
  go_wp2
  go_ret
  exact ⟨rfl, hB1⟩
end Go.Proofs.YtbphabgjhoifbaaGreatDoor

/- Which errors Frame has. -/
namespace Go.Proofs.YtbphabgjhoifbaaGreatDoor
open Go.RowKit

def okE (e : Int) : Prop := e = 0 ∨ e = 2 ∨ e = 3 ∨ e = 4 ∨ e = 5 ∨ e = 6 ∨ e = 7
theorem line_e (l : List UInt8) (lim : Nat) (long : Int) (h : okE long) : okE (Pm.lineS l lim long).1 := by
  unfold Pm.lineS
  split
  · simp only
    split
    · simp [okE]
    · exact h
  · split <;> simp [okE]
theorem first_e (l : List UInt8) : okE (Pm.firstS l).1 := by
  unfold Pm.firstS
  repeat' split
  all_goals simp [okE]
theorem head_e (f : Nat) : ∀ (first : Bool) (l : List UInt8) (lim : Nat) (m tg : List UInt8) (fs : List Pm.Fld) (u : Nat), okE (Pm.headS f first l lim m tg fs u).1 := by
  induction f with
  | zero => intro first l lim m tg fs u; exact .inr (.inl rfl)
  | succ f ih =>
    intro first l lim m tg fs u
    rw [headS_succ]
    have hl := line_e l lim 5 (by unfold okE; decide)
    split
    · exact hl
    split
    · split
      · exact first_e _
      · exact ih _ _ _ _ _ _ _
    split
    · exact .inl rfl
    · cases h5 : Pm.fieldS (Pm.lineS l lim 5).2.1 with
      | none => exact .inr (.inr (.inl rfl))
      | some f' => exact ih _ _ _ _ _ _ _
theorem trail_e (f : Nat) : ∀ (l : List UInt8) (lim u : Nat), okE (Pm.trailS f l lim u).1 := by
  induction f with
  | zero => intro l lim u; exact .inr (.inl rfl)
  | succ f ih =>
    intro l lim u
    rw [Pm.trailS_succ]
    have hl := line_e l lim 5 (by unfold okE; decide)
    split
    · exact hl
    split
    · exact .inl rfl
    split
    · exact ih _ _ _
    · exact .inr (.inr (.inl rfl))
theorem size_e (l : List UInt8) : okE (sizeE l) := by
  unfold sizeE
  split
  · split <;> simp [okE]
  · exact line_e l 10 3 (by unfold okE; decide)
theorem chunk_e (l : List UInt8) (n : Nat) (room : Int) : okE (chunkS l n room).1 := by
  unfold chunkS
  repeat' split
  all_goals simp [okE]
theorem fram_e (hosts : Nat) (lens cods : List (List UInt8)) (most : Int) : okE (framS hosts lens cods most).1 := by
  unfold framS
  repeat' split
  all_goals simp [okE]
theorem chunks_e (hd : Nat) (bd : Int) (f : Nat) : ∀ (l body : List UInt8) (u : Nat), okE (chunksS f l hd bd body u).1 := by
  induction f with
  | zero => intro l body u; exact .inr (.inl rfl)
  | succ f ih =>
    intro l body u
    rw [chunksS_succ]
    have h1 := size_e l
    split
    · exact h1
    split
    · have h2 := chunk_e (l.drop (Pm.lineS l 10 3).2.2) (sizeN l).toNat (bd - body.length)
      generalize chunkS (l.drop (Pm.lineS l 10 3).2.2) (sizeN l).toNat (bd - body.length) = K at *
      split
      · exact h2
      · exact ih _ _ _
    · have h2 := trail_e (hd + 1) (l.drop (Pm.lineS l 10 3).2.2) hd 0
      generalize Pm.trailS (hd + 1) (l.drop (Pm.lineS l 10 3).2.2) hd 0 = K at *
      split
      · exact h2
      · exact .inl rfl
theorem body_e (l : List UInt8) (hd : Nat) (bd : Int) (c : Bool) (n : Nat) : okE (bodyS l hd bd c n).1 := by
  unfold bodyS
  split
  · exact chunks_e hd bd _ _ _ _
  split
  · exact .inr (.inl rfl)
  · exact .inl rfl
theorem frame_e (l : List UInt8) (hd bd : Int) (hr : 32 ≤ hd ∧ hd ≤ 500 ∧ 0 ≤ bd ∧ bd ≤ 200) : okE (frameG l hd bd).1 := by
  unfold frameG
  rw [if_pos hr]
  unfold frameS
  have h1 := head_e (hd.toNat + 1) true l hd.toNat [] [] [] 0
  generalize Pm.headS (hd.toNat + 1) true l hd.toNat [] [] [] 0 = H at *
  simp only
  split
  · exact h1
  have h2 : okE (framOf (fldsOf H.2.2.2.1) bd).1 := fram_e _ _ _ _
  generalize framOf (fldsOf H.2.2.2.1) bd = G at *
  split
  · exact h2
  have h3 := body_e (l.drop H.2.2.2.2) hd.toNat bd G.2.1 G.2.2.toNat
  generalize bodyS (l.drop H.2.2.2.2) hd.toNat bd G.2.1 G.2.2.toNat = K at *
  split
  · exact h3
  · exact .inl rfl
end Go.Proofs.YtbphabgjhoifbaaGreatDoor

/- How great an answer of a right configuration is: no server is there yet. -/
namespace Go.Proofs.YtbphabgjhoifbaaGreatDoor
open Go.RowKit

structure CfOk (C : Cf) : Prop where
  E : (cfgE C.hd C.bd C.rs C.ws).2 = 0
  rs : ∀ r ∈ C.rs, RtSm r
  ws : ∀ x ∈ C.ws, x.n.size ≤ 1048576 ∧ x.v.size ≤ 1048576
theorem bare_small {rs : List Rt} (hr : (rtsE rs [] 0).2 = 0) : ∀ e ∈ rs.map rtBare, e.m.size ≤ 1000 := fun e he => by
  obtain ⟨r, hr1, rfl⟩ := List.mem_map.1 he
  exact meth_small (rts_meth rs [] 0 hr r hr1)
theorem ansC_of {C : Cf} (ok : CfOk C) (qm qt qb : ByteArray) (fs : List Prm) (ht : qt.size ≤ 2000000) (hq : qb.size ≤ 2000000) (hl : fs.length ≤ 500) (hz : ∀ p ∈ fs, p.1.size + p.2.size ≤ 500) :
    AnsB (repD (pdG C.hd C.bd C.rs C.ws qm.data.toList qt.data.toList) C.rs C.ws fs qb) := by
  have hpd : pdG C.hd C.bd C.rs C.ws qm.data.toList qt.data.toList = dspG qm.data.toList qt.data.toList (C.rs.map rtBare) := by
    unfold pdG; rw [if_pos ok.E]
  obtain ⟨c1, c2, c3, -⟩ := cfg_ok ok.E
  have hjn := alw_join (Pm.ahead 63 qt.data.toList) (C.rs.map rtBare) (bare_small c3) (by rw [List.length_map]; exact c1)
  have hqtl : qt.data.toList.length = qt.size := by simp
  have hps := dsp_small 4000000 qm.data.toList qt.data.toList (C.rs.map rtBare) (by omega)
  have hdl := dsp_len qm.data.toList qt.data.toList (C.rs.map rtBare)
  have hst := dsp_st qm.data.toList qt.data.toList (C.rs.map rtBare)
  have hok := pd_ok C.hd C.bd C.rs C.ws qm.data.toList qt.data.toList
  rw [hpd] at hok ⊢
  generalize dspG qm.data.toList qt.data.toList (C.rs.map rtBare) = D at *
  unfold repD
  by_cases he : D.e = 0
  · rw [if_pos he]
    cases hT : toG D C.rs C.ws fs qb with
    | none => exact ⟨by simp [finG], by simp [finG], by simp [finG], (by show (0 : Nat) + 0 ≤ 33000000; omega)⟩
    | some a =>
      have h1 := to_small (K := 4000000) (by omega) (fun p hp => by have := hz p hp; omega) (by omega) hps (fun x hx => by have := ok.ws x hx; omega) (fun r hr => by have := (ok.rs r hr).t; omega) (by omega) (by omega) c2 (by omega) hT
      have h2 : (fldsL a.fs).length ≤ 20000000 ∧ StB a.st := by
        unfold toG at hT
        split at hT
        · rename_i hs2
          have hro := (hok he).ro hs2
          have hr : ∃ r ∈ C.rs, hdOf C.rs D.ro = r.h := by
            unfold hdOf; rw [List.getElem?_eq_getElem hro]; exact ⟨_, List.getElem_mem hro, rfl⟩
          obtain ⟨r, hr1, hr2⟩ := hr
          have hst2 := rts_hnd C.rs [] 0 c3 r hr1
          have h3 := thr_sum (qf := fs) (qb := qb) (h := hdOf C.rs D.ro) (ps := D.ps) hl hz (by rw [hr2]; exact (ok.rs r hr1).t) hps C.ws a ok.ws hT
          have h4 := thr_st (qf := fs) (qb := qb) (h := hdOf C.rs D.ro) (ps := D.ps) (by rw [hr2]; exact ⟨by omega, by omega⟩) C.ws a hT
          exact ⟨by omega, h4⟩
        · cases hT
          unfold restG
          split
          · refine ⟨?_, hst⟩
            have e1 : locB.size ≤ 8 := by decide
            rw [fldsL_one]
            show locB.size + D.lo.toArray.size + 4 ≤ _
            simp; omega
          split
          · refine ⟨?_, hst⟩
            have e1 : allowB.size ≤ 8 := by decide
            rw [fldsL_one]
            show allowB.size + D.al.toArray.size + 4 ≤ _
            simp; omega
          · exact ⟨by simp [fldsL], hst⟩
      have h3 := h1.1.1
      unfold StB at h2
      unfold finG
      simp only
      split
      · exact ⟨by simp, by simp, (by show (0 : Nat) ≤ 50000000; omega), (by show (0 : Nat) + 0 ≤ 33000000; omega)⟩
      · exact ⟨h2.2.1, h2.2.2, h1.2, by simp only; omega⟩
  · rw [if_neg he]; exact ⟨by simp, by simp, (by show (0 : Nat) ≤ 50000000; omega), (by show (0 : Nat) + 0 ≤ 33000000; omega)⟩
theorem ansC_small {C : Cf} (ok : CfOk C) (l : List UInt8) (hl : l.length ≤ 2000000) (h : (frameG l C.hd C.bd).1 = 0) : AnsB (ansS C (frameG l C.hd C.bd)) ∧ (textS C (frameG l C.hd C.bd)).length ≤ 33000600 := by
  have hs := frame_small l C.hd C.bd h
  obtain ⟨f1, f2⟩ := flds_small hs
  have ht := hs.t
  have hb := hs.b
  generalize frameG l C.hd C.bd = F at *
  have hA := ansC_of ok ⟨F.2.1.toArray⟩ ⟨F.2.2.1.toArray⟩ ⟨F.2.2.2.2.1.toArray⟩ (fldsOf F.2.2.2.1) (by show F.2.2.1.toArray.size ≤ _; simp; omega) (by show F.2.2.2.2.1.toArray.size ≤ _; simp; omega) f1 f2
  have hA' : AnsB (ansS C F) := hA
  refine ⟨hA', ?_⟩
  have hz := hA'.z
  have hbl : (ansS C F).b.data.toList.length = (ansS C F).b.size := by simp
  have := rend_len F.2.1 (ansS C F).st (ansS C F).fs (ansS C F).b.data.toList (ansS C F).cl hA'.s0 hA'.s1 (by omega)
  unfold textS
  omega
theorem giveC_phi {C : Cf} (ok : CfOk C) : ∀ (k : Nat) (S : Cs), S.held.length ≤ 2000000 → phi (giveL C k S) ≤ phi S
  | 0, S, _ => Nat.le_refl _
  | k + 1, S, hz => by
    rw [giveL]
    split
    · exact Nat.le_refl _
    split
    · exact Nat.le_refl _
    rename_i hc h2
    have hne : 1 ≤ S.held.length := by
      rcases Nat.eq_zero_or_pos S.held.length with q | q
      · exfalso
        have e : S.held = [] := List.eq_nil_of_length_eq_zero q
        have h := frame_none (cfg_lim ok.E)
        rw [← e] at h
        exact h2 h
      · exact q
    split
    · rename_i h0
      have hs := frame_small S.held C.hd C.bd h0
      have hu := hs.u
      have hv := hs.v
      have ha := (ansC_small ok S.held hz h0).2
      have h1 : (oneS C (frameG S.held C.hd C.bd) S).held.length + 1 ≤ S.held.length ∧ (oneS C (frameG S.held C.hd C.bd) S).out.length ≤ S.out.length + 33000600 := by
        unfold oneS sayS
        split
        · simp only [List.length_nil, List.length_append]; omega
        · simp only [List.length_drop, List.length_append]; omega
      have := giveC_phi ok k (oneS C (frameG S.held C.hd C.bd) S) (by omega)
      unfold phi at this ⊢
      omega
    · have hn := no_len (frameG S.held C.hd C.bd).1
      unfold phi noS sayS
      simp only [if_true, List.length_nil, List.length_append]
      omega
end Go.Proofs.YtbphabgjhoifbaaGreatDoor

/- What must go out, plainly; the statement's own statusOf; spoken's memory. -/
namespace Go.Proofs.YtbphabgjhoifbaaGreatDoor
open Go.RowKit

structure Sp where
  out : List UInt8
  ms : List ByteArray
  rf : Bool
def spk (C : Cf) : Nat → List UInt8 → List UInt8 → List ByteArray → Sp
  | 0, _, out, ms => ⟨out, ms, false⟩
  | k + 1, l, out, ms => if (frameG l C.hd C.bd).1 = 2 then ⟨out, ms, false⟩
    else if (frameG l C.hd C.bd).1 = 0 then
      if (ansS C (frameG l C.hd C.bd)).cl = true then ⟨out ++ textS C (frameG l C.hd C.bd), ms ++ [⟨(frameG l C.hd C.bd).2.1.toArray⟩], false⟩
      else spk C k (l.drop (frameG l C.hd C.bd).2.2.2.2.2) (out ++ textS C (frameG l C.hd C.bd)) (ms ++ [⟨(frameG l C.hd C.bd).2.1.toArray⟩])
    else ⟨out ++ rendL [] (refSt (frameG l C.hd C.bd).1) [] [] true, ms, true⟩
theorem spk_give (C : Cf) : ∀ (k : Nat) (l out : List UInt8) (ms : List ByteArray) (hs : List Int), (spk C k l out ms).out = (giveL C k ⟨l, out, ms.length, false, hs⟩).out ∧ (spk C k l out ms).ms.length = (giveL C k ⟨l, out, ms.length, false, hs⟩).rq
  | 0, l, out, ms, hs => ⟨rfl, rfl⟩
  | k + 1, l, out, ms, hs => by
    have hg : giveL C (k + 1) ⟨l, out, ms.length, false, hs⟩ = if (frameG l C.hd C.bd).1 = 2 then ⟨l, out, ms.length, false, hs⟩ else if (frameG l C.hd C.bd).1 = 0 then giveL C k (oneS C (frameG l C.hd C.bd) ⟨l, out, ms.length, false, hs⟩) else noS (frameG l C.hd C.bd).1 ⟨l, out, ms.length, false, hs⟩ := by
      rw [giveL, if_neg (by simp)]
    rw [hg, spk]
    generalize frameG l C.hd C.bd = F
    by_cases h2 : F.1 = 2
    · rw [if_pos h2, if_pos h2]; exact ⟨rfl, rfl⟩
    rw [if_neg h2, if_neg h2]
    by_cases h0 : F.1 = 0
    · rw [if_pos h0, if_pos h0]
      by_cases hcl : (ansS C F).cl = true
      · rw [if_pos hcl]
        have e : oneS C F ⟨l, out, ms.length, false, hs⟩ = ⟨[], out ++ textS C F, ms.length + 1, true, hitS (ledS C F).st (ledS C F).ro hs⟩ := by unfold oneS sayS; rw [if_pos hcl]
        rw [e, giveL_closed C k _ rfl]
        exact ⟨rfl, by simp⟩
      · rw [if_neg hcl]
        have e : oneS C F ⟨l, out, ms.length, false, hs⟩ = ⟨l.drop F.2.2.2.2.2, out ++ textS C F, (ms ++ [(⟨F.2.1.toArray⟩ : ByteArray)]).length, false, hitS (ledS C F).st (ledS C F).ro hs⟩ := by unfold oneS sayS; rw [if_neg hcl]; simp
        rw [e]
        exact spk_give C k _ _ _ _
    · rw [if_neg h0, if_neg h0]; exact ⟨rfl, rfl⟩
theorem statusOf_any (e : Int) (he : okE e) (h0 : e ≠ 0) (h2 : e ≠ 2) (w : World) : Calls Tryz.prog 21 #[.int .i64 e] w fun x w' => x = .returned (.int .i64 (refSt e)) ∧ w' = w := by
  rcases he with rfl | rfl | rfl | rfl | rfl | rfl | rfl
  · exact absurd rfl h0
  · exact absurd rfl h2
  all_goals
    go_enter Tryz.func21, Tryz.ntmps21
    go_wp2
    go_ret
    exact ⟨rfl, rfl⟩
abbrev spA (out : List UInt8) (vm : Value) (rf : Bool) : Array Value := #[.string ⟨out.toArray⟩, vm, .bool rf]
abbrev spZ : Array Value := #[.string ⟨#[]⟩, .slice none 0 0, .bool false]
structure SpI (C : Cf) (w0 : World) (ar : Option Addr) (cr : Nat) (aw : Option Addr) (cw : Nat) (out : List UInt8) (ms : List ByteArray) (vm : Value) (rf : Bool) (w : World) : Prop where
  bel : Below w0.heap.size w0 w
  cb : w.heap[w0.heap.size]? = some (.cells (cfV C ar cr aw cw) 27 (0, 0))
  rb : w.heap[w0.heap.size + 1]? = some (.cells spZ 33 (0, 0))
  xb : w.heap[w0.heap.size + 1 + 1]? = some (.cells (spA out vm rf) 33 (0, 0))
  own : w.ownsRow (w0.heap.size + 3) 9 1 vm ms.length (ms.map Value.string)
section
variable {C : Cf} {w0 : World} {ar : Option Addr} {cr : Nat} {aw : Option Addr} {cw : Nat} {out : List UInt8} {ms : List ByteArray} {vm : Value} {rf : Bool} {w : World}
theorem SpI.lt (h : SpI C w0 ar cr aw cw out ms vm rf w) : w0.heap.size + 1 + 1 < w.heap.size := heap_lt h.xb
theorem SpI.below (h : SpI C w0 ar cr aw cw out ms vm rf w) {w' : World} (hb : Below w.heap.size w w') : SpI C w0 ar cr aw cw out ms vm rf w' :=
  ⟨bel_of h.bel hb, by rw [hb.block _ (heap_lt h.cb)]; exact h.cb, by rw [hb.block _ (heap_lt h.rb)]; exact h.rb, by rw [hb.block _ (heap_lt h.xb)]; exact h.xb, owns_below h.own hb⟩
theorem SpI.cells (h : SpI C w0 ar cr aw cw out ms vm rf w) : w.cell? ⟨w0.heap.size, 0, none⟩ = some (.int .i64 C.hd) ∧ w.cell? ⟨w0.heap.size, 1, none⟩ = some (.int .i64 C.bd) ∧ w.cell? ⟨w0.heap.size, 2, none⟩ = some (.slice ar C.rs.length cr) ∧ w.cell? ⟨w0.heap.size, 3, none⟩ = some (.slice aw C.ws.length cw) := by
  refine ⟨?_, ?_, ?_, ?_⟩ <;> (rw [Lib.cell_of_heap h.cb]; rfl)
theorem SpI.xcells (h : SpI C w0 ar cr aw cw out ms vm rf w) : w.cell? ⟨w0.heap.size + 1 + 1, 0, none⟩ = some (.string ⟨out.toArray⟩) ∧ w.cell? ⟨w0.heap.size + 1 + 1, 1, none⟩ = some vm ∧ w.cell? ⟨w0.heap.size + 1 + 1, 2, none⟩ = some (.bool rf) := by
  refine ⟨?_, ?_, ?_⟩ <;> (rw [Lib.cell_of_heap h.xb]; rfl)
theorem SpI.rcells (h : SpI C w0 ar cr aw cw out ms vm rf w) : w.cell? ⟨w0.heap.size + 1, 0, none⟩ = some (.string ⟨#[]⟩) ∧ w.cell? ⟨w0.heap.size + 1, 1, none⟩ = some (.slice none 0 0) ∧ w.cell? ⟨w0.heap.size + 1, 2, none⟩ = some (.bool false) := by
  refine ⟨?_, ?_, ?_⟩ <;> (rw [Lib.cell_of_heap h.rb]; rfl)
theorem SpI.xset (h : SpI C w0 ar cr aw cw out ms vm rf w) (i : Nat) (v : Value) : Below w0.heap.size w0 (w.setCell ⟨w0.heap.size + 1 + 1, i, none⟩ v) ∧ (w.setCell ⟨w0.heap.size + 1 + 1, i, none⟩ v).heap[w0.heap.size]? = some (.cells (cfV C ar cr aw cw) 27 (0, 0)) ∧ (w.setCell ⟨w0.heap.size + 1 + 1, i, none⟩ v).heap[w0.heap.size + 1]? = some (.cells spZ 33 (0, 0)) ∧ (w.setCell ⟨w0.heap.size + 1 + 1, i, none⟩ v).ownsRow (w0.heap.size + 3) 9 1 vm ms.length (ms.map Value.string) :=
  ⟨h.bel.trans ((Kx.set (L := [w0.heap.size + 1 + 1]) ⟨w0.heap.size + 1 + 1, i, none⟩ v (by simp)).below (fun b hb => by simp at hb; omega) h.bel.size), by rw [Below.heap_setCell _ _ _ _ (by simp; omega)]; exact h.cb, by rw [Below.heap_setCell _ _ _ _ (by simp)]; exact h.rb, own_keep' h.own fun r hr => Below.heap_setCell _ _ _ _ (fun e => by have := own_ge h.own r hr; simp at e; omega)⟩
theorem SpI.say (h : SpI C w0 ar cr aw cw out ms vm rf w) (t : List UInt8) : SpI C w0 ar cr aw cw (out ++ t) ms vm rf (w.setCell ⟨w0.heap.size + 1 + 1, 0, none⟩ (.string ⟨(out ++ t).toArray⟩)) := by
  obtain ⟨h1, h2, h3, h4⟩ := h.xset 0 (.string ⟨(out ++ t).toArray⟩)
  exact ⟨h1, h2, h3, heap_set h.xb 0 _, h4⟩
theorem SpI.refuse (h : SpI C w0 ar cr aw cw out ms vm rf w) : SpI C w0 ar cr aw cw out ms vm true (w.setCell ⟨w0.heap.size + 1 + 1, 2, none⟩ (.bool true)) := by
  obtain ⟨h1, h2, h3, h4⟩ := h.xset 2 (.bool true)
  exact ⟨h1, h2, h3, heap_set h.xb 2 _, h4⟩
theorem SpI.more (h : SpI C w0 ar cr aw cw out ms vm rf w) {m : ByteArray} {o : Obj} {v' : Value} {w3 : World} (ho : w3.ownsRow (w0.heap.size + 3) 9 1 v' (ms.length + 1) (ms.map Value.string ++ [.string m])) (hg : (w.alloc o).grownBy w3 vm.ownBlock) : SpI C w0 ar cr aw cw out (ms ++ [m]) v' rf (w3.setCell ⟨w0.heap.size + 1 + 1, 1, none⟩ v') := by
  have hl := h.lt
  have hA := (Below.refl w.heap.size w).alloc (Nat.le_refl _) o
  have hz : (w.alloc o).heap.size = w.heap.size + 1 := by simp
  have keep : ∀ k, k < w0.heap.size + 3 → w3.heap[k]? = w.heap[k]? := fun k hk => by
    rw [hg.block k (by omega) (fun e => by have := own_ge h.own k e.symm; omega), hA.block k (by omega)]
  have hB : Below w0.heap.size w0 w3 := (bel_of h.bel hA).grown hg (by have := h.bel.size; omega) (fun k hk => by have := own_ge h.own k hk; omega)
  refine ⟨hB.trans ((Kx.set (L := [w0.heap.size + 1 + 1]) ⟨w0.heap.size + 1 + 1, 1, none⟩ v' (by simp)).below (fun b hb => by simp at hb; omega) hB.size), ?_, ?_, ?_, ?_⟩
  · rw [Below.heap_setCell _ _ _ _ (by simp; omega), keep _ (by omega)]; exact h.cb
  · rw [Below.heap_setCell _ _ _ _ (by simp), keep _ (by omega)]; exact h.rb
  · have hx : w3.heap[w0.heap.size + 1 + 1]? = some (.cells (spA out vm rf) 33 (0, 0)) := by rw [keep _ (by omega)]; exact h.xb
    exact heap_set hx 1 v'
  · rw [List.length_append, List.map_append]
    exact own_keep' ho fun r hr => Below.heap_setCell _ _ _ _ (fun e => by have := own_ge ho r hr; simp at e; omega)
theorem SpI.fin (h : SpI C w0 ar cr aw cw out ms vm rf w) : ((((w.setCell ⟨w0.heap.size + 1, 0, none⟩ (.string ⟨out.toArray⟩)).setCell ⟨w0.heap.size + 1, 1, none⟩ vm).setCell ⟨w0.heap.size + 1, 2, none⟩ (.bool rf)).heap[w0.heap.size + 1]? = some (.cells (spA out vm rf) 33 (0, 0))) ∧ ((((w.setCell ⟨w0.heap.size + 1, 0, none⟩ (.string ⟨out.toArray⟩)).setCell ⟨w0.heap.size + 1, 1, none⟩ vm).setCell ⟨w0.heap.size + 1, 2, none⟩ (.bool rf)).ownsRow w0.heap.size 9 1 vm ms.length (ms.map Value.string)) ∧ Below w0.heap.size w0 (((w.setCell ⟨w0.heap.size + 1, 0, none⟩ (.string ⟨out.toArray⟩)).setCell ⟨w0.heap.size + 1, 1, none⟩ vm).setCell ⟨w0.heap.size + 1, 2, none⟩ (.bool rf)) := by
  have hk : Kx [w0.heap.size + 1] w (((w.setCell ⟨w0.heap.size + 1, 0, none⟩ (.string ⟨out.toArray⟩)).setCell ⟨w0.heap.size + 1, 1, none⟩ vm).setCell ⟨w0.heap.size + 1, 2, none⟩ (.bool rf)) :=
    ((Kx.set _ _ (by simp)).trans (Kx.set _ _ (by simp)) (fun _ h => .inl h)).trans (Kx.set _ _ (by simp)) (fun _ h => .inl h)
  refine ⟨heap_set (heap_set (heap_set h.rb 0 _) 1 _) 2 _, own_down' (own_keep' h.own fun r hr => ?_) (by omega), h.bel.trans (hk.below (fun b hb => by simp at hb; omega) h.bel.size)⟩
  have := own_ge h.own r hr
  have hr2 : r < w.heap.size := by
    obtain ⟨-, q | ⟨g, cap, cur, rfl, hB, hg, -⟩⟩ := h.own
    · rw [q.1] at hr; cases hr
    · have : r = g := by simpa [Value.ownBlock] using hr.symm
      subst this
      exact heap_lt hg
  exact hk.2 r hr2 (by simp; omega)
theorem fq_late {F : FrameR} {w1 w2 : World} {a : Option Addr} {cap : Nat} (h : Below w1.heap.size w1 w2) (hf : FlAt (fldsOf F.2.2.2.1) a w2) (hn : ∀ g o, a = some ⟨g, o, none⟩ → w1.heap.size ≤ g ∧ g < w2.heap.size) : FqI F w1 w2.heap.size a cap (((((w2.alloc (.cells rqZ 58)).setCell ⟨w2.heap.size, 0, none⟩ (.string ⟨F.2.1.toArray⟩)).setCell ⟨w2.heap.size, 1, none⟩ (.string ⟨F.2.2.1.toArray⟩)).setCell ⟨w2.heap.size, 2, none⟩ (.slice a (fldsOf F.2.2.2.1).length cap)).setCell ⟨w2.heap.size, 3, none⟩ (.string ⟨F.2.2.2.2.1.toArray⟩)) := by
  have hz := heap_alloc_new w2 (.cells rqZ 58)
  have hA := (Below.refl w2.heap.size w2).alloc (Nat.le_refl _) (.cells rqZ 58)
  have hb := heap_set (heap_set (heap_set (heap_set hz 0 (.string ⟨F.2.1.toArray⟩)) 1 (.string ⟨F.2.2.1.toArray⟩)) 2 (.slice a (fldsOf F.2.2.2.1).length cap)) 3 (.string ⟨F.2.2.2.2.1.toArray⟩)
  have hk := an_kx w2.heap.size (w2.alloc (.cells rqZ 58)) (.string ⟨F.2.1.toArray⟩) (.string ⟨F.2.2.1.toArray⟩) (.slice a (fldsOf F.2.2.2.1).length cap) (.string ⟨F.2.2.2.2.1.toArray⟩)
  have hs := h.size
  have hB := bel_of h hA
  exact ⟨hB.trans (hk.below (fun b hb => by simp at hb; omega) hB.size), hs, hb, fl_kx (hf.below hA) hk (fun g o e => by have := hn g o e; simp; omega), fun g o e => by have := hn g o e; omega⟩
theorem fl_kx2 {fs : List Prm} {fa : Option Addr} {u U V : World} (h : FlAt fs fa u) (hA : Below u.heap.size u U) (hk : Kx [u.heap.size] U V) : FlAt fs fa V := fun i hi => by
  obtain ⟨g, e, h1, h2, h3⟩ := h i hi
  have hb := (hk.2 g (Nat.lt_of_lt_of_le h1 hA.size) (by simp; omega)).trans (hA.block g h1)
  exact ⟨g, e, Nat.lt_of_lt_of_le h1 (Nat.le_trans hA.size hk.size), by rw [World.cell?_of_block (w := u) hb]; exact h2, by rw [World.cell?_of_block (w := u) hb]; exact h3⟩
/- an answer, laid behind the call that gave it -/
structure AqI (R : Rp) (wr : World) (qb : Nat) (a : Option Addr) (cap : Nat) (W : World) : Prop where
  bel : Below wr.heap.size wr W
  ge : wr.heap.size ≤ qb
  blk : W.heap[qb]? = some (.cells (anA R.st (.slice a R.fs.length cap) R.b R.cl) 64 (0, 0))
  fl : FlAt R.fs a W
theorem aq_late {R : Rp} {w1 w2 : World} {a : Option Addr} {cap : Nat} (h : Below w1.heap.size w1 w2) (hf : FlAt R.fs a w2) : AqI R w1 w2.heap.size a cap (((((w2.alloc (.cells anZ 64)).setCell ⟨w2.heap.size, 0, none⟩ (.int .i64 R.st)).setCell ⟨w2.heap.size, 1, none⟩ (.slice a R.fs.length cap)).setCell ⟨w2.heap.size, 2, none⟩ (.string R.b)).setCell ⟨w2.heap.size, 3, none⟩ (.bool R.cl)) := by
  have hz := heap_alloc_new w2 (.cells anZ 64)
  have hA := (Below.refl w2.heap.size w2).alloc (Nat.le_refl _) (.cells anZ 64)
  have hb := heap_set (heap_set (heap_set (heap_set hz 0 (.int .i64 R.st)) 1 (.slice a R.fs.length cap)) 2 (.string R.b)) 3 (.bool R.cl)
  have hk := an_kx w2.heap.size (w2.alloc (.cells anZ 64)) (.int .i64 R.st) (.slice a R.fs.length cap) (.string R.b) (.bool R.cl)
  have hs := h.size
  have hB := bel_of h hA
  exact ⟨hB.trans (hk.below (fun b hb => by simp at hb; omega) hB.size), hs, hb, fl_kx2 hf hA hk⟩
end
end Go.Proofs.YtbphabgjhoifbaaGreatDoor

/- The statement's own spoken: by Frame, Reply and Render. -/
namespace Go.Proofs.YtbphabgjhoifbaaGreatDoor
open Go.RowKit

theorem infoStr : (Tryz.prog.info? 9).map (fun i => (i.zero, i.size, i.bytes)) = some (some (.string ⟨#[]⟩), 1, 16) := by kernel_rfl
theorem SpI.kept {C : Cf} {w0 : World} {ar : Option Addr} {cr : Nat} {aw : Option Addr} {cw : Nat} {out : List UInt8} {ms : List ByteArray} {vm : Value} {rf : Bool} {w : World} (_ : SpI C w0 ar cr aw cw out ms vm rf w) {o : Obj} {w3 : World} (hg : (w.alloc o).grownBy w3 vm.ownBlock) (k : Nat) (hk : k < w.heap.size) (hne : vm.ownBlock ≠ some k) : w3.heap[k]? = w.heap[k]? := by
  have hA := (Below.refl w.heap.size w).alloc (Nat.le_refl _) o
  rw [hg.block k (Nat.lt_of_lt_of_le hk hA.size) (fun e => hne e.symm), hA.block k hk]
theorem aq_new {R : Rp} {w1 w2 : World} {a : Option Addr} {cap : Nat} (h : Below w1.heap.size w1 w2) (hf : FlAt R.fs a w2) : AqI R w1 w2.heap.size a cap (w2.alloc (.cells (anA R.st (.slice a R.fs.length cap) R.b R.cl) 64)) :=
  ⟨h.alloc h.size _, h.size, heap_alloc_new w2 _, hf.below ((Below.refl _ _).alloc (Nat.le_refl _) _)⟩
set_option maxRecDepth 100000 in
set_option maxHeartbeats 20000000 in
theorem spoken_any (C : Cf) (ok : CfOk C) (ar : Option Addr) (cr : Nat) (aw : Option Addr) (cw : Nat) (mx : Int) (l : List UInt8) (w : World) (h : CfAt C ar aw w) (hm : w.cell? ⟨1, 0, none⟩ = some (.int .i64 mx)) (ht : TabW w) (hl : l.length ≤ 2000000) :
    Calls Tryz.prog 8 #[.agg (cfV C ar cr aw cw), .string ⟨l.toArray⟩] w fun x w' => (∃ vm, x = .returned (.tuple #[.agg (spA (spk C (l.length + 1) l [] []).out vm (spk C (l.length + 1) l [] []).rf), .bool true]) ∧ w'.ownsRow w.heap.size 9 1 vm (spk C (l.length + 1) l [] []).ms.length ((spk C (l.length + 1) l [] []).ms.map Value.string)) ∧ Below w.heap.size w w' := by
  obtain ⟨i0, hi, hz0, hz1, hz2⟩ := info_parts infoStr
  generalize hFIN : spk C (l.length + 1) l [] [] = FIN
  have HFIN := hid hFIN
  have hA1 := (Below.refl w.heap.size w).alloc (Nat.le_refl _) (.cells (cfV C ar cr aw cw) 27)
  have hA2 := hA1.alloc hA1.size (.cells spZ 33)
  have hA3 := hA2.alloc hA2.size (.cells spZ 33)
  have HI0 : Hid (SpI C w ar cr aw cw [] [] (.slice none 0 0) false (((w.alloc (.cells (cfV C ar cr aw cw) 27)).alloc (.cells spZ 33)).alloc (.cells spZ 33))) := by
    have b1 := heap_alloc_new w (.cells (cfV C ar cr aw cw) 27)
    have b2 := heap_alloc_new (w.alloc (.cells (cfV C ar cr aw cw) 27)) (.cells spZ 33)
    have b3 := heap_alloc_new ((w.alloc (.cells (cfV C ar cr aw cw) 27)).alloc (.cells spZ 33)) (.cells spZ 33)
    have z1 : (w.alloc (.cells (cfV C ar cr aw cw) 27)).heap.size = w.heap.size + 1 := by simp
    have z2 : ((w.alloc (.cells (cfV C ar cr aw cw) 27)).alloc (.cells spZ 33)).heap.size = w.heap.size + 2 := by simp
    rw [z1] at b2
    rw [z2] at b3
    refine ⟨hA3, ?_, ?_, b3, World.ownsRow_nil _ _ _ _⟩
    · rw [Below.heap_alloc _ _ _ (by rw [z2]; omega), Below.heap_alloc _ _ _ (by rw [z1]; omega)]; exact b1
    · rw [Below.heap_alloc _ _ _ (by rw [z2]; omega)]; exact b2
  have HH := hid h
  have HT := hid ht
  have HOK := hid ok
  clear h ht ok hFIN hA1 hA2 hA3
  go_enter Tryz.func8, Tryz.ntmps8
  go_wp2_with fail
  go_loopg [1, 7, 8, 9, 10, 11, 12] (l.length + 1) (fun g inn _ _ _ _ _ _ wr => ∃ (R out : List UInt8) (ms : List ByteArray) (vm : Value), inn = .string ⟨R.toArray⟩ ∧ R.length + 1 ≤ g ∧ spk C g R out ms = FIN ∧ out.length + R.length * 34000000 ≤ l.length * 34000000 ∧ ms.length + R.length ≤ l.length ∧ SpI C w ar cr aw cw out ms vm false wr)
  case atStart => exact ⟨l, [], [], _, rfl, Nat.le_refl _, HFIN.out, by simp, by simp, HI0.out⟩
  case round =>
    obtain ⟨R, out, ms, vm, rfl, hg, hS, ho, hn, I⟩ := hrel
    obtain ⟨va, vc, rfl⟩ := sl_of I.own
    cases gk with
    | zero => exact absurd hg (by omega)
    | succ f =>
      have hRl : R.length ≤ 2000000 := by omega
      obtain ⟨c0, c1, c2, c3⟩ := I.cells
      have lI := I.lt
      have HF := hid (pFrameC_any C.hd C.bd R mx wr (cfg_lim HOK.out.E) hRl (cell_later I.bel hm))
      have HE := hid (frame_e R C.hd C.bd (cfg_lim HOK.out.E))
      have HSM := hid (frame_small R C.hd C.bd)
      have HAS := hid (ansC_small HOK.out R hRl)
      have HRP := hid (fun a cap W (hb : Below wr.heap.size wr W) h0 (hf : FlAt (fldsOf (frameG R C.hd C.bd).2.2.2.1) a W) => pReplyC_any C ar cr aw cw mx R a cap W (HH.out.below (bel_of I.bel hb)) (cell_later (bel_of I.bel hb) hm) hRl h0 HOK.out.E hf)
      have HFN := hid (frame_none (cfg_lim HOK.out.E))
      rw [spk] at hS
      have HRN : Hid (R = [] → (frameG R C.hd C.bd).1 = 2) := fun e => by subst e; exact HFN.out
      generalize hFF : frameG R C.hd C.bd = F at *
      clear hFF HFN
      have HI := hid I
      have HS := hid hS
      clear I hS
      go_wp2_with fail
      refine HF.out.mono ?_
      rintro x w2 ⟨⟨fa, cap, rfl, hfl, hfar⟩, hb2⟩
      have HQ := hid (fq_new (F := F) (cap := cap) hb2 hfl hfar (Nat.le_refl _))
      clear hfl hfar HF
      go_upto_region 3 with fail
      generalize w2.alloc (.cells (rqF F fa cap) 58) = wc at *
      generalize w2.heap.size = qb at *
      have IC := HI.out.below HQ.out.bel
      obtain ⟨k0, k1, k2, k3⟩ := IC.cells
      obtain ⟨x0, x1, x2⟩ := IC.xcells
      obtain ⟨r0, r1, r2⟩ := IC.rcells
      have lC := IC.lt
      have lC1 : w.heap.size + 1 < wc.heap.size := by omega
      have lC0 : w.heap.size < wc.heap.size := by omega
      have fr0 := Lib.frozen_of_heap IC.rb 0
      have fr1 := Lib.frozen_of_heap IC.rb 1
      have fr2 := Lib.frozen_of_heap IC.rb 2
      have HIC := hid IC
      have FI := hid IC.fin
      clear IC
      by_cases h2 : F.1 = 2
      · have b2 : (F.1 == 2) = true := by rw [h2]; rfl
        rw [if_pos h2] at HS
        have HS2 := HS.out
        subst HS2
        go_wp2_with fail
        obtain ⟨f1, f2, f3⟩ := FI.out
        generalize ((wc.setCell ⟨w.heap.size + 1, 0, none⟩ (.string ⟨out.toArray⟩)).setCell ⟨w.heap.size + 1, 1, none⟩ (.slice va ms.length vc)).setCell ⟨w.heap.size + 1, 2, none⟩ (.bool false) = wf at *
        have e0 := (Lib.cell_of_heap f1 (j := 0)).trans (show _ = some (Value.string ⟨out.toArray⟩) from rfl)
        have e1 := (Lib.cell_of_heap f1 (j := 1)).trans (show _ = some (Value.slice va ms.length vc) from rfl)
        have e2 := (Lib.cell_of_heap f1 (j := 2)).trans (show _ = some (Value.bool false) from rfl)
        try rw [Exit.noGoto_ret]
        refine bodyPost_ret (v := .tuple #[.agg (spA out (.slice va ms.length vc) false), .bool true]) ?_ ?_ ?_
        · simp [results, Tryz.results8, go_sem, e0, e1, e2]
        · rfl
        exact ⟨⟨_, rfl, f2⟩, f3⟩
      rw [if_neg h2] at HS
      have b2 : (F.1 == 2) = false := by simpa using h2
      by_cases h0 : F.1 = 0
      · have b0 : (F.1 == 0) = true := by rw [h0]; rfl
        rw [if_pos h0] at HS
        have hsm := HSM.out h0
        have hu := hsm.u
        have hv := hsm.v
        obtain ⟨hAB, hAL⟩ := HAS.out h0
        have HRP2 := hid (HRP.out fa cap wc HQ.out.bel h0 HQ.out.fl)
        have q0 : wc.cell? ⟨qb, 0, none⟩ = some (.string ⟨F.2.1.toArray⟩) := by rw [Lib.cell_of_heap HQ.out.blk]; rfl
        have q1 : wc.cell? ⟨qb, 1, none⟩ = some (.string ⟨F.2.2.1.toArray⟩) := by rw [Lib.cell_of_heap HQ.out.blk]; rfl
        have q2 : wc.cell? ⟨qb, 2, none⟩ = some (.slice fa (fldsOf F.2.2.2.1).length cap) := by rw [Lib.cell_of_heap HQ.out.blk]; rfl
        have q3 : wc.cell? ⟨qb, 3, none⟩ = some (.string ⟨F.2.2.2.2.1.toArray⟩) := by rw [Lib.cell_of_heap HQ.out.blk]; rfl
        have lqb := heap_lt HQ.out.blk
        have gqb := HQ.out.ge
        have lvm : ∀ r, (Value.slice va ms.length vc).ownBlock = some r → r < wr.heap.size := fun r hr => (own_lt' HI.out.own hr).2
        have gwc := HQ.out.bel.size
        clear HRP HQ HSM HAS FI HE hsm c0 c1 c2 c3
        generalize hAN : ansS C F = AN at *
        have HAN := hid hAN
        clear hAN
        go_wp2_with fail
        refine HRP2.out.mono ?_
        rintro x w4 ⟨⟨pa, pc, rfl, hfl⟩, hb4⟩
        have HA := hid (aq_new (R := AN) (cap := pc) hb4 hfl)
        clear hfl HRP2
        go_upto_region 11 with fail
        generalize w4.alloc (.cells (anA AN.st (.slice pa AN.fs.length pc) AN.b AN.cl) 64) = wd at *
        generalize w4.heap.size = ab at *
        have ID := HIC.out.below HA.out.bel
        have g0 : wd.cell? ⟨qb, 0, none⟩ = some (.string ⟨F.2.1.toArray⟩) := cell_later HA.out.bel q0
        have a0 : wd.cell? ⟨ab, 0, none⟩ = some (.int .i64 AN.st) := by rw [Lib.cell_of_heap HA.out.blk]; rfl
        have a1 : wd.cell? ⟨ab, 1, none⟩ = some (.slice pa AN.fs.length pc) := by rw [Lib.cell_of_heap HA.out.blk]; rfl
        have a2 : wd.cell? ⟨ab, 2, none⟩ = some (.string AN.b) := by rw [Lib.cell_of_heap HA.out.blk]; rfl
        have a3 : wd.cell? ⟨ab, 3, none⟩ = some (.bool AN.cl) := by rw [Lib.cell_of_heap HA.out.blk]; rfl
        have lab := heap_lt HA.out.blk
        have lqb2 : qb < wd.heap.size := Nat.lt_of_lt_of_le lqb HA.out.bel.size
        have gab := HA.out.ge
        obtain ⟨x0', x1', x2'⟩ := ID.xcells
        have lD := ID.lt
        have hsz : (ByteArray.mk R.toArray).size = R.length := by show R.toArray.size = _; simp
        have n0 : ¬ ((F.2.2.2.2.2 : Int) < 1) := by omega
        have n1 : ¬ (((ByteArray.mk R.toArray).size : Int) < (F.2.2.2.2.2 : Int)) := by omega
        have n2 : ¬ ((R.length : Int) < (F.2.2.2.2.2 : Int)) := by omega
        have HRR : Hid (∀ W, Below wd.heap.size wd W → Calls Tryz.prog 22 #[.string ⟨F.2.1.toArray⟩, .agg (anA AN.st (.slice pa AN.fs.length pc) AN.b AN.cl)] W fun e w' => e = .returned (.string ⟨(textS C F).toArray⟩) ∧ Below W.heap.size W w') := fun W hb => by
          have := pRenderC_any ⟨F.2.1.toArray⟩ AN hAB pa pc W (HA.out.fl.below hb) (Lib.tabBelow_of_tabIs (HT.out W (bel_of (HIC.out.below HA.out.bel).bel hb)))
          unfold textS
          rw [HAN.out]
          exact this
        generalize hTX : textS C F = TX at *
        have hx3 : ¬ (9223372036854775807 < out.length + TX.length) := by omega
        have hxa : (ByteArray.mk out.toArray) ++ (ByteArray.mk TX.toArray) = ⟨(out ++ TX).toArray⟩ := ba_app out ⟨TX.toArray⟩
        have HID := hid ID
        clear ID HIC hTX k0 k1 k2 k3 x0 x1 x2 r0 r1 r2 fr0 fr1 fr2 q0 q1 q2 q3 hAB HA
        go_upto_region 13 with fail
        go_region_law (refine step_call (f := 22) rfl Tryz.func22 (by kernel_rfl) (by kernel_rfl) _ _ rfl #[.string ⟨F.2.1.toArray⟩, .agg (anA AN.st (.slice pa AN.fs.length pc) AN.b AN.cl)] (by simp [Act.eval]) (HRR.out wd.drew (Below.refl _ _).drew) ?_; intro w5 hb5; have hb5' : Below wd.heap.size wd w5 := (Below.refl wd.heap.size wd).drew.trans hb5; obtain ⟨y0, y1, y2⟩ := (HID.out.below hb5').xcells; have zf0 := Lib.frozen_of_heap (HID.out.below hb5').xb 0; have l5 := (HID.out.below hb5').lt)
        all_goals
          have g5 : (w5.setCell ⟨w.heap.size + 1 + 1, 0, none⟩ (.string ⟨(out ++ TX).toArray⟩)).cell? ⟨qb, 0, none⟩ = some (.string ⟨F.2.1.toArray⟩) := by
            rw [World.cell?_setCell_other _ _ _ _ (by intro q; have := congrArg Addr.block q; simp at this; omega)]; exact cell_later hb5' g0
          have a5 : (w5.setCell ⟨w.heap.size + 1 + 1, 0, none⟩ (.string ⟨(out ++ TX).toArray⟩)).cell? ⟨ab, 3, none⟩ = some (.bool AN.cl) := by
            rw [World.cell?_setCell_other _ _ _ _ (by intro q; have := congrArg Addr.block q; simp at this; omega)]; exact cell_later hb5' a3
          have I5 := (HID.out.below hb5').say TX
          try rw [hxa]
          generalize w5.setCell ⟨w.heap.size + 1 + 1, 0, none⟩ (.string ⟨(out ++ TX).toArray⟩) = W6 at *
          obtain ⟨s0, s1, s2⟩ := I5.xcells
          have l6 := I5.lt
          have lq6 := block_lt_of_cell g5
          have la6 := block_lt_of_cell a5
          have o6 := I5.own
          have HI5 := hid I5
          clear I5 HRR HID y0 y1 y2 zf0 x0' x1' x2' hb5 hb5'
          go_wp2_with (at_builtin; refine wpList_append_own _ rfl _ _ 31 rfl (w.heap.size + 3) 9 i0 (.string ⟨#[]⟩) 1 16 Tryz.underlying31 hi hz0 hz1 hz2 rfl (by decide) _ _ _ rfl (o6.alloc _) ⟨W6.heap.size, 0, none⟩ 1 1 [.string ⟨F.2.1.toArray⟩] rfl rfl (by intro j u hj; match j, hj with | 0, hj => simp at hj; subst hj; simp [Addr.add]) (by intro u hu; simp at hu; subst hu; rfl) (by unfold maxLen; omega) (by omega) (by simp; omega) ?_)
          intro v' w7 hown' hgrow _
          obtain ⟨va', vc', rfl⟩ := sl_of hown'
          have hvx : (Value.slice va ms.length vc).ownBlock ≠ some (w.heap.size + 1 + 1) := fun e => by have := own_ge o6 _ e; omega
          have hva : (Value.slice va ms.length vc).ownBlock ≠ some ab := fun e => by have := lvm _ e; omega
          have hx7 := (HI5.out.kept hgrow (w.heap.size + 1 + 1) l6 hvx).trans HI5.out.xb
          have c7 : w7.cell? ⟨w.heap.size + 1 + 1, 1, none⟩ = some (.slice va ms.length vc) := by rw [Lib.cell_of_heap hx7]; rfl
          have z7 := Lib.frozen_of_heap hx7 1
          have l7 := heap_lt hx7
          have a7 : (w7.setCell ⟨w.heap.size + 1 + 1, 1, none⟩ (.slice va' (ms.length + 1) vc')).cell? ⟨ab, 3, none⟩ = some (.bool AN.cl) := by
            rw [World.cell?_setCell_other _ _ _ _ (by intro q; have := congrArg Addr.block q; simp at this; omega), World.cell?_of_block (w := W6) (HI5.out.kept hgrow ab la6 hva)]; exact a5
          have I8 := HI5.out.more hown' hgrow
          have HI8 := hid I8
          generalize hW8 : w7.setCell ⟨w.heap.size + 1 + 1, 1, none⟩ (.slice va' (ms.length + 1) vc') = W8 at *
          obtain ⟨t0, t1, t2⟩ := I8.xcells
          obtain ⟨v0, v1, v2⟩ := I8.rcells
          have l8 := I8.lt
          have l81 : w.heap.size + 1 < W8.heap.size := by omega
          have la8 := block_lt_of_cell a7
          have zr0 := Lib.frozen_of_heap I8.rb 0
          have zr1 := Lib.frozen_of_heap I8.rb 1
          have zr2 := Lib.frozen_of_heap I8.rb 2
          have FJ := hid I8.fin
          have hHS := HS.out
          clear I8 HI5 hgrow hown' o6 hx7 HS
          cases hcl : AN.cl
          · rw [hcl] at a7 hHS
            rw [if_neg (by simp)] at hHS
            have m0 : (0 : Int) ≤ (F.2.2.2.2.2 : Int) := by omega
            have m1 : (F.2.2.2.2.2 : Int) ≤ ((ByteArray.mk R.toArray).size : Int) := by omega
            have m2 : (F.2.2.2.2.2 : Int) ≤ (R.length : Int) := by omega
            have hexd := ba_drop R F.2.2.2.2.2
            have hdl : (R.drop F.2.2.2.2.2).length = R.length - F.2.2.2.2.2 := List.length_drop
            go_wp2_with fail
            try simp only [hW8]
            go_roundg f
            case measure => omega
            case rel => exact ⟨R.drop F.2.2.2.2.2, out ++ TX, ms ++ [⟨F.2.1.toArray⟩], _, by simp, by omega, hHS, by rw [List.length_append]; omega, by rw [List.length_append]; simp; omega, HI8.out⟩
          · rw [hcl] at a7 hHS
            rw [if_pos rfl] at hHS
            subst hHS
            go_wp2_with fail
            try simp only [hW8]
            obtain ⟨f1, f2, f3⟩ := FJ.out
            rw [List.length_append, List.map_append] at f2
            generalize ((W8.setCell ⟨w.heap.size + 1, 0, none⟩ (.string ⟨(out ++ TX).toArray⟩)).setCell ⟨w.heap.size + 1, 1, none⟩ (.slice va' (ms.length + 1) vc')).setCell ⟨w.heap.size + 1, 2, none⟩ (.bool false) = wf at *
            have e0 := (Lib.cell_of_heap f1 (j := 0)).trans (show _ = some (Value.string ⟨(out ++ TX).toArray⟩) from rfl)
            have e1 := (Lib.cell_of_heap f1 (j := 1)).trans (show _ = some (Value.slice va' (ms.length + 1) vc') from rfl)
            have e2 := (Lib.cell_of_heap f1 (j := 2)).trans (show _ = some (Value.bool false) from rfl)
            try rw [Exit.noGoto_ret]
            refine bodyPost_ret (v := .tuple #[.agg (spA (out ++ TX) (.slice va' (ms.length + 1) vc') false), .bool true]) ?_ ?_ ?_
            · simp [results, Tryz.results8, go_sem, e0, e1, e2]
            · rfl
            exact ⟨⟨_, rfl, f2⟩, f3⟩
      · have b0 : (F.1 == 0) = false := by simpa using h0
        rw [if_neg h0] at HS
        have HST := hid (fun W => statusOf_any F.1 HE.out h0 h2 W)
        have hAB : AnsB ⟨refSt F.1, [], ⟨#[]⟩, true, 0⟩ := ⟨(refSt_in F.1).1, (refSt_in F.1).2, (by show (0 : Nat) ≤ 50000000; omega), (by show (0 : Nat) + 0 ≤ 33000000; omega)⟩
        have HRR : Hid (∀ W, Below wc.heap.size wc W → Calls Tryz.prog 22 #[.string ⟨#[]⟩, .agg (anA (refSt F.1) (.slice none 0 0) ⟨#[]⟩ true)] W fun e w' => e = .returned (.string ⟨(rendL [] (refSt F.1) [] [] true).toArray⟩) ∧ Below W.heap.size W w') := fun W hb =>
          pRenderC_any ⟨#[]⟩ ⟨refSt F.1, [], ⟨#[]⟩, true, 0⟩ hAB none 0 W (fun i hi => absurd hi (by simp)) (Lib.tabBelow_of_tabIs (HT.out W (bel_of HIC.out.bel hb)))
        have hnl := no_len F.1
        have hst : 0 < refSt F.1 := by unfold refSt; repeat' split
                                       all_goals omega
        have hne : 1 ≤ R.length := by
          rcases Nat.eq_zero_or_pos R.length with q | q
          · exact absurd (HRN.out (List.eq_nil_of_length_eq_zero q)) h2
          · exact q
        generalize refSt F.1 = st at *
        generalize rendL [] st [] [] true = TX at *
        have hx3 : ¬ (9223372036854775807 < out.length + TX.length) := by omega
        have hxa : (ByteArray.mk out.toArray) ++ (ByteArray.mk TX.toArray) = ⟨(out ++ TX).toArray⟩ := ba_app out ⟨TX.toArray⟩
        have HS2 := HS.out
        subst HS2
        clear HRP HQ HSM HAS FI HE hAB c0 c1 c2 c3 k0 k1 k2 k3 HS
        go_upto_region 7 with (go_at_call 21; refine (HST.out _).mono ?_; rintro e w' ⟨rfl, hw'⟩; have hw2 := hw'.symm; subst hw2)
        go_region_law (refine step_call (f := 22) rfl Tryz.func22 (by kernel_rfl) (by kernel_rfl) _ _ rfl #[.string ⟨#[]⟩, .agg (anA st (.slice none 0 0) ⟨#[]⟩ true)] (by simp [Act.eval, Act.put]) (HRR.out wc.drew (Below.refl _ _).drew) ?_; intro w2 hb2; have hb2' : Below wc.heap.size wc w2 := (Below.refl wc.heap.size wc).drew.trans hb2; obtain ⟨y0, y1, y2⟩ := (HIC.out.below hb2').xcells; have zf0 := Lib.frozen_of_heap (HIC.out.below hb2').xb 0; have l2 := (HIC.out.below hb2').lt)
        all_goals
          have I3 := (HIC.out.below hb2').say TX
          try rw [hxa]
          generalize w2.setCell ⟨w.heap.size + 1 + 1, 0, none⟩ (.string ⟨(out ++ TX).toArray⟩) = W3 at *
          obtain ⟨s0, s1, s2⟩ := I3.xcells
          have l3 := I3.lt
          have zx2 := Lib.frozen_of_heap I3.xb 2
          have I4 := I3.refuse
          obtain ⟨t0, t1, t2⟩ := I4.xcells
          obtain ⟨v0, v1, v2⟩ := I4.rcells
          have l4 := I4.lt
          have l41 : w.heap.size + 1 < (W3.setCell ⟨w.heap.size + 1 + 1, 2, none⟩ (.bool true)).heap.size := by omega
          have zr0 := Lib.frozen_of_heap I4.rb 0
          have zr1 := Lib.frozen_of_heap I4.rb 1
          have zr2 := Lib.frozen_of_heap I4.rb 2
          have FJ := hid I4.fin
          clear I3 I4 HIC HRR HST y0 y1 y2 zf0
          go_wp2_with fail
          obtain ⟨f1, f2, f3⟩ := FJ.out
          generalize (((W3.setCell ⟨w.heap.size + 1 + 1, 2, none⟩ (.bool true)).setCell ⟨w.heap.size + 1, 0, none⟩ (.string ⟨(out ++ TX).toArray⟩)).setCell ⟨w.heap.size + 1, 1, none⟩ (.slice va ms.length vc)).setCell ⟨w.heap.size + 1, 2, none⟩ (.bool true) = wf at *
          have e0 := (Lib.cell_of_heap f1 (j := 0)).trans (show _ = some (Value.string ⟨(out ++ TX).toArray⟩) from rfl)
          have e1 := (Lib.cell_of_heap f1 (j := 1)).trans (show _ = some (Value.slice va ms.length vc) from rfl)
          have e2 := (Lib.cell_of_heap f1 (j := 2)).trans (show _ = some (Value.bool true) from rfl)
          try rw [Exit.noGoto_ret]
          refine bodyPost_ret (v := .tuple #[.agg (spA (out ++ TX) (.slice va ms.length vc) true), .bool true]) ?_ ?_ ?_
          · simp [results, Tryz.results8, go_sem, e0, e1, e2]
          · rfl
          exact ⟨⟨_, rfl, f2⟩, f3⟩
end Go.Proofs.YtbphabgjhoifbaaGreatDoor
