/- Counted, plain mathematics: the status, the names and the values of an answer. -/
import Derived.Test.YtbphabgjhoifbaaGreatDoorJoin33
namespace Go.Proofs.YtbphabgjhoifbaaGreatDoor
open Go.RowKit

structure NmOk (l : List UInt8) : Prop where
  n : l ≠ []
  c : (58 : UInt8) ∉ l
  r : (13 : UInt8) ∉ l
  d : l ≠ cLen
theorem tok_not {l : List UInt8} (h : Pm.isTok l = true) (c : UInt8) (hc : Pm.tokB c = false) : c ∉ l := fun hm => by
  unfold Pm.isTok Pm.allTok at h
  rw [Bool.and_eq_true, List.all_eq_true] at h
  have := h.2 c hm
  rw [hc] at this
  exact absurd this (by decide)
theorem alike_len : Pm.alike cLen cLen = true := by kernel_rfl
theorem tok_colon : Pm.tokB 58 = false := by kernel_rfl
theorem tok_cr : Pm.tokB 13 = false := by kernel_rfl
theorem lab_ok {l : List UInt8} (h : labB l = true) : NmOk l := by
  unfold labB at h
  rw [Bool.and_eq_true, Bool.and_eq_true] at h
  obtain ⟨ht, ha, -⟩ := h
  refine ⟨?_, tok_not ht 58 tok_colon, tok_not ht 13 tok_cr, ?_⟩
  · rintro rfl; simp [Pm.isTok] at ht
  · rintro rfl
    have e : Pm.alike cLen [67, 111, 110, 116, 101, 110, 116, 45, 76, 101, 110, 103, 116, 104] = true := alike_len
    rw [e] at ha
    exact absurd ha (by decide)
theorem rts_full : ∀ (rs : List Rt) (es : List Ent) (k : Nat), (rtsE rs es k).2 = 0 → ∀ r ∈ rs, hndB r.h.k r.h.st r.h.t.data.toList = true
  | [], _, _, _, r, hr => by simp at hr
  | r0 :: rs, es, k, h, r, hr => by
    rw [rtsE] at h
    split at h
    · rename_i h0
      rcases List.mem_cons.1 hr with rfl | hr
      · unfold rtE at h0
        split at h0
        · exact absurd h0 (by decide)
        · split at h0
          · exact absurd h0 (by decide)
          · split at h0
            · exact absurd h0 (by decide)
            · split at h0
              · exact absurd h0 (by decide)
              · split at h0
                · exact absurd h0 (by decide)
                · rename_i hh
                  cases q : hndB r.h.k r.h.st r.h.t.data.toList
                  · exact absurd q hh
                  · rfl
      · exact rts_full rs _ _ h r hr
    · rename_i h0; exact absurd h h0
theorem wrs_full : ∀ (ws : List Wr) (k : Nat), (wrsE ws k).2 = 0 → ∀ x ∈ ws, wareB x.k x.n.data.toList x.v.data.toList x.lim = true
  | [], _, _, x, hx => by simp at hx
  | x0 :: xs, k, h, x, hx => by
    rw [wrsE] at h
    split at h
    · rename_i h0
      rcases List.mem_cons.1 hx with rfl | hx
      · exact h0
      · exact wrs_full xs _ h x hx
    · simp at h
structure AnK (a : An) : Prop where
  s0 : 200 ≤ a.st
  s1 : a.st ≤ 599
  nm : ∀ p ∈ a.fs, NmOk p.1.data.toList
theorem ware_k {x : Wr} {qf : List Prm} {qb : ByteArray} {G : Option An} (hx : wareB x.k x.n.data.toList x.v.data.toList x.lim = true) (h : ∀ a, G = some a → AnK a) {a : An} (e : wareG x qf qb G = some a) : AnK a := by
  have hl : x.k = 0 ∨ x.k = 4 → NmOk x.n.data.toList := fun q => by
    unfold wareB at hx
    rw [Bool.and_eq_true, if_pos q] at hx
    exact lab_ok hx.2
  unfold wareG at e
  split at e
  · rename_i h0
    obtain ⟨b, hb, rfl⟩ := Option.map_eq_some_iff.1 e
    have := h b hb
    refine ⟨this.s0, this.s1, fun p hp => ?_⟩
    rcases List.mem_append.1 hp with hp | hp
    · exact this.nm p hp
    · rw [List.mem_singleton] at hp; subst hp; exact hl (.inl h0)
  split at e
  · split at e
    · exact h a e
    · cases e; exact ⟨by decide, by decide, fun p hp => by simp at hp⟩
  split at e
  · split at e
    · cases e; exact ⟨by decide, by decide, fun p hp => by simp at hp⟩
    · exact h a e
  split at e
  · cases G with
    | none => cases e; exact ⟨by decide, by decide, fun p hp => by simp at hp⟩
    | some b => exact h a e
  split at e
  · rename_i h4
    obtain ⟨b, hb, rfl⟩ := Option.map_eq_some_iff.1 e
    have := h b hb
    refine ⟨this.s0, this.s1, fun p hp => ?_⟩
    rcases List.mem_append.1 hp with hp | hp
    · exact this.nm p hp
    · obtain ⟨v, -, rfl⟩ := List.mem_map.1 hp; exact hl (.inr h4)
  · exact h a e
theorem thr_k {qf : List Prm} {qb : ByteArray} {h : Hn} {ps : List Prm} (hh : hndB h.k h.st h.t.data.toList = true) : ∀ (ws : List Wr), (∀ x ∈ ws, wareB x.k x.n.data.toList x.v.data.toList x.lim = true) → ∀ (a : An), thrG qf qb h ps ws = some a → AnK a
  | [], _, a, e => by
    have e' : handG h qb ps = some a := e
    unfold hndB at hh
    rw [Bool.and_eq_true, decide_eq_true_eq] at hh
    obtain ⟨⟨h1, h2, -⟩, h3⟩ := hh
    unfold handG at e'
    split at e'
    · cases e'; exact ⟨h1, h2, fun p hp => by simp at hp⟩
    split at e'
    · cases e'; exact ⟨h1, h2, fun p hp => by simp at hp⟩
    split at e'
    · cases e'; exact ⟨h1, h2, fun p hp => by simp at hp⟩
    split at e'
    · rename_i hk
      rw [if_pos hk] at h3
      cases e'; refine ⟨h1, h2, fun p hp => ?_⟩
      rw [List.mem_singleton] at hp; subst hp; exact lab_ok h3
    · cases e'
  | x :: r, hw, a, e => ware_k (hw x (by simp)) (fun b hb => thr_k hh r (fun y hy => hw y (by simp [hy])) b hb) e
structure AnsK (R : Rp) : Prop where
  s0 : 200 ≤ R.st
  s1 : R.st ≤ 599
  nm : ∀ p ∈ R.fs, NmOk p.1.data.toList
  vl : ∀ p ∈ R.fs, (13 : UInt8) ∉ p.2.data.toList
theorem end_not {v : ByteArray} (h : endG v = false) : (13 : UInt8) ∉ v.data.toList := fun hm => by
  unfold endG at h
  rw [List.any_eq_false] at h
  exact h 13 hm (by decide)
theorem fin_k {sh : Bool} {G : Option An} (h : ∀ a, G = some a → AnK a) : AnsK (finG sh G) := by
  cases G with
  | none => exact ⟨by simp [finG], by simp [finG], fun p hp => by simp [finG] at hp, fun p hp => by simp [finG] at hp⟩
  | some a =>
    have ha := h a rfl
    rw [finG]
    split
    · exact ⟨by simp, by simp, fun p hp => by simp at hp, fun p hp => by simp at hp⟩
    · rename_i hn
      refine ⟨ha.s0, ha.s1, ha.nm, fun p hp => end_not ?_⟩
      cases q : endG p.2
      · rfl
      · exact absurd (List.any_eq_true.2 ⟨p, hp, q⟩) hn
theorem loc_nm : NmOk locB.data.toList := ⟨by decide, by decide, by decide, by decide⟩
theorem allow_nm : NmOk allowB.data.toList := ⟨by decide, by decide, by decide, by decide⟩
theorem dsp_st2 (m t : List UInt8) (es : List Ent) (h : (dspG m t es).e = 0) : 200 ≤ (dspG m t es).st ∧ (dspG m t es).st ≤ 599 := by
  unfold dspG at h ⊢
  split at h
  · simp at h
  rename_i h1
  rw [if_neg h1]
  split
  · simp
  split
  · unfold movG; split <;> simp
  split
  · simp
  · simp
theorem ans_k {C : Cf} (hE : (cfgE C.hd C.bd C.rs C.ws).2 = 0) (l : List UInt8) (h : (frameG l C.hd C.bd).1 = 0) : AnsK (ansS C (frameG l C.hd C.bd)) := by
  obtain ⟨h1, h2⟩ := frame_right l C.hd C.bd h
  obtain ⟨c1, c2, c3, c4⟩ := cfg_ok hE
  generalize frameG l C.hd C.bd = F at *
  have hp : ledS C F = dspG F.2.1 F.2.2.1 (C.rs.map rtBare) := by
    unfold ledS pdG; rw [if_pos hE]
  have he : (ledS C F).e = 0 := by
    rw [hp]
    unfold dspG
    rw [if_neg (by rw [h1, h2]; simp)]
    repeat' split
    all_goals rfl
  have hok := pd_ok C.hd C.bd C.rs C.ws F.2.1 F.2.2.1 he
  have hst : 200 ≤ (ledS C F).st ∧ (ledS C F).st ≤ 599 := by
    have := dsp_st2 F.2.1 F.2.2.1 (C.rs.map rtBare) (by rw [← hp]; exact he)
    rw [hp]; exact this
  unfold ansS repD
  rw [if_pos he]
  refine fin_k (fun a ha => ?_)
  unfold toG at ha
  split at ha
  · rename_i hs2
    have hro : (ledS C F).ro < C.rs.length := hok.ro hs2
    have hr : ∃ r ∈ C.rs, hdOf C.rs (ledS C F).ro = r.h := by
      unfold hdOf; rw [List.getElem?_eq_getElem hro]; exact ⟨_, List.getElem_mem hro, rfl⟩
    obtain ⟨r, hr1, hr2⟩ := hr
    exact thr_k (by rw [hr2]; exact rts_full C.rs [] 0 c3 r hr1) C.ws (wrs_full C.ws 0 c4) a ha
  · cases ha
    unfold restG
    split
    · refine ⟨hst.1, hst.2, fun p hp => ?_⟩
      rw [List.mem_singleton] at hp; subst hp; exact loc_nm
    split
    · refine ⟨hst.1, hst.2, fun p hp => ?_⟩
      rw [List.mem_singleton] at hp; subst hp; exact allow_nm
    · exact ⟨hst.1, hst.2, fun p hp => by simp at hp⟩
end Go.Proofs.YtbphabgjhoifbaaGreatDoor
