/- Texts that follow one another, joined. -/
import Derived.Test.YtbphabgjhoifbaaGreatDoorJoin30
import Derived.Test.YtbphabgjhoifbaaGreatDoorJoin14
import Derived.Test.YtbphabgjhoifbaaGreatDoorJoin31
import Derived.Test.YtbphabgjhoifbaaGreatDoorJoin25
/- Bytes that are given in pieces: plain mathematics. -/
namespace Go.Proofs.YtbphabgjhoifbaaGreatDoor
open Go.RowKit

theorem frameG_app (l t : List UInt8) (hd bd : Int) (h : (frameG l hd bd).1 ≠ 2) : frameG (l ++ t) hd bd = frameG l hd bd := by
  unfold frameG at h ⊢
  split
  · rename_i hr
    rw [if_pos hr] at h
    exact frameS_app l t hd.toNat bd h
  · rfl
/- what has gone out does not bear on what comes -/
def Cs.behind (a : List UInt8) (S : Cs) : Cs := ⟨S.held, a ++ S.out, S.rq, S.cl, S.hs⟩
theorem say_behind (a : List UInt8) (S : Cs) (t : List UInt8) (cl : Bool) : sayS (S.behind a) t cl = (sayS S t cl).behind a := by
  unfold sayS Cs.behind
  cases cl <;> simp
theorem one_behind (C : Cf) (F : FrameR) (a : List UInt8) (S : Cs) : oneS C F (S.behind a) = (oneS C F S).behind a := by
  unfold oneS
  exact say_behind a ⟨S.held.drop F.2.2.2.2.2, S.out, S.rq + 1, S.cl, hitS (ledS C F).st (ledS C F).ro S.hs⟩ (textS C F) (ansS C F).cl
theorem give_behind (C : Cf) (a : List UInt8) : ∀ (k : Nat) (S : Cs), giveL C k (S.behind a) = (giveL C k S).behind a
  | 0, S => rfl
  | k + 1, S => by
    rw [giveL, giveL]
    have e1 : (S.behind a).cl = S.cl := rfl
    have e2 : (S.behind a).held = S.held := rfl
    rw [e1, e2]
    split
    · rfl
    split
    · rfl
    split
    · rw [one_behind]; exact give_behind C a k _
    · exact say_behind a S _ true
theorem held_le (C : Cf) : ∀ (k : Nat) (S : Cs), (giveL C k S).held.length ≤ S.held.length
  | 0, S => Nat.le_refl _
  | k + 1, S => by
    rw [giveL]
    split
    · exact Nat.le_refl _
    split
    · exact Nat.le_refl _
    split
    · refine Nat.le_trans (held_le C k _) ?_
      unfold oneS sayS
      split
      · exact Nat.zero_le _
      · simp only [List.length_drop]; omega
    · exact Nat.zero_le _
/- a connection that is given bytes, and then more, is as one that is given all at once -/
theorem give_app (C : Cf) : ∀ (k : Nat) (S : Cs) (t : List UInt8) (K : Nat), S.held.length + 1 ≤ k → S.cl = false → S.held.length + t.length + 1 ≤ K →
    giveL C K ⟨S.held ++ t, S.out, S.rq, false, S.hs⟩ = if (giveL C k S).cl = true then giveL C k S else giveL C K ⟨(giveL C k S).held ++ t, (giveL C k S).out, (giveL C k S).rq, false, (giveL C k S).hs⟩
  | 0, S, t, K, h, _, _ => absurd h (by omega)
  | k + 1, S, t, 0, _, _, h => absurd h (by omega)
  | k + 1, S, t, K + 1, h, hc, hK => by
    have hg : giveL C (k + 1) S = if (frameG S.held C.hd C.bd).1 = 2 then S else if (frameG S.held C.hd C.bd).1 = 0 then giveL C k (oneS C (frameG S.held C.hd C.bd) S) else noS (frameG S.held C.hd C.bd).1 S := by
      rw [giveL, if_neg (by rw [hc]; simp)]
    by_cases h2 : (frameG S.held C.hd C.bd).1 = 2
    · rw [hg, if_pos h2, if_neg (by rw [hc]; simp)]
    · have ha := frameG_app S.held t C.hd C.bd h2
      rw [if_neg h2] at hg
      have hl : giveL C (K + 1) ⟨S.held ++ t, S.out, S.rq, false, S.hs⟩ = if (frameG S.held C.hd C.bd).1 = 0 then giveL C K (oneS C (frameG S.held C.hd C.bd) ⟨S.held ++ t, S.out, S.rq, false, S.hs⟩) else noS (frameG S.held C.hd C.bd).1 ⟨S.held ++ t, S.out, S.rq, false, S.hs⟩ := by
        rw [giveL]
        simp only [ha]
        rw [if_neg (by simp), if_neg h2]
      rw [hl]
      by_cases h0 : (frameG S.held C.hd C.bd).1 = 0
      · rw [if_pos h0] at hg ⊢
        have hs := frame_small S.held C.hd C.bd h0
        have hu := hs.u
        have hv := hs.v
        rw [hg]
        by_cases hcl : (ansS C (frameG S.held C.hd C.bd)).cl = true
        · have e1 : oneS C (frameG S.held C.hd C.bd) ⟨S.held ++ t, S.out, S.rq, false, S.hs⟩ = oneS C (frameG S.held C.hd C.bd) S := by
            unfold oneS sayS; rw [if_pos hcl, if_pos hcl]
          have e2 : (oneS C (frameG S.held C.hd C.bd) S).cl = true := by unfold oneS sayS; rw [if_pos hcl]
          rw [e1, giveL_closed C K _ e2, giveL_closed C k _ e2, if_pos e2]
        · have hcf : (ansS C (frameG S.held C.hd C.bd)).cl = false := by simpa using hcl
          have e1 : oneS C (frameG S.held C.hd C.bd) ⟨S.held ++ t, S.out, S.rq, false, S.hs⟩ = ⟨(oneS C (frameG S.held C.hd C.bd) S).held ++ t, (oneS C (frameG S.held C.hd C.bd) S).out, (oneS C (frameG S.held C.hd C.bd) S).rq, false, (oneS C (frameG S.held C.hd C.bd) S).hs⟩ := by
            unfold oneS sayS
            rw [if_neg hcl, if_neg hcl]
            simp only
            rw [List.drop_append_of_le_length hv]
          have e2 : (oneS C (frameG S.held C.hd C.bd) S).cl = false := by unfold oneS sayS; rw [if_neg hcl]; exact hc
          have e3 : (oneS C (frameG S.held C.hd C.bd) S).held.length + 1 ≤ S.held.length := by
            unfold oneS sayS; rw [if_neg hcl]; simp only [List.length_drop]; omega
          rw [e1, give_app C k _ t K (by omega) e2 (by omega)]
          split
          · rfl
          · have e4 : ∀ (j : Nat) (S : Cs), (giveL C j S).held.length ≤ S.held.length := held_le C
            have e5 := e4 k (oneS C (frameG S.held C.hd C.bd) S)
            exact (give_fuel C K (K + 1) _ (by simp only [List.length_append]; omega) (by omega)).symm
      · rw [if_neg h0] at hg ⊢
        rw [hg]
        have e2 : (noS (frameG S.held C.hd C.bd).1 S).cl = true := rfl
        rw [if_pos e2]
        rfl
end Go.Proofs.YtbphabgjhoifbaaGreatDoor

/- What stays small while bytes are given; what is framed has a method and a target. -/
namespace Go.Proofs.YtbphabgjhoifbaaGreatDoor
open Go.RowKit

theorem first_right {l : List UInt8} (h : (Pm.firstS l).1 = 0) : Pm.isMethod (Pm.firstS l).2.1 = true ∧ Pm.isTarget (Pm.firstS l).2.2 = true := by
  unfold Pm.firstS at h ⊢
  split at h
  · rename_i a b c hs
    split at h
    · rename_i h1
      split at h
      · rename_i h2
        have h3 := h1
        rw [Bool.and_eq_true, Bool.and_eq_true] at h3
        rw [if_pos h1, if_pos h2]
        exact ⟨h3.1, h3.2.1⟩
      · exact absurd h (by decide)
    · exact absurd h (by decide)
  · exact absurd h (by decide)
theorem headS_right (f : Nat) : ∀ (first : Bool) (l : List UInt8) (lim : Nat) (m tg : List UInt8) (fs : List Pm.Fld) (u : Nat), (first = false → Pm.isMethod m = true ∧ Pm.isTarget tg = true) → (Pm.headS f first l lim m tg fs u).1 = 0 → Pm.isMethod (Pm.headS f first l lim m tg fs u).2.1 = true ∧ Pm.isTarget (Pm.headS f first l lim m tg fs u).2.2.1 = true := by
  induction f with
  | zero => intro first l lim m tg fs u _ h; exact absurd (show (2 : Int) = 0 from h) (by decide)
  | succ f ih =>
    intro first l lim m tg fs u hm h
    rw [headS_succ] at h ⊢
    by_cases h2 : (Pm.lineS l lim 5).1 ≠ 0
    · rw [if_pos h2] at h; exact absurd h h2
    · rw [if_neg h2] at h ⊢
      by_cases h3 : first = true
      · rw [if_pos h3] at h ⊢
        by_cases h4 : (Pm.firstS (Pm.lineS l lim 5).2.1).1 ≠ 0
        · rw [if_pos h4] at h; exact absurd h h4
        · rw [if_neg h4] at h ⊢
          exact ih _ _ _ _ _ _ _ (fun _ => first_right (by omega)) h
      · have hf : first = false := by simpa using h3
        rw [if_neg h3] at h ⊢
        by_cases h4 : (Pm.lineS l lim 5).2.1 = []
        · rw [if_pos h4]; exact hm hf
        · rw [if_neg h4] at h ⊢
          cases h5 : Pm.fieldS (Pm.lineS l lim 5).2.1 with
          | none => rw [h5] at h; exact absurd (show (3 : Int) = 0 from h) (by decide)
          | some f' =>
            rw [h5] at h
            exact ih _ _ _ _ _ _ _ (fun _ => hm hf) h
theorem frame_right (l : List UInt8) (hd bd : Int) (h : (frameG l hd bd).1 = 0) : Pm.isMethod (frameG l hd bd).2.1 = true ∧ Pm.isTarget (frameG l hd bd).2.2.1 = true := by
  unfold frameG at h ⊢
  split at h
  · rename_i hr
    rw [if_pos hr]
    unfold frameS at h ⊢
    have hh := headS_right (hd.toNat + 1) true l hd.toNat [] [] [] 0 (fun h => by cases h)
    generalize Pm.headS (hd.toNat + 1) true l hd.toNat [] [] [] 0 = H at *
    simp only at h ⊢
    split at h
    · rename_i h1; exact absurd h h1
    rename_i h1
    rw [if_neg h1]
    split at h
    · rename_i h2; exact absurd h h2
    rename_i h2
    rw [if_neg h2]
    split at h
    · rename_i h3; exact absurd h h3
    rename_i h3
    rw [if_neg h3]
    exact hh (by omega)
  · exact absurd h (by decide)
/- the answer to what is framed is one -/
theorem ans_right {C : Cf} (hE : (cfgE C.hd C.bd C.rs C.ws).2 = 0) (l : List UInt8) (h : (frameG l C.hd C.bd).1 = 0) : (ansS C (frameG l C.hd C.bd)).e = 0 := by
  obtain ⟨h1, h2⟩ := frame_right l C.hd C.bd h
  generalize frameG l C.hd C.bd = F at *
  have he : (ledS C F).e = 0 := by
    unfold ledS pdG
    rw [if_pos hE]
    unfold dspG
    rw [if_neg (by rw [h1, h2]; simp)]
    repeat' split
    all_goals rfl
  unfold ansS repD
  rw [if_pos he]
  unfold finG
  repeat' split
  all_goals rfl
/- how great what goes out can be, by how much is held still -/
def phi (S : Cs) : Nat := S.out.length + S.held.length * 34000000
theorem give_phi {V : Sv} {C : Cf} {es : List Ent} {v vh vw : Value} {mx : Int} (ok : SvOk V C es v vh vw mx) : ∀ (k : Nat) (S : Cs), S.held.length ≤ 2000000 → phi (giveL C k S) ≤ phi S
  | 0, S, _ => Nat.le_refl _
  | k + 1, S, hz => by
    rw [giveL]
    split
    · exact Nat.le_refl _
    split
    · exact Nat.le_refl _
    rename_i hc h2
    have hne : 1 ≤ S.held.length := by
      rcases Nat.eq_zero_or_pos S.held.length with q | q
      · exfalso
        have e : S.held = [] := List.eq_nil_of_length_eq_zero q
        have h := frame_none (cfg_lim ok.E)
        rw [← e] at h
        exact h2 h
      · exact q
    split
    · rename_i h0
      have hs := frame_small S.held C.hd C.bd h0
      have hu := hs.u
      have hv := hs.v
      have ha := (ansS_small ok S.held hz h0).2
      have h1 : (oneS C (frameG S.held C.hd C.bd) S).held.length + 1 ≤ S.held.length ∧ (oneS C (frameG S.held C.hd C.bd) S).out.length ≤ S.out.length + 33000600 := by
        unfold oneS sayS
        split
        · simp only [List.length_nil, List.length_append]; omega
        · simp only [List.length_drop, List.length_append]; omega
      have := give_phi ok k (oneS C (frameG S.held C.hd C.bd) S) (by omega)
      unfold phi at this ⊢
      omega
    · have hn := no_len (frameG S.held C.hd C.bd).1
      unfold phi noS sayS
      simp only [if_true, List.length_nil, List.length_append]
      omega
theorem give_cnt (C : Cf) : ∀ (k : Nat) (S : Cs), (∀ x ∈ S.hs, 0 ≤ x ∧ x + S.held.length ≤ 4611686018427387904) → (giveL C k S).rq + (giveL C k S).held.length ≤ S.rq + S.held.length ∧ (giveL C k S).hs.length = S.hs.length ∧ ∀ x ∈ (giveL C k S).hs, 0 ≤ x ∧ x + (giveL C k S).held.length ≤ 4611686018427387904
  | 0, S, h => ⟨Nat.le_refl _, rfl, h⟩
  | k + 1, S, h => by
    rw [giveL]
    split
    · exact ⟨Nat.le_refl _, rfl, h⟩
    split
    · exact ⟨Nat.le_refl _, rfl, h⟩
    split
    · rename_i h0
      have hs := frame_small S.held C.hd C.bd h0
      have hu := hs.u
      have hv := hs.v
      have h1 : (oneS C (frameG S.held C.hd C.bd) S).held.length + 1 ≤ S.held.length ∧ (oneS C (frameG S.held C.hd C.bd) S).rq = S.rq + 1 ∧ (oneS C (frameG S.held C.hd C.bd) S).hs = hitS (ledS C (frameG S.held C.hd C.bd)).st (ledS C (frameG S.held C.hd C.bd)).ro S.hs := by
        unfold oneS sayS
        split
        · simp only [List.length_nil]; refine ⟨by omega, ?_, ?_⟩ <;> first | rfl | trivial
        · simp only [List.length_drop]; refine ⟨by omega, ?_, ?_⟩ <;> first | rfl | trivial
      have hb : ∀ x ∈ (oneS C (frameG S.held C.hd C.bd) S).hs, 0 ≤ x ∧ x + (oneS C (frameG S.held C.hd C.bd) S).held.length ≤ 4611686018427387904 := by
        rw [h1.2.2]; exact hit_in h (by omega)
      obtain ⟨i1, i2, i3⟩ := give_cnt C k _ hb
      exact ⟨by omega, by rw [i2, h1.2.2, hit_len], i3⟩
    · refine ⟨?_, rfl, fun x hx => ?_⟩
      · unfold noS sayS; simp only [if_true, List.length_nil]; omega
      · have hh := h x hx
        unfold noS sayS
        simp only [if_true, List.length_nil]
        omega
end Go.Proofs.YtbphabgjhoifbaaGreatDoor

/- Pieces and takes: a connection is, behind what was taken, as one that was given all at once. -/
namespace Go.Proofs.YtbphabgjhoifbaaGreatDoor
open Go.RowKit

def AsOne (C : Cf) (hs0 : List Int) (B T : List UInt8) (S : Cs) : Prop := giveL C (B.length + 1) ⟨B, [], 0, false, hs0⟩ = S.behind T
theorem asOne_start (C : Cf) (hs0 : List Int) (hr : 32 ≤ C.hd ∧ C.hd ≤ 500 ∧ 0 ≤ C.bd ∧ C.bd ≤ 200) : AsOne C hs0 [] [] ⟨[], [], 0, false, hs0⟩ := by
  unfold AsOne
  rw [giveL, if_neg (by simp)]
  simp only
  rw [if_pos (frame_none hr)]
  rfl
theorem asOne_give {C : Cf} {hs0 : List Int} {B T : List UInt8} {S : Cs} (h : AsOne C hs0 B T S) (hc : S.cl = false) (t : List UInt8) : AsOne C hs0 (B ++ t) T (giveS C S t) := by
  unfold AsOne at h ⊢
  have ha := give_app C (B.length + 1) ⟨B, [], 0, false, hs0⟩ t ((B ++ t).length + 1) (Nat.le_refl _) rfl (by simp)
  have hl := held_le C (B.length + 1) ⟨B, [], 0, false, hs0⟩
  rw [h] at ha hl
  have e1 : (S.behind T).cl = false := hc
  rw [if_neg (by rw [e1]; simp)] at ha
  rw [ha]
  have hl2 : S.held.length ≤ B.length := hl
  have e2 : (⟨(S.behind T).held ++ t, (S.behind T).out, (S.behind T).rq, false, (S.behind T).hs⟩ : Cs) = Cs.behind T ⟨S.held ++ t, S.out, S.rq, S.cl, S.hs⟩ := by
    unfold Cs.behind; rw [hc]
  rw [e2, give_behind]
  unfold giveS
  rw [give_fuel C (S.held.length + t.length + 1) ((B ++ t).length + 1) ⟨S.held ++ t, S.out, S.rq, S.cl, S.hs⟩ (by simp) (by simp; omega)]
theorem asOne_shut {C : Cf} {hs0 : List Int} {B T : List UInt8} {S : Cs} (h : AsOne C hs0 B T S) (hc : S.cl = true) (t : List UInt8) : AsOne C hs0 (B ++ t) T S := by
  unfold AsOne at h ⊢
  have ha := give_app C (B.length + 1) ⟨B, [], 0, false, hs0⟩ t ((B ++ t).length + 1) (Nat.le_refl _) rfl (by simp)
  rw [h] at ha
  have e1 : (S.behind T).cl = true := hc
  rw [if_pos e1] at ha
  exact ha
theorem asOne_take {C : Cf} {hs0 : List Int} {B T : List UInt8} {S : Cs} (h : AsOne C hs0 B T S) (k : Nat) : AsOne C hs0 B (T ++ S.out.take k) ⟨S.held, S.out.drop k, S.rq, S.cl, S.hs⟩ := by
  unfold AsOne at h ⊢
  rw [h]
  unfold Cs.behind
  simp [List.append_assoc]
/- what has been taken is a beginning of all that would go out -/
theorem asOne_pre {C : Cf} {hs0 : List Int} {B T : List UInt8} {S : Cs} (h : AsOne C hs0 B T S) (more : List UInt8) : T <+: (giveL C ((B ++ more).length + 1) ⟨B ++ more, [], 0, false, hs0⟩).out := by
  by_cases hc : S.cl = true
  · have := asOne_shut h hc more
    unfold AsOne at this
    rw [this]
    exact ⟨S.out, rfl⟩
  · have := asOne_give h (by simpa using hc) more
    unfold AsOne at this
    rw [this]
    exact ⟨(giveS C S more).out, rfl⟩
end Go.Proofs.YtbphabgjhoifbaaGreatDoor

/- The statement's own right; the face's Render. -/
namespace Go.Proofs.YtbphabgjhoifbaaGreatDoor
open Go.RowKit

/- a right configuration, in memory -/
structure CfAt (C : Cf) (ar : Option Addr) (aw : Option Addr) (w : World) : Prop where
  R : MuAt 6 Rt.cells C.rs ar w
  W : MuAt 4 Wr.cells C.ws aw w
  rs : ∀ r ∈ C.rs, RtSm r
  ws : ∀ x ∈ C.ws, x.n.size ≤ 1048576 ∧ x.v.size ≤ 1048576
theorem CfAt.below {C : Cf} {ar aw : Option Addr} {w w' : World} (h : CfAt C ar aw w) (hb : Below w.heap.size w w') : CfAt C ar aw w' := ⟨h.R.below hb, h.W.below hb, h.rs, h.ws⟩
abbrev cfV (C : Cf) (ar : Option Addr) (cr : Nat) (aw : Option Addr) (cw : Nat) : Array Value := #[.int .i64 C.hd, .int .i64 C.bd, .slice ar C.rs.length cr, .slice aw C.ws.length cw]
theorem right_C (C : Cf) (ar : Option Addr) (cr : Nat) (aw : Option Addr) (cw : Nat) (mx : Int) (w : World) (h : CfAt C ar aw w) (hm : w.cell? ⟨1, 0, none⟩ = some (.int .i64 mx)) :
    Calls Tryz.prog 7 #[.agg (cfV C ar cr aw cw)] w fun x w' => (∃ C' ar' cr' aw' cw', x = .returned (.agg (cfV C' ar' cr' aw' cw')) ∧ CfAt C' ar' aw' w' ∧ (cfgE C'.hd C'.bd C'.rs C'.ws).2 = 0) ∧ Below w.heap.size w w' := by
  by_cases hE : (cfgE C.hd C.bd C.rs C.ws).2 = 0
  · refine (right_yes C.hd C.bd C.rs C.ws ar cr aw cw mx w h.R h.W (fun r hr => (h.rs r hr).ok) (fun x hx => by have := h.ws x hx; omega) hm hE).mono ?_
    rintro x w' ⟨rfl, hb⟩
    exact ⟨⟨C, ar, cr, aw, cw, rfl, h.below hb, hE⟩, hb⟩
  · refine (right_no C.hd C.bd C.rs C.ws ar cr aw cw mx w h.R h.W (fun r hr => (h.rs r hr).ok) (fun x hx => by have := h.ws x hx; omega) hm hE).mono ?_
    rintro x w' ⟨⟨g, -, rfl, hR⟩, hb⟩
    exact ⟨⟨smC false, _, 3, none, 0, rfl, ⟨hR, fun i hi => absurd hi (by simp [smC, smW]), small_sm, small_ws false⟩, small_cfg false⟩, hb⟩
end Go.Proofs.YtbphabgjhoifbaaGreatDoor

/- The program's Reply, of any configuration and request. -/
namespace Go.Proofs.YtbphabgjhoifbaaGreatDoor
open Go.RowKit

theorem rep_mem (c0 q0 : Array Value) (w : World) :
    Below w.heap.size w (((w.alloc (.cells c0 27)).alloc (.cells q0 58)).alloc (.cells #[.int .i64 0, .slice none 0 0, .string ⟨#[]⟩, .bool false] 64)) ∧ (((w.alloc (.cells c0 27)).alloc (.cells q0 58)).alloc (.cells #[.int .i64 0, .slice none 0 0, .string ⟨#[]⟩, .bool false] 64)).heap[w.heap.size]? = some (.cells c0 27 (0, 0)) ∧ (((w.alloc (.cells c0 27)).alloc (.cells q0 58)).alloc (.cells #[.int .i64 0, .slice none 0 0, .string ⟨#[]⟩, .bool false] 64)).heap[w.heap.size + 1]? = some (.cells q0 58 (0, 0)) ∧ AnB (w.heap.size + 1 + 1) 0 (.slice none 0 0) ⟨#[]⟩ false (((w.alloc (.cells c0 27)).alloc (.cells q0 58)).alloc (.cells #[.int .i64 0, .slice none 0 0, .string ⟨#[]⟩, .bool false] 64)) := by
  have h1 := (Below.refl w.heap.size w).alloc (Nat.le_refl _) (.cells c0 27)
  have b1 := heap_alloc_new w (.cells c0 27)
  have z1 : (w.alloc (.cells c0 27)).heap.size = w.heap.size + 1 := by simp
  generalize w.alloc (.cells c0 27) = W1 at *
  have h2 := h1.alloc h1.size (.cells q0 58)
  have b2 := heap_alloc_new W1 (.cells q0 58)
  have k2 := (Below.refl W1.heap.size W1).alloc (Nat.le_refl _) (.cells q0 58)
  have z2 : (W1.alloc (.cells q0 58)).heap.size = w.heap.size + 1 + 1 := by simp [z1]
  have b1' := (k2.block w.heap.size (by omega)).trans b1
  rw [z1] at b2
  generalize W1.alloc (.cells q0 58) = W2 at *
  have b3 := heap_alloc_new W2 (.cells #[.int .i64 0, .slice none 0 0, .string ⟨#[]⟩, .bool false] 64)
  have k3 := (Below.refl W2.heap.size W2).alloc (Nat.le_refl _) (.cells #[.int .i64 0, .slice none 0 0, .string ⟨#[]⟩, .bool false] 64)
  rw [z2] at b3
  exact ⟨h2.alloc h2.size _, (k3.block w.heap.size (by omega)).trans b1', (k3.block (w.heap.size + 1) (by omega)).trans b2, b3⟩
set_option maxRecDepth 100000 in
set_option maxHeartbeats 2000000 in
theorem pReply_any (hd bd : Int) (rs : List Rt) (ws : List Wr) (ar : Option Addr) (cr : Nat) (aw : Option Addr) (cw : Nat) (qm qt qb : ByteArray) (fs : List Prm) (fa : Option Addr) (fc : Nat) (mx : Int) (w : World) (hR : MuAt 6 Rt.cells rs ar w) (hW : MuAt 4 Wr.cells ws aw w) (hm : w.cell? ⟨1, 0, none⟩ = some (.int .i64 mx))
    (hro : ∀ r ∈ rs, RtSm r) (hwo : ∀ x ∈ ws, x.n.size ≤ 1048576 ∧ x.v.size ≤ 1048576) (hf : FlAt fs fa w) (hl : fs.length ≤ 1000000) (hz1 : ∀ i (h : i < fs.length), fs[i].1.size ≤ maxLen) (hz2 : ∀ p ∈ fs, p.2.size ≤ 2000000) (hms : qm.size ≤ maxLen) (hts : qt.size ≤ 2000000) (hqb : qb.size ≤ 2000000) :
    Calls Tryz.prog 23 #[.agg #[.int .i64 hd, .int .i64 bd, .slice ar rs.length cr, .slice aw ws.length cw], .agg #[.string qm, .string qt, .slice fa fs.length fc, .string qb]] w (RyPost (repD (pdG hd bd rs ws qm.data.toList qt.data.toList) rs ws fs qb) w) := by
  have HN := hid (fun W (hb : Below w.heap.size w W) => new_any hd bd rs ws ar cr aw cw mx W (hR.below hb) (hW.below hb) (fun r hr => (hro r hr).ok) (fun x hx => by have := hwo x hx; omega) (cell_later hb hm))
  have HSR := hid (fun gs es v vh vw W (hb : Below w.heap.size w W) S hes hE => siteReply_any gs hd bd rs ws es v vh vw qm qt qb fs fa fc W S hes hE hro hwo (hf.below hb) hl hz1 hz2 hms hts hqb)
  obtain ⟨hA, B0, B1, A0⟩ := rep_mem #[.int .i64 hd, .int .i64 bd, .slice ar rs.length cr, .slice aw ws.length cw] #[.string qm, .string qt, .slice fa fs.length fc, .string qb] w
  have hE : ∀ E, cfgE hd bd rs ws = E → E.2 ≠ 0 → repD (pdG hd bd rs ws qm.data.toList qt.data.toList) rs ws fs qb = ⟨0, [], ⟨#[]⟩, false, E.2⟩ := fun E h h0 => by
    subst h; unfold pdG repD; rw [if_neg h0]; exact if_neg h0
  have HE := hid (hE _ rfl)
  generalize repD (pdG hd bd rs ws qm.data.toList qt.data.toList) rs ws fs qb = RES at *
  generalize cfgE hd bd rs ws = E at *
  clear hR hW hro hwo hm hE hf hz1 hz2
  go_enter Tryz.func23, Tryz.ntmps23
  go_wp2_with fail
  generalize ((w.alloc (.cells #[.int .i64 hd, .int .i64 bd, .slice ar rs.length cr, .slice aw ws.length cw] 27)).alloc (.cells #[.string qm, .string qt, .slice fa fs.length fc, .string qb] 58)).alloc (.cells #[.int .i64 0, .slice none 0 0, .string ⟨#[]⟩, .bool false] 64) = w1 at *
  refine (HN.out _ hA).mono ?_
  rintro x w2 ⟨k1, k2, hb2⟩
  have hB2 := bel_of hA hb2
  have A2 := A0.below hb2
  have l1 := A0.lt
  have B2 : w2.heap[w.heap.size + 1]? = some (.cells #[.string qm, .string qt, .slice fa fs.length fc, .string qb] 58 (0, 0)) := by rw [hb2.block _ (by omega)]; exact B1
  by_cases q : E.2 = 0
  · obtain ⟨gs, es, v, vh, vw, rfl, hgs, hes, S⟩ := k2 q
    have HRR := hid (HSR.out gs es v vh vw w2 hB2 S hes q)
    have q0 : w2.cell? ⟨w.heap.size + 1, 0, none⟩ = some (.string qm) := by rw [Lib.cell_of_heap B2]; rfl
    have q1 : w2.cell? ⟨w.heap.size + 1, 1, none⟩ = some (.string qt) := by rw [Lib.cell_of_heap B2]; rfl
    have q2 : w2.cell? ⟨w.heap.size + 1, 2, none⟩ = some (.slice fa fs.length fc) := by rw [Lib.cell_of_heap B2]; rfl
    have q3 : w2.cell? ⟨w.heap.size + 1, 3, none⟩ = some (.string qb) := by rw [Lib.cell_of_heap B2]; rfl
    have lq := block_lt_of_cell q0
    have HA2 := hid A2
    clear k1 k2 HSR S hes A0 A2 B0 B1 B2 HN HE
    go_wp2_with fail
    refine HRR.out.mono ?_
    rintro x w3 ⟨⟨vv, rfl, ow⟩, hb3⟩
    have hB3 := bel_of hB2 hb3
    have A3 := HA2.out.below hb3
    have l2 := HA2.out.lt
    have hno : vv.ownBlock ≠ some (w.heap.size + 1 + 1) := fun e => by have := own_ge ow _ e; omega
    obtain ⟨ax, cx, rfl⟩ := sl_of ow
    have HO := hid (owns_setA (g := w.heap.size + 1 + 1) (st := RES.st) (vv := .slice ax RES.fs.length cx) (b := RES.b) (cl := RES.cl) (owns_base ow hB2.size) hno)
    have HB := hid (below_setA (g := w.heap.size + 1 + 1) (st := RES.st) (vv := .slice ax RES.fs.length cx) (b := RES.b) (cl := RES.cl) hB3 (by omega))
    obtain ⟨c0, c1, c2, c3⟩ := A3.cells
    have f0 := A3.free 0
    have f1 := A3.free 1
    have f2 := A3.free 2
    have f3 := A3.free 3
    have la := A3.lt
    obtain ⟨d0, d1, d2, d3⟩ := (A3.set RES.st (.slice ax RES.fs.length cx) RES.b RES.cl).cells
    unfold setA at d0 d1 d2 d3 HO HB
    clear ow HRR HA2 A3
    go_wp2_with fail
    refine bodyPost_ret (v := .tuple #[.agg #[.int .i64 RES.st, .slice ax RES.fs.length cx, .string RES.b, .bool RES.cl], .int .i64 RES.e]) (by simp [results, Tryz.results23, go_sem, d0, d1, d2, d3]) rfl ?_
    exact ⟨⟨_, rfl, HO.out⟩, HB.out⟩
  · obtain rfl := k1 q
    have hR := HE.out q
    subst hR
    obtain ⟨c0, c1, c2, c3⟩ := A2.cells
    have f0 := A2.free 0
    have f1 := A2.free 1
    have f2 := A2.free 2
    have f3 := A2.free 3
    have la := A2.lt
    obtain ⟨d0, d1, d2, d3⟩ := (A2.set 0 (.slice none 0 0) ⟨#[]⟩ false).cells
    have HB := hid (below_setA (g := w.heap.size + 1 + 1) (st := 0) (vv := .slice none 0 0) (b := ⟨#[]⟩) (cl := false) hB2 (by omega))
    unfold setA at d0 d1 d2 d3 HB
    clear k1 k2 HE HN HSR A0 A2 B0 B1 B2
    obtain ⟨en, ee⟩ := E
    simp only at q ⊢
    have hq : (ee != 0) = true := by simpa using q
    go_wp2_with fail
    refine bodyPost_ret (v := .tuple #[.agg #[.int .i64 0, .slice none 0 0, .string ⟨#[]⟩, .bool false], .int .i64 ee]) (by simp [results, Tryz.results23, go_sem, d0, d1, d2, d3]) rfl ?_
    exact ⟨⟨_, rfl, World.ownsRow_nil _ _ _ _⟩, HB.out⟩
end Go.Proofs.YtbphabgjhoifbaaGreatDoor
