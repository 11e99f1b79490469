/- Texts that follow one another, joined. -/
import Derived.Test.YtbphabgjhoifbaaGreatDoorJoin32
import Derived.Test.YtbphabgjhoifbaaGreatDoorJoin31
/- A connection that is given pieces and taken from: what stays. -/
namespace Go.Proofs.YtbphabgjhoifbaaGreatDoor
open Go.RowKit

structure GnI (V : Sv) (C : Cf) (hs0 : List Int) (pc c : Nat) (B T : List UInt8) (S : Cs) (vo : Value) (w : World) : Prop where
  sv : SvI V S.hs w
  cn : CnI V c vo ⟨S.held.toArray⟩ S.out S.rq S.cl w
  pa : PcAt2 pc c w
  p1 : pc ≠ V.s
  p2 : pc ≠ V.h
  p3 : pc ≠ c
  p4 : vo.ownBlock ≠ some pc
  one : AsOne C hs0 B T S
  phi : phi S ≤ B.length * 34000000
  rb : S.rq + S.held.length ≤ B.length
  hl : S.hs.length = C.rs.length
  hb : ∀ x ∈ S.hs, 0 ≤ x ∧ x + S.held.length ≤ B.length
theorem hit_le (C : Cf) : ∀ (k : Nat) (S : Cs) (M : Int), (∀ x ∈ S.hs, 0 ≤ x ∧ x + S.held.length ≤ M) → (giveL C k S).hs.length = S.hs.length ∧ (giveL C k S).rq + (giveL C k S).held.length ≤ S.rq + S.held.length ∧ ∀ x ∈ (giveL C k S).hs, 0 ≤ x ∧ x + (giveL C k S).held.length ≤ M
  | 0, S, M, h => ⟨rfl, Nat.le_refl _, h⟩
  | k + 1, S, M, h => by
    rw [giveL]
    split
    · exact ⟨rfl, Nat.le_refl _, h⟩
    split
    · exact ⟨rfl, Nat.le_refl _, h⟩
    split
    · rename_i h0
      have hs := frame_small S.held C.hd C.bd h0
      have hu := hs.u
      have hv := hs.v
      have h1 : (oneS C (frameG S.held C.hd C.bd) S).held.length + 1 ≤ S.held.length ∧ (oneS C (frameG S.held C.hd C.bd) S).rq = S.rq + 1 ∧ (oneS C (frameG S.held C.hd C.bd) S).hs = hitS (ledS C (frameG S.held C.hd C.bd)).st (ledS C (frameG S.held C.hd C.bd)).ro S.hs := by
        unfold oneS sayS
        split
        · simp only [List.length_nil]; refine ⟨by omega, ?_, ?_⟩ <;> first | rfl | trivial
        · simp only [List.length_drop]; refine ⟨by omega, ?_, ?_⟩ <;> first | rfl | trivial
      have hb : ∀ x ∈ (oneS C (frameG S.held C.hd C.bd) S).hs, 0 ≤ x ∧ x + (oneS C (frameG S.held C.hd C.bd) S).held.length ≤ M := by
        rw [h1.2.2]
        intro x hx
        unfold hitS at hx
        split at hx
        · rcases List.mem_or_eq_of_mem_set hx with q | q
          · have := h x q; omega
          · subst q
            cases hg : S.hs[(ledS C (frameG S.held C.hd C.bd)).ro]? with
            | none =>
              have hlen := List.getElem?_eq_none_iff.1 hg
              rw [List.set_eq_of_length_le hlen, hg] at hx
              have := h _ hx
              omega
            | some y =>
              have := h y (List.mem_of_getElem? hg)
              simp only [Option.getD_some]; omega
        · have := h x hx; omega
      obtain ⟨i1, i2, i3⟩ := hit_le C k _ M hb
      exact ⟨by rw [i1, h1.2.2, hit_len], by omega, i3⟩
    · refine ⟨rfl, ?_, fun x hx => ?_⟩
      · unfold noS sayS; simp only [if_true, List.length_nil]; omega
      · have hh := h x hx
        unfold noS sayS
        simp only [if_true, List.length_nil]
        omega
theorem phi_gen (K : Nat) {o h b t : Nat} (h1 : o + h * K ≤ b * K) : o + (h + t) * K ≤ (b + t) * K := by
  rw [Nat.add_mul, Nat.add_mul, ← Nat.add_assoc]; exact Nat.add_le_add_right h1 _
theorem phi_top (K M : Nat) {o h b t : Nat} (h1 : o + h * K ≤ b * K) (h2 : b + t ≤ M) : o + (h + t + 1) * K ≤ (M + 1) * K :=
  Nat.le_trans (phi_gen K (t := t + 1) h1) (Nat.mul_le_mul_right _ (by omega))
theorem phi_more {o h b t : Nat} (h1 : o + h * 34000000 ≤ b * 34000000) : o + (h + t) * 34000000 ≤ (b + t) * 34000000 := phi_gen 34000000 h1
theorem phi_room {o h b t : Nat} (h1 : o + h * 34000000 ≤ b * 34000000) (h2 : b + t ≤ 1100000) : o + (h + t + 1) * 34000000 ≤ 140737488355328 :=
  Nat.le_trans (phi_top 34000000 1100000 h1 h2) (by decide)
theorem gn_give {V : Sv} {C : Cf} {es : List Ent} {v vh vw : Value} {mx : Int} (ok : SvOk V C es v vh vw mx) {hs0 : List Int} {pc c : Nat} {B T : List UInt8} {S : Cs} {vo : Value} {w : World} (I : GnI V C hs0 pc c B T S vo w) (hc : S.cl = false) (t : List UInt8) (hz : B.length + t.length ≤ 1100000) :
    Calls Tryz.prog 14 #[.pointer (some ⟨pc, 0, none⟩), .string ⟨t.toArray⟩] w fun x w' => x = .returned (.int .i64 0) ∧ (∃ vo', GnI V C hs0 pc c (B ++ t) T (giveS C S t) vo' w') ∧ Kx (cnL V c vo) w w' := by
  have hzt : (ByteArray.mk t.toArray).size = t.length := by show t.toArray.size = _; simp
  have hph := I.phi
  have hrb := I.rb
  have hbb := I.hb
  unfold phi at hph
  refine pGive_of pc c ⟨t.toArray⟩ 0 _ w I.pa ((give_any ok c vo S ⟨t.toArray⟩ w hc I.sv I.cn I.hl (fun x hx => by have := hbb x hx; rw [hzt]; clear hph; omega) (by rw [hzt]; exact phi_room hph hz) (by rw [hzt]; clear hph; omega) (by rw [hzt]; clear hph; omega)).mono ?_)
  rintro x w' ⟨rfl, vo', I1, J1, k1, o1⟩
  have lp := heap_lt I.pa
  have e : giveS C S (ByteArray.mk t.toArray).data.toList = giveS C S t := rfl
  rw [e] at I1 J1
  obtain ⟨i1, i2, i3⟩ := hit_le C (S.held.length + t.length + 1) ⟨S.held ++ t, S.out, S.rq, S.cl, S.hs⟩ ((B ++ t).length : Int) (fun x hx => by have := hbb x hx; simp only [List.length_append]; omega)
  have i4 := give_phi ok (S.held.length + t.length + 1) ⟨S.held ++ t, S.out, S.rq, S.cl, S.hs⟩ (by simp only [List.length_append]; omega)
  have hno : pc ∉ cnL V c vo := by
    simp only [List.mem_append, List.mem_cons, List.not_mem_nil, or_false, Option.mem_toList]
    rintro ((q | q | q) | q)
    · exact I.p1 q
    · exact I.p2 q
    · exact I.p3 q
    · exact I.p4 q
  refine ⟨rfl, ⟨vo', I1, J1, k1.heap I.pa hno, I.p1, I.p2, I.p3, fun q => ?_, asOne_give I.one hc t, ?_, ?_, ?_, ?_⟩, k1⟩
  · rcases o1 pc q with r | r
    · exact I.p4 r
    · omega
  · refine Nat.le_trans i4 ?_
    unfold phi
    simp only [List.length_append]
    exact phi_more hph
  · refine Nat.le_trans i2 ?_
    clear i4 hph
    simp only [List.length_append]
    omega
  · rw [← I.hl]; exact i1
  · intro x hx
    exact i3 x hx
theorem phi_up {x b t : Nat} (h : x ≤ b * 34000000) : x ≤ (b + t) * 34000000 := Nat.le_trans h (Nat.mul_le_mul_right _ (Nat.le_add_right _ _))
theorem GnI.below {V : Sv} {C : Cf} {hs0 : List Int} {pc c : Nat} {B T : List UInt8} {S : Cs} {vo : Value} {w w' : World} (I : GnI V C hs0 pc c B T S vo w) (hb : Below w.heap.size w w') : GnI V C hs0 pc c B T S vo w' :=
  ⟨I.sv.below hb, I.cn.below hb, by unfold PcAt2; rw [hb.block pc (heap_lt I.pa)]; exact I.pa, I.p1, I.p2, I.p3, I.p4, I.one, I.phi, I.rb, I.hl, I.hb⟩
theorem gn_shut {V : Sv} {C : Cf} {hs0 : List Int} {pc c : Nat} {B T : List UInt8} {S : Cs} {vo : Value} {w : World} (I : GnI V C hs0 pc c B T S vo w) (hc : S.cl = true) (t : List UInt8) :
    Calls Tryz.prog 14 #[.pointer (some ⟨pc, 0, none⟩), .string ⟨t.toArray⟩] w fun x w' => x = .returned (.int .i64 14) ∧ GnI V C hs0 pc c (B ++ t) T S vo w' ∧ w' = w := by
  have J := I.cn
  rw [hc] at J
  refine pGive_of pc c ⟨t.toArray⟩ 14 _ w I.pa ((give_shut V c vo _ S.out S.rq ⟨t.toArray⟩ w J).mono ?_)
  rintro x w' ⟨rfl, rfl⟩
  have hl : (B ++ t).length = B.length + t.length := List.length_append
  refine ⟨rfl, ⟨I.sv, I.cn, I.pa, I.p1, I.p2, I.p3, I.p4, asOne_shut I.one hc t, by rw [hl]; exact phi_up I.phi, by have := I.rb; rw [hl]; omega, I.hl, fun x hx => ?_⟩, rfl⟩
  have := I.hb x hx
  rw [hl]
  exact ⟨this.1, by omega⟩
theorem gn_take {V : Sv} {C : Cf} {hs0 : List Int} {pc c : Nat} {B T : List UInt8} {S : Cs} {vo : Value} {w : World} (I : GnI V C hs0 pc c B T S vo w) (k : Nat) :
    Calls Tryz.prog 17 #[.pointer (some ⟨pc, 0, none⟩), .int .i64 k] w fun x w' => x = .returned (.tuple #[.string ⟨(S.out.take k).toArray⟩, .int .i64 0]) ∧ ∃ vo2, GnI V C hs0 pc c B (T ++ S.out.take k) ⟨S.held, S.out.drop k, S.rq, S.cl, S.hs⟩ vo2 w' := by
  have h := take_any V c vo ⟨S.held.toArray⟩ S.out S.rq S.cl (k : Int) w I.cn (by omega)
  unfold TkPost at h
  rw [Int.toNat_natCast] at h
  refine pTake_of pc c (k : Int) ⟨(S.out.take k).toArray⟩ _ w I.pa (h.mono ?_)
  rintro x w' ⟨rfl, vo2, J, kk, o, -⟩
  have hph := I.phi
  refine ⟨rfl, vo2, I.sv.far kk I.cn.ge I.cn.n1 I.cn.n2, J, kk.heap I.pa (by simp; exact I.p3), I.p1, I.p2, I.p3, fun q => I.p4 (o _ q), asOne_take I.one k, ?_, I.rb, I.hl, I.hb⟩
  refine Nat.le_trans ?_ hph
  unfold phi
  exact Nat.add_le_add_right (by simp only [List.length_drop]; omega) _
theorem gn_stat {V : Sv} {C : Cf} {hs0 : List Int} {pc c : Nat} {B T : List UInt8} {S : Cs} {vo : Value} {w : World} (I : GnI V C hs0 pc c B T S vo w) :
    Calls Tryz.prog 13 #[.pointer (some ⟨pc, 0, none⟩)] w fun x w' => x = .returned (.agg (stA S.rq S.held.length S.out.length S.cl)) ∧ Below w.heap.size w w' := by
  have hz : (ByteArray.mk S.held.toArray).size = S.held.length := by show S.held.toArray.size = _; simp
  have h := pStatus_of pc c (S.rq : Int) ((ByteArray.mk S.held.toArray).size : Int) (S.out.length : Int) S.cl w I.pa (fun W hb => status_any V c vo ⟨S.held.toArray⟩ S.out S.rq S.cl W (I.cn.below hb))
  rw [hz] at h
  exact h
end Go.Proofs.YtbphabgjhoifbaaGreatDoor

/- A connection's End. -/
namespace Go.Proofs.YtbphabgjhoifbaaGreatDoor
open Go.RowKit

theorem end_open (V : Sv) (c : Nat) (vo : Value) (held : ByteArray) (out : List UInt8) (rq : Nat) (w : World) (J : CnI V c vo held out rq false w) :
    Calls Tryz.prog 27 #[.pointer (some ⟨c, 0, none⟩)] w fun x w' => x = .returned (.int .i64 0) ∧ CnI V c vo ⟨#[]⟩ out rq true w' ∧ Kx [c] w w' := by
  have HC := hid (close_any V c vo held out rq false w J)
  obtain ⟨c0, c1, c2, c3, c4⟩ := J.cells
  have lc := J.lt
  clear J
  go_enter Tryz.func27, Tryz.ntmps27
  go_wp2_with (go_at_call 40; refine HC.out.mono ?_; rintro x w' ⟨rfl, hj, hk⟩)
  go_ret
  exact ⟨rfl, hj, hk⟩
theorem end_shut (V : Sv) (c : Nat) (vo : Value) (held : ByteArray) (out : List UInt8) (rq : Nat) (w : World) (J : CnI V c vo held out rq true w) :
    Calls Tryz.prog 27 #[.pointer (some ⟨c, 0, none⟩)] w fun x w' => x = .returned (.int .i64 14) ∧ w' = w := by
  obtain ⟨c0, c1, c2, c3, c4⟩ := J.cells
  have lc := J.lt
  clear J
  go_enter Tryz.func27, Tryz.ntmps27
  go_wp2
  go_ret
  exact ⟨rfl, rfl⟩
theorem pEnd_of (pc c : Nat) (e : Int) (Q : World → Prop) (w : World) (hp : PcAt2 pc c w) (H : Calls Tryz.prog 27 #[.pointer (some ⟨c, 0, none⟩)] w fun x w' => x = .returned (.int .i64 e) ∧ Q w') : Calls Tryz.prog 11 #[.pointer (some ⟨pc, 0, none⟩)] w fun x w' => x = .returned (.int .i64 e) ∧ Q w' := by
  have c0 : w.cell? ⟨pc, 0, none⟩ = some (.pointer (some ⟨c, 0, none⟩)) := by rw [Lib.cell_of_heap hp]; rfl
  have lp := heap_lt hp
  have HH := hid H
  clear hp H
  go_enter Tryz.func11, Tryz.ntmps11
  go_wp2_with (go_at_call 27; refine HH.out.mono ?_; rintro x w' ⟨rfl, hq⟩)
  go_ret
  exact ⟨rfl, hq⟩
end Go.Proofs.YtbphabgjhoifbaaGreatDoor

/- A connection's Fail. -/
namespace Go.Proofs.YtbphabgjhoifbaaGreatDoor
open Go.RowKit

theorem fail_any (V : Sv) (c : Nat) (vo : Value) (held : ByteArray) (out : List UInt8) (rq : Nat) (cl : Bool) (w : World) (J : CnI V c vo held out rq cl w) :
    Calls Tryz.prog 32 #[.pointer (some ⟨c, 0, none⟩)] w fun x w' => x = .returned (.tuple #[]) ∧ CnI V c (.slice none 0 0) ⟨#[]⟩ [] rq true w' ∧ Kx [c] w w' := by
  obtain ⟨⟨J1, k1⟩, -⟩ := J.outs (v1 := .slice none 0 0) (out2 := []) (OwnO.nil V.w1.heap.size 5 w) (fun r hr => by simp [Value.ownBlock] at hr)
  have HC := hid (close_any V c _ held [] rq cl _ J1)
  obtain ⟨c0, c1, c2, c3, c4⟩ := J.cells
  have lc := J.lt
  have z2 := Lib.frozen_of_heap J.blk 2
  clear J J1
  go_enter Tryz.func32, Tryz.ntmps32
  go_wp2_with fail
  refine HC.out.mono ?_
  rintro x w' ⟨rfl, hj, hk⟩
  go_wp2_with fail
  refine bodyPost_end (v := .tuple #[]) (by simp [results, Tryz.results32, go_sem]) rfl ?_
  exact ⟨rfl, hj, k1.trans hk (fun _ h => .inl h)⟩
theorem pFail_of (pc c : Nat) (Q : World → Prop) (w : World) (hp : PcAt2 pc c w) (H : Calls Tryz.prog 32 #[.pointer (some ⟨c, 0, none⟩)] w fun x w' => x = .returned (.tuple #[]) ∧ Q w') : Calls Tryz.prog 16 #[.pointer (some ⟨pc, 0, none⟩)] w fun x w' => x = .returned (.tuple #[]) ∧ Q w' := by
  have c0 : w.cell? ⟨pc, 0, none⟩ = some (.pointer (some ⟨c, 0, none⟩)) := by rw [Lib.cell_of_heap hp]; rfl
  have lp := heap_lt hp
  have HH := hid H
  clear hp H
  go_enter Tryz.func16, Tryz.ntmps16
  go_wp2_with (go_at_call 32; refine HH.out.mono ?_; rintro x w' ⟨rfl, hq⟩)
  refine bodyPost_end (v := .tuple #[]) (by simp [results, Tryz.results16, go_sem]) rfl ?_
  exact ⟨rfl, hq⟩
end Go.Proofs.YtbphabgjhoifbaaGreatDoor

/- A connection behind its pieces: End, Fail, Status, and all that is to go out still. -/
namespace Go.Proofs.YtbphabgjhoifbaaGreatDoor
open Go.RowKit

/- what is shut holds nothing -/
theorem give_none (C : Cf) : ∀ (k : Nat) (S : Cs), (S.cl = true → S.held = []) → (giveL C k S).cl = true → (giveL C k S).held = []
  | 0, S, h => h
  | k + 1, S, h => by
    rw [giveL]
    split
    · exact h
    split
    · exact h
    split
    · refine give_none C k _ ?_
      unfold oneS sayS
      split
      · exact fun _ => rfl
      · rename_i hc _ _ _
        exact fun q => absurd q hc
    · unfold noS sayS
      rw [if_pos rfl]
      exact fun _ => rfl
theorem asOne_none {C : Cf} {hs0 : List Int} {B T : List UInt8} {S : Cs} (h : AsOne C hs0 B T S) (hc : S.cl = true) : S.held = [] := by
  have h1 := give_none C (B.length + 1) ⟨B, [], 0, false, hs0⟩ (fun q => by cases q)
  unfold AsOne at h
  rw [h] at h1
  exact h1 hc
structure LnI (V : Sv) (pc c : Nat) (vo : Value) (held out : List UInt8) (rq : Nat) (cl : Bool) (w : World) : Prop where
  bel : Below V.w1.heap.size V.w1 w
  cn : CnI V c vo ⟨held.toArray⟩ out rq cl w
  pa : PcAt2 pc c w
  p3 : pc ≠ c
theorem GnI.ln {V : Sv} {C : Cf} {hs0 : List Int} {pc c : Nat} {B T : List UInt8} {S : Cs} {vo : Value} {w : World} (I : GnI V C hs0 pc c B T S vo w) : LnI V pc c vo S.held S.out S.rq S.cl w := ⟨I.sv.bel, I.cn, I.pa, I.p3⟩
section
variable {V : Sv} {pc c : Nat} {vo : Value} {held out : List UInt8} {rq : Nat} {cl : Bool} {w : World}
theorem LnI.kx (I : LnI V pc c vo held out rq cl w) {vo' : Value} {held' out' : List UInt8} {rq' : Nat} {cl' : Bool} {w' : World} (J : CnI V c vo' ⟨held'.toArray⟩ out' rq' cl' w') (k : Kx [c] w w') : LnI V pc c vo' held' out' rq' cl' w' :=
  ⟨I.bel.trans (k.below (fun b hb => by rw [List.mem_singleton] at hb; subst hb; exact I.cn.ge) I.bel.size), J, k.heap I.pa (by rw [List.mem_singleton]; exact I.p3), I.p3⟩
theorem LnI.below (I : LnI V pc c vo held out rq cl w) {w' : World} (hb : Below w.heap.size w w') : LnI V pc c vo held out rq cl w' :=
  ⟨bel_of I.bel hb, I.cn.below hb, by unfold PcAt2; rw [hb.block pc (heap_lt I.pa)]; exact I.pa, I.p3⟩
theorem ln_end (I : LnI V pc c vo held out rq cl w) (hh : cl = true → held = []) :
    Calls Tryz.prog 11 #[.pointer (some ⟨pc, 0, none⟩)] w fun x w' => x = .returned (.int .i64 (if cl = true then 14 else 0)) ∧ LnI V pc c vo [] out rq true w' := by
  cases cl with
  | false => exact pEnd_of pc c 0 _ w I.pa ((end_open V c vo ⟨held.toArray⟩ out rq w I.cn).mono (by rintro x w' ⟨rfl, J, k⟩; exact ⟨rfl, I.kx J k⟩))
  | true =>
    have e := hh rfl
    subst e
    exact pEnd_of pc c 14 _ w I.pa ((end_shut V c vo ⟨([] : List UInt8).toArray⟩ out rq w I.cn).mono (by rintro x w' ⟨rfl, rfl⟩; exact ⟨rfl, I⟩))
theorem ln_rest (I : LnI V pc c vo held out rq cl w) :
    Calls Tryz.prog 12 #[.pointer (some ⟨pc, 0, none⟩)] w fun x w' => x = .returned (.string ⟨out.toArray⟩) ∧ LnI V pc c (.slice none 0 0) held [] rq cl w' :=
  (rest_any V pc c vo ⟨held.toArray⟩ out rq cl w I.pa I.cn).mono (by rintro x w' ⟨rfl, J, k⟩; exact ⟨rfl, I.kx J k⟩)
theorem ln_stat (I : LnI V pc c vo held out rq cl w) :
    Calls Tryz.prog 13 #[.pointer (some ⟨pc, 0, none⟩)] w fun x w' => x = .returned (.agg (stA rq held.length out.length cl)) ∧ Below w.heap.size w w' := by
  have hz : (ByteArray.mk held.toArray).size = held.length := by show held.toArray.size = _; simp
  have h := pStatus_of pc c (rq : Int) ((ByteArray.mk held.toArray).size : Int) (out.length : Int) cl w I.pa (fun W hb => status_any V c vo ⟨held.toArray⟩ out rq cl W (I.cn.below hb))
  rw [hz] at h
  exact h
theorem ln_fail (I : LnI V pc c vo held out rq cl w) :
    Calls Tryz.prog 16 #[.pointer (some ⟨pc, 0, none⟩)] w fun x w' => x = .returned (.tuple #[]) ∧ LnI V pc c (.slice none 0 0) [] [] rq true w' :=
  pFail_of pc c _ w I.pa ((fail_any V c vo ⟨held.toArray⟩ out rq cl w I.cn).mono (by rintro x w' ⟨rfl, J, k⟩; exact ⟨rfl, I.kx J k⟩))
theorem ln_shut (I : LnI V pc c vo held out rq true w) (s : ByteArray) :
    Calls Tryz.prog 14 #[.pointer (some ⟨pc, 0, none⟩), .string s] w fun x w' => x = .returned (.int .i64 14) ∧ w' = w :=
  pGive_of pc c s 14 _ w I.pa ((give_shut V c vo ⟨held.toArray⟩ out rq s w I.cn).mono (by rintro x w' ⟨rfl, rfl⟩; exact ⟨rfl, rfl⟩))
theorem ln_take (I : LnI V pc c vo held out rq cl w) (k : Nat) :
    Calls Tryz.prog 17 #[.pointer (some ⟨pc, 0, none⟩), .int .i64 k] w fun x w' => x = .returned (.tuple #[.string ⟨(out.take k).toArray⟩, .int .i64 0]) ∧ ∃ vo2, LnI V pc c vo2 held (out.drop k) rq cl w' := by
  have h := take_any V c vo ⟨held.toArray⟩ out rq cl (k : Int) w I.cn (by omega)
  unfold TkPost at h
  rw [Int.toNat_natCast] at h
  refine pTake_of pc c (k : Int) ⟨(out.take k).toArray⟩ _ w I.pa (h.mono ?_)
  rintro x w' ⟨rfl, vo2, J, kk, -, -⟩
  exact ⟨rfl, vo2, I.kx J kk⟩
end
end Go.Proofs.YtbphabgjhoifbaaGreatDoor

/- The statement's own greets: the small configuration's server answers. -/
namespace Go.Proofs.YtbphabgjhoifbaaGreatDoor
open Go.RowKit

def hitK (k : Nat) (hs : List Int) : List Int := if k < 3 then hs.set k ((hs[k]?).getD 0 + 1) else hs
def rqK (k rq : Nat) : Nat := if k < 3 then rq + 1 else rq
def shutK (k : Nat) (b : Bool) : Bool := decide (k = 3) || (decide (k = 1) && !b)
theorem ask_len (k : Nat) : (askL k).length ≤ 100 := by
  unfold askL
  repeat' split
  all_goals decide
theorem said_len (k : Nat) (b : Bool) : (saidL k b).length ≤ 200 := by
  unfold saidL
  repeat' split
  all_goals decide
theorem ask_any {b : Bool} {V : Sv} {es : List Ent} {v vh vw : Value} {mx : Int} (ok : SvOk V (smC b) es v vh vw mx) (k : Nat) (hk : k < 4) (pc c : Nat) (vo : Value) (out : List UInt8) (rq : Nat) (hs : List Int) (w : World) (hp : PcAt2 pc c w) (I : SvI V hs w) (J : CnI V c vo ⟨#[]⟩ out rq false w) (hl : hs.length = 3) (hb : ∀ x ∈ hs, 0 ≤ x ∧ x ≤ 4611686018427380000) (ho : out.length ≤ 1000) (hr : rq ≤ 4611686018427380000) :
    Calls Tryz.prog 14 #[.pointer (some ⟨pc, 0, none⟩), .string ⟨(askL k).toArray⟩] w fun x w' => x = .returned (.int .i64 0) ∧ ∃ vo', SvI V (hitK k hs) w' ∧ CnI V c vo' ⟨#[]⟩ (out ++ saidL k b) (rqK k rq) (shutK k b) w' ∧ Kx (cnL V c vo) w w' ∧ ∀ r, vo'.ownBlock = some r → vo.ownBlock = some r ∨ w.heap.size ≤ r := by
  have hz : (ByteArray.mk (askL k).toArray).size = (askL k).length := by show (askL k).toArray.size = _; simp
  have hl2 := ask_len k
  have h := give_any ok c vo ⟨[], out, rq, false, hs⟩ ⟨(askL k).toArray⟩ w rfl I J hl (fun x hx => by have := hb x hx; rw [hz]; simp; omega) (by rw [hz]; simp; omega) (by rw [hz]; simp; omega) (by rw [hz]; simp; omega)
  have e : giveS (smC b) ⟨[], out, rq, false, hs⟩ (ByteArray.mk (askL k).toArray).data.toList = ⟨[], out ++ saidL k b, rqK k rq, shutK k b, hitK k hs⟩ := alive_plain b k hk out rq hs
  rw [e] at h
  exact pGive_of pc c _ 0 _ w hp h
set_option maxRecDepth 100000 in
set_option maxHeartbeats 4000000 in
theorem greets_any (mx : Int) (w : World) (hm : w.cell? ⟨1, 0, none⟩ = some (.int .i64 mx)) (ht : TabW w) :
    Calls Tryz.prog 6 #[] w fun x w' => x = .returned (.bool true) ∧ Below w.heap.size w w' := by
  have HOP := hid (fun ar aw cw W (hb : Below w.heap.size w W) (hR : MuAt 6 Rt.cells smallR ar W) (hW : MuAt 4 Wr.cells (smW false) aw W) => opened_any (smC false) ar 3 aw cw mx W hR hW small_sm (small_ws false) (cell_later hb hm) (Lib.tabBelow_of_tabIs (ht W hb)) (small_cfg false))
  have HSM := hid (small_b false w)
  clear hm ht
  go_enter Tryz.func6, Tryz.ntmps6
  go_wp2_with fail
  refine HSM.out.mono ?_
  rintro x w2 ⟨⟨ar, aw, cw, rfl, hR, hW⟩, hb2⟩
  have HO2 := hid (HOP.out ar aw cw w2 hb2 hR hW)
  clear HOP HSM hR hW
  go_wp2_with fail
  refine HO2.out.mono ?_
  rintro x w3 ⟨pc, c, V, es, v, vh, vw, rfl, hp, ok, I, J, hB, l1, l2, l3, l4⟩
  have HG := hid (ask_any ok 0 (by omega) pc c _ [] 0 [0, 0, 0] w3 hp I J rfl (fun x hx => by simp at hx; omega) (by simp) (by omega))
  have lp := heap_lt hp
  have HP := hid hp
  clear HO2 hp I J
  go_wp2_with fail
  refine HG.out.mono ?_
  rintro x w4 ⟨rfl, vo', I4, J4, k4, o4⟩
  have hp4 : PcAt2 pc c w4 := k4.heap HP.out (by simp [Value.ownBlock]; omega)
  have HT := hid (pTake_of pc c 1000 ⟨saidYou.toArray⟩ (fun w' => SvI V [0 + 1, 0, 0] w') w4 hp4 ((take_any V c vo' ⟨#[]⟩ ([] ++ saidL 0 false) 1 false 1000 w4 J4 (by omega)).mono (fun x w' h => by
    obtain ⟨rfl, vo2, h1, h2, h3, h4⟩ := h
    exact ⟨rfl, SvI.far (c := c) I4 h2 J4.ge J4.n1 J4.n2⟩)))
  have lp4 := heap_lt hp4
  clear HG HP hp4 I4 J4 k4
  go_wp2_with fail
  refine HT.out.mono ?_
  rintro x w5 ⟨rfl, I5⟩
  have HB := hid (bel_of hb2 (hB.trans (I5.bel.mono hB.size)))
  clear HT I5
  go_wp2_with fail
  go_ret
  exact ⟨congrArg (fun b => Ending.returned (Value.bool b)) (beq_self_eq_true saidYou), HB.out⟩
end Go.Proofs.YtbphabgjhoifbaaGreatDoor
