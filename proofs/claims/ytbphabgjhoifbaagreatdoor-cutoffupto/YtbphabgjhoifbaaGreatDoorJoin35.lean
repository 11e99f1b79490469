/- Texts that follow one another, joined. -/
import Derived.Test.YtbphabgjhoifbaaGreatDoorJoin33
import Derived.Test.YtbphabgjhoifbaaGreatDoorJoin34
import Derived.Test.YtbphabgjhoifbaaGreatDoorJoin06
import Derived.Deep.LoopGhost
import Derived.Deep.CutRange
import Derived.Test.YtbphabgjhoifbaaGreatDoorJoin25
import Derived.Test.YtbphabgjhoifbaaGreatDoorJoin10
import Derived.Test.YtbphabgjhoifbaaGreatDoorRows
import Derived.ChangeArms
import Derived.ChangeSame
import Derived.ChangeOld
/- A configuration that lies beside the one that is handed in; a connection at its beginning. -/
namespace Go.Proofs.YtbphabgjhoifbaaGreatDoor
open Go.RowKit

theorem cfV_no (C : Cf) (ar : Option Addr) (cr : Nat) (aw : Option Addr) (cw : Nat) (k : Nat) (s : ByteArray) : (cfV C ar cr aw cw)[k]? ≠ some (.string s) := by
  match k with
  | 0 => simp
  | 1 => simp
  | 2 => simp
  | 3 => simp
  | k + 4 => simp
theorem mu_kx {α : Type} {sz : Nat} {f : α → List Value} {l : List α} {a : Option Addr} {w w' : World} {B : Nat} (h : MuAt sz f l a w) (hk : Kx [B] w w') (hn : ∀ i (h : i < l.length) o, a = some ⟨B, o, none⟩ → (∀ j v, (f l[i])[j]? = some v → w.cell? ⟨B, o + i * sz + j, none⟩ = some v) → False) : MuAt sz f l a w' := fun i hi => by
  obtain ⟨b, o, h1, h2, h3⟩ := h i hi
  have hb : b ≠ B := fun e => by subst e; exact hn i hi o h1 h3
  refine ⟨b, o, h1, Nat.lt_of_lt_of_le h2 hk.size, fun j v hv => ?_⟩
  rw [World.cell?_of_block (w := w) (hk.2 b h2 (by rw [List.mem_singleton]; exact hb))]
  exact h3 j v hv
theorem CfAt.kx {C : Cf} {ar aw : Option Addr} {w w' : World} {B : Nat} {C0 : Cf} {ar0 aw0 : Option Addr} {cr0 cw0 : Nat} (h : CfAt C ar aw w) (hB : w.heap[B]? = some (.cells (cfV C0 ar0 cr0 aw0 cw0) 27 (0, 0))) (hk : Kx [B] w w') : CfAt C ar aw w' := by
  refine ⟨mu_kx h.R hk (fun i hi o _ hc => ?_), mu_kx h.W hk (fun i hi o _ hc => ?_), h.rs, h.ws⟩
  · have e := hc 0 _ rfl
    rw [Lib.cell_of_heap hB] at e
    exact cfV_no C0 ar0 cr0 aw0 cw0 _ _ e
  · have e := hc 1 _ rfl
    rw [Lib.cell_of_heap hB] at e
    exact cfV_no C0 ar0 cr0 aw0 cw0 _ _ e
def zeroH (C : Cf) : List Int := C.rs.map fun _ => 0
theorem gn_start {V : Sv} {C : Cf} {pc c : Nat} {w : World} (hE : (cfgE C.hd C.bd C.rs C.ws).2 = 0) (hp : PcAt2 pc c w) (I : SvI V (C.rs.map fun _ => 0) w) (J : CnI V c (.slice none 0 0) ⟨#[]⟩ [] 0 false w) (h1 : pc ≠ V.s) (h2 : pc ≠ V.h) (h3 : pc ≠ c) : GnI V C (zeroH C) pc c [] [] ⟨[], [], 0, false, zeroH C⟩ (.slice none 0 0) w := by
  refine ⟨I, J, hp, h1, h2, h3, by simp [Value.ownBlock], asOne_start C (zeroH C) (cfg_lim hE), by simp [phi], by simp, by simp [zeroH], fun x hx => ?_⟩
  unfold zeroH at hx
  obtain ⟨r, -, rfl⟩ := List.mem_map.1 hx
  simp
/- what must go out, and what went out -/
theorem spk_one {C : Cf} {hs0 : List Int} {l T : List UInt8} {S : Cs} (h : AsOne C hs0 l T S) : (spk C (l.length + 1) l [] []).out = T ++ S.out ∧ (spk C (l.length + 1) l [] []).ms.length = S.rq := by
  have e := spk_give C (l.length + 1) l [] [] hs0
  unfold AsOne at h
  simp only [List.length_nil] at e
  rw [h] at e
  exact e
end Go.Proofs.YtbphabgjhoifbaaGreatDoor

/- The law's own small help: pick and bounded. -/
namespace Go.Proofs.YtbphabgjhoifbaaGreatDoor
open Go.RowKit

def pickS (c n : Int) : Int := (if c < 0 then -(c + 1) else c) % n

set_option maxHeartbeats 1000000 in
theorem pick_any (c n : Int) (w : World) (h1 : -9223372036854775808 ≤ c) (h2 : c ≤ 9223372036854775807) (hn : 0 < n) (hn2 : n ≤ 9223372036854775807) :
    Calls Tryz.prog 26 #[.int .i64 c, .int .i64 n] w fun e w' => e = .returned (.int .i64 (pickS c n)) ∧ w' = w := by
  unfold pickS
  by_cases hc : c < 0
  · rw [if_pos hc]
    have w1 : IntKind.i64.wrap (c + 1) = c + 1 := by simp [IntKind.wrap, IntKind.bits, IntKind.signed]; omega
    have w2 : IntKind.i64.wrap (-(c + 1)) = -(c + 1) := by simp [IntKind.wrap, IntKind.bits, IntKind.signed]; omega
    have hz : ¬ n = 0 := by omega
    go_enter Tryz.func26, Tryz.ntmps26
    go_wp2
    go_ret
    refine ⟨?_, rfl⟩
    rw [show -(c + 1).tmod n = -(c + 1) % n from by rw [← Int.neg_tmod, Int.tmod_eq_emod_of_nonneg (by omega)]]
    rfl
  · rw [if_neg hc]
    have hz : ¬ n = 0 := by omega
    go_enter Tryz.func26, Tryz.ntmps26
    go_wp2
    go_ret
    exact ⟨rfl, rfl⟩
theorem pickS_bd (c n : Int) (hn : 0 < n) : 0 ≤ pickS c n ∧ pickS c n < n := ⟨Int.emod_nonneg _ (by omega), Int.emod_lt_of_pos _ hn⟩
end Go.Proofs.YtbphabgjhoifbaaGreatDoor

/- The statement's own given: pieces, takes between, Status asked at times. -/
namespace Go.Proofs.YtbphabgjhoifbaaGreatDoor
open Go.RowKit

def ScAt (zs : List Int) (a : Option Addr) (w : World) : Prop :=
  ∀ i (h : i < zs.length), ∃ g o, a = some ⟨g, o, none⟩ ∧ g < w.heap.size ∧ w.cell? ⟨g, o + i, none⟩ = some (.int .i64 zs[i])
theorem ScAt.below {zs : List Int} {a : Option Addr} {w w' : World} (h : ScAt zs a w) (hb : Below w.heap.size w w') : ScAt zs a w' := fun i hi => by
  obtain ⟨g, o, h1, h2, h3⟩ := h i hi
  exact ⟨g, o, h1, Nat.lt_of_lt_of_le h2 hb.size, cell_later hb h3⟩
theorem ba_take (l : List UInt8) (n : Nat) : (ByteArray.mk l.toArray).extract 0 n = ⟨(l.take n).toArray⟩ := by
  apply ByteArray.ext
  simp [ByteArray.data_extract]
theorem pick_in (c : Int) (n : Nat) (hn : 0 < n) : ∃ k : Nat, k < n ∧ pickS c n = (k : Int) := by
  unfold pickS
  have h := Int.emod_nonneg (if c < 0 then -(c + 1) else c) (show (n : Int) ≠ 0 by omega)
  have h2 := Int.emod_lt_of_pos (if c < 0 then -(c + 1) else c) (show (0 : Int) < n by omega)
  exact ⟨((if c < 0 then -(c + 1) else c) % n).toNat, by omega, by omega⟩
theorem gn_T {V : Sv} {C : Cf} {es : List Ent} {v vh vw : Value} {mx : Int} (ok : SvOk V C es v vh vw mx) {hs0 : List Int} {pc c : Nat} {B T : List UInt8} {S : Cs} {vo : Value} {w : World} (I : GnI V C hs0 pc c B T S vo w) (hz : B.length ≤ 1100000) : T.length + S.out.length ≤ 140737488355328 := by
  have h := give_phi ok (B.length + 1) ⟨B, [], 0, false, hs0⟩ (by show B.length ≤ _; omega)
  rw [I.one] at h
  have h1 : T.length + S.out.length ≤ phi (S.behind T) := by
    unfold phi Cs.behind
    simp only [List.length_append]
    exact Nat.le_add_right _ _
  have h2 : phi ⟨B, [], 0, false, hs0⟩ ≤ 1100000 * 34000000 := by
    unfold phi
    simp only [List.length_nil, Nat.zero_add]
    exact Nat.mul_le_mul_right _ hz
  exact Nat.le_trans h1 (Nat.le_trans h (Nat.le_trans h2 (by decide)))
theorem gn_apart {V : Sv} {C : Cf} {hs0 : List Int} {pc c : Nat} {B T : List UInt8} {S : Cs} {vo : Value} {w : World} (I : GnI V C hs0 pc c B T S vo w) : w.heap.size ∉ cnL V c vo := by
  have lc := I.cn.lt
  have lss := I.sv.ls
  have lhh := I.sv.lh
  simp only [List.mem_append, List.mem_cons, List.not_mem_nil, or_false, Option.mem_toList]
  rintro ((q | q | q) | q)
  · omega
  · omega
  · omega
  · have := (I.cn.out.lt q).2; omega
theorem gn_far {V : Sv} {C : Cf} {hs0 : List Int} {pc c : Nat} {B T : List UInt8} {S : Cs} {vo : Value} {w w' : World} {sb : Nat} (I : GnI V C hs0 pc c B T S vo w) (k : Kx [sb] w w') (hn : sb ∉ cnL V c vo) (hp : sb ≠ pc) (hge : V.w1.heap.size ≤ sb) : GnI V C hs0 pc c B T S vo w' := by
  simp only [List.mem_append, List.mem_cons, List.not_mem_nil, or_false, Option.mem_toList, not_or] at hn
  obtain ⟨⟨n1, n2, n3⟩, n4⟩ := hn
  exact ⟨I.sv.kx k (fun b hb => by rw [List.mem_singleton] at hb; subst hb; exact hge) (by rw [List.mem_singleton]; exact fun e => n1 e.symm) (by rw [List.mem_singleton]; exact fun e => n2 e.symm),
    I.cn.kx k (by rw [List.mem_singleton]; exact fun e => n3 e.symm) (fun r hr => by rw [List.mem_singleton]; rintro rfl; exact n4 hr),
    k.heap I.pa (by rw [List.mem_singleton]; exact fun e => hp e.symm), I.p1, I.p2, I.p3, I.p4, I.one, I.phi, I.rb, I.hl, I.hb⟩
set_option maxRecDepth 100000 in
set_option maxHeartbeats 20000000 in
theorem given_any {V : Sv} {C : Cf} {es : List Ent} {v vh vw : Value} {mx : Int} (ok : SvOk V C es v vh vw mx) (hs0 : List Int) (pc c : Nat) (l : List UInt8) (zs ts : List Int) (za ta : Option Addr) (zc tc : Nat) (S0 : Cs) (vo0 : Value) (w : World) (I0 : GnI V C hs0 pc c [] [] S0 vo0 w) (hz : ScAt zs za V.w1) (ht : ScAt ts ta V.w1) (hzb : ∀ i (h : i < zs.length), -9223372036854775808 ≤ zs[i] ∧ zs[i] ≤ 9223372036854775807) (htb : ∀ i (h : i < ts.length), -9223372036854775808 ≤ ts[i] ∧ ts[i] ≤ 9223372036854775807) (hl : l.length ≤ 1048576) (hzl : zs.length ≤ 1048576) :
    Calls Tryz.prog 10 #[.pointer (some ⟨pc, 0, none⟩), .string ⟨l.toArray⟩, .slice za zs.length zc, .slice ta ts.length tc] w fun x w' => ∃ T S vo', x = .returned (.tuple #[.string ⟨T.toArray⟩, .bool true]) ∧ GnI V C hs0 pc c l T S vo' w' := by
  have HI := hid I0
  have HZ := hid hz
  have HT := hid ht
  clear I0 hz ht
  go_enter Tryz.func10, Tryz.ntmps10
  go_wp2_with fail
  go_loopg [1, 10, 11, 12, 13, 14, 15, 16, 17, 18] (zs.length + 1) (fun g inn outt i _ _ _ _ _ _ _ wr => ∃ (n : Nat) (B R T : List UInt8) (S : Cs) (vo : Value), inn = .string ⟨R.toArray⟩ ∧ outt = .string ⟨T.toArray⟩ ∧ i = .int .i64 n ∧ n ≤ zs.length + 1 ∧ g = zs.length + 1 - n ∧ l = B ++ R ∧ (n = zs.length + 1 → R = []) ∧ GnI V C hs0 pc c B T S vo wr)
  case atStart => exact ⟨0, [], l, [], S0, vo0, rfl, rfl, rfl, by omega, rfl, rfl, fun h => absurd h (by omega), HI.out⟩
  case round =>
    obtain ⟨n, B, R, T, S, vo, rfl, rfl, rfl, hn, rfl, hBR, hlast, I⟩ := hrel
    have hRl : (ByteArray.mk R.toArray).size = R.length := by show R.toArray.size = _; simp
    have hll : l.length = B.length + R.length := by rw [hBR, List.length_append]
    by_cases hle : n ≤ zs.length
    · have hle' : (n : Int) ≤ (zs.length : Int) := by omega
      have hn0 : (0 : Int) ≤ (n : Int) := by omega
      have HII := hid I
      have hbel := I.sv.bel
      clear I
      have HBR := hid hBR
      have HLL := hid hll
      have HLA := hid hlast
      clear hBR hll hlast
      go_upto_if 30 with fail
      generalize hdec : decide (n < zs.length) = dd
      go_cut [12] from 31 to 105 (fun x wx => ∃ p : Nat, x = .int .i64 p ∧ p ≤ R.length ∧ (n = zs.length → p = R.length) ∧ wx = wr)
      case first =>
        cases dd
        · have hlt : ¬ n < zs.length := of_decide_eq_false hdec
          clear hdec
          go_wp2_with fail
          go_meet
          exact ⟨R.length, rfl, Nat.le_refl _, fun _ => rfl, rfl⟩
        · have hlt : n < zs.length := of_decide_eq_true hdec
          clear hdec
          obtain ⟨g, o, hza, hg, hcell⟩ := HZ.out n hlt
          have hcw := cell_later hbel hcell
          have lgw := block_lt_of_cell hcw
          have hzn := hzb n hlt
          obtain ⟨k, hk, hkk⟩ := pick_in zs[n] (R.length + 1) (by omega)
          have HPK := hid (fun W => pick_any zs[n] ((R.length : Int) + 1) W hzn.1 hzn.2 (by omega) (by have := HLL.out; omega))
          generalize hzx : zs[n] = zx at *
          have hkk' : pickS zx ((R.length : Int) + 1) = (k : Int) := by rw [← hkk]; congr 1
          rw [hkk'] at HPK
          have hr1 : R.length ≤ 1048576 := by have := HLL.out; omega
          have hlt' : (n : Int) < (zs.length : Int) := by omega
          clear hkk hkk' hcell hzx hzn hlt hle hn HLL HBR
          subst hza
          go_wp2_with (go_at_call 26; refine (HPK.out _).mono ?_; rintro e w' ⟨rfl, rfl⟩)
          go_meet
          exact ⟨k, rfl, by omega, fun h => absurd h (by omega), rfl⟩
      case rest =>
        obtain ⟨p, rfl, hp, hpl, rfl⟩ := hcut
        have hll := HLL.out
        have hBR := HBR.out
        have p0 : (0 : Int) ≤ (p : Int) := by omega
        have p1 : (p : Int) ≤ ((ByteArray.mk R.toArray).size : Int) := by omega
        have p2 : (p : Int) ≤ (R.length : Int) := by omega
        have hext := ba_take R p
        have hexd := ba_drop R p
        have hsp : l = (B ++ R.take p) ++ R.drop p := by rw [List.append_assoc, List.take_append_drop]; exact hBR
        have hbz : B.length + (R.take p).length ≤ 1100000 := by rw [List.length_take]; omega
        have hnx : n + 1 = zs.length + 1 → R.drop p = [] := fun h => by rw [hpl (by omega)]; exact List.drop_length
        have hr2 : n ≤ 1048576 := by omega
        have hA := (Below.refl wc.heap.size wc).alloc (Nat.le_refl _) (.cells (stA 0 0 0 false) 44)
        have HB1 := hid (heap_alloc_new wc (.cells (stA 0 0 0 false) 44))
        have HI1 := hid (HII.out.below hA)
        have hsn : wc.heap.size ∉ cnL V c vo := gn_apart HII.out
        have hlw : wc.heap.size < (wc.alloc (.cells (stA 0 0 0 false) 44)).heap.size := by simp
        have HW := hid hA
        clear hll hBR HLL HBR HLA hdec
        have HSN := hid hsn
        have HGE : Hid (V.w1.heap.size ≤ wc.heap.size) := HII.out.sv.bel.size
        have HPC : Hid (wc.heap.size ≠ pc) := by unfold Hid; have := heap_lt HII.out.pa; omega
        clear hA hsn HII
        go_upto_region 9 with fail
        generalize wc.alloc (.cells (stA 0 0 0 false) 44) = w1 at *
        generalize wc.heap.size = sb at *
        go_cut [14] from 39 to 105 (fun a wx => ∃ b : Bool, a = .bool b ∧ wx = w1)
        case first =>
          by_cases hnt : n < ts.length
          · have hnt' : (n : Int) < (ts.length : Int) := by omega
            obtain ⟨g, o, hta, hg, hcell⟩ := HT.out n hnt
            have hcw := cell_later HI1.out.sv.bel hcell
            have htn := htb n hnt
            obtain ⟨q, hq, hqq⟩ := pick_in ts[n] 3 (by omega)
            have HP3 := hid (fun W => pick_any ts[n] 3 W htn.1 htn.2 (by omega) (by omega))
            generalize htx : ts[n] = tx at *
            rw [show pickS tx 3 = (q : Int) from hqq] at HP3
            clear hqq hcell
            subst hta
            have lgw := block_lt_of_cell hcw
            by_cases hq0 : q = 0
            · subst hq0
              go_wp2_with (go_at_call 26; refine (HP3.out _).mono ?_; rintro e w' ⟨rfl, rfl⟩)
              go_meet
              exact ⟨true, rfl, rfl⟩
            · have hqb : ((q : Int) == 0) = false := by simpa using hq0
              go_wp2_with (go_at_call 26; refine (HP3.out _).mono ?_; rintro e w' ⟨rfl, rfl⟩)
              go_meet
              exact ⟨false, by simp, rfl⟩
          · have hnt' : ¬ (n : Int) < (ts.length : Int) := by omega
            go_wp2_with fail
            go_meet
            exact ⟨false, rfl, rfl⟩
        case rest =>
          obtain ⟨b, rfl, hwc⟩ := hcut
          subst hwc
          go_upto_if 51 with fail
          go_cut [] from 52 to 105 (fun wx => ∃ (x0 x1 x2 : Int) (x3 : Bool), wx.heap[sb]? = some (.cells (stA x0 x1 x2 x3) 44 (0, 0)) ∧ (b = true → x3 = S.cl) ∧ GnI V C hs0 pc c B T S vo wx)
          case first =>
            cases b
            · go_wp2_with fail
              go_meet
              exact ⟨0, 0, 0, false, HB1.out, (fun h => by cases h), HI1.out⟩
            · have HST := hid (gn_stat HI1.out)
              go_wp2_with fail
              refine HST.out.mono ?_
              rintro x w2 ⟨rfl, hb2⟩
              have B2 : w2.heap[sb]? = some (.cells (stA 0 0 0 false) 44 (0, 0)) := by rw [hb2.block _ hlw]; exact HB1.out
              have d0 : w2.cell? ⟨sb, 0, none⟩ = some (.int .i64 0) := by rw [Lib.cell_of_heap B2]; rfl
              have d1 : w2.cell? ⟨sb, 1, none⟩ = some (.int .i64 0) := by rw [Lib.cell_of_heap B2]; rfl
              have d2 : w2.cell? ⟨sb, 2, none⟩ = some (.int .i64 0) := by rw [Lib.cell_of_heap B2]; rfl
              have d3 : w2.cell? ⟨sb, 3, none⟩ = some (.bool false) := by rw [Lib.cell_of_heap B2]; rfl
              have z0 := Lib.frozen_of_heap B2 0
              have z1 := Lib.frozen_of_heap B2 1
              have z2 := Lib.frozen_of_heap B2 2
              have z3 := Lib.frozen_of_heap B2 3
              have lq := heap_lt B2
              have hX := an_kx sb w2 (.int .i64 S.rq) (.int .i64 S.held.length) (.int .i64 S.out.length) (.bool S.cl)
              have BF := heap_set (heap_set (heap_set (heap_set B2 0 (.int .i64 S.rq)) 1 (.int .i64 S.held.length)) 2 (.int .i64 S.out.length)) 3 (.bool S.cl)
              have I3 := gn_far (HI1.out.below hb2) hX HSN.out HPC.out HGE.out
              have HI3 := hid I3
              have HBF := hid BF
              clear I3 BF hX HST
              go_wp2_with fail
              go_meet
              exact ⟨_, _, _, _, HBF.out, (fun _ => rfl), HI3.out⟩
          case rest =>
            obtain ⟨x0, x1, x2, x3, hsb, hx3, I2⟩ := hcut
            have c3 : wc.cell? ⟨sb, 3, none⟩ = some (.bool x3) := by rw [Lib.cell_of_heap hsb]; rfl
            have lsb := heap_lt hsb
            obtain ⟨w2, hw2⟩ : ∃ w2, w2 = wc := ⟨_, rfl⟩
            subst hw2
            have HI2 := hid I2
            clear I2 HI1 HB1 hlw HW
            go_upto_region 12 with fail
            go_cut [15] from 54 to 105 (fun e wx => ∃ (S' : Cs) (vo' : Value) (k : Int), e = .int .i64 k ∧ GnI V C hs0 pc c (B ++ R.take p) T S' vo' wx ∧ wx.heap[sb]? = some (.cells (stA x0 x1 x2 x3) 44 (0, 0)) ∧ ((S.cl = false ∧ k = 0) ∨ (S.cl = true ∧ k = 14)))
            case first =>
              cases hcl : S.cl
              · have HGV := hid (gn_give ok HI2.out hcl (R.take p) hbz)
                have hk := hid (fun w3 (k : Kx (cnL V c vo) w2 w3) => k.heap hsb HSN.out)
                go_wp2_with fail
                refine HGV.out.mono ?_
                rintro x w3 ⟨rfl, ⟨vo', I3⟩, k3⟩
                have HI3 := hid I3
                have HB3 := hid (hk.out w3 k3)
                clear I3 k3 hk HGV
                go_wp2_with fail
                go_meet
                exact ⟨_, vo', 0, rfl, HI3.out, HB3.out, .inl ⟨hcl, rfl⟩⟩
              · have HGV := hid (gn_shut HI2.out hcl (R.take p))
                go_wp2_with fail
                refine HGV.out.mono ?_
                rintro x w3 ⟨rfl, I3, hw3⟩
                have HI3 := hid I3
                have HB3 : Hid (w3.heap[sb]? = some (.cells (stA x0 x1 x2 x3) 44 (0, 0))) := by unfold Hid; rw [hw3]; exact hsb
                clear I3 hw3 HGV
                go_wp2_with fail
                go_meet
                exact ⟨S, vo, 14, rfl, HI3.out, HB3.out, .inr ⟨hcl, rfl⟩⟩
            case rest =>
              obtain ⟨S', vo', e, rfl, I3, hsb3, hee⟩ := hcut
              obtain ⟨w3, hw3⟩ : ∃ w3, w3 = wc := ⟨_, rfl⟩
              subst hw3
              have HI3 := hid I3
              clear I3 HI2 hsb c3 lsb
              have d3 : w3.cell? ⟨sb, 3, none⟩ = some (.bool x3) := by rw [Lib.cell_of_heap hsb3]; rfl
              have lsb := heap_lt hsb3
              clear hsb3
              go_upto_region 14 with fail
              go_cut [77] from 62 to 105 (fun v wx => v = .bool false ∧ wx = w3)
              case first =>
                have HX3 := hid hx3
                clear hx3
                rcases hee with ⟨h1, rfl⟩ | ⟨h1, rfl⟩
                all_goals
                  cases b
                  · go_wp2_with fail
                    go_meet
                    exact ⟨rfl, rfl⟩
                  · have hx := HX3.out rfl
                    rw [h1] at hx
                    subst hx
                    go_wp2_with fail
                    go_meet
                    exact ⟨rfl, rfl⟩
              case rest =>
                obtain ⟨rfl, hw3⟩ := hcut
                subst hw3
                go_upto_if 82 with fail
                generalize hdec2 : decide (n < ts.length) = d2
                cases d2
                · clear hdec2 hee
                  go_wp2_with fail
                  go_roundg (zs.length + 1 - (n + 1))
                  case measure => omega
                  case rel => exact ⟨n + 1, B ++ R.take p, R.drop p, T, S', vo', by simp, rfl, by simp, by omega, rfl, hsp, hnx, HI3.out⟩
                · have hnt : n < ts.length := of_decide_eq_true hdec2
                  obtain ⟨g, o, hta, hg, hcell⟩ := HT.out n hnt
                  have hcw := cell_later HI3.out.sv.bel hcell
                  have lgw := block_lt_of_cell hcw
                  have htn := htb n hnt
                  obtain ⟨k2, hk2, hkk2⟩ := pick_in ts[n] 100 (by omega)
                  have HP100 := hid (fun W => pick_any ts[n] 100 W htn.1 htn.2 (by omega) (by omega))
                  generalize htx : ts[n] = tx at *
                  rw [show pickS tx 100 = (k2 : Int) from hkk2] at HP100
                  have hT4 := gn_T ok HI3.out (by rw [List.length_append]; exact hbz)
                  have HTK := hid (gn_take HI3.out k2)
                  have hnt' : (n : Int) < (ts.length : Int) := by omega
                  generalize hX : S'.out.take k2 = X at *
                  have hXl : X.length ≤ k2 := by rw [← hX, List.length_take]; omega
                  have hXo : X.length ≤ S'.out.length := by rw [← hX, List.length_take]; omega
                  have hx1 : ¬ (k2 : Int) < (X.length : Int) := by omega
                  have hx3 : ¬ (9223372036854775807 < T.length + X.length) := by omega
                  have hxa : (ByteArray.mk T.toArray) ++ (ByteArray.mk X.toArray) = ⟨(T ++ X).toArray⟩ := ba_app T ⟨X.toArray⟩
                  clear hdec2 hee hcell htx hkk2 hnt HI3 hX htn
                  subst hta
                  go_wp2_with (go_at_call 26; refine (HP100.out _).mono ?_; rintro e w' ⟨rfl, rfl⟩)
                  refine HTK.out.mono ?_
                  rintro x w5 ⟨rfl, vo5, I5⟩
                  have HI5 := hid I5
                  clear I5 HTK
                  go_wp2_with fail
                  go_roundg (zs.length + 1 - (n + 1))
                  case measure => omega
                  case rel => exact ⟨n + 1, B ++ R.take p, R.drop p, T ++ X, _, vo5, by simp, by simp, by simp, by omega, rfl, hsp, hnx, HI5.out⟩
    · have hgt : ¬ (n : Int) ≤ (zs.length : Int) := by omega
      have hR := hlast (by omega)
      subst hR
      have hB : l = B := by rw [hBR, List.append_nil]
      clear hll hBR hlast
      subst hB
      go_wp2_with fail
      refine bodyPost_ret (v := .tuple #[.string ⟨T.toArray⟩, .bool true]) ?_ ?_ ?_
      · simp [results, Tryz.results10, go_sem]
      · rfl
      exact ⟨T, rfl, S, vo, I⟩
end Go.Proofs.YtbphabgjhoifbaaGreatDoor

/- A configuration among what a call is handed: its routes and wares opened as lists, nil or not; what their bulk tells. -/
namespace Go.Proofs.YtbphabgjhoifbaaGreatDoor
open Go.RowKit Go.ChangeShapes

theorem exists_list {α : Type} {R : Nat → α → Prop} : ∀ n, (∀ i, i < n → ∃ x, R i x) → ∃ l : List α, l.length = n ∧ ∀ i (h : i < l.length), R i l[i]
  | 0, _ => ⟨[], rfl, fun i h => absurd h (by simp)⟩
  | n + 1, h => by
    obtain ⟨l, hl, hr⟩ := exists_list n (fun i hi => h i (by omega))
    obtain ⟨x, hx⟩ := h n (by omega)
    refine ⟨l ++ [x], by simp [hl], fun i hi => ?_⟩
    by_cases hi' : i < l.length
    · rw [List.getElem_append_left hi']; exact hr i hi'
    · have e : i = n := by simp at hi; omega
      subst e
      rw [List.getElem_append_right (by omega)]
      simpa [hl] using hx
theorem bulk_mem {H : Type} {d : DataW H} : ∀ {l : List (DataW H)}, d ∈ l → Rows.uptoBulk d ≤ Rows.uptoBulkAll l
  | [], h => absurd h (by simp)
  | x :: r, h => by
    simp only [Rows.uptoBulkAll]
    rcases List.mem_cons.1 h with rfl | h
    · omega
    · have := bulk_mem h; omega
theorem bulk_one {H : Type} (d : DataW H) : 1 ≤ Rows.uptoBulk d := by
  cases d with
  | lit l => cases l <;> simp [Rows.uptoBulk]
  | nil => simp [Rows.uptoBulk]
  | ptr d => simp [Rows.uptoBulk]
  | slice a b => simp [Rows.uptoBulk]
  | agg a => simp [Rows.uptoBulk]
  | iface a b => simp [Rows.uptoBulk]
  | map a => simp [Rows.uptoBulk]
  | held a => simp [Rows.uptoBulk]
theorem bulk_len {H : Type} : ∀ (l : List (DataW H)), l.length ≤ Rows.uptoBulkAll l
  | [] => by simp
  | x :: r => by
    have h1 := bulk_one x
    have h2 := bulk_len r
    simp only [Rows.uptoBulkAll, List.length_cons]
    omega
section
variable {H : Type} {enc : TypeId × Value → H} {P : Program} {w : World} {base : Nat} {spare : Nat → Bool} {held : Bool}
theorem open_list {α : Type} {sz : Nat} {f : α → List Value} (hz : 1 ≤ sz) (hfz : ∀ x, (f x).length = sz) {Q : α → DataW H → Prop} {t e : TypeId} {fuel : Nat} {cs : List Value} {x : DataW H × List MemPlace} (ht : P.underlying t = some (.slice e)) (hce : P.cellsOf e = sz)
    (he : ∀ (n : Nat) (cs : List Value) (y : DataW H × List MemPlace), DataW.trod enc P w base spare held n e cs = some y → ∃ z : α, cs = f z ∧ Q z y.1)
    (h : DataW.trod enc P w base spare held fuel t cs = some x) :
    ∃ (a : Option Addr) (cap : Nat) (l : List α), cs = [.slice a l.length cap] ∧ MuAt sz f l a w ∧ (a = none → l = [] ∧ cap = 0) ∧ (Rows.uptoBulk x.1 ≤ 1048576 → l.length ≤ 1048576) ∧ (Rows.uptoBulk x.1 ≤ 1048576 → ∀ z ∈ l, ∃ d, Q z d ∧ Rows.uptoBulk d ≤ 1048576) := by
  rcases DataW.trod_slice ht h with ⟨rfl, rfl⟩ | ⟨a, len, cap, elems, rest, n, _, rfl, rfl, hb, hl, hm, hlen, hel, hsp, hns⟩
  · exact ⟨none, 0, [], rfl, fun i hi => absurd hi (by simp), fun _ => ⟨rfl, rfl⟩, fun _ => Nat.zero_le _, fun _ z hz => absurd hz (by simp)⟩
  have each : ∀ i, i < len → ∃ z : α, (∃ d ∈ elems.map (·.1), Q z d) ∧ ∀ j v, (f z)[j]? = some v → w.cell? ((a.add (i * sz)).add j) = some v := fun i hi => by
    have hE := hel i hi
    rw [hce, List.getElem?_eq_getElem (by omega), Option.bind_eq_some_iff] at hE
    obtain ⟨cs', hc1, hc2⟩ := hE
    obtain ⟨_, hl2, hcell⟩ := World.cells?_some hc1
    obtain ⟨z, rfl, hq⟩ := he _ _ _ hc2
    refine ⟨z, ⟨_, List.mem_map.2 ⟨_, List.getElem_mem (by omega), rfl⟩, hq⟩, fun j v hj => ?_⟩
    rw [hcell j (by have := (List.getElem?_eq_some_iff.1 hj).1; rw [hfz] at this; exact this), hj]
  obtain ⟨l, hll, hr⟩ := exists_list len each
  refine ⟨some a, cap, l, by rw [hll], fun i hi => ?_, (fun h => by cases h), (fun hk => by
    have h1 := bulk_len (elems.map (·.1))
    rw [List.length_map] at h1
    simp only [Rows.uptoBulk] at hk
    omega), fun hk z hz => ?_⟩
  · obtain ⟨_, hc⟩ := hr i hi
    have h0 : ∃ v, (f l[i])[0]? = some v := ⟨(f l[i])[0]'(by rw [hfz]; omega), List.getElem?_eq_getElem _⟩
    obtain ⟨v0, hv0⟩ := h0
    have d0 := hc 0 v0 hv0
    have hi0 : 0 < l.length := by omega
    have h00 : ∃ v, (f l[0])[0]? = some v := ⟨(f l[0])[0]'(by rw [hfz]; omega), List.getElem?_eq_getElem _⟩
    obtain ⟨v00, hv00⟩ := h00
    have d00 := (hr 0 hi0).2 0 v00 hv00
    have hsp : a.spot = none := by simpa [Addr.add] using World.cell?_spot d00
    obtain ⟨b, o, sp⟩ := a
    obtain rfl : sp = none := hsp
    rw [Addr.add_lit, Addr.add_lit] at d0
    refine ⟨b, o, rfl, block_lt_of_cell d0, fun j v hv => ?_⟩
    have := hc j v hv
    rw [Addr.add_lit, Addr.add_lit] at this
    exact this
  · obtain ⟨i, hi, rfl⟩ := List.getElem_of_mem hz
    obtain ⟨⟨d, hd, hq⟩, _⟩ := hr i hi
    refine ⟨d, hq, ?_⟩
    have := bulk_mem hd
    simp only [Rows.uptoBulk] at hk
    omega
end
theorem cellsOfS : Tryz.prog.cellsOf 9 = 1 := by kernel_rfl
theorem cellsOfI : Tryz.prog.cellsOf 3 = 1 := by kernel_rfl
theorem cellsOfH : Tryz.prog.cellsOf 79 = 4 := by kernel_rfl
theorem cellsOfR : Tryz.prog.cellsOf 81 = 6 := by kernel_rfl
theorem cellsOfW : Tryz.prog.cellsOf 83 = 4 := by kernel_rfl
section
variable {H : Type} {enc : TypeId × Value → H} {w : World} {base : Nat} {spare : Nat → Bool} {held : Bool}
set_option maxRecDepth 100000 in
theorem open_handler {n : Nat} {cs : List Value} {y : DataW H × List MemPlace} (h : DataW.trod enc Tryz.prog w base spare held n 79 cs = some y) : ∃ z : Hn, cs = z.cells ∧ (Rows.uptoBulk y.1 ≤ 1048576 → z.t.size ≤ 1048576 ∧ z.n.size ≤ 1048576) := by
  obtain ⟨xs, n, _, rfl, hl, hlen, hf⟩ := DataW.trod_struct Tryz.underlying79 h
  rw [cellsOfH] at hl
  match xs, hlen with
  | [y0, y1, y2, y3], _ =>
  match cs, hl with
  | [c0, c1, c2, c3], _ =>
  have t0 := hf 0 _ rfl
  have t1 := hf 1 _ rfl
  have t2 := hf 2 _ rfl
  have t3 := hf 3 _ rfl
  obtain ⟨k, e0, rfl, _⟩ := DataW.trod_int Tryz.underlying3 (by simpa using t0)
  obtain ⟨st, e1, rfl, _⟩ := DataW.trod_int Tryz.underlying3 (by simpa using t1)
  obtain ⟨tx, e2, rfl, _⟩ := DataW.trod_string Tryz.underlying9 (by simpa using t2)
  obtain ⟨nm, e3, rfl, _⟩ := DataW.trod_string Tryz.underlying9 (by simpa using t3)
  simp [cellsOfS, cellsOfI] at e0 e1 e2 e3
  subst e0 e1 e2 e3
  refine ⟨⟨k, st, tx, nm⟩, rfl, fun hk => ?_⟩
  have z1 : tx.data.toList.length = tx.size := by simp
  have z2 : nm.data.toList.length = nm.size := by simp
  simp only [List.map_cons, List.map_nil, Rows.uptoBulk, Rows.uptoBulkAll] at hk
  simp only
  omega
set_option maxRecDepth 100000 in
theorem open_route {n : Nat} {cs : List Value} {y : DataW H × List MemPlace} (h : DataW.trod enc Tryz.prog w base spare held n 81 cs = some y) : ∃ z : Rt, cs = z.cells ∧ (Rows.uptoBulk y.1 ≤ 1048576 → RtSm z) := by
  obtain ⟨xs, n, _, rfl, hl, hlen, hf⟩ := DataW.trod_struct Tryz.underlying81 h
  rw [cellsOfR] at hl
  match xs, hlen with
  | [y0, y1, y2], _ =>
  match cs, hl with
  | [c0, c1, c2, c3, c4, c5], _ =>
  have t0 := hf 0 _ rfl
  have t1 := hf 1 _ rfl
  have t2 := hf 2 _ rfl
  obtain ⟨m, e0, rfl, _⟩ := DataW.trod_string Tryz.underlying9 (by simpa using t0)
  obtain ⟨p, e1, rfl, _⟩ := DataW.trod_string Tryz.underlying9 (by simpa using t1)
  simp [cellsOfS] at e0 e1
  subst e0 e1
  have t2' : DataW.trod enc Tryz.prog w base spare held n 79 [c2, c3, c4, c5] = some y2 := by simpa [cellsOfH] using t2
  obtain ⟨z, ez, hz⟩ := open_handler t2'
  refine ⟨⟨m, p, z⟩, by simp [Rt.cells, ez, Hn.cells], fun hk => ?_⟩
  · have z1 : m.data.toList.length = m.size := by simp
    have z2 : p.data.toList.length = p.size := by simp
    simp only [List.map_cons, List.map_nil, Rows.uptoBulk, Rows.uptoBulkAll] at hk
    obtain ⟨h1, h2⟩ := hz (by omega)
    exact ⟨by simp only; omega, by simp only; omega, by simp only; omega, by simp only; omega⟩
set_option maxRecDepth 100000 in
theorem open_ware {n : Nat} {cs : List Value} {y : DataW H × List MemPlace} (h : DataW.trod enc Tryz.prog w base spare held n 83 cs = some y) : ∃ z : Wr, cs = z.cells ∧ (Rows.uptoBulk y.1 ≤ 1048576 → z.n.size ≤ 1048576 ∧ z.v.size ≤ 1048576) := by
  obtain ⟨xs, n, _, rfl, hl, hlen, hf⟩ := DataW.trod_struct Tryz.underlying83 h
  rw [cellsOfW] at hl
  match xs, hlen with
  | [y0, y1, y2, y3], _ =>
  match cs, hl with
  | [c0, c1, c2, c3], _ =>
  have t0 := hf 0 _ rfl
  have t1 := hf 1 _ rfl
  have t2 := hf 2 _ rfl
  have t3 := hf 3 _ rfl
  obtain ⟨k, e0, rfl, _⟩ := DataW.trod_int Tryz.underlying3 (by simpa using t0)
  obtain ⟨tx, e1, rfl, _⟩ := DataW.trod_string Tryz.underlying9 (by simpa using t1)
  obtain ⟨nm, e2, rfl, _⟩ := DataW.trod_string Tryz.underlying9 (by simpa using t2)
  obtain ⟨st, e3, rfl, _⟩ := DataW.trod_int Tryz.underlying3 (by simpa using t3)
  simp [cellsOfS, cellsOfI] at e0 e1 e2 e3
  subst e0 e1 e2 e3
  refine ⟨⟨k, tx, nm, st⟩, rfl, fun hk => ?_⟩
  have z1 : tx.data.toList.length = tx.size := by simp
  have z2 : nm.data.toList.length = nm.size := by simp
  simp only [List.map_cons, List.map_nil, Rows.uptoBulk, Rows.uptoBulkAll] at hk
  simp only
  omega
theorem open_routes {n : Nat} {cs : List Value} {y : DataW H × List MemPlace} (h : DataW.trod enc Tryz.prog w base spare held n 24 cs = some y) : ∃ (a : Option Addr) (cap : Nat) (rs : List Rt), cs = [.slice a rs.length cap] ∧ MuAt 6 Rt.cells rs a w ∧ (a = none → rs = [] ∧ cap = 0) ∧ (Rows.uptoBulk y.1 ≤ 1048576 → rs.length ≤ 1048576 ∧ ∀ r ∈ rs, RtSm r) := by
  obtain ⟨a, cap, l, h1, h2, h3, h4, h5⟩ := open_list (sz := 6) (f := Rt.cells) (Q := fun (z : Rt) (d : DataW H) => Rows.uptoBulk d ≤ 1048576 → RtSm z) (by omega) (fun _ => rfl) Tryz.underlying24 cellsOfR (fun n cs y h => open_route h) h
  exact ⟨a, cap, l, h1, h2, h3, fun hk => ⟨h4 hk, fun r hr => by obtain ⟨d, hq, hd⟩ := h5 hk r hr; exact hq hd⟩⟩
theorem open_wares {n : Nat} {cs : List Value} {y : DataW H × List MemPlace} (h : DataW.trod enc Tryz.prog w base spare held n 25 cs = some y) : ∃ (a : Option Addr) (cap : Nat) (ws : List Wr), cs = [.slice a ws.length cap] ∧ MuAt 4 Wr.cells ws a w ∧ (a = none → ws = [] ∧ cap = 0) ∧ (Rows.uptoBulk y.1 ≤ 1048576 → ws.length ≤ 1048576 ∧ ∀ x ∈ ws, x.n.size ≤ 1048576 ∧ x.v.size ≤ 1048576) := by
  obtain ⟨a, cap, l, h1, h2, h3, h4, h5⟩ := open_list (sz := 4) (f := Wr.cells) (Q := fun (z : Wr) (d : DataW H) => Rows.uptoBulk d ≤ 1048576 → z.n.size ≤ 1048576 ∧ z.v.size ≤ 1048576) (by omega) (fun _ => rfl) Tryz.underlying25 cellsOfW (fun n cs y h => open_ware h) h
  exact ⟨a, cap, l, h1, h2, h3, fun hk => ⟨h4 hk, fun r hr => by obtain ⟨d, hq, hd⟩ := h5 hk r hr; exact hq hd⟩⟩
end
end Go.Proofs.YtbphabgjhoifbaaGreatDoor

/- A list of numbers among what a call is handed. -/
namespace Go.Proofs.YtbphabgjhoifbaaGreatDoor
open Go.RowKit Go.ChangeShapes
section
variable {H : Type} {enc : TypeId × Value → H} {w : World} {base : Nat} {spare : Nat → Bool} {held : Bool}
theorem open_int1 {n : Nat} {cs : List Value} {y : DataW H × List MemPlace} (h : DataW.trod enc Tryz.prog w base spare held n 3 cs = some y) : ∃ z : Int, cs = [.int .i64 z] ∧ -9223372036854775808 ≤ z ∧ z ≤ 9223372036854775807 := by
  obtain ⟨z, e, rfl, hw⟩ := DataW.trod_int Tryz.underlying3 h
  refine ⟨z, e, ?_⟩
  simpa [Lit.wf, IntKind.min, IntKind.max, IntKind.signed, IntKind.bits] using hw
theorem open_intsU {n : Nat} {cs : List Value} {y : DataW H × List MemPlace} (h : DataW.trod enc Tryz.prog w base spare held n 28 cs = some y) (hk : Rows.uptoBulk y.1 ≤ 1048576) : ∃ (a : Option Addr) (cap : Nat) (zs : List Int), cs = [.slice a zs.length cap] ∧ ScAt zs a w ∧ zs.length ≤ 1048576 ∧ ∀ i (h : i < zs.length), -9223372036854775808 ≤ zs[i] ∧ zs[i] ≤ 9223372036854775807 := by
  obtain ⟨a, cap, l, h1, h2, h3, h4, h5⟩ := open_list (sz := 1) (f := fun z : Int => [Value.int .i64 z]) (Q := fun (z : Int) (_ : DataW H) => -9223372036854775808 ≤ z ∧ z ≤ 9223372036854775807) (by omega) (fun _ => rfl) Tryz.underlying28 cellsOfI (fun n cs y h => open_int1 h) h
  refine ⟨a, cap, l, h1, fun i hi => ?_, h4 hk, fun i hi => ?_⟩
  · obtain ⟨b, o, e1, e2, e3⟩ := h2 i hi
    have := e3 0 _ rfl
    rw [Nat.mul_one, Nat.add_zero] at this
    exact ⟨b, o, e1, e2, this⟩
  · obtain ⟨d, hq, -⟩ := h5 hk l[i] (List.getElem_mem hi)
    exact hq
end
end Go.Proofs.YtbphabgjhoifbaaGreatDoor
