/- Single is true for every argument: for any patterns and any path it returns true and leaves what it was given as it was. Its conditions: the row's own; the variables it lists hold what the program's text lays, which the card ties. -/
import Derived.Test.YthfpiahhbflfpaaDoorSnL
import Derived.Test.YthfpiahhbflfpaaDoorRows
import Derived.Test.YthfpiahhbflfpaaDoorCards
import Derived.Test.YthfpiahhbflfpaaDoorTie
import Derived.ProofKit
import Derived.OpenShut
import Derived.ShutString
import Derived.Carry
import Derived.ChangeSlices
import Derived.SizedLaws
import Derived.Deep.Matrix
import Derived.Deep.DeepHandedRow
import Derived.Lay
import Derived.SevenTiedAt
import Derived.HandedShaped
namespace Go.Proofs.YthfpiahhbflfpaaDoor.single
open Go.ChangeShapes Go.WideShapes Go.ChangeAt Go.RowKit Go.Deep

theorem own : ownKnob Tryd.prog.godebug = none := by kernel_rfl
theorem laidOut : laidOutB Tryd.prog = true := by kernel_rfl
theorem cellsI : Tryd.prog.cellsOf 3 = 1 := by kernel_rfl
theorem cellsZ : Tryd.prog.cellsOf 23 = 1 := by kernel_rfl
theorem cellsM : Tryd.prog.cellsOf 22 = 1 := by kernel_rfl
theorem openZ {H : Type} {enc : TypeId × Value → H} {w : World} {fuel : Nat} {c : Value} {x : DataW H × List MemPlace} (h : DataW.trod enc Tryd.prog w 0 (fun _ => true) true fuel 23 [c] = some x) :
    ∃ (b : Option Addr) (zs : List Int) (cb : Nat), c = .slice b zs.length cb ∧ ZoAt zs b w ∧ zs.length ≤ maxLen ∧ Zbd zs := by
  rcases Go.ChangeShapes.open_ints Tryd.underlying23 Tryd.underlying3 cellsI h with ⟨ec, rfl⟩ | ⟨a, len, cap, zs, ec, _, hlc, hmx, hzl, rfl, hcell, hwf⟩
  · simp only [List.cons.injEq, and_true] at ec
    exact ⟨none, [], 0, ec, fun i hi => absurd hi (by simp), Nat.zero_le _, fun i hi => absurd hi (by simp)⟩
  · simp only [List.cons.injEq, and_true] at ec
    rw [if_pos rfl] at hzl
    have hl : (zs.take len).length = len := by rw [List.length_take]; omega
    refine ⟨some a, zs.take len, cap, by rw [hl]; exact ec, fun i hi => ?_, by omega, fun i hi => ?_⟩
    · rw [hl] at hi
      have c0 := hcell i (by omega)
      have d0 := hcell 0 (by omega)
      have hsp : a.spot = none := by simpa [Addr.add] using World.cell?_spot d0
      obtain ⟨b, o, sp⟩ := a
      obtain rfl : sp = none := hsp
      rw [Addr.add_lit] at c0
      refine ⟨b, o, rfl, block_lt_of_cell c0, ?_⟩
      rw [c0, List.getElem_take, List.getD_eq_getElem?_getD, List.getElem?_eq_getElem (by omega)]
      rfl
    · rw [List.getElem_take]
      have := hwf _ (List.getElem_mem (l := zs) (n := i) (by omega))
      simpa [Lit.wf, IntKind.min, IntKind.max, IntKind.signed, IntKind.bits] using this
theorem openM {H : Type} {enc : TypeId × Value → H} {w : World} {fuel : Nat} {c : Value} {x : DataW H × List MemPlace} (h : DataW.trod enc Tryd.prog w 0 (fun _ => true) true fuel 22 [c] = some x) :
    ∃ (a : Option Addr) (zss : List (List Int)) (ca : Nat), c = .slice a zss.length ca ∧ MtAt zss a w ∧ (∀ l ∈ zss, l.length ≤ maxLen ∧ Zbd l) ∧ (zss = [] ∨ ∃ el sp, x.1 = .slice el sp ∧ zss.length ≤ el.length) := by
  rcases open_int_rows Tryd.underlying22 Tryd.underlying23 Tryd.underlying3 cellsZ cellsI h with ⟨ec, rfl⟩ | ⟨a, len, cap, A, L, C, Z, ec, _, hlc, _, rfl, hrow⟩
  · simp only [List.cons.injEq, and_true] at ec
    exact ⟨none, [], 0, ec, fun i hi => absurd hi (by simp), fun l hl => (by cases hl), .inl rfl⟩
  · simp only [List.cons.injEq, and_true] at ec
    have hlen : ((List.range len).map fun r => (Z r).take (L r)).length = len := by simp
    have hget : ∀ i (h : i < ((List.range len).map fun r => (Z r).take (L r)).length), ((List.range len).map fun r => (Z r).take (L r))[i] = (Z i).take (L i) := fun i h => by simp
    refine ⟨some a, (List.range len).map fun r => (Z r).take (L r), cap, by rw [hlen]; exact ec, fun i hi => ?_, fun l hl => ?_, .inr ⟨_, _, rfl, by simp⟩⟩
    · have hi' : i < len := by rw [hlen] at hi; exact hi
      obtain ⟨h1, h2, h3, h4, h5, h6, h7⟩ := hrow i (by omega)
      have d0 := (hrow 0 (by omega)).1
      have hsp : a.spot = none := by simpa [Addr.add] using World.cell?_spot d0
      obtain ⟨ab, ao, sp⟩ := a
      obtain rfl : sp = none := hsp
      rw [Addr.add_lit] at h1
      have hll : ((Z i).take (L i)).length = L i := by rw [List.length_take]; omega
      rw [hget i hi]
      refine ⟨ab, ao, A i, C i, rfl, block_lt_of_cell h1, by rw [hll]; exact h1, fun q hq => ?_⟩
      rw [hll] at hq
      cases hA : A i with
      | none => have := h6 hA; omega
      | some a' =>
        obtain ⟨_, h8⟩ := h7 a' hA
        have e0 := h8 0 (by omega)
        have eq := h8 q (by omega)
        have hsp' : a'.spot = none := by simpa [Addr.add] using World.cell?_spot e0
        obtain ⟨b', o', sp'⟩ := a'
        obtain rfl : sp' = none := hsp'
        rw [Addr.add_lit] at eq
        refine ⟨b', o', rfl, block_lt_of_cell eq, ?_⟩
        rw [eq, List.getElem_take, List.getD_eq_getElem?_getD, List.getElem?_eq_getElem (by omega)]
        rfl
    · obtain ⟨r, hr, rfl⟩ := List.mem_map.mp hl
      obtain ⟨h1, h2, h3, h4, h5, h6, h7⟩ := hrow r (by have := List.mem_range.mp hr; omega)
      refine ⟨by rw [List.length_take]; omega, fun i hi => ?_⟩
      rw [List.getElem_take]
      have := h5 _ (List.getElem_mem (l := Z r) (n := i) (by rw [List.length_take] at hi; omega))
      simpa [Lit.wf, IntKind.min, IntKind.max, IntKind.signed, IntKind.bits] using this
theorem bytesZ : Tryd.prog.bytesOf 23 = 24 := by kernel_rfl
theorem reads (os : Os) {H : Type} (enc : TypeId × Value → H) : ∃ places, DataW.whole enc Tryd.prog ((World.laidAll Tryd.prog os Rows.singleRow.laid).forCall (fun _ _ => 0) ⟨#[], #[.slice none 0 0, .slice none 0 0], []⟩).memory Tryd.f3.params.toList Rows.singleSpec.vars false #[Value.slice none 0 0, .slice none 0 0].toList 8 = some ([.nil, .nil], [], places) :=
  ⟨[], by kernel_rfl⟩

set_option maxRecDepth 100000 in
set_option maxHeartbeats 1000000 in
theorem contract (H : Type) (enc : TypeId × Value → H) (W : World) (base : Nat) (args : Array Value) (ds gs : List (DataW H)) (before : List MemPlace)
    (hval : ∀ (j : Nat) t v, Tryd.f3.params[j]? = some t → args[j]? = some v → Value.okWide Tryd.prog W .any base t v)
    (hW : DataW.Whole enc Tryd.prog Tryd.f3.params.toList Rows.singleSpec.vars false W args.toList ds gs before)
    (hsz : (DataW.weightsEach Tryd.prog (Tryd.f3.params.toList ++ Rows.singleSpec.plain.varTypes Tryd.prog) (ds ++ gs)).all (· ≤ reachBytes) = true)
    (hS : W.ShapedOpen Tryd.prog) :
    Calls Tryd.prog 3 args W fun e W' => ∃ v, e = .returned v ∧ Rows.singleSpec.post enc Tryd.prog Tryd.f3 false true false false W args v W' := by
  obtain ⟨mx, hmx⟩ := cell_of_shapedOpen_int (P := Tryd.prog) (g := 0) (t := 3) (zero := #[.int .i64 0]) hS (of_decide_eq_true (by kernel_rfl)) (by kernel_rfl) rfl (by kernel_rfl) (by kernel_rfl) Tryd.underlying3
  have hW' := hW
  obtain ⟨p, q, hA0, hV, rfl, hfz, hnd⟩ := hW
  have hA : DataW.TrodAll enc Tryd.prog W 0 (fun _ => true) true Tryd.f3.params.toList args.toList ds p := hA0
  rw [Tryd.params3] at hA hval hsz
  obtain ⟨v0, vs0, d0, ds0, p0, q0, hargs, rfl, rfl, h0, r0⟩ := trodAll_cons hA
  obtain ⟨v1, vs1, d1, ds1, p1, q1, rfl, rfl, rfl, h1, r1⟩ := trodAll_cons r0
  obtain ⟨rfl, rfl, rfl⟩ := trodAll_nil r1
  obtain rfl : args = #[v0, v1] := by cases args; simp_all
  obtain ⟨rfl, rfl⟩ := trodVars_none hV
  have h0k := h0
  have h1k := h1
  obtain ⟨b0, l0, m0, rfl⟩ := okWide_slice Tryd.underlying22 (hval 0 22 v0 rfl rfl)
  obtain ⟨b1, l1, m1, rfl⟩ := okWide_slice Tryd.underlying23 (hval 1 23 v1 rfl rfl)
  obtain ⟨fuel0, hf0⟩ := h0
  have hlt0 := DataW.trod_lt fuel0 _ _ _ hf0
  obtain ⟨fuel1, hf1⟩ := h1
  have hlt1 := DataW.trod_lt fuel1 _ _ _ hf1
  have t0 : DataW.trod enc Tryd.prog W 0 (fun _ => true) true fuel0 22 [.slice b0 l0 m0] = some (d0, p0) := by simpa [Value.cells, cellsM] using hf0
  have t1 : DataW.trod enc Tryd.prog W 0 (fun _ => true) true fuel1 23 [.slice b1 l1 m1] = some (d1, p1) := by simpa [Value.cells, cellsZ] using hf1
  obtain ⟨a, zss, ca, hv0, hmt, hli, hel⟩ := openM t0
  obtain ⟨b, zs, cb, hv1, hzo, hzl, hzb⟩ := openZ t1
  cases hv0
  cases hv1
  have hl : zss.length ≤ 140737488355328 := by
    rcases hel with rfl | ⟨el, sp, hx, hle⟩
    · simp
    · have hd : d0 = .slice el sp := hx
      have := sized_slice hsz (j := 0) (t := 22) (e := 23) (elems := el) (spare := sp) rfl (by rw [hd]; rfl) Tryd.underlying22
      rw [bytesZ] at this
      simp only [reachBytes] at this
      omega
  clear hA0
  refine (single_law zss b0 m0 zs b1 m1 mx W hmt hzo hl hzl hli hzb hmx).mono fun e W' ⟨he, bel⟩ => ?_
  subst he
  exact ⟨_, rfl, _, _, _, [], _, [], hW', trodAll_mk1 (shut_bool Tryd.underlying4 _), (trodAll_cons_mk (Below.trod laidOut (by kernel_rfl) (of_decide_eq_true (by kernel_rfl)) h0k bel hlt0) (trodAll_cons_mk (Below.trod laidOut (by kernel_rfl) (of_decide_eq_true (by kernel_rfl)) h1k bel hlt1) trodAll_mk0)), rfl, bel.frame _, fun h => by cases h⟩

set_option maxRecDepth 100000 in
theorem lifted (os : Os) (started : os.Started) (H : Type) (enc : TypeId × Value → H) (F : Stop.Interp) :
    ReturnsInHanded {} Tryd.checked os 3 .any ((OpenSpec.ofChange Rows.singleSpec).preRow enc Tryd.prog Tryd.f3 Rows.singleRow.domain false Rows.singleRow.laid) (((OpenSpec.ofChange Rows.singleSpec).at F).post enc Tryd.prog Tryd.f3 false true false false) := by
  obtain ⟨places, hx⟩ := reads os enc
  refine returnsInHanded_of_row (C := Tryd.checked) (s := OpenSpec.ofChange Rows.singleSpec) own started (by kernel_rfl) Tryd.func3
    (witness_row_at (enc := enc) (C := Tryd.checked) false (World.laidAll Tryd.prog os Rows.singleRow.laid) #[.slice none 0 0, .slice none 0 0] (World.laidAll_os _ _ _) (by kernel_rfl) (by kernel_rfl) (by kernel_rfl)
      (OpenSpec.preRow_of_cond 8 hx (by kernel_rfl) (fun k hk => by cases hk) (by kernel_rfl) (laidMet_laidAll _ (by kernel_rfl) (by kernel_rfl)))) ?_
  intro W base args ds gs before hval hW _ _ hsz _ hS _
  exact contract H enc W base args ds gs before hval hW hsz hS

theorem said : Rows.SingleSaid :=
  OpenClaim.holds_of_cond 3 Tryd.f3 rfl rfl rfl rfl rfl rfl rfl ⟨rfl, rfl, rfl, rfl, rfl⟩ rfl rfl rfl rfl rfl (by kernel_rfl) Tryd.func3 (by kernel_rfl)
    (of_decide_eq_true (by kernel_rfl)) (by unfold Func.isWrapper; first | (rw [if_pos (by decide +kernel)]; kernel_rfl) | (rw [if_neg (by decide +kernel)]; exact ⟨rfl, rfl⟩))
    (fun os started H enc _ F => by rw [OpenClaim.pre_eq_preRow]; exact lifted os started H enc F)

theorem plain (f : FuncId) (fn : Func) (hf : Tryd.pinned.checked.prog.funcNamed "porter/porterkeep.Single" = some f) (hfn : Tryd.pinned.checked.prog.funcs[f]? = some fn) :
    false = Tryd.pinned.checked.prog.looks [] ∧ ∀ (j : Nat) t, fn.params[j]? = some t → Tryd.pinned.checked.prog.wantsStandIn t = false := by
  obtain rfl : f = 3 := Option.some.inj ((show Tryd.prog.funcNamed "porter/porterkeep.Single" = some 3 by kernel_rfl).symm.trans hf) |>.symm
  obtain rfl : fn = Tryd.f3 := (Option.some.inj (Tryd.func3.symm.trans hfn)).symm
  refine ⟨by kernel_rfl, fun j t ht => ?_⟩
  rw [Tryd.params3] at ht
  have hm : t ∈ [22, 23] := by simpa using Array.mem_of_getElem? ht
  have hall : ([22, 23].all fun u => !Tryd.prog.wantsStandIn u) = true := by kernel_rfl
  exact (show Tryd.prog.wantsStandIn t = false by simpa using List.all_eq_true.1 hall t hm)

theorem card : Rows.SingleCardSaid :=
  Claim7.holds_tied_plain_at .later [] _ _ _ _ said (fun _ h => by cases h) (by kernel_rfl) (fun _ h => by cases h) single_row_tie rfl ⟨rfl, rfl⟩ (by kernel_rfl) rfl plain (by kernel_rfl)
end Go.Proofs.YthfpiahhbflfpaaDoor.single

namespace Go.Proofs.YthfpiahhbflfpaaDoor
theorem single_holds : Rows.SingleCardSaid := single.card
end Go.Proofs.YthfpiahhbflfpaaDoor
