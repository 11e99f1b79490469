/- Renders is true for every argument of the second form's bulk: for any method and any answer it returns true and leaves what it was given as it was. Its conditions: the row's own; the variables it lists hold what the program's text lays, which the card ties. -/
import Derived.Test.YtnohadlihgjppaaDoorRnH
import Derived.Test.YtnohadlihgjppaaDoorOpA
import Derived.Test.YtnohadlihgjppaaDoorCards
import Derived.Test.YtnohadlihgjppaaDoorTie
import Derived.ProofKit
import Derived.OpenShut
import Derived.ShutString
import Derived.Carry
import Derived.Deep.DeepHandedRow
import Derived.Lay
import Derived.Lib.LaidTab
import Derived.SevenTiedAt
import Derived.HandedShaped
namespace Go.Proofs.YtnohadlihgjppaaDoor.renders
open Go.ChangeShapes Go.WideShapes Go.ChangeAt Go.RowKit
open Go.ChangeMaps (open_string shut_string)

theorem own : ownKnob Tryd.prog.godebug = none := by kernel_rfl
theorem laidOut : laidOutB Tryd.prog = true := by kernel_rfl
theorem cellsA : Tryd.prog.cellsOf 46 = 4 := by kernel_rfl
theorem cellsI : Tryd.prog.cellsOf 3 = 1 := by kernel_rfl
theorem cellsB : Tryd.prog.cellsOf 4 = 1 := by kernel_rfl
theorem cellsS : Tryd.prog.cellsOf 9 = 1 := by kernel_rfl
theorem cellsF : Tryd.prog.cellsOf 34 = 2 := by kernel_rfl
theorem cellsL : Tryd.prog.cellsOf 26 = 1 := by kernel_rfl
theorem cellsU : Tryd.prog.cellsOf 164 = 1 := by kernel_rfl
theorem cellsT : Tryd.prog.cellsOf 176 = 20 := by kernel_rfl

theorem table {W : World} (h : laidMetH Tryd.prog Rows.rendersUptoRow.laid W) : Lib.TabIs Tryd.prog W "internal/strconv.uint64pow10" .u64 Lib.pow10Tab := by
  rw [MakeChecks.laidMetH_plain _ _ _ (by kernel_rfl)] at h
  obtain ⟨ps, ⟨_, _, _, _, _, _, _, _, _, _, ⟨_, _, _, _, _, _, _, _, _, _, hr, _⟩, _⟩, _, _⟩ := h
  obtain ⟨g, t, cs, fuel, p, q, hg, ht, hv, hd, _, _⟩ := hr
  obtain rfl := Option.some.inj ((show (Tryd.prog.globals[2]?).map (·.type) = some 176 by kernel_rfl).symm.trans (by rw [Option.some.inj ((show Tryd.prog.globalNamed "internal/strconv.uint64pow10" = some 2 by kernel_rfl).symm.trans hg)]; exact ht))
  have hc := Lib.cells_of_tab (k := .u64) (zs := Lib.pow10Tab) Tryd.underlying176 Tryd.underlying164 cellsU cellsT hd
  unfold Lib.TabIs
  rw [hv, ← hc]
theorem reads (os : Os) {H : Type} (enc : TypeId × Value → H) : ∃ places, DataW.whole enc Tryd.prog ((World.laidAll Tryd.prog os Rows.rendersUptoRow.laid).forCall (fun _ _ => 0) ⟨#[], #[.string ByteArray.empty, .agg #[.int .i64 0, .slice none 0 0, .string ByteArray.empty, .bool false]], []⟩).memory Tryd.f5.params.toList Rows.rendersSpec.vars false #[Value.string ByteArray.empty, .agg #[.int .i64 0, .slice none 0 0, .string ByteArray.empty, .bool false]].toList 8 = some ([.lit (.string []), .agg [.lit (.int .i64 0), .nil, .lit (.string []), .lit (.bool false)]], [], places) :=
  ⟨[], by kernel_rfl⟩
theorem small1 {H : Type} {a : List UInt8} {st : Int} {fs : List Pr2} {rest : List (DataW H)} {b : List UInt8} {cl : Bool} (hk : Rows.uptoSmall H [.lit (.string a), .agg [.lit (.int .i64 st), .slice (fs.map pairD) rest, .lit (.string b), .lit (.bool cl)]] = true) : fs.length ≤ 1048576 ∧ (fldsL fs).length ≤ 2097152 ∧ b.length ≤ 1048576 := by
  have h := of_decide_eq_true hk
  simp only [Rows.uptoBulkAll, Rows.uptoBulk] at h
  obtain ⟨h1, h2⟩ := bulk_pairs (H := H) fs
  omega
theorem small0 {H : Type} {a : List UInt8} {st : Int} {b : List UInt8} {cl : Bool} (hk : Rows.uptoSmall H [.lit (.string a), .agg [.lit (.int .i64 st), .nil, .lit (.string b), .lit (.bool cl)]] = true) : b.length ≤ 1048576 := by
  have h := of_decide_eq_true hk
  simp only [Rows.uptoBulkAll, Rows.uptoBulk] at h
  omega

set_option maxRecDepth 100000 in
theorem contract (H : Type) (enc : TypeId × Value → H) (W : World) (base : Nat) (args : Array Value) (ds gs : List (DataW H)) (before : List MemPlace)
    (hval : ∀ (j : Nat) t v, Tryd.f5.params[j]? = some t → args[j]? = some v → Value.okWide Tryd.prog W .any base t v)
    (hW : DataW.Whole enc Tryd.prog Tryd.f5.params.toList Rows.rendersSpec.vars false W args.toList ds gs before)
    (hk : Rows.uptoSmall H (ds ++ gs) = true) (hL : laidMetH Tryd.prog Rows.rendersUptoRow.laid W) :
    Calls Tryd.prog 5 args W fun e W' => ∃ v, e = .returned v ∧ Rows.rendersSpec.post enc Tryd.prog Tryd.f5 false true false false W args v W' := by
  have ht : Tab10 W := Lib.tabBelow_of_tabIs (table hL)
  have hW' := hW
  obtain ⟨p, q, hA0, hV, rfl, hfz, hnd⟩ := hW
  have hA : DataW.TrodAll enc Tryd.prog W 0 (fun _ => true) true Tryd.f5.params.toList args.toList ds p := hA0
  rw [Tryd.params5] at hA hval
  obtain ⟨v0, vs0, d0, ds0, p0, q0, hargs, rfl, rfl, h0, r0⟩ := trodAll_cons hA
  obtain ⟨v1, vs1, d1, ds1, p1, q1, rfl, rfl, rfl, h1, r1⟩ := trodAll_cons r0
  obtain ⟨rfl, rfl, rfl⟩ := trodAll_nil r1
  obtain rfl : args = #[v0, v1] := by cases args; simp_all
  obtain ⟨rfl, rfl⟩ := trodVars_none hV
  obtain ⟨m, rfl, rfl, rfl, w0⟩ := open_string Tryd.underlying9 (hval 0 9 v0 rfl rfl) h0
  have h1k := h1
  obtain ⟨cs, rfl, hcs⟩ := okWide_struct Tryd.underlying46 (hval 1 46 v1 rfl rfl)
  rw [cellsA] at hcs
  obtain ⟨l⟩ := cs
  match l, hcs with
  | [c0, c1, c2, c3], _ =>
  obtain ⟨fuel, hf⟩ := h1
  have hlt := DataW.trod_lt fuel _ _ _ hf
  obtain ⟨xs, n, _, hx, hl, hlen, hfl⟩ := DataW.trod_struct Tryd.underlying46 hf
  match xs, hlen with
  | [y0, y1, y2, y3], _ =>
  have t0 := hfl 0 _ rfl
  have t1 := hfl 1 _ rfl
  have t2 := hfl 2 _ rfl
  have t3 := hfl 3 _ rfl
  obtain ⟨st, e0, rfl, wst⟩ := DataW.trod_int Tryd.underlying3 (by simpa using t0)
  obtain ⟨body, e2, rfl, wb⟩ := DataW.trod_string Tryd.underlying9 (by simpa using t2)
  obtain ⟨cl, e3, rfl⟩ := DataW.trod_bool Tryd.underlying4 (by simpa using t3)
  simp [Value.cells, cellsI, cellsS, cellsB] at e0 e2 e3
  subst e0 e2 e3
  simp only [Prod.mk.injEq] at hx
  obtain ⟨rfl, rfl⟩ := hx
  have hst : -9223372036854775808 ≤ st ∧ st ≤ 9223372036854775807 := by simpa [Lit.wf, IntKind.min, IntKind.max, IntKind.signed, IntKind.bits] using wst
  clear hA0
  have fin : ∀ (e : Ending) (W' : World), e = .returned (.bool true) ∧ Below W.heap.size W W' → ∃ v, e = .returned v ∧ Rows.rendersSpec.post enc Tryd.prog Tryd.f5 false true false false W #[.string m, .agg #[.int .i64 st, c1, .string body, .bool cl]] v W' := fun e W' ⟨he, bel⟩ => by
    subst he
    exact ⟨_, rfl, _, _, _, [], _, [], hW', trodAll_mk1 (shut_bool Tryd.underlying4 _), (trodAll_cons_mk (shut_string Tryd.underlying9 w0) (trodAll_cons_mk (Below.trod laidOut (by kernel_rfl) (of_decide_eq_true (by kernel_rfl)) h1k bel hlt) trodAll_mk0)), rfl, bel.frame _, fun h => by cases h⟩
  have t1' : DataW.trod enc Tryd.prog W 0 (fun _ => true) true n 26 [c1] = some y1 := by simpa [Value.cells, cellsL] using t1
  rcases open_pairs (s := 9) Tryd.underlying26 Tryd.underlying34 Tryd.underlying9 ⟨rfl, rfl⟩ ⟨rfl, rfl⟩ cellsF cellsS t1' with ⟨ec, rfl⟩ | ⟨a, cap, fs, rest, ec, ey, hfo⟩
  · simp only [List.cons.injEq, and_true] at ec
    subst ec
    have k0 := small0 hk
    have hbz : body.data.toList.length = body.size := by simp
    exact (renders_law m st [] none 0 body cl W hst.1 hst.2 (FoAt.nil _ _) (fun _ => ⟨rfl, rfl⟩) (by simp) (by simp [fldsL]; omega) ht).mono fin
  · simp only [List.cons.injEq, and_true] at ec
    subst ec
    obtain ⟨y1a, y1b⟩ := y1
    simp only at ey
    subst ey
    obtain ⟨k1, k2, k3⟩ := small1 hk
    have hbz : body.data.toList.length = body.size := by simp
    exact (renders_law m st fs (some a) cap body cl W hst.1 hst.2 hfo (fun h => by cases h) (by omega) (by omega) ht).mono fin

set_option maxRecDepth 100000 in
theorem lifted (os : Os) (started : os.Started) (H : Type) (enc : TypeId × Value → H) (F : Stop.Interp) :
    ReturnsInHanded {} Tryd.checked os 5 .any ((Rows.OpenSpec.upto Rows.rendersSpec).preRow enc Tryd.prog Tryd.f5 Rows.rendersUptoRow.domain false Rows.rendersUptoRow.laid) (((Rows.OpenSpec.upto Rows.rendersSpec).at F).post enc Tryd.prog Tryd.f5 false true false false) := by
  obtain ⟨places, hx⟩ := reads os enc
  refine returnsInHanded_of_row (C := Tryd.checked) (s := Rows.OpenSpec.upto Rows.rendersSpec) own started (by kernel_rfl) Tryd.func5
    (witness_row_at (enc := enc) (C := Tryd.checked) false (World.laidAll Tryd.prog os Rows.rendersUptoRow.laid) #[.string ByteArray.empty, .agg #[.int .i64 0, .slice none 0 0, .string ByteArray.empty, .bool false]] (World.laidAll_os _ _ _) (by kernel_rfl) (by kernel_rfl) (by kernel_rfl)
      (OpenSpec.preRow_of_cond 8 hx (by kernel_rfl) (fun k hk => by cases hk; kernel_rfl) (by kernel_rfl) (laidMet_laidAll _ (by kernel_rfl) (by kernel_rfl)))) ?_
  intro W base args ds gs before hval hW _ hcond _ hL _ _
  exact contract H enc W base args ds gs before hval hW (hcond _ rfl) hL

theorem said : Rows.RendersUptoSaid :=
  OpenClaim.holds_of_cond 5 Tryd.f5 rfl rfl rfl rfl rfl rfl rfl ⟨rfl, rfl, rfl, rfl, rfl⟩ rfl rfl rfl rfl rfl (by kernel_rfl) Tryd.func5 (by kernel_rfl)
    (of_decide_eq_true (by kernel_rfl)) (by unfold Func.isWrapper; first | (rw [if_pos (by decide +kernel)]; kernel_rfl) | (rw [if_neg (by decide +kernel)]; exact ⟨rfl, rfl⟩))
    (fun os started H enc _ F => by rw [OpenClaim.pre_eq_preRow]; exact lifted os started H enc F)

theorem plain (f : FuncId) (fn : Func) (hf : Tryd.pinned.checked.prog.funcNamed "porter/porterlaw.Renders" = some f) (hfn : Tryd.pinned.checked.prog.funcs[f]? = some fn) :
    false = Tryd.pinned.checked.prog.looks [] ∧ ∀ (j : Nat) t, fn.params[j]? = some t → Tryd.pinned.checked.prog.wantsStandIn t = false := by
  obtain rfl : f = 5 := Option.some.inj ((show Tryd.prog.funcNamed "porter/porterlaw.Renders" = some 5 by kernel_rfl).symm.trans hf) |>.symm
  obtain rfl : fn = Tryd.f5 := (Option.some.inj (Tryd.func5.symm.trans hfn)).symm
  refine ⟨by kernel_rfl, fun j t ht => ?_⟩
  rw [Tryd.params5] at ht
  have hm : t ∈ [9, 46] := by simpa using Array.mem_of_getElem? ht
  have hall : ([9, 46].all fun u => !Tryd.prog.wantsStandIn u) = true := by kernel_rfl
  exact (show Tryd.prog.wantsStandIn t = false by simpa using List.all_eq_true.1 hall t hm)

theorem card : Rows.RendersUptoCardSaid :=
  Claim7.holds_tied_plain_at .later [] _ _ _ _ said (fun _ h => by cases h) (by kernel_rfl) (fun _ h => by cases h) rendersUpto_row_tie rfl ⟨rfl, rfl⟩ (by kernel_rfl) rfl plain (by kernel_rfl)
end Go.Proofs.YtnohadlihgjppaaDoor.renders

namespace Go.Proofs.YtnohadlihgjppaaDoor
theorem renders_holds : Rows.RendersUptoCardSaid := renders.card
end Go.Proofs.YtnohadlihgjppaaDoor
