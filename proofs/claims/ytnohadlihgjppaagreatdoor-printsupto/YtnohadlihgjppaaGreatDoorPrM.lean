/- Prints is true for every argument of the second form's bulk: for any request, way and sizes it returns true and leaves what it was given as it was. Its conditions: the row's own; the variables it lists hold what the program's text lays, which the card ties. -/
import Derived.Test.YtnohadlihgjppaaGreatDoorPrL
import Derived.Test.YtnohadlihgjppaaGreatDoorOpA
import Derived.Test.YtnohadlihgjppaaGreatDoorCards
import Derived.Test.YtnohadlihgjppaaGreatDoorTie
import Derived.ProofKit
import Derived.OpenShut
import Derived.ShutString
import Derived.Carry
import Derived.ChangeSlices
import Derived.Deep.DeepHandedRow
import Derived.Lay
import Derived.Lib.LaidTab
import Derived.SevenTiedAt
import Derived.HandedShaped
namespace Go.Proofs.YtnohadlihgjppaaGreatDoor.prints
open Go.ChangeShapes Go.WideShapes Go.ChangeAt Go.RowKit
open Go.ChangeMaps (open_string shut_string)

theorem own : ownKnob Tryz.prog.godebug = none := by kernel_rfl
theorem laidOut : laidOutB Tryz.prog = true := by kernel_rfl
theorem cellsA : Tryz.prog.cellsOf 36 = 4 := by kernel_rfl
theorem cellsI : Tryz.prog.cellsOf 3 = 1 := by kernel_rfl
theorem cellsS : Tryz.prog.cellsOf 9 = 1 := by kernel_rfl
theorem cellsF : Tryz.prog.cellsOf 61 = 2 := by kernel_rfl
theorem cellsL : Tryz.prog.cellsOf 34 = 1 := by kernel_rfl
theorem cellsZ : Tryz.prog.cellsOf 37 = 1 := by kernel_rfl
theorem cellsU : Tryz.prog.cellsOf 143 = 1 := by kernel_rfl
theorem cellsT : Tryz.prog.cellsOf 155 = 20 := by kernel_rfl
theorem cellsB : Tryz.prog.cellsOf 5 = 1 := by kernel_rfl
theorem cellsD : Tryz.prog.cellsOf 173 = 64 := by kernel_rfl
def litI : DataW Unit → Int
  | .lit (.int _ z) => z
  | _ => 0
def db64 : List Int := match (Rows.laid_math_bits_deBruijn64tab : DataW Unit) with
  | .agg l => l.map litI
  | _ => []

theorem table {W : World} (h : laidMetH Tryz.prog Rows.printsUptoRow.laid W) : Lib.TabIs Tryz.prog W "internal/strconv.uint64pow10" .u64 Lib.pow10Tab := by
  rw [MakeChecks.laidMetH_plain _ _ _ (by kernel_rfl)] at h
  obtain ⟨ps, ⟨_, _, _, _, _, _, _, _, _, _, ⟨_, _, _, _, _, _, _, _, _, _, hr, _⟩, _⟩, _, _⟩ := h
  obtain ⟨g, t, cs, fuel, p, q, hg, ht, hv, hd, _, _⟩ := hr
  obtain rfl := Option.some.inj ((show (Tryz.prog.globals[0]?).map (·.type) = some 155 by kernel_rfl).symm.trans (by rw [Option.some.inj ((show Tryz.prog.globalNamed "internal/strconv.uint64pow10" = some 0 by kernel_rfl).symm.trans hg)]; exact ht))
  have hc := Lib.cells_of_tab (k := .u64) (zs := Lib.pow10Tab) Tryz.underlying155 Tryz.underlying143 cellsU cellsT hd
  unfold Lib.TabIs
  rw [hv, ← hc]
theorem table2 {W : World} (h : laidMetH Tryz.prog Rows.printsUptoRow.laid W) : Lib.TabIs Tryz.prog W "math/bits.deBruijn64tab" .u8 db64 := by
  rw [MakeChecks.laidMetH_plain _ _ _ (by kernel_rfl)] at h
  obtain ⟨ps, ⟨_, _, _, _, _, _, _, _, _, _, hr, _⟩, _, _⟩ := h
  obtain ⟨g, t, cs, fuel, p, q, hg, ht, hv, hd, _, _⟩ := hr
  obtain rfl := Option.some.inj ((show (Tryz.prog.globals[5]?).map (·.type) = some 173 by kernel_rfl).symm.trans (by rw [Option.some.inj ((show Tryz.prog.globalNamed "math/bits.deBruijn64tab" = some 5 by kernel_rfl).symm.trans hg)]; exact ht))
  have hc := Lib.cells_of_tab (k := .u8) (zs := db64) Tryz.underlying173 Tryz.underlying5 cellsB cellsD hd
  unfold Lib.TabIs
  rw [hv, ← hc]
theorem cell15 {W : World} (h : Lib.TabIs Tryz.prog W "math/bits.deBruijn64tab" .u8 db64) : W.cell? ⟨5, 15, none⟩ = some (.int .u8 4) :=
  h.cell (show Tryz.prog.globalNamed "math/bits.deBruijn64tab" = some 5 by kernel_rfl) 15 (by decide)
theorem reads (os : Os) {H : Type} (enc : TypeId × Value → H) : ∃ places, DataW.whole enc Tryz.prog ((World.laidAll Tryz.prog os Rows.printsUptoRow.laid).forCall (fun _ _ => 0) ⟨#[], #[.agg #[.string ByteArray.empty, .string ByteArray.empty, .slice none 0 0, .string ByteArray.empty], .int .i64 0, .slice none 0 0], []⟩).memory Tryz.f4.params.toList Rows.printsSpec.vars false #[.agg #[.string ByteArray.empty, .string ByteArray.empty, .slice none 0 0, .string ByteArray.empty], Value.int .i64 0, .slice none 0 0].toList 8 = some ([.agg [.lit (.string []), .lit (.string []), .nil, .lit (.string [])], .lit (.int .i64 0), .nil], [], places) :=
  ⟨[], by kernel_rfl⟩
theorem small {H : Type} {m t b : List UInt8} {how : Int} {y z : DataW H} (hk : Rows.uptoSmall H [.agg [.lit (.string m), .lit (.string t), y, .lit (.string b)], .lit (.int .i64 how), z] = true) : m.length ≤ 1048576 ∧ t.length ≤ 1048576 ∧ b.length ≤ 1048576 ∧ Rows.uptoBulk y ≤ 1048576 ∧ Rows.uptoBulk z ≤ 1048576 := by
  have h := of_decide_eq_true hk
  simp only [Rows.uptoBulkAll, Rows.uptoBulk] at h
  omega
theorem bulk_lits {H : Type} (k : IntKind) (zs : List Int) : zs.length = Rows.uptoBulkAll (H := H) (Go.ChangeShapes.lits k zs) := by
  induction zs with
  | nil => rfl
  | cons z r ih =>
    rw [show Go.ChangeShapes.lits (H := H) k (z :: r) = .lit (.int k z) :: Go.ChangeShapes.lits k r from rfl, List.length_cons]
    simp only [Rows.uptoBulkAll, Rows.uptoBulk]
    omega
theorem fld_sizes (fs : List Pr2) (i : Nat) (h : i < fs.length) : fs[i].1.size ≤ (fldsL fs).length ∧ fs[i].2.size ≤ (fldsL fs).length := by
  have h1 := fldsL_next fs i h
  have h2 := fldsL_le fs (i + 1)
  rw [h1, List.length_append] at h2
  have h3 : (fldL fs[i].1.data.toList fs[i].2.data.toList).length = fs[i].1.size + fs[i].2.size + 4 := by simp [fldL]; omega
  omega
theorem openF {H : Type} {enc : TypeId × Value → H} {w : World} {fuel : Nat} {c : Value} {x : DataW H × List MemPlace} (h : DataW.trod enc Tryz.prog w 0 (fun _ => true) true fuel 34 [c] = some x) :
    ∃ (a : Option Addr) (fs : List Pr2) (ca : Nat), c = .slice a fs.length ca ∧ (a = none → fs = [] ∧ ca = 0) ∧ FoAt fs a w ∧ (Rows.uptoBulk x.1 ≤ 1048576 → fs.length ≤ 1048576 ∧ (fldsL fs).length ≤ 2097152) := by
  rcases open_pairs (s := 9) Tryz.underlying34 Tryz.underlying61 Tryz.underlying9 ⟨rfl, rfl⟩ ⟨rfl, rfl⟩ cellsF cellsS h with ⟨ec, rfl⟩ | ⟨a, cap, fs, rest, ec, ey, hfo⟩
  · simp only [List.cons.injEq, and_true] at ec
    exact ⟨none, [], 0, ec, fun _ => ⟨rfl, rfl⟩, FoAt.nil' _ _, fun _ => by simp [fldsL]⟩
  · simp only [List.cons.injEq, and_true] at ec
    refine ⟨some a, fs, cap, ec, (fun h => by cases h), hfo, fun hk => ?_⟩
    rw [ey, Rows.uptoBulk] at hk
    obtain ⟨h1, h2⟩ := bulk_pairs (H := H) fs
    omega
theorem openZ {H : Type} {enc : TypeId × Value → H} {w : World} {fuel : Nat} {c : Value} {x : DataW H × List MemPlace} (h : DataW.trod enc Tryz.prog w 0 (fun _ => true) true fuel 37 [c] = some x) :
    ∃ (b : Option Addr) (zs : List Int) (cb : Nat), c = .slice b zs.length cb ∧ (b = none → zs = [] ∧ cb = 0) ∧ ZoAt zs b w ∧ (Rows.uptoBulk x.1 ≤ 1048576 → zs.length ≤ 1048576) := by
  rcases Go.ChangeShapes.open_ints Tryz.underlying37 Tryz.underlying3 cellsI h with ⟨ec, rfl⟩ | ⟨a, len, cap, zs, ec, _, hlc, _, hzl, rfl, hcell, _⟩
  · simp only [List.cons.injEq, and_true] at ec
    exact ⟨none, [], 0, ec, fun _ => ⟨rfl, rfl⟩, ZoAt.nil' _ _, fun _ => by simp⟩
  · simp only [List.cons.injEq, and_true] at ec
    rw [if_pos rfl] at hzl
    have hl : (zs.take len).length = len := by rw [List.length_take]; omega
    refine ⟨some a, zs.take len, cap, by rw [hl]; exact ec, (fun h => by cases h), fun i hi => ?_, fun hk => ?_⟩
    · rw [hl] at hi
      have c0 := hcell i (by omega)
      have d0 := hcell 0 (by omega)
      have hsp : a.spot = none := by simpa [Addr.add] using World.cell?_spot d0
      obtain ⟨b, o, sp⟩ := a
      obtain rfl : sp = none := hsp
      rw [Addr.add_lit] at c0
      refine ⟨b, o, rfl, block_lt_of_cell c0, ?_⟩
      rw [c0, List.getElem_take, List.getD_eq_getElem?_getD, List.getElem?_eq_getElem (by omega)]
      rfl
    · simp only [Rows.uptoBulk] at hk
      rw [← bulk_lits] at hk
      omega

set_option maxRecDepth 100000 in
set_option maxHeartbeats 1000000 in
theorem contract (H : Type) (enc : TypeId × Value → H) (W : World) (base : Nat) (args : Array Value) (ds gs : List (DataW H)) (before : List MemPlace)
    (hval : ∀ (j : Nat) t v, Tryz.f4.params[j]? = some t → args[j]? = some v → Value.okWide Tryz.prog W .any base t v)
    (hW : DataW.Whole enc Tryz.prog Tryz.f4.params.toList Rows.printsSpec.vars false W args.toList ds gs before)
    (hk : Rows.uptoSmall H (ds ++ gs) = true) (hL : laidMetH Tryz.prog Rows.printsUptoRow.laid W) :
    Calls Tryz.prog 4 args W fun e W' => ∃ v, e = .returned v ∧ Rows.printsSpec.post enc Tryz.prog Tryz.f4 false true false false W args v W' := by
  have ht : Tab10' W := Lib.tabBelow_of_tabIs (table hL)
  have h15 := cell15 (table2 hL)
  have hW' := hW
  obtain ⟨p, q, hA0, hV, rfl, hfz, hnd⟩ := hW
  have hA : DataW.TrodAll enc Tryz.prog W 0 (fun _ => true) true Tryz.f4.params.toList args.toList ds p := hA0
  rw [Tryz.params4] at hA hval
  obtain ⟨v0, vs0, d0, ds0, p0, q0, hargs, rfl, rfl, h0, r0⟩ := trodAll_cons hA
  obtain ⟨v1, vs1, d1, ds1, p1, q1, rfl, rfl, rfl, h1, r1⟩ := trodAll_cons r0
  obtain ⟨v2, vs2, d2, ds2, p2, q2, rfl, rfl, rfl, h2, r2⟩ := trodAll_cons r1
  obtain ⟨rfl, rfl, rfl⟩ := trodAll_nil r2
  obtain rfl : args = #[v0, v1, v2] := by cases args; simp_all
  obtain ⟨rfl, rfl⟩ := trodVars_none hV
  obtain ⟨how, rfl, rfl, rfl, w1⟩ := open_int Tryz.underlying3 (hval 1 3 v1 rfl rfl) h1
  have h0k := h0
  have h2k := h2
  obtain ⟨cs, rfl, hcs⟩ := okWide_struct Tryz.underlying36 (hval 0 36 v0 rfl rfl)
  rw [cellsA] at hcs
  obtain ⟨l⟩ := cs
  match l, hcs with
  | [c0, c1, c2, c3], _ =>
  obtain ⟨fuel, hf⟩ := h0
  have hlt := DataW.trod_lt fuel _ _ _ hf
  obtain ⟨xs, n, _, hx, hl, hlen, hfl⟩ := DataW.trod_struct Tryz.underlying36 hf
  match xs, hlen with
  | [y0, y1, y2, y3], _ =>
  have t0 := hfl 0 _ rfl
  have t1 := hfl 1 _ rfl
  have t2 := hfl 2 _ rfl
  have t3 := hfl 3 _ rfl
  obtain ⟨m, e0, rfl, wm⟩ := DataW.trod_string Tryz.underlying9 (by simpa using t0)
  obtain ⟨tg, e1, rfl, wt⟩ := DataW.trod_string Tryz.underlying9 (by simpa using t1)
  obtain ⟨body, e3, rfl, wb⟩ := DataW.trod_string Tryz.underlying9 (by simpa using t3)
  simp [Value.cells, cellsS] at e0 e1 e3
  subst e0 e1 e3
  simp only [Prod.mk.injEq] at hx
  obtain ⟨rfl, rfl⟩ := hx
  have t2' : DataW.trod enc Tryz.prog W 0 (fun _ => true) true n 34 [c2] = some y2 := by simpa [Value.cells, cellsL] using t2
  obtain ⟨b0, l0, m0, rfl⟩ := okWide_slice Tryz.underlying37 (hval 2 37 v2 rfl rfl)
  obtain ⟨fuel2, hf2⟩ := h2
  have hlt2 := DataW.trod_lt fuel2 _ _ _ hf2
  have t4 : DataW.trod enc Tryz.prog W 0 (fun _ => true) true fuel2 37 [.slice b0 l0 m0] = some (d2, p2) := by simpa [Value.cells, cellsZ] using hf2
  obtain ⟨a, fs, ca, rfl, ha, hfo, hkf⟩ := openF t2'
  obtain ⟨b, zs, cb, hv2, hb, hzo, hkz⟩ := openZ t4
  cases hv2
  clear hA0
  have fin : ∀ (e : Ending) (W' : World), e = .returned (.bool true) ∧ Below W.heap.size W W' → ∃ v, e = .returned v ∧ Rows.printsSpec.post enc Tryz.prog Tryz.f4 false true false false W #[.agg #[.string m, .string tg, .slice a fs.length ca, .string body], .int .i64 how, .slice b0 zs.length m0] v W' := fun e W' ⟨he, bel⟩ => by
    subst he
    exact ⟨_, rfl, _, _, _, [], _, [], hW', trodAll_mk1 (shut_bool Tryz.underlying4 _), (trodAll_cons_mk (Below.trod laidOut (by kernel_rfl) (of_decide_eq_true (by kernel_rfl)) h0k bel hlt) (trodAll_cons_mk (shut_int Tryz.underlying3 w1) (trodAll_cons_mk (Below.trod laidOut (by kernel_rfl) (of_decide_eq_true (by kernel_rfl)) h2k bel hlt2) trodAll_mk0))), rfl, bel.frame _, fun h => by cases h⟩
  obtain ⟨k1, k2, k3, k4, k5⟩ := small hk
  obtain ⟨k6, k7⟩ := hkf k4
  have k8 := hkz k5
  have z1 : m.data.toList.length = m.size := by simp
  have z2 : tg.data.toList.length = tg.size := by simp
  have z3 : body.data.toList.length = body.size := by simp
  exact (prints_law m tg fs a ca body how zs b0 m0 W hfo hzo ha hb (by omega) (by omega) (by omega) (by omega) (by omega) (fun i hi => by have := fld_sizes fs i hi; omega) (by omega) ht h15).mono fin

set_option maxRecDepth 100000 in
theorem lifted (os : Os) (started : os.Started) (H : Type) (enc : TypeId × Value → H) (F : Stop.Interp) :
    ReturnsInHanded {} Tryz.checked os 4 .any ((Rows.OpenSpec.upto Rows.printsSpec).preRow enc Tryz.prog Tryz.f4 Rows.printsUptoRow.domain false Rows.printsUptoRow.laid) (((Rows.OpenSpec.upto Rows.printsSpec).at F).post enc Tryz.prog Tryz.f4 false true false false) := by
  obtain ⟨places, hx⟩ := reads os enc
  refine returnsInHanded_of_row (C := Tryz.checked) (s := Rows.OpenSpec.upto Rows.printsSpec) own started (by kernel_rfl) Tryz.func4
    (witness_row_at (enc := enc) (C := Tryz.checked) false (World.laidAll Tryz.prog os Rows.printsUptoRow.laid) #[.agg #[.string ByteArray.empty, .string ByteArray.empty, .slice none 0 0, .string ByteArray.empty], .int .i64 0, .slice none 0 0] (World.laidAll_os _ _ _) (by kernel_rfl) (by kernel_rfl) (by kernel_rfl)
      (OpenSpec.preRow_of_cond 8 hx (by kernel_rfl) (fun k hk => by cases hk; kernel_rfl) (by kernel_rfl) (laidMet_laidAll _ (by kernel_rfl) (by kernel_rfl)))) ?_
  intro W base args ds gs before hval hW _ hcond _ hL _ _
  exact contract H enc W base args ds gs before hval hW (hcond _ rfl) hL

theorem said : Rows.PrintsUptoSaid :=
  OpenClaim.holds_of_cond 4 Tryz.f4 rfl rfl rfl rfl rfl rfl rfl ⟨rfl, rfl, rfl, rfl, rfl⟩ rfl rfl rfl rfl rfl (by kernel_rfl) Tryz.func4 (by kernel_rfl)
    (of_decide_eq_true (by kernel_rfl)) (by unfold Func.isWrapper; first | (rw [if_pos (by decide +kernel)]; kernel_rfl) | (rw [if_neg (by decide +kernel)]; exact ⟨rfl, rfl⟩))
    (fun os started H enc _ F => by rw [OpenClaim.pre_eq_preRow]; exact lifted os started H enc F)

theorem plain (f : FuncId) (fn : Func) (hf : Tryz.pinned.checked.prog.funcNamed "porter/porterlaw.Prints" = some f) (hfn : Tryz.pinned.checked.prog.funcs[f]? = some fn) :
    false = Tryz.pinned.checked.prog.looks [] ∧ ∀ (j : Nat) t, fn.params[j]? = some t → Tryz.pinned.checked.prog.wantsStandIn t = false := by
  obtain rfl : f = 4 := Option.some.inj ((show Tryz.prog.funcNamed "porter/porterlaw.Prints" = some 4 by kernel_rfl).symm.trans hf) |>.symm
  obtain rfl : fn = Tryz.f4 := (Option.some.inj (Tryz.func4.symm.trans hfn)).symm
  refine ⟨by kernel_rfl, fun j t ht => ?_⟩
  rw [Tryz.params4] at ht
  have hm : t ∈ [36, 3, 37] := by simpa using Array.mem_of_getElem? ht
  have hall : ([36, 3, 37].all fun u => !Tryz.prog.wantsStandIn u) = true := by kernel_rfl
  exact (show Tryz.prog.wantsStandIn t = false by simpa using List.all_eq_true.1 hall t hm)

theorem card : Rows.PrintsUptoCardSaid :=
  Claim7.holds_tied_plain_at .later [] _ _ _ _ said (fun _ h => by cases h) (by kernel_rfl) (fun _ h => by cases h) printsUpto_row_tie rfl ⟨rfl, rfl⟩ (by kernel_rfl) rfl plain (by kernel_rfl)
end Go.Proofs.YtnohadlihgjppaaGreatDoor.prints

namespace Go.Proofs.YtnohadlihgjppaaGreatDoor
theorem prints_holds : Rows.PrintsUptoCardSaid := prints.card
end Go.Proofs.YtnohadlihgjppaaGreatDoor
