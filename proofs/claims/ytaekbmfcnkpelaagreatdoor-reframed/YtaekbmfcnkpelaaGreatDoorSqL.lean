/- What Spoilt and Reframed are handed, opened: a request, a list of numbers; what the sizes say; the variables that they list. -/
import Derived.Test.YtaekbmfcnkpelaaGreatDoorJoin33
import Derived.Test.YtaekbmfcnkpelaaGreatDoorJoin21
import Derived.ProofKit
import Derived.OpenShut
import Derived.ShutString
import Derived.Carry
import Derived.ChangeSlices
import Derived.SizedLaws
import Derived.Deep.DeepHandedRow
import Derived.Lay
import Derived.Lib.LaidTab
import Derived.SevenTiedAt
import Derived.HandedShaped
namespace Go.Proofs.YtaekbmfcnkpelaaGreatDoor.keep
open Go.ChangeShapes Go.WideShapes Go.ChangeAt Go.RowKit
open Go.ChangeMaps (open_string shut_string)

theorem cellsA : Tryz.prog.cellsOf 24 = 4 := by kernel_rfl
theorem cellsI : Tryz.prog.cellsOf 3 = 1 := by kernel_rfl
theorem cellsS : Tryz.prog.cellsOf 9 = 1 := by kernel_rfl
theorem cellsF : Tryz.prog.cellsOf 31 = 2 := by kernel_rfl
theorem cellsL : Tryz.prog.cellsOf 22 = 1 := by kernel_rfl
theorem cellsZ : Tryz.prog.cellsOf 25 = 1 := by kernel_rfl
theorem cellsU : Tryz.prog.cellsOf 112 = 1 := by kernel_rfl
theorem cellsT : Tryz.prog.cellsOf 125 = 20 := by kernel_rfl
theorem cellsB : Tryz.prog.cellsOf 5 = 1 := by kernel_rfl
theorem cellsD : Tryz.prog.cellsOf 143 = 64 := by kernel_rfl
theorem cellsW : Tryz.prog.cellsOf 36 = 2 := by kernel_rfl
theorem bytesF : Tryz.prog.bytesOf 31 = 32 := by kernel_rfl
def litI : DataW Unit → Int
  | .lit (.int _ z) => z
  | _ => 0
def db64 : List Int := match (Rows.laid_math_bits_deBruijn64tab : DataW Unit) with
  | .agg l => l.map litI
  | _ => []
theorem cell15 {W : World} (h : Lib.TabIs Tryz.prog W "math/bits.deBruijn64tab" .u8 db64) : W.cell? ⟨6, 15, none⟩ = some (.int .u8 4) :=
  h.cell (show Tryz.prog.globalNamed "math/bits.deBruijn64tab" = some 6 by kernel_rfl) 15 (by decide)
theorem wide_of {W : World} {g : Nat} {t : TypeId} {cs : Array Value} {fuel : Nat} {p : List MemPlace} {enc : TypeId × Value → Unit} {spare : Nat → Bool} {held : Bool} (hg : Tryz.prog.globalNamed "porter/porterkeep.wide" = some g) (ht : (Tryz.prog.globals[g]?).map (·.type) = some t) (hv : W.var? Tryz.prog "porter/porterkeep.wide" = some cs)
    (hd : DataW.trod enc Tryz.prog W 0 spare held fuel t cs.toList = some (Rows.laid_porter_porterkeep_wide, p)) : W.cell? ⟨0, 0, none⟩ = some (.int .i64 500) ∧ W.cell? ⟨0, 1, none⟩ = some (.int .i64 200) := by
  obtain rfl := Option.some.inj ((show Tryz.prog.globalNamed "porter/porterkeep.wide" = some 0 by kernel_rfl).symm.trans hg)
  obtain rfl := Option.some.inj ((show (Tryz.prog.globals[0]?).map (·.type) = some 36 by kernel_rfl).symm.trans ht)
  obtain ⟨y0, y1, n, ex, hl, h0, h1⟩ := trod_struct2 Tryz.underlying36 hd
  obtain ⟨z0, e0, f0, _⟩ := DataW.trod_int Tryz.underlying3 h0
  obtain ⟨z1, e1, f1, _⟩ := DataW.trod_int Tryz.underlying3 h1
  rw [cellsW] at hl
  simp only [cellsI, List.drop_zero] at e0 e1
  have ed := (Prod.mk.inj ex).1
  rw [f0, f1] at ed
  simp only [Rows.laid_porter_porterkeep_wide, DataW.agg.injEq, List.cons.injEq, DataW.lit.injEq, Lit.int.injEq, true_and, and_true] at ed
  obtain ⟨rfl, rfl⟩ := ed
  constructor
  · rw [World.var?_cell hg hv 0]
    have h2 : (cs.toList.take 1)[0]? = some (.int .i64 500) := by rw [e0]; rfl
    simpa using h2
  · rw [World.var?_cell hg hv 1]
    have h2 : ((cs.toList.drop 1).take 1)[0]? = some (.int .i64 200) := by rw [e1]; rfl
    simpa using h2
theorem openZ {H : Type} {enc : TypeId × Value → H} {w : World} {fuel : Nat} {c : Value} {x : DataW H × List MemPlace} (h : DataW.trod enc Tryz.prog w 0 (fun _ => true) true fuel 25 [c] = some x) :
    ∃ (b : Option Addr) (zs : List Int) (cb : Nat), c = .slice b zs.length cb ∧ ZoAt zs b w ∧ zs.length ≤ maxLen ∧ ∀ i (h : i < zs.length), -9223372036854775808 ≤ zs[i] ∧ zs[i] ≤ 9223372036854775807 := by
  rcases Go.ChangeShapes.open_ints Tryz.underlying25 Tryz.underlying3 cellsI h with ⟨ec, rfl⟩ | ⟨a, len, cap, zs, ec, _, hlc, hmx, hzl, rfl, hcell, hwf⟩
  · simp only [List.cons.injEq, and_true] at ec
    exact ⟨none, [], 0, ec, fun i hi => absurd hi (by simp), Nat.zero_le _, fun i hi => absurd hi (by simp)⟩
  · simp only [List.cons.injEq, and_true] at ec
    rw [if_pos rfl] at hzl
    have hl : (zs.take len).length = len := by rw [List.length_take]; omega
    refine ⟨some a, zs.take len, cap, by rw [hl]; exact ec, fun i hi => ?_, by omega, fun i hi => ?_⟩
    · rw [hl] at hi
      have c0 := hcell i (by omega)
      have d0 := hcell 0 (by omega)
      have hsp : a.spot = none := by simpa [Addr.add] using World.cell?_spot d0
      obtain ⟨b, o, sp⟩ := a
      obtain rfl : sp = none := hsp
      rw [Addr.add_lit] at c0
      refine ⟨b, o, rfl, block_lt_of_cell c0, ?_⟩
      rw [c0, List.getElem_take, List.getD_eq_getElem?_getD, List.getElem?_eq_getElem (by omega)]
      rfl
    · rw [List.getElem_take]
      have := hwf _ (List.getElem_mem (l := zs) (n := i) (by omega))
      simpa [Lit.wf, IntKind.min, IntKind.max, IntKind.signed, IntKind.bits] using this
/- a request: its list of fields as one list; the reading of that list kept -/
set_option maxRecDepth 100000 in
theorem openQ {H : Type} {enc : TypeId × Value → H} {w : World} {base : Nat} {v : Value} {d : DataW H} {p : List MemPlace} (hok : Value.okWide Tryz.prog w .any base 24 v) (h : DataW.Trod enc Tryz.prog w 0 (fun _ => true) true 24 v d p) :
    ∃ (m tg : ByteArray) (a : Option Addr) (fs : List Pr2) (ca : Nat) (body : ByteArray) (y2 : DataW H) (rest : List (DataW H)), v = .agg #[.string m, .string tg, .slice a fs.length ca, .string body] ∧ d = .agg [.lit (.string m.data.toList), .lit (.string tg.data.toList), y2, .lit (.string body.data.toList)] ∧ (∀ x ∈ p, x.block < w.heap.size) ∧ FoAt fs a w ∧ (fs ≠ [] → y2 = .slice (fs.map pairD) rest) := by
  obtain ⟨cs, rfl, hcs⟩ := okWide_struct Tryz.underlying24 hok
  rw [cellsA] at hcs
  obtain ⟨l⟩ := cs
  match l, hcs with
  | [c0, c1, c2, c3], _ =>
  obtain ⟨fuel, hf⟩ := h
  have hlt := DataW.trod_lt fuel _ _ _ hf
  obtain ⟨xs, n, _, hx, hl, hlen, hfl⟩ := DataW.trod_struct Tryz.underlying24 hf
  match xs, hlen with
  | [y0, y1, y2, y3], _ =>
  have t0 := hfl 0 _ rfl
  have t1 := hfl 1 _ rfl
  have t2 := hfl 2 _ rfl
  have t3 := hfl 3 _ rfl
  obtain ⟨m, e0, rfl, wm⟩ := DataW.trod_string Tryz.underlying9 (by simpa using t0)
  obtain ⟨tg, e1, rfl, wt⟩ := DataW.trod_string Tryz.underlying9 (by simpa using t1)
  obtain ⟨body, e3, rfl, wb⟩ := DataW.trod_string Tryz.underlying9 (by simpa using t3)
  simp [Value.cells, cellsS] at e0 e1 e3
  subst e0 e1 e3
  simp only [Prod.mk.injEq] at hx
  obtain ⟨rfl, rfl⟩ := hx
  have t2' : DataW.trod enc Tryz.prog w 0 (fun _ => true) true n 22 [c2] = some y2 := by simpa [Value.cells, cellsL] using t2
  rcases open_pairs (s := 9) Tryz.underlying22 Tryz.underlying31 Tryz.underlying9 ⟨rfl, rfl⟩ ⟨rfl, rfl⟩ cellsF cellsS t2' with ⟨ec, rfl⟩ | ⟨a, cap, fs, rest, ec, ey, hfo⟩
  · simp only [List.cons.injEq, and_true] at ec
    subst ec
    exact ⟨m, tg, none, [], 0, body, _, [], rfl, rfl, hlt, fun i hi => absurd hi (by simp), fun h => absurd rfl h⟩
  · simp only [List.cons.injEq, and_true] at ec
    subst ec
    exact ⟨m, tg, some a, fs, cap, body, _, rest, rfl, rfl, hlt, hfo, fun _ => ey⟩
theorem weights_all {H : Type} {P : Program} {e : TypeId} {d : DataW H} : ∀ {l : List (DataW H)}, d ∈ l → ∀ n ∈ d.weights P e, n ∈ DataW.weightsAll P e l
  | x :: l, hd, n, hn => by
    rw [DataW.weightsAll, List.mem_append]
    rcases List.mem_cons.mp hd with rfl | hd
    · exact .inl hn
    · exact .inr (weights_all hd n hn)
set_option maxRecDepth 100000 in
theorem sizesQ {H : Type} {ts : List TypeId} {ds : List (DataW H)} (hsz : (DataW.weightsEach Tryz.prog ts ds).all (· ≤ reachBytes) = true) {j : Nat} {m tg body : ByteArray} {y2 : DataW H} (ht : ts[j]? = some 24) (hd : ds[j]? = some (.agg [.lit (.string m.data.toList), .lit (.string tg.data.toList), y2, .lit (.string body.data.toList)])) {fs : List Pr2} {rest : List (DataW H)} (hy : fs ≠ [] → y2 = .slice (fs.map pairD) rest) :
    m.size ≤ maxLen ∧ tg.size ≤ maxLen ∧ body.size ≤ maxLen ∧ fs.length ≤ maxLen ∧ ∀ i (h : i < fs.length), fs[i].1.size ≤ maxLen ∧ fs[i].2.size ≤ maxLen := by
  have W : ∀ n ∈ DataW.weights Tryz.prog 24 (.agg [.lit (.string m.data.toList), .lit (.string tg.data.toList), y2, .lit (.string body.data.toList)]), n ≤ reachBytes := fun n hn => by
    simpa using List.all_eq_true.1 hsz _ (DataW.weights_mem_each ht hd n hn)
  have e : DataW.weights Tryz.prog 24 (.agg [.lit (.string m.data.toList), .lit (.string tg.data.toList), y2, .lit (.string body.data.toList)]) = [m.data.toList.length] ++ ([tg.data.toList.length] ++ (y2.weights Tryz.prog 22 ++ [body.data.toList.length])) := by
    rw [DataW.weights, Tryz.underlying24]
    simp only [List.map_cons, List.map_nil, DataW.weightsEach, DataW.weights, List.append_nil]
  rw [e] at W
  have hr : reachBytes ≤ maxLen := by decide
  have l1 : m.data.toList.length = m.size := by simp
  have l2 : tg.data.toList.length = tg.size := by simp
  have l3 : body.data.toList.length = body.size := by simp
  refine ⟨?_, ?_, ?_, ?_⟩
  · have := W m.data.toList.length (by simp); omega
  · have := W tg.data.toList.length (by simp); omega
  · have := W body.data.toList.length (by simp); omega
  by_cases hne : fs = []
  · subst hne; exact ⟨Nat.zero_le _, fun i hi => absurd hi (by simp)⟩
  have W2 : ∀ n ∈ y2.weights Tryz.prog 22, n ≤ reachBytes := fun n hn => W n (by simp [hn])
  rw [hy hne, DataW.weights, Tryz.underlying22] at W2
  constructor
  · have := W2 _ (List.mem_cons_self)
    rw [bytesF, List.length_map] at this
    omega
  · intro i hi
    have hm : (pairD fs[i] : DataW H) ∈ fs.map pairD := List.mem_map.mpr ⟨fs[i], List.getElem_mem hi, rfl⟩
    have e2 : DataW.weights Tryz.prog 31 (pairD fs[i] : DataW H) = [fs[i].1.data.toList.length] ++ [fs[i].2.data.toList.length] := by
      unfold pairD
      rw [DataW.weights, Tryz.underlying31]
      simp only [List.map_cons, List.map_nil, DataW.weightsEach, DataW.weights, List.append_nil]
    have W3 : ∀ n ∈ DataW.weights Tryz.prog 31 (pairD fs[i] : DataW H), n ≤ reachBytes := fun n hn => W2 n (by
      rw [List.mem_cons, List.mem_append]; exact .inr (.inl (weights_all hm n hn)))
    rw [e2] at W3
    have a1 := W3 fs[i].1.data.toList.length (by simp)
    have a2 := W3 fs[i].2.data.toList.length (by simp)
    have l1 : fs[i].1.data.toList.length = fs[i].1.size := by simp
    have l2 : fs[i].2.data.toList.length = fs[i].2.size := by simp
    omega
end Go.Proofs.YtaekbmfcnkpelaaGreatDoor.keep
