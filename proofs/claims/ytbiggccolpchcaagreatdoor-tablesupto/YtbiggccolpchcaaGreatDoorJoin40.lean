/- Texts that follow one another, joined. -/
import Derived.Test.YtbiggccolpchcaaGreatDoorJoin39
import Derived.Deep.MidRow
import Derived.Deep.RegionHeld3
/- A value of many cells stored into a block that was just made: one block with those cells. -/
namespace Go.Proofs.YtbiggccolpchcaaGreatDoor
open Go.RowKit Bn

theorem setCells_new (w : World) (t : TypeId) : ∀ (vs pre suf : List Value), suf.length = vs.length → (w.alloc (.cells (pre ++ suf).toArray t)).setCells w.heap.size pre.length vs = w.alloc (.cells (pre ++ vs).toArray t)
  | [], pre, suf, h => by
    have : suf = [] := List.eq_nil_of_length_eq_zero h
    subst this; rfl
  | v :: r, pre, [], h => by simp at h
  | v :: r, pre, s :: s', h => by
    rw [World.setCells, World.setCell_alloc_new]
    have e : (pre ++ s :: s').toArray.setIfInBounds pre.length v = ((pre ++ [v]) ++ s').toArray := by simp
    have e2 : pre.length + 1 = (pre ++ [v]).length := by simp
    rw [e, e2, setCells_new w t r (pre ++ [v]) s' (by simpa using h)]
    simp
theorem wpList_store_new {P : Program} {ops : Array Oper} {rest : List Oper} {op : Oper} {a : Act} {Q : Exit → Act → World → Prop} (hgd : op.guard = none) (ty : TypeId) (x y : Operand) (ho : op.op = .store ty x y)
    (w0 : World) (t : TypeId) (z cells : Array Value) (hz : z.size = cells.size) (hx : a.eval x = .pointer (some ⟨w0.heap.size, 0, none⟩)) (hy : a.eval y = .agg cells)
    (hi : (P.info? ty).map (·.size) = some cells.size) (h1 : cells.all (·.oneCell') = true)
    (h : wpList P ops Q rest (a.put op.dst undef) (w0.alloc (.cells cells t))) : wpList P ops Q (op :: rest) a (w0.alloc (.cells z t)) := by
  refine wpList_store_mid hgd ty x y ho w0.heap.size 0 cells hx hy ?_ hi h1 ?_
  · intro j hj
    have hj' : j < z.size := by omega
    have hh : (w0.alloc (.cells z t)).heap[w0.heap.size]? = some (.cells z t) := heap_alloc_new w0 _
    refine ⟨?_, ?_⟩
    · unfold World.cell?; simp only [hh]; simp [hj']
    · unfold World.frozen?; simp only [hh]; simp
  · have e := setCells_new w0 t cells.toList [] z.toList (by simpa using hz)
    simp only [List.nil_append, List.length_nil, Array.toArray_toList] at e
    rw [e]; exact h
theorem opv_all (o : OpV) : o.cs.all (·.oneCell') = true := by simp [OpV.cs, Value.oneCell']
theorem opv_size (o : OpV) : o.cs.size = 20 := rfl
end Go.Proofs.YtbiggccolpchcaaGreatDoor

/- A script of tables, out of its steps. -/
namespace Go.Proofs.YtbiggccolpchcaaGreatDoor
open Go.RowKit Bn

theorem roundq {wb q t n : Nat} {w0 w : World} (hl : q < n) (h9 : q ≤ 900000) (h : WX wb (q + 1) t w0 w) :
    (∃ q1 t, q1 ≤ n ∧ Value.int IntKind.i64 (wrap64 ((q : Int) + 1)) = Value.int IntKind.i64 (q1 : Int) ∧ WX wb q1 t w0 w) ∧
      n - (intOf (Value.int IntKind.i64 (wrap64 ((q : Int) + 1)))).toNat < n - (intOf (Value.int IntKind.i64 (q : Int))).toNat := by
  have e : wrap64 ((q : Int) + 1) = ((q + 1 : Nat) : Int) := by unfold wrap64; omega
  rw [e]
  exact ⟨⟨q + 1, t, by omega, rfl, h⟩, by simp [intOf]; omega⟩

set_option maxRecDepth 100000 in
set_option maxHeartbeats 8000000 in
theorem plays_of (os : List OpV) (a : Option Addr) (c : Nat) (w : World) (hos : OsAt os a w) (hl : os.length ≤ 900000) (ok : ∀ o ∈ os, OpOk o) (ST : ∀ w0, Below w.heap.size w w0 → StepT w0) :
    Calls Tryz.prog 6 #[.slice a os.length c, .int .i64 20, .int .i64 23] w fun r w' => r = .returned (.bool true) ∧ Below w.heap.size w w' := by
  have HBG := hid (begins_of w (ST w (Below.refl _ _)))
  have HST := hid ST
  have HOS := hid hos
  have HOK := hid ok
  clear ST hos ok
  go_enter Tryz.func6, Tryz.ntmps6
  go_wp2_with fail
  refine HBG.out.mono ?_
  rintro r w1 ⟨rfl, hb1⟩
  have HB1 := hid hb1
  have HS1 := hid (HST.out w1 hb1)
  have HW := hid (wx_new w1)
  clear hb1 HBG HST
  go_upto_region 5 with fail
  generalize w1.alloc (.cells wlZ 37) = w2 at *
  generalize hwb : w1.heap.size = wb at *
  clear hwb
  go_wp2_with fail
  go_loopw [7, 9, 10, 11] (fun _ i _ _ wr => ∃ q t : Nat, q ≤ os.length ∧ i = .int .i64 q ∧ WX wb q t w1 wr) (fun _ i _ _ _ => os.length - (intOf i).toNat)
  case atStart => exact ⟨0, 0, Nat.zero_le _, rfl, HW.out⟩
  case round =>
    obtain ⟨q, t, hq, rfl, hX⟩ := hrel
    have HX := hid hX
    have hB := bel_of HB1.out (wx_below hX)
    clear hX
    by_cases hlt : q < os.length
    · obtain ⟨g, off, rfl, hg, hel⟩ := (HOS.out.below hB) q hlt
      have hok := HOK.out _ (List.getElem_mem hlt)
      generalize os[q] = ov at *
      have hlt' : (q : Int) < (os.length : Int) := by omega
      have hq9 : q ≤ 900000 := by omega
      have hqd : decide ((q : Int) < 1152921504606846976) = true := decide_eq_true (by omega)
      have HQ9 := hid hq9
      clear hq9
      have HEL := hid hel
      clear hel
      have HLT := hid hlt
      have HQ := hid hq
      have HL := hid hl
      clear hlt hq hl
      go_upto_region 8 with fail
      clear hqd
      have bN := heap_alloc_new wr (.cells ov.cs 51)
      have hA := (Below.refl wr.heap.size wr).alloc (Nat.le_refl _) (.cells ov.cs 51)
      have HXA := hid (wx_later HX.out hA)
      clear hA
      have hel := HEL.out
      have hr : (wr.alloc (.cells ov.cs 51)).rangeAt wr.heap.size 0 ov.cs.toList := fun j v hj => by
        rw [Lib.cell_of_heap bN, Nat.zero_add, ← Array.getElem?_toList]; exact hj
      have HR := hid hr
      have HF0 := hid (show (wr.alloc (.cells ov.cs 51)).cell? ⟨wr.heap.size, 0, none⟩ = some (.int .i64 ov.k) by rw [Lib.cell_of_heap bN]; rfl)
      have HSTEP := hid (fun W h h1 h2 => HS1.out wb q t W ov h (by have := HQ9.out; omega) hok h1 h2)
      have HLK := hid (fun (W : World) t' (h : WX wb (q + 1) t' w1 W) => wx_looks h (by have := HQ9.out; omega))
      clear bN hr HS1 hok HEL
      have hs20 : ov.cs.size = 20 := rfl
      have hall := opv_all ov
      generalize ov.cs = cs at *
      have HS20 := hid hs20
      have HALL := hid hall
      clear hs20 hall
      go_upto_region 9 with (first
        | refine wpList_load_mid rfl 51 _ rfl g (off + q * 20) rfl cs.toList _ hel Tryz.underlying51 rfl (by rw [Array.length_toList, HS20.out]; kernel_rfl) ?_
        | refine wpList_store_new rfl 51 _ _ rfl wr 51 _ cs (by rw [HS20.out]; rfl) rfl rfl (by rw [HS20.out]; kernel_rfl) HALL.out ?_)
      clear hel HALL
      generalize wr.alloc (.cells cs 51) = wA at *
      generalize wr.heap.size = nb at *
      have f0 := HF0.out
      by_cases hk1 : ov.k < 20
      · go_wp2_with fail
        exact roundq HLT.out HQ9.out (wx_more HXA.out (Nat.le_succ q))
      · by_cases hk2 : 23 < ov.k
        · go_wp2_with fail
          exact roundq HLT.out HQ9.out (wx_more HXA.out (Nat.le_succ q))
        · go_upto_region 10 with fail
          clear f0
          have hr := HR.out
          go_wp2_with (refine wpList_load_mid rfl 51 _ rfl nb 0 rfl cs.toList _ hr Tryz.underlying51 rfl (by rw [Array.length_toList, HS20.out]; kernel_rfl) ?_)
          refine (HSTEP.out wA HXA.out (by omega) (by omega)).mono ?_
          rintro r w3 ⟨rfl, h3⟩
          have HX3 := hid h3
          clear h3 hr HXA HSTEP
          go_wp2_with fail
          refine (HLK.out w3 _ HX3.out).mono ?_
          rintro r w4 ⟨rfl, h4⟩
          have HX4 := hid h4
          clear h4 HX3 HLK
          go_wp2_with fail
          exact roundq HLT.out HQ9.out HX4.out
    · have hge : ¬ (q : Int) < (os.length : Int) := by omega
      have HB := hid hB
      clear hB
      go_wp2
      go_ret
      exact ⟨rfl, HB.out⟩
end Go.Proofs.YtbiggccolpchcaaGreatDoor

/- A step of a script of tables: a call of a table that is there. -/
namespace Go.Proofs.YtbiggccolpchcaaGreatDoor
open Go.RowKit Bn

section
/- what a step reads -/
def RdS (wb g n vc k ob : Nat) (px pr : Value) (on : Int) (cs : List Value) (W : World) : Prop := W.cell? ⟨wb, 4, none⟩ = some (.slice (some ⟨g, 0, none⟩) n vc) ∧ W.cell? ⟨g, k * 2, none⟩ = some px ∧ W.cell? ⟨g, k * 2 + 1, none⟩ = some pr ∧ W.cell? ⟨ob, 1, none⟩ = some (.int .i64 on) ∧ W.rangeAt ob 0 cs
theorem rd_later {wb g n vc k ob : Nat} {px pr : Value} {on : Int} {cs : List Value} {W W' : World} (hb : Below W.heap.size W W') (h : RdS wb g n vc k ob px pr on cs W) : RdS wb g n vc k ob px pr on cs W' :=
  ⟨cell_later hb h.1, cell_later hb h.2.1, cell_later hb h.2.2.1, cell_later hb h.2.2.2.1, fun j v hj => cell_later hb (h.2.2.2.2 j v hj)⟩
set_option maxRecDepth 100000 in
set_option maxHeartbeats 4000000 in
theorem step_walk (wb g vc k len : Nat) (px pr : Value) (kk on : Int) (x2 x3 x4 x5 x6 x7 x8 x9 x10 x11 x12 x13 x14 x15 x16 x17 x18 x19 : Value) (Q : World → Prop) (w wB : World) (ob : Nat) (hwB : w.alloc (.cells #[.int .i64 kk, .int .i64 on, x2, x3, x4, x5, x6, x7, x8, x9, x10, x11, x12, x13, x14, x15, x16, x17, x18, x19] 51) = wB) (hob : w.heap.size = ob) (f0 : wB.cell? ⟨ob, 0, none⟩ = some (.int .i64 kk)) (e0 : ¬ kk < 20) (e1 : (kk == 20) = false) (e2 : kk < 30) (e7 : (0 : Int) < (len : Int)) (e8 : (k : Int) < (len : Int)) (_lw : wb < wB.heap.size)
    (HPK : Hid (∀ W, Calls Tryz.prog 14 #[.int .i64 on, .int .i64 len] W fun e w' => e = .returned (.int .i64 (k : Int)) ∧ w' = W))
    (HRD : Hid (RdS wb g len vc k ob px pr on [.int .i64 kk, .int .i64 on, x2, x3, x4, x5, x6, x7, x8, x9, x10, x11, x12, x13, x14, x15, x16, x17, x18, x19] wB))
    (HTB : Hid (∀ W, Below wB.heap.size wB W → Calls Tryz.prog 13 #[.pointer (some ⟨wb, 0, none⟩), .agg #[px, pr], .agg #[.int .i64 kk, .int .i64 on, x2, x3, x4, x5, x6, x7, x8, x9, x10, x11, x12, x13, x14, x15, x16, x17, x18, x19]] W fun r w' => r = .returned (.bool true) ∧ RdS wb g len vc k ob px pr on [.int .i64 kk, .int .i64 on, x2, x3, x4, x5, x6, x7, x8, x9, x10, x11, x12, x13, x14, x15, x16, x17, x18, x19] w' ∧ Q w')) :
    Calls Tryz.prog 8 #[.pointer (some ⟨wb, 0, none⟩), .agg #[.int .i64 kk, .int .i64 on, x2, x3, x4, x5, x6, x7, x8, x9, x10, x11, x12, x13, x14, x15, x16, x17, x18, x19]] w fun r w' => r = .returned (.bool true) ∧ Q w' := by
  obtain ⟨r0, r1, r2, f1, -⟩ := HRD.out
  have HRE := hid (rd_later ((Below.refl wB.heap.size wB).drew) HRD.out)
  have l1 := block_lt_of_cell f0
  have l2 := block_lt_of_cell r1
  have HWB := hid hwB
  have HOB := hid hob
  clear hwB hob
  go_enter Tryz.func8, Tryz.ntmps8
  go_upto_region 1 with fail
  rw [HWB.out, HOB.out]
  go_upto_region 6 with fail
  have hcl : (Tryz.prog.info? 51).map (·.size) = some ([.int .i64 kk, .int .i64 on, x2, x3, x4, x5, x6, x7, x8, x9, x10, x11, x12, x13, x14, x15, x16, x17, x18, x19] : List Value).length := by kernel_rfl
  generalize [.int .i64 kk, .int .i64 on, x2, x3, x4, x5, x6, x7, x8, x9, x10, x11, x12, x13, x14, x15, x16, x17, x18, x19] = cs at *
  have HCL := hid hcl
  clear hcl
  refine wp_region_held_drew (S := fun W => W.cell? ⟨wb, 4, none⟩ = some (.slice (some ⟨g, 0, none⟩) len vc) ∧ W.cell? ⟨g, k * 2, none⟩ = some px ∧ W.cell? ⟨g, k * 2 + 1, none⟩ = some pr ∧ W.cell? ⟨ob, 1, none⟩ = some (.int .i64 on) ∧ W.rangeAt ob 0 cs) (by kernel_rfl) HRE.out (fun hHeld => ?_)
  refine' wpAnyH_take (i := 15) (oi := { dst := some 45, op := Op.load 51 (Operand.tmp 3), type := 51, pos := "play.go:210", after := #[], guard := none }) (v := _) rfl (by kernel_rfl) (by kernel_rfl) (by kernel_rfl) (fun _ _ _ h => h) (yieldsIf_load_mid (by rfl) _ _ rfl _ _ rfl cs _ ?hS ?hu ?hd ?hi) (by assumption) ?rest
  case hS => (intro w hSw; exact hSw.2.2.2.2)
  case hu => exact Tryz.underlying51
  case hd => rfl
  case hi => exact HCL.out
  (try simp only [Act.put, List.setIfInBounds_toArray, List.set_cons_zero, List.set_cons_succ])
  refine wpAnyH_take (i := 0) (oi := { dst := some 30, op := Op.move (Operand.tmp 0), type := 26, pos := "play.go:210", after := #[], guard := none }) (v := ?v0) rfl (by kernel_rfl) (by kernel_rfl) (by kernel_rfl) (fun _ _ _ h => h) (Or.inl ⟨by rfl, ?y0⟩) (by assumption) ?r0
  case y0 => (intro w hSw; (try dsimp only at hSw); go_simp; (try with_reducible rfl))
  (try simp only [Act.put, List.setIfInBounds_toArray, List.set_cons_zero, List.set_cons_succ])
  refine wpAnyH_take (i := 1) (oi := { dst := some 31, op := Op.move (Operand.tmp 0), type := 26, pos := "play.go:210", after := #[], guard := none }) (v := ?v1) rfl (by kernel_rfl) (by kernel_rfl) (by kernel_rfl) (fun _ _ _ h => h) (Or.inl ⟨by rfl, ?y1⟩) (by assumption) ?r1
  case y1 => (intro w hSw; (try dsimp only at hSw); go_simp; (try with_reducible rfl))
  (try simp only [Act.put, List.setIfInBounds_toArray, List.set_cons_zero, List.set_cons_succ])
  refine wpAnyH_take (i := 2) (oi := { dst := some 32, op := Op.nilCheck (Operand.tmp 31), type := 0, pos := "play.go:210", after := #[{ on := 1, ground := Ground.data }], guard := none }) (v := ?v2) rfl (by kernel_rfl) (by kernel_rfl) (by kernel_rfl) (fun _ _ _ h => h) (Or.inl ⟨by rfl, ?y2⟩) (by assumption) ?r2
  case y2 => (intro w hSw; (try dsimp only at hSw); go_simp; (try with_reducible rfl))
  (try simp only [Act.put, List.setIfInBounds_toArray, List.set_cons_zero, List.set_cons_succ])
  refine wpAnyH_take (i := 3) (oi := { dst := some 33, op := Op.fieldAddr 37 (Operand.tmp 32) 1, type := 0, pos := "play.go:210", after := #[{ on := 2, ground := Ground.data }], guard := none }) (v := ?v3) rfl (by kernel_rfl) (by kernel_rfl) (by kernel_rfl) (fun _ _ _ h => h) (Or.inl ⟨by rfl, ?y3⟩) (by assumption) ?r3
  case y3 => (intro w hSw; (try dsimp only at hSw); go_simp; (try with_reducible rfl))
  (try simp only [Act.put, List.setIfInBounds_toArray, List.set_cons_zero, List.set_cons_succ])
  refine wpAnyH_take (i := 4) (oi := { dst := some 34, op := Op.load 33 (Operand.tmp 33), type := 33, pos := "play.go:210", after := #[{ on := 3, ground := Ground.data }], guard := none }) (v := ?v4) rfl (by kernel_rfl) (by kernel_rfl) (by kernel_rfl) (fun _ _ _ h => h) (Or.inl ⟨by rfl, ?y4⟩) (by assumption) ?r4
  case y4 => (intro w hSw; (try dsimp only at hSw); go_simp; (try with_reducible rfl))
  (try simp only [Act.put, List.setIfInBounds_toArray, List.set_cons_zero, List.set_cons_succ])
  refine wpAnyH_take (i := 5) (oi := { dst := some 35, op := Op.fieldAddr 51 (Operand.tmp 3) 1, type := 0, pos := "play.go:210", after := #[], guard := none }) (v := ?v5) rfl (by kernel_rfl) (by kernel_rfl) (by kernel_rfl) (fun _ _ _ h => h) (Or.inl ⟨by rfl, ?y5⟩) (by assumption) ?r5
  case y5 => (intro w hSw; (try dsimp only at hSw); go_simp; (try with_reducible rfl))
  (try simp only [Act.put, List.setIfInBounds_toArray, List.set_cons_zero, List.set_cons_succ])
  refine wpAnyH_take (i := 6) (oi := { dst := some 36, op := Op.load 3 (Operand.tmp 35), type := 3, pos := "play.go:210", after := #[{ on := 5, ground := Ground.data }], guard := none }) (v := ?v6) rfl (by kernel_rfl) (by kernel_rfl) (by kernel_rfl) (fun _ _ _ h => h) (Or.inl ⟨by rfl, ?y6⟩) (by assumption) ?r6
  case y6 => (intro w hSw; (try dsimp only at hSw); go_simp; (try with_reducible rfl))
  (try simp only [Act.put, List.setIfInBounds_toArray, List.set_cons_zero, List.set_cons_succ])
  refine wpAnyH_take (i := 7) (oi := { dst := some 37, op := Op.move (Operand.tmp 0), type := 26, pos := "play.go:210", after := #[], guard := none }) (v := ?v7) rfl (by kernel_rfl) (by kernel_rfl) (by kernel_rfl) (fun _ _ _ h => h) (Or.inl ⟨by rfl, ?y7⟩) (by assumption) ?r7
  case y7 => (intro w hSw; (try dsimp only at hSw); go_simp; (try with_reducible rfl))
  (try simp only [Act.put, List.setIfInBounds_toArray, List.set_cons_zero, List.set_cons_succ])
  refine wpAnyH_take (i := 8) (oi := { dst := some 38, op := Op.nilCheck (Operand.tmp 37), type := 0, pos := "play.go:210", after := #[{ on := 7, ground := Ground.data }], guard := none }) (v := ?v8) rfl (by kernel_rfl) (by kernel_rfl) (by kernel_rfl) (fun _ _ _ h => h) (Or.inl ⟨by rfl, ?y8⟩) (by assumption) ?r8
  case y8 => (intro w hSw; (try dsimp only at hSw); go_simp; (try with_reducible rfl))
  (try simp only [Act.put, List.setIfInBounds_toArray, List.set_cons_zero, List.set_cons_succ])
  refine wpAnyH_take (i := 9) (oi := { dst := some 39, op := Op.fieldAddr 37 (Operand.tmp 38) 1, type := 0, pos := "play.go:210", after := #[{ on := 8, ground := Ground.data }], guard := none }) (v := ?v9) rfl (by kernel_rfl) (by kernel_rfl) (by kernel_rfl) (fun _ _ _ h => h) (Or.inl ⟨by rfl, ?y9⟩) (by assumption) ?r9
  case y9 => (intro w hSw; (try dsimp only at hSw); go_simp; (try with_reducible rfl))
  (try simp only [Act.put, List.setIfInBounds_toArray, List.set_cons_zero, List.set_cons_succ])
  refine wpAnyH_take (i := 10) (oi := { dst := some 40, op := Op.load 33 (Operand.tmp 39), type := 33, pos := "play.go:210", after := #[{ on := 9, ground := Ground.data }], guard := none }) (v := ?v10) rfl (by kernel_rfl) (by kernel_rfl) (by kernel_rfl) (fun _ _ _ h => h) (Or.inl ⟨by rfl, ?y10⟩) (by assumption) ?r10
  case y10 => (intro w hSw; (try dsimp only at hSw); go_simp; (try with_reducible rfl))
  (try simp only [Act.put, List.setIfInBounds_toArray, List.set_cons_zero, List.set_cons_succ])
  refine wpAnyH_take (i := 11) (oi := { dst := some 41, op := Op.call { callee := Callee.builtin Builtin.len, args := #[Operand.tmp 40], argTypes := #[33] }, type := 3, pos := "play.go:210", after := #[{ on := 10, ground := Ground.data }], guard := none }) (v := ?v11) rfl (by kernel_rfl) (by kernel_rfl) (by kernel_rfl) (fun _ _ _ h => h) (Or.inl ⟨by rfl, ?y11⟩) (by assumption) ?r11
  case y11 => (intro w hSw; (try dsimp only at hSw); go_simp; (try with_reducible rfl))
  (try simp only [Act.put, List.setIfInBounds_toArray, List.set_cons_zero, List.set_cons_succ])
  refine wpAnyH_ready (rs := [12]) (by kernel_rfl) (by simp) ?_
  refine AllReadyH.cons (o := { dst := some 42, op := Op.call { callee := Callee.value (Operand.func 14), args := #[Operand.tmp 36, Operand.tmp 41], argTypes := #[3, 3] }, type := 3, pos := "play.go:210", after := #[{ on := 6, ground := Ground.data }, { on := 11, ground := Ground.data }], guard := none }) rfl (fun K hK => ?_) AllReadyH.nil
  go_simp
  refine (HPK.out _).mono ?_
  rintro e w' ⟨rfl, hw'⟩
  have hw2 := hw'.symm
  subst hw2
  try go_wp2_with fail
  refine hK.out _ _ HRE.out (fun hHeld2 => ?_)
  clear hK K
  (try simp only [Act.put, List.setIfInBounds_toArray, List.set_cons_zero, List.set_cons_succ])
  refine wpAnyH_take (i := 13) (oi := { dst := some 43, op := Op.indexAddr 33 (Operand.tmp 34) (Operand.tmp 42), type := 0, pos := "play.go:210", after := #[{ on := 4, ground := Ground.data }, { on := 12, ground := Ground.data }], guard := none }) (v := ?v13) rfl (by kernel_rfl) (by kernel_rfl) (by kernel_rfl) (fun _ _ _ h => h) (Or.inl ⟨by rfl, ?y13⟩) (by assumption) ?r13
  case y13 => (intro w hSw; (try dsimp only at hSw); go_simp; (try with_reducible rfl))
  (try simp only [Act.put, List.setIfInBounds_toArray, List.set_cons_zero, List.set_cons_succ])
  refine wpAnyH_take (i := 14) (oi := { dst := some 44, op := Op.load 59 (Operand.tmp 43), type := 59, pos := "play.go:210", after := #[{ on := 13, ground := Ground.data }], guard := none }) (v := ?v14) rfl (by kernel_rfl) (by kernel_rfl) (by kernel_rfl) (fun _ _ _ h => h) (Or.inl ⟨by rfl, ?y14⟩) (by assumption) ?r14
  case y14 => (intro w hSw; (try dsimp only at hSw); go_simp; (try with_reducible rfl))
  (try simp only [Act.put, List.setIfInBounds_toArray, List.set_cons_zero, List.set_cons_succ])
  refine wpAnyH_ready (rs := [16]) (by kernel_rfl) (by simp) ?_
  refine AllReadyH.cons (o := { dst := some 46, op := Op.call { callee := Callee.value (Operand.func 13), args := #[Operand.tmp 30, Operand.tmp 44, Operand.tmp 45], argTypes := #[26, 59, 51] }, type := 4, pos := "play.go:210", after := #[{ on := 0, ground := Ground.data }, { on := 14, ground := Ground.data }, { on := 15, ground := Ground.data }, { on := 12, ground := Ground.chain }], guard := none }) rfl (fun K hK => ?_) AllReadyH.nil
  go_simp
  refine (HTB.out _ ((Below.refl _ _).drew)).mono ?_
  rintro r w4 ⟨rfl, hS4, hX⟩
  have HX := hid hX
  clear hX
  try go_wp2_with fail
  refine hK.out _ _ hS4 (fun hHeld3 => ?_)
  clear hK K
  (try simp only [Act.put, List.setIfInBounds_toArray, List.set_cons_zero, List.set_cons_succ])
  refine wpAnyH_take (i := 17) (oi := { dst := some 4, op := Op.assign (Operand.tmp 46), type := 4, pos := "play.go:210", after := #[{ on := 16, ground := Ground.data }, { on := 16, ground := Ground.chain }, { on := 0, ground := Ground.phase }, { on := 1, ground := Ground.phase }, { on := 2, ground := Ground.phase }, { on := 3, ground := Ground.phase }, { on := 4, ground := Ground.phase }, { on := 5, ground := Ground.phase }, { on := 6, ground := Ground.phase }, { on := 7, ground := Ground.phase }, { on := 8, ground := Ground.phase }, { on := 9, ground := Ground.phase }, { on := 10, ground := Ground.phase }, { on := 11, ground := Ground.phase }, { on := 12, ground := Ground.phase }, { on := 13, ground := Ground.phase }, { on := 14, ground := Ground.phase }, { on := 15, ground := Ground.phase }, { on := 16, ground := Ground.phase }], guard := none }) (v := ?v17) rfl (by kernel_rfl) (by kernel_rfl) (by kernel_rfl) (fun _ _ _ h => h) (Or.inl ⟨by rfl, ?y17⟩) (by assumption) ?r17
  case y17 => (intro w hSw; (try dsimp only at hSw); go_simp; (try with_reducible rfl))
  (try simp only [Act.put, List.setIfInBounds_toArray, List.set_cons_zero, List.set_cons_succ])
  refine wpAnyH_done (by kernel_rfl) ?_ _
  go_wp2_with fail
  go_ret
  exact ⟨rfl, HX.out⟩
end
end Go.Proofs.YtbiggccolpchcaaGreatDoor
