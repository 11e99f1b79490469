/- Texts that follow one another, joined. -/
import Derived.Test.YtbphabgjhoifbaaGreatDoorJoin17
import Derived.Deep.RegionWith
import Derived.RegionDies
/- A ware that adds a field. -/
namespace Go.Proofs.YtbphabgjhoifbaaGreatDoor
open Go.RowKit

theorem st_one {w : World} {x : ByteArray} {g : Nat} (h : w.cell? ⟨g, 0, none⟩ = some (.string x)) : StAt [x] (some ⟨g, 0, none⟩) w := fun i hi => by
  have : i = 0 := by simp at hi; omega
  subst this
  exact ⟨g, rfl, block_lt_of_cell h, h⟩
theorem one_lt {L N : Nat} (h : L < N) : ∀ g', (some ⟨L, 0, none⟩ : Option Addr) = some ⟨g', 0, none⟩ → g' < N := fun g' e => by
  simp only [Option.some.injEq, Addr.mk.injEq, and_true] at e
  omega
theorem one_ne {vv : Value} {L : Nat} (h : vv.ownBlock ≠ some L) : ∀ g', (some ⟨L, 0, none⟩ : Option Addr) = some ⟨g', 0, none⟩ → vv.ownBlock ≠ some g' := fun g' e => by
  simp only [Option.some.injEq, Addr.mk.injEq, and_true] at e
  rw [← e]; exact h
/- fields more, of an answer that came from within -/
theorem wf_rows (a : An) (vv : Value) (n : ByteArray) (vals : List ByteArray) (va : Option Addr) (vc : Nat) (w1 W : World) (ow : W.ownsRow w1.heap.size 133 2 vv a.fs.length (prCells a.fs)) (hb : Below w1.heap.size w1 W) (hv : StAt vals va W) (hlv : ∀ g, va = some ⟨g, 0, none⟩ → g < W.heap.size) (hvb : ∀ g, va = some ⟨g, 0, none⟩ → vv.ownBlock ≠ some g) (hl : a.fs.length + vals.length ≤ 100000000) :
    Calls Tryz.prog 150 #[.agg #[.int .i64 a.st, vv, .string a.b, .bool false], .string n, .slice va vals.length vc] W fun x w' => ∃ ax cx, x = .returned (.agg #[.int .i64 a.st, .slice ax (a.fs ++ vals.map (fun v => (n, v))).length cx, .string a.b, .bool false]) ∧ w'.ownsRow w1.heap.size 133 2 (.slice ax (a.fs ++ vals.map (fun v => (n, v))).length cx) (a.fs ++ vals.map (fun v => (n, v))).length (prCells (a.fs ++ vals.map (fun v => (n, v)))) ∧ Below w1.heap.size w1 w' := by
  refine (withFields_any a.st a.fs vv a.b n false vals va vc w1.heap.size W ow hb.size hv hlv hvb hl).mono ?_
  rintro x w' ⟨⟨v', rfl, o'⟩, hb'⟩
  obtain ⟨ax, cx, rfl⟩ := sl_of o'
  exact ⟨ax, cx, rfl, o', hb.trans hb'⟩
/- what is stored at the end -/
theorem end_rows {a : An} {fs : List Prm} {ax : Option Addr} {cx : Nat} {w w1 w3 : World} (hA : Below w.heap.size w w1) (la : w.heap.size + 1 + 1 < w1.heap.size) (A1 : AnB (w.heap.size + 1 + 1) 0 (.slice none 0 0) ⟨#[]⟩ false w1) (o3 : w3.ownsRow w1.heap.size 133 2 (.slice ax fs.length cx) fs.length (prCells fs)) (hb3 : Below w1.heap.size w1 w3) :
    AnB (w.heap.size + 1 + 1) 0 (.slice none 0 0) ⟨#[]⟩ false w3 ∧ (setA (w.heap.size + 1 + 1) a.st (.slice ax fs.length cx) a.b false w3).ownsRow w.heap.size 133 2 (.slice ax fs.length cx) fs.length (prCells fs) ∧ Below w.heap.size w (setA (w.heap.size + 1 + 1) a.st (.slice ax fs.length cx) a.b false w3) :=
  ⟨A1.below hb3, owns_setA (owns_base o3 hA.size) (fun e => by have := own_ge o3 _ e; omega), below_setA (bel_of hA hb3) (by omega)⟩
set_option maxRecDepth 100000 in
set_option maxHeartbeats 8000000 in
theorem around_add (r : Rn) (x : Wr) (p1 p2 : Addr) (G : Option An) (w : World) (hk : x.k = 0) (hGl : ∀ a, G = some a → a.fs.length ≤ 50000000) (HIN : ∀ W, Below w.heap.size w W → Calls Tryz.prog 118 #[.pointer (some p1), .pointer (some p2)] W (ThPost G W)) :
    Calls Tryz.prog 117 #[.agg r.vals, .agg #[.int .i64 x.k, .string x.n, .string x.v, .int .i64 x.lim], .func (.func 118) #[] #[.pointer (some p1), .pointer (some p2)]] w (ThPost (G.map fun a => ⟨a.st, a.fs ++ [(x.n, x.v)], a.b⟩) w) := by
  obtain ⟨hA, R1, X1, A1⟩ := around_mem r x w
  have HI := hid HIN
  obtain ⟨r0, r1, r2, r3, r4, r5, r6, r7, r8⟩ := R1.cells
  obtain ⟨x0, x1, x2, x3⟩ := X1.cells
  have lr := R1.lt
  have lx := X1.lt
  clear HIN R1 X1
  obtain ⟨qm, qt, qb, fs, fa, fc, ps, pa, pc, ⟨hk', hst, ht, hn⟩⟩ := r
  obtain ⟨xk, xn, xv, xl⟩ := x
  simp only [Rn.vals] at *
  subst hk
  go_enter Tryz.func117, Tryz.ntmps117
  go_upto_region 1 with fail
  generalize ((w.alloc (.cells #[.string qm, .string qt, .slice fa fs.length fc, .string qb, .slice pa ps.length pc, .int .i64 hk', .int .i64 hst, .string ht, .string hn] 166)).alloc (.cells #[.int .i64 0, .string xn, .string xv, .int .i64 xl] 83)).alloc (.cells #[.int .i64 0, .slice none 0 0, .string ⟨#[]⟩, .bool false] 64) = w1 at *
  have la := A1.lt
  have HI1 := hid (fun W (hW : Below w1.heap.size w1 W) => HI.out W (bel_of hA hW))
  have HA1 := hid A1
  have hb1 := Below.refl w1.heap.size w1
  have hbS := hb1.alloc (Nat.le_refl _) (.cells #[.string xv] 9)
  clear HI r0 r1 r2 r3 r4 r5 r6 r7 r8
  go_upto_region 3 with fail
  cases G with
  | none =>
    go_region_dies
    all_goals go_wp2_with (first
        | (go_at_call 118; refine (HI1.out _ hb1.drew).mono ?_; rintro x wA ⟨rfl, hbA⟩; exact ⟨rfl, rfl, bel_of hA (bel_of hb1.drew hbA)⟩)
        | (go_at_call 118; refine (HI1.out _ hbS.drew).mono ?_; rintro x wA ⟨rfl, hbA⟩; exact ⟨rfl, rfl, bel_of hA (bel_of hbS.drew hbA)⟩))
  | some a =>
    have hlen := hGl a rfl
    have HW1 := hid (fun (wA : World) (vv : Value) (ow : wA.ownsRow w1.drew.heap.size 133 2 vv a.fs.length (prCells a.fs)) (hbA : Below w1.drew.heap.size w1.drew wA) => wf_rows a vv xn [xv] (some ⟨wA.heap.size, 0, none⟩) 1 w1 (wA.alloc (.cells #[.string xv] 9)) (owns_below ow ((Below.refl _ _).alloc (Nat.le_refl _) _)) (bel_of (hb1.drew) (hbA.alloc hbA.size _)) (st_one (by rw [Lib.cell_of_heap (heap_alloc_new wA _)]; rfl)) (one_lt (by simp)) (one_ne (fun e => by have := own_ltw ow _ e; omega)) (by simp; omega))
    have HW2 := hid (fun (wA : World) (vv : Value) (ow : wA.ownsRow (w1.alloc (.cells #[.string xv] 9)).drew.heap.size 133 2 vv a.fs.length (prCells a.fs)) (hbA : Below (w1.alloc (.cells #[.string xv] 9)).drew.heap.size (w1.alloc (.cells #[.string xv] 9)).drew wA) => wf_rows a vv xn [xv] (some ⟨w1.heap.size, 0, none⟩) 1 w1 wA (owns_base ow hbS.drew.size) (bel_of hbS.drew hbA) (st_one (cell_later hbA (by show (w1.alloc (.cells #[.string xv] 9)).cell? _ = _; rw [Lib.cell_of_heap (heap_alloc_new w1 _)]; rfl))) (one_lt (by have := (bel_of hbS.drew hbA).size; have := hbA.size; have e : (w1.alloc (.cells #[.string xv] 9)).drew.heap.size = w1.heap.size + 1 := (by simp); omega)) (one_ne (fun e => by have := own_ge ow _ e; have e : (w1.alloc (.cells #[.string xv] 9)).drew.heap.size = w1.heap.size + 1 := (by simp); omega)) (by simp; omega))
    have HE := hid (fun (fs : List Prm) (ax : Option Addr) (cx : Nat) (w3 : World) => end_rows (a := a) (fs := fs) (ax := ax) (cx := cx) (w3 := w3) hA la HA1.out)
    generalize hFS : a.fs ++ [xv].map (fun v => (xn, v)) = FS at *
    have hFS2 : a.fs ++ [(xn, xv)] = FS := hFS

    go_region_held3 (fun W => W.cell? ⟨w.heap.size + 1, 1, none⟩ = some (.string xn) ∧ W.cell? ⟨w.heap.size + 1, 2, none⟩ = some (.string xv)) (go_keep)
      (first
        | (go_at_call 118; refine (HI1.out _ hb1.drew).mono ?_; rintro x wA ⟨⟨vv, rfl, ow⟩, hbA⟩; have HW := hid (HW1.out wA vv ow hbA); have e1 := cell_later hbA x1; have e2 := cell_later hbA x2; obtain ⟨av, cv, rfl⟩ := sl_of ow; clear ow)
        | (go_at_call 118; refine (HI1.out _ hbS.drew).mono ?_; rintro x wA ⟨⟨vv, rfl, ow⟩, hbA⟩; have HW := hid (HW2.out wA vv ow hbA); have e1 := cell_later (bel_of hbS.drew hbA) x1; have e2 := cell_later (bel_of hbS.drew hbA) x2; obtain ⟨av, cv, rfl⟩ := sl_of ow; clear ow)
        | (go_at_call 150; refine HW.out.mono ?_; rintro x w3 ⟨ax, cx, rfl, o3, hb3⟩; obtain ⟨A3, o4, hb4⟩ := HE.out FS ax cx w3 o3 hb3; obtain ⟨c0, c1, c2, c3⟩ := A3.cells; have f0 := A3.free 0; have f1 := A3.free 1; have f2 := A3.free 2; have f3 := A3.free 3; have l3 := A3.lt; obtain ⟨d0, d1, d2, d3⟩ := (A3.set a.st (.slice ax FS.length cx) a.b false).cells; unfold setA at d0 d1 d2 d3; have HF := hid (And.intro o4 hb4); have e1 := cell_later hb3 x1; have e2 := cell_later hb3 x2; clear o3 o4))
    all_goals clear HW HW1 HW2 HE HI1 A1
    all_goals go_wp2_with fail
    all_goals
      refine bodyPost_ret (v := .agg #[.int .i64 a.st, .slice ax FS.length cx, .string a.b, .bool false]) (by simp [results, Tryz.results117, go_sem, d0, d1, d2, d3]) rfl ?_
      have h1 := HF.out.1
      have h2 := HF.out.2
      clear HF hFS
      subst hFS2
      exact ⟨⟨_, rfl, h1⟩, h2⟩
end Go.Proofs.YtbphabgjhoifbaaGreatDoor

/- A ware that copies fields. -/
namespace Go.Proofs.YtbphabgjhoifbaaGreatDoor
open Go.RowKit

theorem StAt.of_sl {w : World} {B : Nat} {e : TypeId} {a : Option Addr} {n c : Nat} {l : List ByteArray} (h : w.ownsRow B e 1 (.slice a n c) n (l.map Value.string)) : StAt l a w := by
  obtain ⟨a', c', e, hs⟩ := StAt.of_owns h
  simp only [Value.slice.injEq] at e
  rw [e.1]; exact hs
theorem sl_own {a : Option Addr} {n c g : Nat} (h : a = some ⟨g, 0, none⟩) : (Value.slice a n c).ownBlock = some g := by rw [h]; rfl
set_option maxRecDepth 100000 in
set_option maxHeartbeats 1000000 in
theorem values_own (fs : List (ByteArray × ByteArray)) (a : Option Addr) (cap : Nat) (name : ByteArray) (w : World) (hf : FlAt fs a w) (hl : fs.length ≤ 1000000) (hsz : ∀ i (h : i < fs.length), fs[i].1.size ≤ maxLen) :
    Calls Tryz.prog 88 #[.slice a fs.length cap, .string name] w fun e w' => (∃ a' c', e = .returned (.slice a' (valsOf fs name.data.toList).length c') ∧ w'.ownsRow w.heap.size 9 1 (.slice a' (valsOf fs name.data.toList).length c') (valsOf fs name.data.toList).length ((valsOf fs name.data.toList).map Value.string)) ∧ Below w.heap.size w w' := by
  obtain ⟨i0, hi, hz0, hz1, hz2⟩ := info_parts Tryz.info9
  have HF : Hid (FlAt fs a w) := hf
  have HZ : Hid (∀ i (h : i < fs.length), fs[i].1.size ≤ maxLen) := hsz
  clear hf hsz
  go_enter Tryz.func88, Tryz.ntmps88
  go_wp2
  go_loopw [5, 7, 10] (fun v _ i wr => ∃ k : Nat, k ≤ fs.length ∧ i = .int .i64 k ∧ wr.ownsRow w.heap.size 9 1 v (valsOf (fs.take k) name.data.toList).length ((valsOf (fs.take k) name.data.toList).map Value.string) ∧ Below w.heap.size w wr) (fun _ _ i _ => fs.length - (intOf i).toNat)
  case atStart => exact ⟨0, Nat.zero_le _, rfl, World.ownsRow_nil _ _ _ _, Below.refl _ _⟩
  case round =>
    obtain ⟨k, hk, rfl, hown, hbw⟩ := hrel
    by_cases hlt : k < fs.length
    · obtain ⟨g, rfl, hg, hc1, hc2⟩ := (HF.out.below hbw) k hlt
      have hsk := HZ.out k hlt
      have HV : Hid ((Pm.alike fs[k].1.data.toList name.data.toList = true → valsOf (fs.take (k + 1)) name.data.toList = valsOf (fs.take k) name.data.toList ++ [fs[k].2]) ∧ (Pm.alike fs[k].1.data.toList name.data.toList = false → valsOf (fs.take (k + 1)) name.data.toList = valsOf (fs.take k) name.data.toList)) := ⟨valsOf_yes hlt, valsOf_no hlt⟩
      have hvl := valsOf_le (fs.take k) name.data.toList
      rw [List.length_take] at hvl
      obtain ⟨f, hfk⟩ : ∃ f, f = fs[k] := ⟨_, rfl⟩
      rw [← hfk] at hc1 hc2 hsk HV
      clear hfk
      obtain ⟨nm, vl⟩ := f
      simp only at hc1 hc2 hsk HV
      cases hal : Pm.alike nm.data.toList name.data.toList
      · have HE := (show Hid _ from HV.out.2 hal)
        go_wp2_with (go_at_call 90; refine (wAlike_any _ _ _ hsk).mono ?_; rintro e w1 ⟨rfl, hb1⟩)
        have hb2 := bel_of ((Below.refl _ wr).alloc (Nat.le_refl _) _) hb1
        exact ⟨⟨k + 1, by omega, by go_num, by rw [HE.out]; exact owns_below hown hb2, hbw.trans (hb2.mono hbw.size)⟩, by simp [intOf]; omega⟩
      · have HE := (show Hid _ from HV.out.1 hal)
        go_wp2_with fail
        refine (wAlike_any _ _ _ hsk).mono ?_
        rintro e w1 ⟨rfl, hb1⟩
        rw [hal]
        have hb2 := bel_of ((Below.refl _ wr).alloc (Nat.le_refl _) _) hb1
        have hown2 := owns_below hown hb2
        have q1 := cell_later hb1 (a := ⟨wr.heap.size, 1, none⟩) (v := .string vl) (by simp)
        have hsz1 : w.heap.size ≤ w1.heap.size := Nat.le_trans hbw.size hb2.size
        clear hb1 hown hal hc1 hc2 hsk
        go_wp2_with (at_builtin; refine wpList_append_own _ rfl _ _ 31 rfl w.heap.size 9 i0 (.string ⟨#[]⟩) 1 16 Tryz.underlying31 hi hz0 hz1 hz2 rfl (by decide) _ _ _ rfl (hown2.alloc _) ⟨w1.heap.size, 0, none⟩ 1 1 [.string vl] rfl rfl ?c1 ?c2 ?c3 ?c4 ?c5 ?_)
        case c1 =>
          intro j u hj
          match j, hj with
          | 0, hj => simp at hj; subst hj; simp [Addr.add]
        case c2 => intro u hu; simp at hu; subst hu; rfl
        case c3 => unfold maxLen; omega
        case c4 => omega
        case c5 => simp; omega
        intro v' w2 hown' hgrow _
        have hb3 : Below w.heap.size w w2 := ((hbw.trans (hb2.mono hbw.size)).alloc hsz1 _).grown hgrow (by simp; omega) (own_ge hown2)
        clear hgrow
        go_wp2
        refine ⟨⟨k + 1, by omega, by go_num, ?_, hb3⟩, by simp [intOf]; omega⟩
        rw [HE.out, List.length_append, List.map_append]
        exact hown'
    · have HT : Hid (fs.take k = fs) := List.take_of_length_le (by omega)
      rw [HT.out] at hown
      obtain ⟨a', c', rfl, -⟩ := StAt.of_owns hown
      go_wp2
      go_ret
      exact ⟨⟨a', c', rfl, hown⟩, hbw⟩
set_option maxRecDepth 100000 in
set_option maxHeartbeats 8000000 in
theorem around_copy (r : Rn) (x : Wr) (p1 p2 : Addr) (G : Option An) (w : World) (hk : x.k = 4) (hr : RnAt r w) (hGl : ∀ a, G = some a → a.fs.length ≤ 50000000) (HIN : ∀ W, Below w.heap.size w W → Calls Tryz.prog 118 #[.pointer (some p1), .pointer (some p2)] W (ThPost G W)) :
    Calls Tryz.prog 117 #[.agg r.vals, .agg #[.int .i64 x.k, .string x.n, .string x.v, .int .i64 x.lim], .func (.func 118) #[] #[.pointer (some p1), .pointer (some p2)]] w (ThPost (G.map fun a => ⟨a.st, a.fs ++ (valsOf r.fs x.n.data.toList).map (fun v => (x.n, v)), a.b⟩) w) := by
  obtain ⟨hA, R1, X1, A1⟩ := around_mem r x w
  have HI := hid HIN
  have hvl : (valsOf r.fs x.n.data.toList).length ≤ 1000000 := Nat.le_trans (valsOf_le _ _) hr.nf
  have HV := hid (fun W (hW : Below w.heap.size w W) => values_own r.fs r.fa r.fc x.n W (hr.f.below hW) hr.nf hr.zf)
  obtain ⟨r0, r1, r2, r3, r4, r5, r6, r7, r8⟩ := R1.cells
  obtain ⟨x0, x1, x2, x3⟩ := X1.cells
  have lr := R1.lt
  have lx := X1.lt
  clear HIN R1 X1 hr
  obtain ⟨qm, qt, qb, fs, fa, fc, ps, pa, pc, ⟨hk', hst, ht, hn⟩⟩ := r
  obtain ⟨xk, xn, xv, xl⟩ := x
  simp only [Rn.vals] at *
  subst hk
  go_enter Tryz.func117, Tryz.ntmps117
  go_upto_region 1 with fail
  generalize ((w.alloc (.cells #[.string qm, .string qt, .slice fa fs.length fc, .string qb, .slice pa ps.length pc, .int .i64 hk', .int .i64 hst, .string ht, .string hn] 166)).alloc (.cells #[.int .i64 4, .string xn, .string xv, .int .i64 xl] 83)).alloc (.cells #[.int .i64 0, .slice none 0 0, .string ⟨#[]⟩, .bool false] 64) = w1 at *
  have la := A1.lt
  have HI1 := hid (fun W (hW : Below w1.heap.size w1 W) => HI.out W (bel_of hA hW))
  have HV1 := hid (fun W (hW : Below w1.heap.size w1 W) => HV.out W (bel_of hA hW))
  have HA1 := hid A1
  have hb1 := Below.refl w1.heap.size w1
  generalize hVS : valsOf fs xn.data.toList = vals at *
  have HVS := hid hVS
  clear HI HV r0 r1 r3 r4 r5 r6 r7 r8 hVS
  go_upto_region 13 with fail
  cases G with
  | none =>
    go_region_dies
    all_goals go_wp2_with (go_at_call 118; refine (HI1.out _ hb1.drew).mono ?_; rintro x wA ⟨rfl, hbA⟩; exact ⟨rfl, rfl, bel_of hA (bel_of hb1.drew hbA)⟩)
  | some a =>
    have hlen := hGl a rfl
    have ne0 : w.heap.size ≠ w.heap.size + 1 + 1 := by omega
    have ne1 : w.heap.size + 1 ≠ w.heap.size + 1 + 1 := by omega
    have HW1 := hid (fun (wA wB : World) (vv : Value) (va : Option Addr) (vc : Nat) (ow : wA.ownsRow w1.drew.heap.size 133 2 vv a.fs.length (prCells a.fs)) (hbA : Below w1.drew.heap.size w1.drew wA) (ov : wB.ownsRow wA.heap.size 9 1 (.slice va vals.length vc) vals.length (vals.map Value.string)) (hbB : Below wA.heap.size wA wB) => wf_rows a vv xn vals va vc w1 wB (owns_below ow hbB) (bel_of (bel_of hb1.drew hbA) hbB) (StAt.of_sl ov) (fun g e => own_ltw ov g (sl_own e)) (fun g e e2 => by have := own_ltw ow _ e2; have := own_ge ov g (sl_own e); omega) (by omega))
    have HKP : Hid (∀ (w3 w4 : World), (∃ vv, w4 = setA (w.heap.size + 1 + 1) a.st vv a.b false w3) → Below w1.heap.size w1 w3 → w4.cell? ⟨w.heap.size, 2, none⟩ = some (.slice fa fs.length fc) ∧ w4.cell? ⟨w.heap.size + 1, 1, none⟩ = some (.string xn)) := by
      rintro w3 w4 ⟨vv, rfl⟩ hb
      exact ⟨(cell_setA ne0).trans (cell_later hb r2), (cell_setA ne1).trans (cell_later hb x1)⟩
    have HE := hid (fun (fs : List Prm) (ax : Option Addr) (cx : Nat) (w3 : World) => end_rows (a := a) (fs := fs) (ax := ax) (cx := cx) (w3 := w3) hA la HA1.out)
    generalize hFS : a.fs ++ vals.map (fun v => (xn, v)) = FS at *
    go_region_held3 (fun W => W.cell? ⟨w.heap.size, 2, none⟩ = some (.slice fa fs.length fc) ∧ W.cell? ⟨w.heap.size + 1, 1, none⟩ = some (.string xn)) (first | exact HKEEP.out | exact ⟨HKEEP.out.1, HKEEP.out.2⟩ | go_keep)
      (first
        | (go_at_call 118; refine (HI1.out _ hb1.drew).mono ?_; rintro x wA ⟨⟨vv, rfl, ow⟩, hbA⟩; have e1 := cell_later hbA x1; have e2 := cell_later hbA r2; obtain ⟨av, cv, rfl⟩ := sl_of ow; have HWA := hid (And.intro ow hbA); have HB := hid (bel_of hb1.drew hbA); clear ow)
        | (go_at_call 88; refine (HV1.out _ HB.out).mono ?_; rintro x wB ⟨⟨va, vc, rfl, ov⟩, hbB⟩; have e1 := cell_later (bel_of HB.out hbB) x1; have e2 := cell_later (bel_of HB.out hbB) r2; have HW := hid (HW1.out _ wB _ va vc HWA.out.1 HWA.out.2 ov hbB); clear ov)
        | (go_at_call 150; refine HW.out.mono ?_; rintro x w3 ⟨ax, cx, rfl, o3, hb3⟩; obtain ⟨A3, o4, hb4⟩ := HE.out FS ax cx w3 o3 hb3; obtain ⟨c0, c1, c2, c3⟩ := A3.cells; have f0 := A3.free 0; have f1 := A3.free 1; have f2 := A3.free 2; have f3 := A3.free 3; have l3 := A3.lt; obtain ⟨d0, d1, d2, d3⟩ := (A3.set a.st (.slice ax FS.length cx) a.b false).cells; unfold setA at d0 d1 d2 d3; have HF := hid (And.intro o4 hb4); have e1 := cell_later hb3 x1; have e2 := cell_later hb3 r2; have HKEEP := hid (HKP.out w3 (setA (w.heap.size + 1 + 1) a.st (.slice ax FS.length cx) a.b false w3) ⟨_, rfl⟩ hb3); unfold setA at HKEEP; clear o3 o4))
    all_goals clear HW HW1 HE HKP HI1 HV1 A1
    all_goals go_wp2_with fail
    all_goals
      refine bodyPost_ret (v := .agg #[.int .i64 a.st, .slice ax FS.length cx, .string a.b, .bool false]) (by simp [results, Tryz.results117, go_sem, d0, d1, d2, d3]) rfl ?_
      have h1 := HF.out.1
      have h2 := HF.out.2
      clear HF
      have hvs := HVS.out
      clear HVS
      subst hFS
      subst hvs
      exact ⟨⟨_, rfl, h1⟩, h2⟩
end Go.Proofs.YtbphabgjhoifbaaGreatDoor

/- A ware that guards. -/
namespace Go.Proofs.YtbphabgjhoifbaaGreatDoor
open Go.RowKit

set_option maxRecDepth 100000 in
set_option maxHeartbeats 8000000 in
theorem around_guard (r : Rn) (x : Wr) (p1 p2 : Addr) (G : Option An) (w : World) (hk : x.k = 1) (hr : RnAt r w) (HIN : ∀ W, Below w.heap.size w W → Calls Tryz.prog 118 #[.pointer (some p1), .pointer (some p2)] W (ThPost G W)) :
    Calls Tryz.prog 117 #[.agg r.vals, .agg #[.int .i64 x.k, .string x.n, .string x.v, .int .i64 x.lim], .func (.func 118) #[] #[.pointer (some p1), .pointer (some p2)]] w (ThPost (if x.v.data.toList ∈ (valsOf r.fs x.n.data.toList).map (fun b => b.data.toList) then G else some ⟨403, [], ⟨#[]⟩⟩) w) := by
  obtain ⟨hA, R1, X1, A1⟩ := around_mem r x w
  have HI := hid HIN
  have hvl : (valsOf r.fs x.n.data.toList).length ≤ 1000000 := Nat.le_trans (valsOf_le _ _) hr.nf
  have HV := hid (fun W (hW : Below w.heap.size w W) => values_any r.fs r.fa r.fc x.n W (hr.f.below hW) hr.nf hr.zf)
  generalize hGG : (if x.v.data.toList ∈ (valsOf r.fs x.n.data.toList).map (fun b => b.data.toList) then G else some ⟨403, [], ⟨#[]⟩⟩) = GG at *
  obtain ⟨r0, r1, r2, r3, r4, r5, r6, r7, r8⟩ := R1.cells
  obtain ⟨x0, x1, x2, x3⟩ := X1.cells
  have lr := R1.lt
  have lx := X1.lt
  clear HIN R1 X1 hr
  obtain ⟨qm, qt, qb, fs, fa, fc, ps, pa, pc, ⟨hk', hst, ht, hn⟩⟩ := r
  obtain ⟨xk, xn, xv, xl⟩ := x
  simp only [Rn.vals] at *
  subst hk
  go_enter Tryz.func117, Tryz.ntmps117
  go_upto_region 1 with fail
  generalize ((w.alloc (.cells #[.string qm, .string qt, .slice fa fs.length fc, .string qb, .slice pa ps.length pc, .int .i64 hk', .int .i64 hst, .string ht, .string hn] 166)).alloc (.cells #[.int .i64 1, .string xn, .string xv, .int .i64 xl] 83)).alloc (.cells #[.int .i64 0, .slice none 0 0, .string ⟨#[]⟩, .bool false] 64) = w1 at *
  have la := A1.lt
  have HV1 := hid (fun W (hW : Below w1.heap.size w1 W) => HV.out W (bel_of hA hW))
  have HI1 := hid (fun W (hW : Below w1.heap.size w1 W) => HI.out W (bel_of hA hW))
  have HA1 := hid A1
  have hb1 := Below.refl w1.heap.size w1
  generalize hVS : valsOf fs xn.data.toList = vals at *
  clear HI HV r0 r1 r3 r4 r5 r6 r7 r8 hVS A1
  go_upto_region 5 with fail
  by_cases hm : xv.data.toList ∈ vals.map (fun b => b.data.toList)
  · rw [if_pos hm] at hGG
    subst hGG
    have HC := hid (fun (l : Option Addr) (c : Nat) (W : World) (h : StAt vals l W) => contains_st vals l c xv W h hvl)
    rw [decide_eq_true hm] at HC
    clear hm
    go_region_held3 (fun W => W.cell? ⟨w.heap.size, 2, none⟩ = some (.slice fa fs.length fc) ∧ W.cell? ⟨w.heap.size + 1, 1, none⟩ = some (.string xn) ∧ W.cell? ⟨w.heap.size + 1, 2, none⟩ = some (.string xv)) (go_keep)
      (first
        | (go_at_call 88; refine (HV1.out _ hb1.drew).mono ?_; rintro x wB ⟨⟨va, vc, rfl, ov⟩, hbB⟩; have e1 := cell_later hbB x1; have e2 := cell_later hbB x2; have e3 := cell_later hbB r2; have HB := hid (bel_of hb1.drew hbB); have HQ := hid (HC.out va vc wB ov); clear ov)
        | (go_at_call 113; refine HQ.out.mono ?_; rintro x w3 ⟨rfl, rfl⟩))
    have HEND := hid (HI1.out _ HB.out)
    have A1 := HA1.out.below HB.out
    have hAB := bel_of hA HB.out
    have lw := HB.out.size
    clear HI1 HV1 HC HQ HA1
    go_wp2_with fail
    refine HEND.out.mono ?_
    cases G with
    | none =>
      rintro x w2 ⟨rfl, hb2⟩
      exact ⟨rfl, rfl, bel_of hAB hb2⟩
    | some a =>
      rintro x w2 ⟨⟨vv, rfl, ow⟩, hb2⟩
      have A2 := A1.below hb2
      have hB2 := bel_of hAB hb2
      have hno : vv.ownBlock ≠ some (w.heap.size + 1 + 1) := fun e => by have := own_ge ow _ e; omega
      have HO := hid (owns_base ow hAB.size)
      obtain ⟨ax, cx, rfl⟩ := sl_of ow
      obtain ⟨c0, c1, c2, c3⟩ := A2.cells
      have f0 := A2.free 0
      have f1 := A2.free 1
      have f2 := A2.free 2
      have f3 := A2.free 3
      have l2 := A2.lt
      obtain ⟨d0, d1, d2, d3⟩ := (A2.set a.st (.slice ax a.fs.length cx) a.b false).cells
      have HF : Hid ((setA (w.heap.size + 1 + 1) a.st (.slice ax a.fs.length cx) a.b false w2).ownsRow w.heap.size 133 2 (.slice ax a.fs.length cx) a.fs.length (prCells a.fs) ∧ Below w.heap.size w (setA (w.heap.size + 1 + 1) a.st (.slice ax a.fs.length cx) a.b false w2)) := ⟨owns_setA HO.out hno, below_setA hB2 (by omega)⟩
      unfold setA at d0 d1 d2 d3
      clear ow HO A1
      go_wp2_with fail
      refine bodyPost_ret (v := .agg #[.int .i64 a.st, .slice ax a.fs.length cx, .string a.b, .bool false]) (by simp [results, Tryz.results117, go_sem, d0, d1, d2, d3]) rfl ?_
      exact ⟨⟨_, rfl, HF.out.1⟩, HF.out.2⟩
  · rw [if_neg hm] at hGG
    subst hGG
    have HC := hid (fun (l : Option Addr) (c : Nat) (W : World) (h : StAt vals l W) => contains_st vals l c xv W h hvl)
    rw [decide_eq_false hm] at HC
    clear hm
    go_region_held3 (fun W => W.cell? ⟨w.heap.size, 2, none⟩ = some (.slice fa fs.length fc) ∧ W.cell? ⟨w.heap.size + 1, 1, none⟩ = some (.string xn) ∧ W.cell? ⟨w.heap.size + 1, 2, none⟩ = some (.string xv)) (go_keep)
      (first
        | (go_at_call 88; refine (HV1.out _ hb1.drew).mono ?_; rintro x wB ⟨⟨va, vc, rfl, ov⟩, hbB⟩; have e1 := cell_later hbB x1; have e2 := cell_later hbB x2; have e3 := cell_later hbB r2; have HB := hid (bel_of hb1.drew hbB); have HQ := hid (HC.out va vc wB ov); clear ov)
        | (go_at_call 113; refine HQ.out.mono ?_; rintro x w3 ⟨rfl, rfl⟩))
    have A1 := HA1.out.below HB.out
    have hAB := bel_of hA HB.out
    obtain ⟨c0, c1, c2, c3⟩ := A1.cells
    have f0 := A1.free 0
    have f1 := A1.free 1
    have f2 := A1.free 2
    have f3 := A1.free 3
    have l2 := A1.lt
    obtain ⟨d0, d1, d2, d3⟩ := (A1.set 403 (.slice none 0 0) ⟨#[]⟩ false).cells
    unfold setA at d0 d1 d2 d3
    clear HI1 HV1 HC HQ HA1
    go_wp2_with fail
    refine bodyPost_ret (v := .agg #[.int .i64 403, .slice none 0 0, .string ⟨#[]⟩, .bool false]) (by simp [results, Tryz.results117, go_sem, d0, d1, d2, d3]) rfl ?_
    exact ⟨⟨_, rfl, World.ownsRow_nil _ _ _ _⟩, below_setA hAB (by omega)⟩
end Go.Proofs.YtbphabgjhoifbaaGreatDoor

/- Through the wares. -/
namespace Go.Proofs.YtbphabgjhoifbaaGreatDoor
open Go.RowKit

theorem around_any (r : Rn) (x : Wr) (p1 p2 : Addr) (G : Option An) (w : World) (hr : RnAt r w) (hGl : ∀ a, G = some a → a.fs.length ≤ 50000000) (HIN : ∀ W, Below w.heap.size w W → Calls Tryz.prog 118 #[.pointer (some p1), .pointer (some p2)] W (ThPost G W)) :
    Calls Tryz.prog 117 #[.agg r.vals, .agg #[.int .i64 x.k, .string x.n, .string x.v, .int .i64 x.lim], .func (.func 118) #[] #[.pointer (some p1), .pointer (some p2)]] w (ThPost (wareG x r.fs r.qb G) w) := by
  by_cases k0 : x.k = 0
  · have e : wareG x r.fs r.qb G = G.map fun a => ⟨a.st, a.fs ++ [(x.n, x.v)], a.b⟩ := by unfold wareG; rw [if_pos k0]
    rw [e]; exact around_add r x p1 p2 G w k0 hGl HIN
  by_cases k1 : x.k = 1
  · have e : wareG x r.fs r.qb G = if x.v.data.toList ∈ (valsOf r.fs x.n.data.toList).map (fun b => b.data.toList) then G else some ⟨403, [], ⟨#[]⟩⟩ := by unfold wareG; rw [if_neg k0, if_pos k1]
    rw [e]; exact around_guard r x p1 p2 G w k1 hr HIN
  by_cases k2 : x.k = 2
  · exact around_plain r x p1 p2 G w (.inl k2) HIN
  by_cases k3 : x.k = 3
  · exact around_plain r x p1 p2 G w (.inr (.inl k3)) HIN
  by_cases k4 : x.k = 4
  · have e : wareG x r.fs r.qb G = G.map fun a => ⟨a.st, a.fs ++ (valsOf r.fs x.n.data.toList).map (fun v => (x.n, v)), a.b⟩ := by unfold wareG; rw [if_neg k0, if_neg k1, if_neg k2, if_neg k3, if_pos k4]
    rw [e]; exact around_copy r x p1 p2 G w k4 hr hGl HIN
  exact around_plain r x p1 p2 G w (.inr (.inr ⟨k0, k1, k2, k3, k4⟩)) HIN
theorem handG_le {h : Hn} {qb : ByteArray} {ps : List Prm} {a : An} (e : handG h qb ps = some a) : a.fs.length ≤ 1 := by
  unfold handG at e
  split at e
  · cases e; simp
  split at e
  · cases e; simp
  split at e
  · cases e; simp
  split at e
  · cases e; simp
  · cases e
theorem wareG_le {x : Wr} {qf : List Prm} {qb : ByteArray} {G : Option An} {N : Nat} (h : ∀ a, G = some a → a.fs.length ≤ N) {a : An} (e : wareG x qf qb G = some a) : a.fs.length ≤ N + (qf.length + 1) := by
  unfold wareG at e
  split at e
  · obtain ⟨b, hb, rfl⟩ := Option.map_eq_some_iff.1 e
    have := h b hb
    simp; omega
  split at e
  · split at e
    · have := h a e; omega
    · cases e; simp
  split at e
  · split at e
    · cases e; simp
    · have := h a e; omega
  split at e
  · cases G with
    | none => cases e; simp
    | some b => have := h a e; omega
  split at e
  · obtain ⟨b, hb, rfl⟩ := Option.map_eq_some_iff.1 e
    have := h b hb
    have := valsOf_le qf x.n.data.toList
    simp; omega
  · have := h a e; omega
theorem thrG_le (qf : List Prm) (qb : ByteArray) (h : Hn) (ps : List Prm) : ∀ (ws : List Wr) (a : An), thrG qf qb h ps ws = some a → a.fs.length ≤ 1 + ws.length * (qf.length + 1)
  | [], a, e => by have := handG_le e; simp; omega
  | x :: r, a, e => by
    have := wareG_le (thrG_le qf qb h ps r) e
    rw [List.length_cons, Nat.add_mul]; omega
end Go.Proofs.YtbphabgjhoifbaaGreatDoor

/- How great an answer can be. -/
namespace Go.Proofs.YtbphabgjhoifbaaGreatDoor
open Go.RowKit

def SmA (K : Nat) (a : An) : Prop := a.b.size ≤ K ∧ ∀ p ∈ a.fs, p.1.size ≤ K ∧ p.2.size ≤ K
theorem st_small {K : Nat} (n : List UInt8) : ∀ ps : List Prm, (∀ p ∈ ps, p.2.size ≤ K) → (stG n ps).size ≤ K
  | [], _ => Nat.zero_le K
  | p :: r, h => by
    rw [stG]
    split
    · exact h p (by simp)
    · exact st_small n r (fun q hq => h q (by simp [hq]))
theorem hand_small {K : Nat} {h : Hn} {qb : ByteArray} {ps : List Prm} {a : An} (ht : h.t.size ≤ K) (hq : qb.size ≤ K) (hp : ∀ p ∈ ps, p.2.size ≤ K) (e : handG h qb ps = some a) : SmA K a := by
  have hs := st_small h.n.data.toList ps hp
  unfold handG at e
  split at e
  · cases e; exact ⟨ht, by simp⟩
  split at e
  · cases e; exact ⟨hq, by simp⟩
  split at e
  · cases e; exact ⟨hs, by simp⟩
  split at e
  · cases e
    refine ⟨Nat.zero_le _, fun p hp => ?_⟩
    simp only [List.mem_singleton] at hp
    subst hp
    exact ⟨ht, hs⟩
  · cases e
theorem none_small (K : Nat) (st : Int) : SmA K ⟨st, [], ⟨#[]⟩⟩ := ⟨Nat.zero_le _, by simp⟩
theorem vals_in {qf : List Prm} {n : List UInt8} {v : ByteArray} (h : v ∈ valsOf qf n) : ∃ p ∈ qf, p.2 = v := by
  unfold valsOf at h
  obtain ⟨p, hp, rfl⟩ := List.mem_map.1 h
  exact ⟨p, (List.mem_filter.1 hp).1, rfl⟩
theorem ware_small {K : Nat} {x : Wr} {qf : List Prm} {qb : ByteArray} {G : Option An} (h5 : 5 ≤ K) (hx : x.n.size ≤ K ∧ x.v.size ≤ K) (hf : ∀ p ∈ qf, p.2.size ≤ K) (h : ∀ a, G = some a → SmA K a) {a : An} (e : wareG x qf qb G = some a) : SmA K a := by
  unfold wareG at e
  split at e
  · obtain ⟨b, hb, rfl⟩ := Option.map_eq_some_iff.1 e
    refine ⟨(h b hb).1, fun p hp => ?_⟩
    rcases List.mem_append.1 hp with hp | hp
    · exact (h b hb).2 p hp
    · simp only [List.mem_singleton] at hp; subst hp; exact hx
  split at e
  · split at e
    · exact h a e
    · cases e; exact none_small K _
  split at e
  · split at e
    · cases e; exact none_small K _
    · exact h a e
  split at e
  · cases G with
    | none => cases e; exact ⟨h5, by simp⟩
    | some b => exact h a e
  split at e
  · obtain ⟨b, hb, rfl⟩ := Option.map_eq_some_iff.1 e
    refine ⟨(h b hb).1, fun p hp => ?_⟩
    rcases List.mem_append.1 hp with hp | hp
    · exact (h b hb).2 p hp
    · obtain ⟨v, hv, rfl⟩ := List.mem_map.1 hp
      obtain ⟨q, hq, rfl⟩ := vals_in hv
      exact ⟨hx.1, hf q hq⟩
  · exact h a e
theorem thr_small {K : Nat} {qf : List Prm} {qb : ByteArray} {h : Hn} {ps : List Prm} (h5 : 5 ≤ K) (hf : ∀ p ∈ qf, p.2.size ≤ K) (ht : h.t.size ≤ K) (hq : qb.size ≤ K) (hp : ∀ p ∈ ps, p.2.size ≤ K) : ∀ (ws : List Wr) (a : An), (∀ x ∈ ws, x.n.size ≤ K ∧ x.v.size ≤ K) → thrG qf qb h ps ws = some a → SmA K a
  | [], a, _, e => hand_small ht hq hp e
  | x :: r, a, hw, e => ware_small h5 (hw x (by simp)) hf (fun b hb => thr_small h5 hf ht hq hp r b (fun y hy => hw y (by simp [hy])) hb) e
theorem unesc_le : ∀ (n : Nat) (l o : List UInt8), l.length ≤ n → Pm.unesc l = some o → o.length ≤ l.length
  | 0, l, o, hl, h => by
    have : l = [] := List.eq_nil_of_length_eq_zero (by omega)
    subst this
    simp [Pm.unesc] at h; simp [← h]
  | n + 1, [], o, _, h => by simp [Pm.unesc] at h; simp [← h]
  | n + 1, c :: r, o, hl, h => by
    by_cases hc : c = 37
    · subst hc
      match r, hl, h with
      | [], _, h => rw [Pm.unesc_short [] (by simp)] at h; simp at h
      | [a], _, h => rw [Pm.unesc_short [a] (by simp)] at h; simp at h
      | a :: b :: r, hl, h =>
        rw [Pm.unesc, if_pos rfl] at h
        split at h
        · obtain ⟨y, hy, rfl⟩ := Option.map_eq_some_iff.1 h
          have := unesc_le n r y (by simp at hl; omega) hy
          simp; omega
        · simp at h
    · rw [Pm.unesc_plain c r hc] at h
      obtain ⟨y, hy, rfl⟩ := Option.map_eq_some_iff.1 h
      have := unesc_le n r y (by simp at hl; omega) hy
      simp; omega
theorem unT_le (l : List UInt8) : (Pm.unT l).size ≤ l.length := by
  unfold Pm.unT
  cases h : Pm.unesc l with
  | none => exact Nat.zero_le _
  | some o =>
    have := unesc_le l.length l o (Nat.le_refl _) h
    show o.toArray.size ≤ l.length
    simpa using this
theorem match_small (K : Nat) : ∀ (ps : List (Int × ByteArray)) (l : List UInt8) (mr : Bool) (acc fs : List Prm), l.length ≤ K → (∀ p ∈ acc, p.2.size ≤ K) → matchB ps l mr acc = some fs → ∀ p ∈ fs, p.2.size ≤ K
  | [], l, mr, acc, fs, _, ha, h => by
    rw [matchB] at h
    split at h
    · simp at h
    · cases h; exact ha
  | q :: r, l, mr, acc, fs, hl, ha, h => by
    rw [matchB] at h
    split at h
    · simp at h
    split at h
    · have hraw : (rawOf q.1 l).length ≤ l.length := by
        unfold rawOf; split
        · exact Nat.le_refl _
        · exact (ahead_le 47 l).1
      have hleft : (leftOf q.1 l).length ≤ l.length := by
        unfold leftOf; split
        · exact Nat.le_refl _
        · exact (ahead_le 47 l).2
      refine match_small K r _ _ _ fs (by omega) (fun p hp => ?_) h
      split at hp
      · exact ha p hp
      · rcases List.mem_append.1 hp with hp | hp
        · exact ha p hp
        · simp only [List.mem_singleton] at hp
          subst hp
          have := unT_le (rawOf q.1 l)
          simp only; omega
    · simp at h
theorem find_small (K : Nat) (m l : List UInt8) (hl : l.length ≤ K) : ∀ (es : List Ent) (k : Nat), ∀ p ∈ (findG m l es k).2.1, p.2.size ≤ K
  | [], _ => by simp [findG]
  | e :: r, k => by
    rw [findG]
    split
    · split
      · rename_i fs hfs
        exact match_small K _ _ _ _ fs (by simp; omega) (by simp) hfs
      · exact find_small K m l hl r (k + 1)
    · exact find_small K m l hl r (k + 1)
theorem dsp_small (K : Nat) (m t : List UInt8) (es : List Ent) (ht : t.length ≤ K) : ∀ p ∈ (dspG m t es).ps, p.2.size ≤ K := by
  have hh := (ahead_le 63 t).1
  have hz : ∀ p ∈ (leadG m (Pm.ahead 63 t) es).2.1, p.2.size ≤ K := by
    unfold leadG
    split
    · exact find_small K _ _ (by omega) _ _
    · exact find_small K _ _ (by omega) _ _
  unfold dspG
  split
  · simp
  split
  · exact hz
  split
  · simp
  · split <;> simp
theorem aro_le (qf : List Prm) (G : Option An) (N : Nat) (h : ∀ a, G = some a → a.fs.length ≤ N) : ∀ (ws : List Wr) (a : An), aroG qf G ws = some a → a.fs.length ≤ N + ws.length * (qf.length + 1)
  | [], a, e => by have := h a e; simpa using this
  | x :: r, a, e => by
    have ih := aro_le qf G N h r
    rw [aroG] at e
    rw [List.length_cons, Nat.add_mul]
    generalize aroG qf G r = H at *
    have hv := valsOf_le qf x.n.data.toList
    unfold stepG at e
    split at e
    · obtain ⟨b, hb, rfl⟩ := Option.map_eq_some_iff.1 e
      have := ih b hb
      simp; omega
    split at e
    · cases H with
      | none => cases e; simp
      | some b => have := ih a e; omega
    split at e
    · obtain ⟨b, hb, rfl⟩ := Option.map_eq_some_iff.1 e
      have := ih b hb
      simp; omega
    · have := ih a e; omega
end Go.Proofs.YtbphabgjhoifbaaGreatDoor
