/- Texts that follow one another, joined. -/
import Derived.Test.YtjfllmogiknneaaGreatDoorJoin35
/- The statement's own checks. -/
namespace Go.Proofs.YtjfllmogiknneaaGreatDoor
open Go.RowKit

theorem findG_len (K : Nat) (m l : List UInt8) : ∀ (es : List Ent) (k : Nat), (∀ e ∈ es, e.ps.length ≤ K) → (findG m l es k).2.1.length ≤ K
  | [], _, _ => by simp [findG]
  | e :: r, k, h => by
    have ih := findG_len K m l r (k + 1) (fun x hx => h x (by simp [hx]))
    rw [findG]
    split
    · split
      · rename_i fs hfs
        have h1 := matchB_len _ _ _ _ _ hfs
        have h2 := h e (by simp)
        simp at h1 ⊢; omega
      · exact ih
    · exact ih
theorem pat_len (r : Rt) : (rtBare r).ps.length ≤ 64 := by
  unfold rtBare
  cases hp : patternOf r.p.data.toList with
  | none => simp
  | some p =>
    obtain ⟨h1, -, -, h4⟩ := pat_good hp
    have h5 := (pcs_le _ r.p.data.toList (Nat.le_refl _)).1
    simp only [Option.getD_some]
    rw [h1, List.length_map]; omega
theorem pd_len (hd bd : Int) (rs : List Rt) (ws : List Wr) (m t : List UInt8) : (pdG hd bd rs ws m t).ps.length ≤ 1000 ∧ ((pdG hd bd rs ws m t).e ≠ 0 → (pdG hd bd rs ws m t).ps = []) := by
  have hz : ∀ l, (leadG m l (rs.map rtBare)).2.1.length ≤ 64 := fun l => by
    have hh : ∀ e ∈ rs.map rtBare, e.ps.length ≤ 64 := fun e he => by
      obtain ⟨r, _, rfl⟩ := List.mem_map.1 he
      exact pat_len r
    unfold leadG
    split
    · exact findG_len 64 _ _ _ _ hh
    · exact findG_len 64 _ _ _ _ hh
  unfold pdG
  split
  · unfold dspG
    split
    · simp
    · split
      · have := hz (Pm.ahead 63 t)
        exact ⟨by simp only; omega, fun h => absurd rfl h⟩
      · split
        · simp
        · split <;> simp
  · simp
set_option maxRecDepth 100000 in
set_option maxHeartbeats 2000000 in
theorem checks_any (hd bd : Int) (rs : List Rt) (ws : List Wr) (ar : Option Addr) (cr : Nat) (aw : Option Addr) (cw : Nat) (mx : Int) (w : World) (hC : CfG rs ws ar cr aw cw w) (hro : ∀ r ∈ rs, RtSm r) (hwo : ∀ x ∈ ws, x.n.size ≤ 1048576 ∧ x.v.size ≤ 1048576) (hm : w.cell? ⟨0, 0, none⟩ = some (.int .i64 mx)) :
    Calls Tryz.prog 4 #[.agg #[.int .i64 hd, .int .i64 bd, .slice ar rs.length cr, .slice aw ws.length cw]] w fun x w' => x = .returned (.bool true) ∧ Below w.heap.size w w' := by
  have hA := (Below.refl w.heap.size w).alloc (Nat.le_refl _) (.cells #[.int .i64 hd, .int .i64 bd, .slice ar rs.length cr, .slice aw ws.length cw] 27)
  have g0 : CfB w.heap.size hd bd (.slice ar rs.length cr) (.slice aw ws.length cw) (w.alloc (.cells #[.int .i64 hd, .int .i64 bd, .slice ar rs.length cr, .slice aw ws.length cw] 27)) := heap_alloc_new w _
  have HLN := hid (fun W (hW : Below w.heap.size w W) => lent_any hd bd rs ws ar cr aw cw W (hC.below hW))
  have HPC := hid (fun W (a1 a2 : Option Addr) (c1 c2 : Nat) (hW : Below w.heap.size w W) (h1 : MuAt 6 Rt.cells rs a1 W) (h2 : MuAt 4 Wr.cells ws a2 W) => check_any hd bd rs ws a1 c1 a2 c2 mx W h1 h2 (fun r hr => (hro r hr).ok) (fun x hx => by have := hwo x hx; omega) (cell_later hW hm))
  have HRC := hid (fun W (hW : Below w.heap.size w W) => rCheck_any hd bd rs ws ar cr aw cw W (hC.r.below hW) (hC.w.below hW) hro hwo)
  have HC := hid hC
  generalize cfgE hd bd rs ws = E at *
  clear hC hro hwo hm
  go_enter Tryz.func4, Tryz.ntmps4
  go_wp2_with fail
  generalize w.alloc (.cells #[.int .i64 hd, .int .i64 bd, .slice ar rs.length cr, .slice aw ws.length cw] 27) = w1 at *
  refine (HLN.out _ hA).mono ?_
  rintro x w2 ⟨a1, c1, a2, c2, rfl, L2, hb2⟩
  have hb3 := hb2.alloc hb2.size (.cells #[.int .i64 hd, .int .i64 bd, .slice a1 rs.length c1, .slice a2 ws.length c2] 27)
  have L3 := L2.below ((Below.refl _ _).alloc (Nat.le_refl _) (.cells #[.int .i64 hd, .int .i64 bd, .slice a1 rs.length c1, .slice a2 ws.length c2] 27))
  have k3 : CfB w2.heap.size hd bd (.slice a1 rs.length c1) (.slice a2 ws.length c2) (w2.alloc (.cells #[.int .i64 hd, .int .i64 bd, .slice a1 rs.length c1, .slice a2 ws.length c2] 27)) := heap_alloc_new w2 _
  have HL3 := hid L3
  clear L2 HLN L3
  go_wp2_with fail
  generalize w2.alloc (.cells #[.int .i64 hd, .int .i64 bd, .slice a1 rs.length c1, .slice a2 ws.length c2] 27) = w3 at *
  have hB3 := bel_of hA hb3
  refine (HPC.out w3 a1 a2 c1 c2 hB3 HL3.out.r.mu HL3.out.w.mu).mono ?_
  rintro x w4 ⟨rfl, hb4⟩
  have hB4 := bel_of hB3 hb4
  have hb14 := bel_of hb3 hb4
  have g4 := g0.below hb14
  have k4 := k3.below hb4
  obtain ⟨x0, x1, x2, x3⟩ := g4.cells
  have lx := g4.lt
  clear HPC
  go_wp2_with fail
  refine (HRC.out w4 hB4).mono ?_
  rintro x w5 ⟨rfl, hb5⟩
  have hb15 := bel_of hb14 hb5
  have g5 := g4.below hb5
  have k5 := k4.below hb5
  have L5 := (HL3.out.below hb4).below hb5
  obtain ⟨x0, x1, x2, x3⟩ := g5.cells
  obtain ⟨y0, y1, y2, y3⟩ := k5.cells
  have lx5 := g5.lt
  have ly5 := k5.lt
  have HWH := hid (whole_any hd bd hd bd rs ws ar cr aw cw a1 a2 c1 c2 w1 w5 (HC.out.below hA) hb15 L5)
  clear HRC g4 k4 L5
  go_wp2_with fail
  refine HWH.out.mono ?_
  rintro x w6 ⟨rfl, hb6, -⟩
  have hB6 := bel_of hA hb6
  clear HWH
  go_wp2_with (go_at_call 11; refine (Bp.fnum_any _ _).mono ?_; rintro e w7 ⟨rfl, rfl⟩)
  go_ret
  exact ⟨rfl, hB6⟩
end Go.Proofs.YtjfllmogiknneaaGreatDoor

/- The statement's own dispatches: Dispatch, again in a book. -/
namespace Go.Proofs.YtjfllmogiknneaaGreatDoor
open Go.RowKit

theorem ba_ext {a b : ByteArray} {l : List UInt8} (h1 : a.data.toList = l) (h2 : b.data.toList = l) : a = b := by
  cases a; cases b
  simp only at h1 h2
  rw [← h2] at h1
  rw [Array.toList_inj.1 h1]
theorem FnB.keep {g : Nat} {st ro : Int} {vv : Value} {al lo : ByteArray} {w w' : World} (h : FnB g st ro vv al lo w) (hk : w'.heap[g]? = w.heap[g]?) : FnB g st ro vv al lo w' := by
  unfold FnB at *; rw [hk]; exact h
set_option maxRecDepth 100000 in
set_option maxHeartbeats 4000000 in
theorem dispatches_any (bk B N0 : Nat) (vs : List Value) (V : Value) (hd bd : Int) (rs : List Rt) (ws : List Wr) (ar : Option Addr) (cr : Nat) (aw : Option Addr) (cw : Nat) (m t : ByteArray) (mx : Int) (w0 w : World) (hbk : Bp.BkAt bk B vs V w) (hvs : vs.length ≤ 8) (h4 : vs.length % 4 = 0) (hg : ∀ i (h : i < vs.length), Bp.Good bk V i vs[i] w)
    (hB : Below N0 w0 w) (n0 : N0 ≤ w.heap.size) (n1 : N0 ≤ bk) (n2 : N0 ≤ B) (n4 : B ≤ w.heap.size) (hC : CfG rs ws ar cr aw cw w) (hro : ∀ r ∈ rs, RtSm r) (hwo : ∀ x ∈ ws, x.n.size ≤ 1048576 ∧ x.v.size ≤ 1048576) (hms : m.size ≤ maxLen) (hts : t.size ≤ 1000000000000) (hm : w.cell? ⟨0, 0, none⟩ = some (.int .i64 mx)) :
    Calls Tryz.prog 5 #[.pointer (some ⟨bk, 0, none⟩), .agg #[.int .i64 hd, .int .i64 bd, .slice ar rs.length cr, .slice aw ws.length cw], .string m, .string t] w fun r w' => r = .returned (.bool true) ∧
      ∃ vs' V', vs'.length = vs.length + 4 ∧ Bp.BkAt bk B vs' V' w' ∧ (∀ i (h : i < vs'.length), Bp.Good bk V' i vs'[i] w') ∧ Below N0 w0 w' := by
  have hlk := Bp.heap_lt hbk.blk
  have hA := (Below.refl w.heap.size w).alloc (Nat.le_refl _) (.cells #[.int .i64 hd, .int .i64 bd, .slice ar rs.length cr, .slice aw ws.length cw] 27)
  have g0 : CfB w.heap.size hd bd (.slice ar rs.length cr) (.slice aw ws.length cw) (w.alloc (.cells #[.int .i64 hd, .int .i64 bd, .slice ar rs.length cr, .slice aw ws.length cw] 27)) := heap_alloc_new w _
  have HLN := hid (fun W (hW : Below w.heap.size w W) => lent_any hd bd rs ws ar cr aw cw W (hC.below hW))
  have HPD := hid (fun W (a1 a2 : Option Addr) (c1 c2 : Nat) (hW : Below w.heap.size w W) (h1 : MuAt 6 Rt.cells rs a1 W) (h2 : MuAt 4 Wr.cells ws a2 W) => pDispatch_any hd bd rs ws a1 c1 a2 c2 m t mx W h1 h2 (fun r hr => (hro r hr).ok) (fun x hx => by have := hwo x hx; omega) (cell_later hW hm) hms (by omega))
  have HRD := hid (fun W (hW : Below w.heap.size w W) => rDispatch_any hd bd rs ws ar cr aw cw m t W (hC.r.below hW) (hC.w.below hW) hro hwo hms hts)
  have HC := hid hC
  obtain ⟨fl1, fl2⟩ := pd_len hd bd rs ws m.data.toList t.data.toList
  generalize pdG hd bd rs ws m.data.toList t.data.toList = R at *
  have HBK := hid (And.intro hbk hg)
  clear hC hro hwo hm hbk hg
  go_enter Tryz.func5, Tryz.ntmps5
  go_wp2_with fail
  generalize w.alloc (.cells #[.int .i64 hd, .int .i64 bd, .slice ar rs.length cr, .slice aw ws.length cw] 27) = w1 at *
  refine (HLN.out _ hA).mono ?_
  rintro x w2 ⟨a1, c1, a2, c2, rfl, L2, hb2⟩
  have hb3 := hb2.alloc hb2.size (.cells #[.int .i64 hd, .int .i64 bd, .slice a1 rs.length c1, .slice a2 ws.length c2] 27)
  have z3 : (w2.alloc (.cells #[.int .i64 hd, .int .i64 bd, .slice a1 rs.length c1, .slice a2 ws.length c2] 27)).heap.size = w2.heap.size + 1 := by simp
  have L3 := L2.below ((Below.refl _ _).alloc (Nat.le_refl _) (.cells #[.int .i64 hd, .int .i64 bd, .slice a1 rs.length c1, .slice a2 ws.length c2] 27))
  have k3 : CfB w2.heap.size hd bd (.slice a1 rs.length c1) (.slice a2 ws.length c2) (w2.alloc (.cells #[.int .i64 hd, .int .i64 bd, .slice a1 rs.length c1, .slice a2 ws.length c2] 27)) := heap_alloc_new w2 _
  have HL3 := hid L3
  have HBL : Hid ((∀ g, a1 = some ⟨g, 0, none⟩ → g < w2.heap.size) ∧ (∀ g, a2 = some ⟨g, 0, none⟩ → g < w2.heap.size)) := ⟨fun g e => (L2.r.lt g e).2, fun g e => (L2.w.lt g e).2⟩
  clear L2 HLN L3
  go_wp2_with fail
  generalize w2.alloc (.cells #[.int .i64 hd, .int .i64 bd, .slice a1 rs.length c1, .slice a2 ws.length c2] 27) = w3 at *
  have hB3 := bel_of hA hb3
  refine (HPD.out w3 a1 a2 c1 c2 hB3 HL3.out.r.mu HL3.out.w.mu).mono ?_
  rintro x w4 ⟨⟨v4, ua, ul, rfl, hua, hul, ow4⟩, hb4⟩
  have hb14 := bel_of hb3 hb4
  have HO4 := hid ow4
  obtain ⟨a4, c4, rfl, -⟩ := pr_at ow4
  have b45 := (Below.refl w4.heap.size w4).alloc (Nat.le_refl _) (.cells #[.int .i64 R.st, .int .i64 R.ro, .slice a4 R.ps.length c4, .string ua, .string ul] 49)
  have F5 : FnB w4.heap.size R.st R.ro (.slice a4 R.ps.length c4) ua ul (w4.alloc (.cells #[.int .i64 R.st, .int .i64 R.ro, .slice a4 R.ps.length c4, .string ua, .string ul] 49)) := heap_alloc_new w4 _
  have g5 := (g0.below hb14).below b45
  have k5 := (k3.below hb4).below b45
  obtain ⟨x0, x1, x2, x3⟩ := g5.cells
  have lx5 := g5.lt
  have z4 := hb4.size
  clear HPD ow4 g0 k3
  go_wp2_with fail
  generalize w4.alloc (.cells #[.int .i64 R.st, .int .i64 R.ro, .slice a4 R.ps.length c4, .string ua, .string ul] 49) = w5 at *
  have hb15 := bel_of hb14 b45
  refine (HRD.out w5 (bel_of hA hb15)).mono ?_
  rintro x w6 ⟨⟨v6, ua6, ul6, rfl, hua6, hul6, ow6⟩, hb6⟩
  obtain rfl := ba_ext hua hua6
  obtain rfl := ba_ext hul hul6
  have HO6 := hid ow6
  obtain ⟨a6, c6, rfl, -⟩ := pr_at ow6
  have b67 := (Below.refl w6.heap.size w6).alloc (Nat.le_refl _) (.cells #[.int .i64 R.st, .int .i64 R.ro, .slice a6 R.ps.length c6, .string ua, .string ul] 49)
  have G7 : FnB w6.heap.size R.st R.ro (.slice a6 R.ps.length c6) ua ul (w6.alloc (.cells #[.int .i64 R.st, .int .i64 R.ro, .slice a6 R.ps.length c6, .string ua, .string ul] 49)) := heap_alloc_new w6 _
  have b57 := bel_of hb6 b67
  have F7 := F5.below b57
  have g7 := g5.below b57
  have k7 := k5.below b57
  have L7 := ((HL3.out.below hb4).below b45).below b57
  have o47 := owns_below (owns_below HO4.out b45) b57
  have o67 := owns_below HO6.out b67
  have hb17 := bel_of hb15 b57
  obtain ⟨x0, x1, x2, x3⟩ := g7.cells
  obtain ⟨y0, y1, y2, y3⟩ := k7.cells
  have lx7 := g7.lt
  have ly7 := k7.lt
  have z5 := b45.size
  have z6 := hb6.size
  have HWH := hid (whole_any hd bd hd bd rs ws ar cr aw cw a1 a2 c1 c2 w1 _ (HC.out.below hA) hb17 L7)
  have H7 := hid (And.intro F7 (And.intro G7 (And.intro o47 o67)))
  clear HRD ow6 F5 g5 k5 g7 k7 L7 F7 G7 o47 o67 HO4 HO6 hua6 hul6
  go_wp2_with fail
  generalize w6.alloc (.cells #[.int .i64 R.st, .int .i64 R.ro, .slice a6 R.ps.length c6, .string ua, .string ul] 49) = w7 at *
  obtain ⟨F7, G7, o47, o67⟩ := H7.out
  refine HWH.out.mono ?_
  rintro x w8 ⟨rfl, hb8, hk8⟩
  have l4 := F7.lt
  have l6 := G7.lt
  have kk : ∀ b, w2.heap.size < b → b < w7.heap.size → w8.heap[b]? = w7.heap[b]? := fun b h1 h2 => hk8.2 b h2 (fun e => by have := HBL.out.1 b e; omega) (fun e => by have := HBL.out.2 b e; omega)
  have F8 := F7.keep (kk _ (by omega) l4)
  have G8 := G7.keep (kk _ (by omega) l6)
  have o48 := keepB o47 (fun r hr => kk r (by have := own_ge o47 r hr; omega) ((Bp.owns_blk o47 r hr).2))
  have o68 := keepB o67 (fun r hr => kk r (by have := own_ge o67 r hr; omega) ((Bp.owns_blk o67 r hr).2))
  have hB8 := bel_of hA hb8
  obtain ⟨e1, e2, hv4, hf4⟩ := pr_at o48
  cases hv4
  obtain ⟨e3, e4', hv6, hf6⟩ := pr_at o68
  cases hv6
  obtain ⟨p0, p1, p2, p3, p4⟩ := F8.cells
  obtain ⟨q0, q1, q2, q3, q4⟩ := G8.cells
  have lp := F8.lt
  have lq := G8.lt
  have HSF := hid (Bp.sameFields_any R.ps a4 a6 c4 c6 w8 hf4 hf6 (by omega))
  have H8 := hid (And.intro F8 (And.intro G8 o48))
  clear HWH H7 F7 G7 o47 o67 o68 hf4 hf6 F8 G8 kk hk8 x0 x1 x2 x3 y0 y1 y2 y3 lx7 ly7
  go_wp2_with fail
  refine HSF.out.mono ?_
  rintro x w9 ⟨rfl, hb9⟩
  have hB9 := bel_of hB8 hb9
  have F9 := H8.out.1.below hb9
  have G9 := H8.out.2.1.below hb9
  have o49 := owns_base (owns_below H8.out.2.2 hb9) (show w.heap.size ≤ w3.heap.size from hB3.size)
  obtain ⟨p0, p1, p2, p3, p4⟩ := F9.cells
  obtain ⟨q0, q1, q2, q3, q4⟩ := G9.cells
  have lp9 := F9.lt
  have lq9 := G9.lt
  have hbk9 := bpAt_below HBK.out.1 hB9
  have hg9 : ∀ i (h : i < vs.length), Bp.Good bk V i vs[i] w9 ∧ ∀ r, (vs[i]).ownBlock = some r → r < w.heap.size := fun i h => ⟨Bp.good_below (HBK.out.2 i h) hB9, fun r hr => by
    obtain ⟨a, n, cap, e1, e2, e3, e4⟩ := HBK.out.2 i h
    exact (e4 r hr).1⟩
  have HK := hid (Bp.keepFields_any bk B w.heap.size N0 vs V (.slice a4 R.ps.length c4) R.ps.length _ w0 w9 hbk9 hvs o49 fl1 hlk (fun r hr => (Bp.owns_blk HBK.out.1.own r hr).2) hg9 h4 (hB.trans (hB9.mono n0)) n1 n2 n0 (Nat.le_trans n4 hB9.size) hB9.size)
  have hfn : R.ps.length = 0 ∨ R.e = 0 := by
    by_cases he : R.e = 0
    · exact .inr he
    · left; rw [fl2 he]; rfl
  clear HSF H8 hbk9 hg9 o49 HBK F9 G9 fl2 hB8 hb9 HL3 HBL HC
  by_cases hz : R.ps.length = 0
  · have HK1 := HK.out
    generalize R.ps = fs at *
    rw [hz] at HK1
    have HK2 := hid HK1
    clear HK1 hfn
    simp only [hz] at *
    go_wp2_with (go_at_call 11; refine (Bp.fnum_any _ _).mono ?_; rintro e w10 ⟨rfl, rfl⟩)
    refine HK2.out.mono ?_
    rintro e w11 ⟨rfl, vs', V', j1, j2, j3, j4⟩
    have J := hid (And.intro j2 (And.intro j3 j4))
    clear j2 j3 j4 HK HK2
    go_wp2
    go_ret
    exact ⟨rfl, vs', V', j1, J.out.1, J.out.2.1, J.out.2.2⟩
  · have he : R.e = 0 := hfn.resolve_left hz
    have he2 : (R.e == 0) = true := by rw [he]; rfl
    generalize R.ps = fs at *
    have hz2 : ((fs.length : Int) == 0) = false := by rw [beq_eq_false_iff_ne]; omega
    clear hfn
    go_wp2_with (go_at_call 11; refine (Bp.fnum_any _ _).mono ?_; rintro e w10 ⟨rfl, rfl⟩)
    refine HK.out.mono ?_
    rintro e w11 ⟨rfl, vs', V', j1, j2, j3, j4⟩
    have J := hid (And.intro j2 (And.intro j3 j4))
    clear j2 j3 j4 HK
    go_wp2
    go_ret
    exact ⟨rfl, vs', V', j1, J.out.1, J.out.2.1, J.out.2.2⟩
end Go.Proofs.YtjfllmogiknneaaGreatDoor

/- The law Dispatches: whatever the configuration, the method and the targets, it returns true. -/
namespace Go.Proofs.YtjfllmogiknneaaGreatDoor
open Go.RowKit

theorem CfB.low {g B : Nat} {hd bd : Int} {vr vw : Value} {w w' : World} (h : CfB g hd bd vr vw w) (hb : Below B w w') (hg : g < B) : CfB g hd bd vr vw w' := by
  have := hb.block g hg; unfold CfB at *; rw [this]; exact h
set_option maxRecDepth 100000 in
set_option maxHeartbeats 4000000 in
theorem dispatches_law (hd bd : Int) (rs : List Rt) (ws : List Wr) (ar : Option Addr) (cr : Nat) (aw : Option Addr) (cw : Nat) (m t u : ByteArray) (mx : Int) (w : World) (hC : CfG rs ws ar cr aw cw w) (hro : ∀ r ∈ rs, RtSm r) (hwo : ∀ x ∈ ws, x.n.size ≤ 1048576 ∧ x.v.size ≤ 1048576) (hms : m.size ≤ maxLen) (hts : t.size ≤ 1000000000000) (hus : u.size ≤ 1000000000000) (hm : w.cell? ⟨0, 0, none⟩ = some (.int .i64 mx)) :
    Calls Tryz.prog 3 #[.agg #[.int .i64 hd, .int .i64 bd, .slice ar rs.length cr, .slice aw ws.length cw], .string m, .string t, .string u] w fun e w' => e = .returned (.bool true) ∧ Below w.heap.size w w' := by
  have hA1 := (Below.refl w.heap.size w).alloc (Nat.le_refl _) (.cells #[.int .i64 hd, .int .i64 bd, .slice ar rs.length cr, .slice aw ws.length cw] 27)
  have g0 : CfB w.heap.size hd bd (.slice ar rs.length cr) (.slice aw ws.length cw) (w.alloc (.cells #[.int .i64 hd, .int .i64 bd, .slice ar rs.length cr, .slice aw ws.length cw] 27)) := heap_alloc_new w _
  have z0 : (w.alloc (.cells #[.int .i64 hd, .int .i64 bd, .slice ar rs.length cr, .slice aw ws.length cw] 27)).heap.size = w.heap.size + 1 := by simp
  have HCK := hid (fun W (hW : Below w.heap.size w W) => checks_any hd bd rs ws ar cr aw cw mx W (hC.below hW) hro hwo (cell_later hW hm))
  have HDP := hid (fun (o : ByteArray) (ho : o.size ≤ 1000000000000) bk B N0 vs V w0 W (hW : Below w.heap.size w W) h1 h2 h3 h4 h5 h6 h7 h8 h9 => dispatches_any bk B N0 vs V hd bd rs ws ar cr aw cw m o mx w0 W h1 h2 h3 h4 h5 h6 h7 h8 h9 (hC.below hW) hro hwo hms ho (cell_later hW hm))
  clear hC hro hwo hm
  go_enter Tryz.func3, Tryz.ntmps3
  go_wp2_with fail
  generalize w.alloc (.cells #[.int .i64 hd, .int .i64 bd, .slice ar rs.length cr, .slice aw ws.length cw] 27) = wa at *
  have hA := hA1.alloc hA1.size (.cells #[.slice none 0 0, .slice none 0 0, .slice none 0 0, .slice none 0 0] 34)
  have hbk : Bp.BkAt wa.heap.size (wa.heap.size + 1) [] (.slice none 0 0) (wa.alloc (.cells #[.slice none 0 0, .slice none 0 0, .slice none 0 0, .slice none 0 0] 34)) := by
    refine { blk := heap_alloc_new wa _, own := World.ownsRow_nil _ _ _ _, lt := by omega }
  have g1 := g0.below ((Below.refl _ _).alloc (Nat.le_refl _) (.cells #[.slice none 0 0, .slice none 0 0, .slice none 0 0, .slice none 0 0] 34))
  have z1 : (wa.alloc (.cells #[.slice none 0 0, .slice none 0 0, .slice none 0 0, .slice none 0 0] 34)).heap.size = wa.heap.size + 1 := by simp
  have hAB := (Below.refl wa.heap.size wa).alloc (Nat.le_refl _) (.cells #[.slice none 0 0, .slice none 0 0, .slice none 0 0, .slice none 0 0] 34)
  generalize wa.alloc (.cells #[.slice none 0 0, .slice none 0 0, .slice none 0 0, .slice none 0 0] 34) = w1 at *
  rw [z0] at hbk z1 hAB
  refine (HCK.out w1 hA).mono ?_
  rintro e w2 ⟨rfl, hb2⟩
  have b2 := bpAt_below hbk hb2
  have g2 := g1.below hb2
  have hB2 : Below (w.heap.size + 1) wa w2 := hAB.trans (hb2.mono (by omega))
  clear hbk HCK g2 g1
  have q2 := g0.low hB2 (Nat.lt_succ_self _)
  obtain ⟨c0, c1, c2, c3⟩ := q2.cells
  have l2 := q2.lt
  have s2 := Bp.heap_lt b2.blk
  have HD2 := hid (HDP.out t hts (w.heap.size + 1) (w.heap.size + 1 + 1) (w.heap.size + 1) [] _ wa w2 (hA1.trans (hB2.mono (Nat.le_succ _))) b2 (by simp) (by simp) (fun i h => absurd h (by simp)) hB2 (by omega) (Nat.le_refl _) (by omega) (by omega))
  clear b2 q2
  go_wp2_with fail
  refine HD2.out.mono ?_
  rintro e w3 ⟨rfl, vs3, V3, a3, b3, g3, hB3⟩
  clear HD2 c0 c1 c2 c3
  have q3 := g0.low hB3 (Nat.lt_succ_self _)
  obtain ⟨c0, c1, c2, c3⟩ := q3.cells
  have l3 := q3.lt
  have s3 := Bp.heap_lt b3.blk
  have HD3 := hid (HDP.out u hus (w.heap.size + 1) (w.heap.size + 1 + 1) (w.heap.size + 1) vs3 V3 wa w3 (hA1.trans (hB3.mono (Nat.le_succ _))) b3 (by simp at a3; omega) (by simp at a3; omega) (g3) hB3 (by omega) (Nat.le_refl _) (by omega) (by omega))
  clear b3 q3
  go_wp2_with fail
  refine HD3.out.mono ?_
  rintro e w4 ⟨rfl, vs4, V4, a4, b4, g4, hB4⟩
  clear HD3 c0 c1 c2 c3
  have q4 := g0.low hB4 (Nat.lt_succ_self _)
  obtain ⟨c0, c1, c2, c3⟩ := q4.cells
  have l4 := q4.lt
  have s4 := Bp.heap_lt b4.blk
  have HD4 := hid (HDP.out t hts (w.heap.size + 1) (w.heap.size + 1 + 1) (w.heap.size + 1) vs4 V4 wa w4 (hA1.trans (hB4.mono (Nat.le_succ _))) b4 (by simp at a3; omega) (by simp at a3; omega) (g4) hB4 (by omega) (Nat.le_refl _) (by omega) (by omega))
  clear b4 q4
  go_wp2_with fail
  refine HD4.out.mono ?_
  rintro e w5 ⟨rfl, vs5, V5, a5, b5, g5, hB5⟩
  clear HD4 c0 c1 c2 c3
  have HLK := hid (Bp.looks_any _ _ vs5 V5 w5 b5 (by simp at a3; omega) g5)
  have hBw := hA1.trans (hB5.mono (Nat.le_succ _))
  clear b5 g5
  go_wp2_with fail
  refine HLK.out.mono ?_
  rintro e w6 ⟨rfl, hb6⟩
  have BL := hid (bel_of hBw hb6)
  clear hb6 HLK
  go_wp2
  go_ret
  exact ⟨rfl, BL.out⟩
end Go.Proofs.YtjfllmogiknneaaGreatDoor
