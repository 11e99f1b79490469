/- Texts that follow one another, joined. -/
import Derived.Test.YtbphabgjhoifbaaGreatDoorJoin15
import Derived.Deep.RegionHeld3
/- A request that asks to close. -/
namespace Go.Proofs.YtbphabgjhoifbaaGreatDoor
open Go.RowKit

def closeB : ByteArray := ⟨#[99, 108, 111, 115, 101]⟩
set_option maxHeartbeats 2000000 in
theorem closes_any (x : ByteArray) (w : World) (hx : x.size ≤ maxLen) :
    Calls Tryz.prog 89 #[.string x] w fun e w' => e = .returned (.bool (Pm.alike x.data.toList closeB.data.toList)) ∧ Below w.heap.size w w' := by
  have HC := hid (wAlike_any x closeB w hx)
  unfold closeB at HC
  unfold closeB
  generalize Pm.alike x.data.toList (ByteArray.mk #[99, 108, 111, 115, 101]).data.toList = B at *
  go_enter Tryz.func89, Tryz.ntmps89
  go_wp2_with (go_at_call 90; refine HC.out.mono ?_; rintro e w1 ⟨rfl, hb1⟩)
  go_ret
  exact ⟨rfl, hb1⟩
end Go.Proofs.YtbphabgjhoifbaaGreatDoor

/- Whether a request asks to close. -/
namespace Go.Proofs.YtbphabgjhoifbaaGreatDoor
open Go.RowKit

set_option maxRecDepth 100000 in
set_option maxHeartbeats 2000000 in
theorem index_str (l : List ByteArray) (a : Option Addr) (c : Nat) (p : ByteArray → Bool) (w : World) (h : StAt l a w) (hl : l.length ≤ 1000000) (HP : ∀ W i (hi : i < l.length), Below w.heap.size w W → Calls Tryz.prog 89 #[.string l[i]] W fun e w' => e = .returned (.bool (p l[i])) ∧ Below W.heap.size W w') :
    Calls Tryz.prog 120 #[.slice a l.length c, .func (.func 89) #[] #[]] w fun e w' => (∃ k : Int, e = .returned (.int .i64 k) ∧ decide (0 ≤ k) = l.any p ∧ -1 ≤ k ∧ k ≤ 1000000) ∧ Below w.heap.size w w' := by
  have HS := hid h
  have HPP := hid HP
  have HD := hid (show (l.drop 0).any p = l.any p by rw [List.drop_zero])
  clear h HP
  go_enter Tryz.func120, Tryz.ntmps120
  go_wp2_with fail
  go_loopw [8] (fun i wr => ∃ k : Nat, k ≤ l.length ∧ i = .int .i64 k ∧ Hid ((l.drop k).any p = l.any p) ∧ Below w.heap.size w wr) (fun i _ => l.length - (intOf i).toNat)
  case atStart => exact ⟨0, Nat.zero_le _, rfl, HD, Below.refl _ _⟩
  case round =>
    obtain ⟨k, hk, rfl, HK, hbw⟩ := hrel
    by_cases hlt : k < l.length
    · obtain ⟨g, rfl, hg, hc⟩ := (HS.out.below hbw) k hlt
      have HC := hid (HPP.out wr k hlt hbw)
      have hs := HK.out
      rw [← List.getElem_cons_drop hlt, List.any_cons] at hs
      have HN := hid hs
      generalize l[k] = x at *
      clear hs HK
      cases hp : p x
      · have e := HN.out
        rw [hp, Bool.false_or] at e
        have HE := hid e
        rw [hp] at HC
        clear e HN
        go_wp2_with (go_at_call 89; refine HC.out.mono ?_; rintro e w1 ⟨rfl, hb1⟩)
        exact ⟨⟨k + 1, by omega, by go_num, HE, bel_of hbw hb1⟩, by simp [intOf]; omega⟩
      · have e := HN.out
        rw [hp, Bool.true_or] at e
        have HE := hid e
        rw [hp] at HC
        clear e HN
        go_wp2_with (go_at_call 89; refine HC.out.mono ?_; rintro e w1 ⟨rfl, hb1⟩)
        go_ret
        exact ⟨⟨k, rfl, by rw [← HE.out]; simp, by omega, by omega⟩, bel_of hbw hb1⟩
    · have e := HK.out
      rw [List.drop_of_length_le (by omega), List.any_nil] at e
      have HE := hid e
      clear e HK
      have hne : ¬ (k : Int) < (l.length : Int) := by omega
      go_wp2_with fail
      go_ret
      exact ⟨⟨-1, rfl, by rw [← HE.out]; simp, by omega, by omega⟩, hbw⟩
set_option maxRecDepth 100000 in
set_option maxHeartbeats 2000000 in
theorem contains_str (l : List ByteArray) (a : Option Addr) (c : Nat) (p : ByteArray → Bool) (w : World) (h : StAt l a w) (hl : l.length ≤ 1000000) (HP : ∀ W i (hi : i < l.length), Below w.heap.size w W → Calls Tryz.prog 89 #[.string l[i]] W fun e w' => e = .returned (.bool (p l[i])) ∧ Below W.heap.size W w') :
    Calls Tryz.prog 87 #[.slice a l.length c, .func (.func 89) #[] #[]] w fun e w' => e = .returned (.bool (l.any p)) ∧ Below w.heap.size w w' := by
  have HI := hid (index_str l a c p w h hl HP)
  generalize l.any p = B at *
  clear h HP
  go_enter Tryz.func87, Tryz.ntmps87
  go_wp2_with (go_at_call 120; refine HI.out.mono ?_; rintro e w1 ⟨⟨k, rfl, hk, h1, h2⟩, hb1⟩)
  go_ret
  refine ⟨?_, hb1⟩
  first
    | (subst hk; rfl)
    | (subst hk; congr 2; simp)
def connB : ByteArray := ⟨#[67, 111, 110, 110, 101, 99, 116, 105, 111, 110]⟩
/- a request that asks to close -/
def askG (fs : List Prm) : Bool := (valsOf fs connB.data.toList).any fun x => Pm.alike x.data.toList closeB.data.toList
set_option maxRecDepth 100000 in
set_option maxHeartbeats 2000000 in
theorem asks_any (qm qt qb : ByteArray) (fs : List Prm) (fa : Option Addr) (fc : Nat) (w : World) (hf : FlAt fs fa w) (hl : fs.length ≤ 1000000) (hz : ∀ i (h : i < fs.length), fs[i].1.size ≤ maxLen) (hz2 : ∀ x ∈ valsOf fs connB.data.toList, x.size ≤ maxLen) :
    Calls Tryz.prog 60 #[.agg #[.string qm, .string qt, .slice fa fs.length fc, .string qb]] w fun e w' => e = .returned (.bool (askG fs)) ∧ Below w.heap.size w w' := by
  have hA := (Below.refl w.heap.size w).alloc (Nat.le_refl _) (.cells #[.string qm, .string qt, .slice fa fs.length fc, .string qb] 58)
  have HV := hid (values_any fs fa fc connB _ (hf.below hA) hl hz)
  have hvl : (valsOf fs connB.data.toList).length ≤ 1000000 := Nat.le_trans (valsOf_le _ _) hl
  unfold askG
  generalize valsOf fs connB.data.toList = vs at *
  have HC := hid (fun (va : Option Addr) (vc : Nat) (W : World) (hs : StAt vs va W) => contains_str vs va vc (fun x => Pm.alike x.data.toList closeB.data.toList) W hs hvl (fun V i hi _ => closes_any vs[i] V (hz2 _ (List.getElem_mem hi))))
  generalize (vs.any fun x => Pm.alike x.data.toList closeB.data.toList) = B at *
  unfold connB at HV
  clear hf hz hz2
  go_enter Tryz.func60, Tryz.ntmps60
  go_wp2_with (first
    | (go_at_call 88; refine HV.out.mono ?_; rintro e w1 ⟨⟨va, vc, rfl, hs⟩, hb1⟩; have HQ := hid (HC.out va vc w1 hs); clear hs)
    | (go_at_call 87; refine HQ.out.mono ?_; rintro e w2 ⟨rfl, hb2⟩))
  go_ret
  exact ⟨rfl, bel_of hA (bel_of hb1 hb2)⟩
end Go.Proofs.YtbphabgjhoifbaaGreatDoor

/- What a handler answers, or that it gives up. -/
namespace Go.Proofs.YtbphabgjhoifbaaGreatDoor
open Go.RowKit

def gaveUpP : List PanicEntry := [{ v := .iface 231 (.agg #[]), recovered := false }]
/- an answer comes out, or it gives up -/
def ThPost (G : Option An) (w : World) (x : Ending) (w' : World) : Prop :=
  (match G with
    | none => x = .panicked gaveUpP
    | some a => ∃ vv, x = .returned (.agg #[.int .i64 a.st, vv, .string a.b, .bool false]) ∧ w'.ownsRow w.heap.size 133 2 vv a.fs.length (prCells a.fs)) ∧ Below w.heap.size w w'
theorem one_field (a b : ByteArray) (B : Nat) (w : World) (hB : B ≤ w.heap.size) : (w.alloc (.cells #[.string a, .string b] 133)).ownsRow B 133 2 (.slice (some ⟨w.heap.size, 0, none⟩) 1 1) [(a, b)].length (prCells [(a, b)]) :=
  ⟨by simp [prCells], .inr ⟨w.heap.size, 1, #[.string a, .string b], rfl, hB, heap_alloc_new w _, by simp, by unfold maxLen; omega, by simp, by simp [prCells]⟩⟩
theorem cell_setA {g b j : Nat} {st : Int} {vv : Value} {bb : ByteArray} {cl : Bool} {w : World} (h : b ≠ g) : (setA g st vv bb cl w).cell? ⟨b, j, none⟩ = w.cell? ⟨b, j, none⟩ := by
  unfold setA
  have hx : ∀ (k : Nat) (x : Value) (W : World), (W.setCell ⟨g, k, none⟩ x).cell? ⟨b, j, none⟩ = W.cell? ⟨b, j, none⟩ := fun k x W => by
    rw [World.cell?_setCell_other _ _ _ _ (fun e => by simp only [Addr.mk.injEq] at e; first | exact h e.1 | exact h e.1.symm)]
  rw [hx, hx, hx, hx]
set_option maxRecDepth 100000 in
set_option maxHeartbeats 4000000 in
theorem handle_any (r : Rn) (w : World) (hr : RnAt r w) :
    Calls Tryz.prog 116 #[.agg r.vals] w (ThPost (handG r.h r.qb r.ps) w) := by
  have HPR := hid (fun W (hW : Below w.heap.size w W) => param_any r r.h.n W (hr.below hW))
  have hA1 := (Below.refl w.heap.size w).alloc (Nat.le_refl _) (.cells r.vals 166)
  have hA2 := hA1.alloc hA1.size (.cells #[.int .i64 0, .slice none 0 0, .string ⟨#[]⟩, .bool false] 64)
  have hA := hA2.alloc hA2.size (.cells #[.int .i64 r.h.k, .int .i64 r.h.st, .string r.h.t, .string r.h.n] 79)
  have z1 : (w.alloc (.cells r.vals 166)).heap.size = w.heap.size + 1 := by simp
  have z2 : ((w.alloc (.cells r.vals 166)).alloc (.cells #[.int .i64 0, .slice none 0 0, .string ⟨#[]⟩, .bool false] 64)).heap.size = w.heap.size + 1 + 1 := by simp
  have b1 : Below (w.alloc (.cells r.vals 166)).heap.size (w.alloc (.cells r.vals 166)) ((w.alloc (.cells r.vals 166)).alloc (.cells #[.int .i64 0, .slice none 0 0, .string ⟨#[]⟩, .bool false] 64)) := (Below.refl _ _).alloc (Nat.le_refl _) _
  have b2 : Below ((w.alloc (.cells r.vals 166)).alloc (.cells #[.int .i64 0, .slice none 0 0, .string ⟨#[]⟩, .bool false] 64)).heap.size ((w.alloc (.cells r.vals 166)).alloc (.cells #[.int .i64 0, .slice none 0 0, .string ⟨#[]⟩, .bool false] 64)) (((w.alloc (.cells r.vals 166)).alloc (.cells #[.int .i64 0, .slice none 0 0, .string ⟨#[]⟩, .bool false] 64)).alloc (.cells #[.int .i64 r.h.k, .int .i64 r.h.st, .string r.h.t, .string r.h.n] 79)) := (Below.refl _ _).alloc (Nat.le_refl _) _
  have R0 : RnB w.heap.size r (w.alloc (.cells r.vals 166)) := heap_alloc_new w _
  have A0 : AnB (w.heap.size + 1) 0 (.slice none 0 0) ⟨#[]⟩ false ((w.alloc (.cells r.vals 166)).alloc (.cells #[.int .i64 0, .slice none 0 0, .string ⟨#[]⟩, .bool false] 64)) := by
    have h := heap_alloc_new (w.alloc (.cells r.vals 166)) (.cells #[.int .i64 0, .slice none 0 0, .string ⟨#[]⟩, .bool false] 64)
    rw [z1] at h; exact h
  have H0 : (((w.alloc (.cells r.vals 166)).alloc (.cells #[.int .i64 0, .slice none 0 0, .string ⟨#[]⟩, .bool false] 64)).alloc (.cells #[.int .i64 r.h.k, .int .i64 r.h.st, .string r.h.t, .string r.h.n] 79)).heap[w.heap.size + 1 + 1]? = some (.cells #[.int .i64 r.h.k, .int .i64 r.h.st, .string r.h.t, .string r.h.n] 79) := by
    have h := heap_alloc_new ((w.alloc (.cells r.vals 166)).alloc (.cells #[.int .i64 0, .slice none 0 0, .string ⟨#[]⟩, .bool false] 64)) (.cells #[.int .i64 r.h.k, .int .i64 r.h.st, .string r.h.t, .string r.h.n] 79)
    rw [z2] at h; exact h
  have R1 := (R0.below b1).below b2
  have A1 := A0.below b2
  have hG : handG r.h r.qb r.ps = if r.h.k = 0 then some ⟨r.h.st, [], r.h.t⟩ else if r.h.k = 1 then some ⟨r.h.st, [], r.qb⟩ else if r.h.k = 2 then some ⟨r.h.st, [], stG r.h.n.data.toList r.ps⟩ else if r.h.k = 3 then some ⟨r.h.st, [(r.h.t, stG r.h.n.data.toList r.ps)], ⟨#[]⟩⟩ else none := rfl
  generalize handG r.h r.qb r.ps = G at *
  generalize stG r.h.n.data.toList r.ps = SV at *
  have HG := hid hG
  obtain ⟨r0, r1, r2, r3, r4, r5, r6, r7, r8⟩ := R1.cells
  have lr := R1.lt
  clear hr hG R0 R1 A0 b1 b2 z1 z2 hA1 hA2
  obtain ⟨qm, qt, qb, fs, fa, fc, ps, pa, pc, ⟨hk, hst, ht, hn⟩⟩ := r
  simp only [Rn.vals] at *
  go_enter Tryz.func116, Tryz.ntmps116
  go_upto_region 2 with fail
  generalize ((w.alloc (.cells #[.string qm, .string qt, .slice fa fs.length fc, .string qb, .slice pa ps.length pc, .int .i64 hk, .int .i64 hst, .string ht, .string hn] 166)).alloc (.cells #[.int .i64 0, .slice none 0 0, .string ⟨#[]⟩, .bool false] 64)).alloc (.cells #[.int .i64 hk, .int .i64 hst, .string ht, .string hn] 79) = w1 at *
  have e0 : w1.cell? ⟨w.heap.size + 1 + 1, 0, none⟩ = some (.int .i64 hk) := by rw [Lib.cell_of_heap H0]; rfl
  have e1 : w1.cell? ⟨w.heap.size + 1 + 1, 1, none⟩ = some (.int .i64 hst) := by rw [Lib.cell_of_heap H0]; rfl
  have e2 : w1.cell? ⟨w.heap.size + 1 + 1, 2, none⟩ = some (.string ht) := by rw [Lib.cell_of_heap H0]; rfl
  have e3 : w1.cell? ⟨w.heap.size + 1 + 1, 3, none⟩ = some (.string hn) := by rw [Lib.cell_of_heap H0]; rfl
  have le := block_lt_of_cell e0
  obtain ⟨c0, c1, c2, c3⟩ := A1.cells
  have f0 := A1.free 0
  have f1 := A1.free 1
  have f2 := A1.free 2
  have f3 := A1.free 3
  have la := A1.lt
  have hhead : ∀ k : Int, k = 0 ∨ k = 1 ∨ k = 2 ∨ k = 3 ∨ (k ≠ 0 ∧ k ≠ 1 ∧ k ≠ 2 ∧ k ≠ 3) := fun k => by omega
  clear H0
  rcases hhead hk with rfl | rfl | rfl | rfl | ⟨n0, n1, n2, n3⟩
  · have hg := HG.out
    simp at hg
    subst hg
    obtain ⟨d0, d1, d2, d3⟩ := (A1.set hst (.slice none 0 0) ht false).cells
    unfold setA at d0 d1 d2 d3
    clear HG HPR
    go_wp2_with fail
    refine bodyPost_ret (v := .agg #[.int .i64 hst, .slice none 0 0, .string ht, .bool false]) (by simp [results, Tryz.results116, go_sem, d0, d1, d2, d3]) rfl ?_
    exact ⟨⟨_, rfl, World.ownsRow_nil _ _ _ _⟩, below_setA hA (Nat.le_succ _)⟩
  · have hg := HG.out
    simp at hg
    subst hg
    obtain ⟨d0, d1, d2, d3⟩ := (A1.set hst (.slice none 0 0) qb false).cells
    unfold setA at d0 d1 d2 d3
    clear HG HPR
    go_wp2_with fail
    refine bodyPost_ret (v := .agg #[.int .i64 hst, .slice none 0 0, .string qb, .bool false]) (by simp [results, Tryz.results116, go_sem, d0, d1, d2, d3]) rfl ?_
    exact ⟨⟨_, rfl, World.ownsRow_nil _ _ _ _⟩, below_setA hA (Nat.le_succ _)⟩
  · have hg := HG.out
    simp at hg
    subst hg
    have hb2 := Below.refl w1.heap.size w1
    have HPP := hid (fun W (hW : Below w1.heap.size w1 W) => HPR.out W (bel_of hA hW))
    obtain ⟨d0, d1, d2, d3⟩ := (A1.set hst (.slice none 0 0) SV false).cells
    have HA := hid A1
    clear HG HPR
    go_upto_region 8 with fail
    go_region_held3 (fun W => W.cell? ⟨w.heap.size, 0, none⟩ = some (.string qm) ∧ W.cell? ⟨w.heap.size, 1, none⟩ = some (.string qt) ∧ W.cell? ⟨w.heap.size, 2, none⟩ = some (.slice fa fs.length fc) ∧ W.cell? ⟨w.heap.size, 3, none⟩ = some (.string qb) ∧ W.cell? ⟨w.heap.size, 4, none⟩ = some (.slice pa ps.length pc) ∧ W.cell? ⟨w.heap.size, 5, none⟩ = some (.int .i64 2) ∧ W.cell? ⟨w.heap.size, 6, none⟩ = some (.int .i64 hst) ∧ W.cell? ⟨w.heap.size, 7, none⟩ = some (.string ht) ∧ W.cell? ⟨w.heap.size, 8, none⟩ = some (.string hn) ∧ W.cell? ⟨w.heap.size + 1 + 1, 1, none⟩ = some (.int .i64 hst) ∧ W.cell? ⟨w.heap.size + 1 + 1, 3, none⟩ = some (.string hn)) (first | go_keep | exact ⟨(cell_setA ne1).trans q0, (cell_setA ne1).trans q1, (cell_setA ne1).trans q2, (cell_setA ne1).trans q3, (cell_setA ne1).trans q4, (cell_setA ne1).trans q5, (cell_setA ne1).trans q6, (cell_setA ne1).trans q7, (cell_setA ne1).trans q8, (cell_setA ne2).trans g1, (cell_setA ne2).trans g3⟩)
      (first
        | (go_at_call 149; refine (HPP.out _ hb2.drew).mono ?_; rintro x wA ⟨rfl, hbA⟩; have hbB := bel_of hb2.drew hbA; have q0 := cell_later hbB r0; have q1 := cell_later hbB r1; have q2 := cell_later hbB r2; have q3 := cell_later hbB r3; have q4 := cell_later hbB r4; have q5 := cell_later hbB r5; have q6 := cell_later hbB r6; have q7 := cell_later hbB r7; have q8 := cell_later hbB r8; have g1 := cell_later hbB e1; have g3 := cell_later hbB e3; have AA := HA.out.below hbB; obtain ⟨y0, y1, y2, y3⟩ := AA.cells; have h0 := AA.free 0; have h1 := AA.free 1; have h2 := AA.free 2; have h3 := AA.free 3; have lA := AA.lt; have ne1 : w.heap.size ≠ w.heap.size + 1 := Nat.ne_of_lt (Nat.lt_succ_self _); have ne2 : w.heap.size + 1 + 1 ≠ w.heap.size + 1 := Nat.succ_ne_self _; obtain ⟨d0, d1, d2, d3⟩ := (AA.set hst (.slice none 0 0) SV false).cells; unfold setA at d0 d1 d2 d3; have hBA := bel_of hA hbB; clear hbA AA))
    all_goals
      go_wp2_with fail
      refine bodyPost_ret (v := .agg #[.int .i64 hst, .slice none 0 0, .string SV, .bool false]) (by simp [results, Tryz.results116, go_sem, d0, d1, d2, d3]) rfl ?_
      exact ⟨⟨_, rfl, World.ownsRow_nil _ _ _ _⟩, below_setA hBA (Nat.le_succ _)⟩
  · have hg := HG.out
    simp at hg
    subst hg
    have hb2 := Below.refl w1.heap.size w1
    have HPP := hid (fun W (hW : Below w1.heap.size w1 W) => HPR.out W (bel_of hA hW))
    have HA := hid A1
    clear HG HPR
    go_upto_region 10 with fail
    go_region_held3 (fun W => W.cell? ⟨w.heap.size, 0, none⟩ = some (.string qm) ∧ W.cell? ⟨w.heap.size, 1, none⟩ = some (.string qt) ∧ W.cell? ⟨w.heap.size, 2, none⟩ = some (.slice fa fs.length fc) ∧ W.cell? ⟨w.heap.size, 3, none⟩ = some (.string qb) ∧ W.cell? ⟨w.heap.size, 4, none⟩ = some (.slice pa ps.length pc) ∧ W.cell? ⟨w.heap.size, 5, none⟩ = some (.int .i64 3) ∧ W.cell? ⟨w.heap.size, 6, none⟩ = some (.int .i64 hst) ∧ W.cell? ⟨w.heap.size, 7, none⟩ = some (.string ht) ∧ W.cell? ⟨w.heap.size, 8, none⟩ = some (.string hn) ∧ W.cell? ⟨w.heap.size + 1 + 1, 1, none⟩ = some (.int .i64 hst) ∧ W.cell? ⟨w.heap.size + 1 + 1, 2, none⟩ = some (.string ht) ∧ W.cell? ⟨w.heap.size + 1 + 1, 3, none⟩ = some (.string hn)) (first | go_keep | exact ⟨(cell_setA ne1).trans p0, (cell_setA ne1).trans p1, (cell_setA ne1).trans p2, (cell_setA ne1).trans p3, (cell_setA ne1).trans p4, (cell_setA ne1).trans p5, (cell_setA ne1).trans p6, (cell_setA ne1).trans p7, (cell_setA ne1).trans p8, (cell_setA ne2).trans k1, (cell_setA ne2).trans k2, (cell_setA ne2).trans k3⟩)
      (first
        | (go_at_call 149; refine (HPP.out _ hb2.drew).mono ?_; rintro x wA ⟨rfl, hbA⟩; have hbB := bel_of hb2.drew hbA; have q0 := cell_later hbB r0; have q1 := cell_later hbB r1; have q2 := cell_later hbB r2; have q3 := cell_later hbB r3; have q4 := cell_later hbB r4; have q5 := cell_later hbB r5; have q6 := cell_later hbB r6; have q7 := cell_later hbB r7; have q8 := cell_later hbB r8; have g1 := cell_later hbB e1; have g3 := cell_later hbB e3; have g2 := cell_later hbB e2; have bF := (Below.refl wA.heap.size wA).alloc (Nat.le_refl _) (.cells #[.string ht, .string SV] 133); have p0 := cell_later bF q0; have p1 := cell_later bF q1; have p2 := cell_later bF q2; have p3 := cell_later bF q3; have p4 := cell_later bF q4; have p5 := cell_later bF q5; have p6 := cell_later bF q6; have p7 := cell_later bF q7; have p8 := cell_later bF q8; have k1 := cell_later bF g1; have k2 := cell_later bF g2; have k3 := cell_later bF g3; have AA := (HA.out.below hbB).below bF; obtain ⟨y0, y1, y2, y3⟩ := AA.cells; have h0 := AA.free 0; have h1 := AA.free 1; have h2 := AA.free 2; have h3 := AA.free 3; have lA := AA.lt; have ne1 : w.heap.size ≠ w.heap.size + 1 := Nat.ne_of_lt (Nat.lt_succ_self _); have ne2 : w.heap.size + 1 + 1 ≠ w.heap.size + 1 := Nat.succ_ne_self _; obtain ⟨d0, d1, d2, d3⟩ := (AA.set hst (.slice (some ⟨wA.heap.size, 0, none⟩) 1 1) ⟨#[]⟩ false).cells; unfold setA at d0 d1 d2 d3; have hBA := bel_of (bel_of hA hbB) bF; have OW := hid (one_field ht SV w.heap.size wA (Nat.le_trans hA.size hbB.size)); have neF : wA.heap.size ≠ w.heap.size + 1 := fun e => Nat.lt_irrefl _ (e ▸ (HA.out.below hbB).lt); clear hbA AA))
    all_goals
      go_wp2_with fail
      refine bodyPost_ret (v := .agg #[.int .i64 hst, .slice (some ⟨wA.heap.size, 0, none⟩) 1 1, .string ⟨#[]⟩, .bool false]) (by simp [results, Tryz.results116, go_sem, d0, d1, d2, d3]) rfl ?_
      exact ⟨⟨_, rfl, owns_setA OW.out (by simpa [Value.ownBlock] using neF)⟩, below_setA hBA (Nat.le_succ _)⟩
  · have hg := HG.out
    rw [if_neg n0, if_neg n1, if_neg n2, if_neg n3] at hg
    subst hg
    have m0 : (hk == 0) = false := by simpa using n0
    have m1 : (hk == 1) = false := by simpa using n1
    have m2 : (hk == 2) = false := by simpa using n2
    have m3 : (hk == 3) = false := by simpa using n3
    clear HG HPR n0 n1 n2 n3
    go_wp2_with fail
    exact ⟨rfl, rfl, hA⟩
end Go.Proofs.YtbphabgjhoifbaaGreatDoor

/- What is answered where no route is found. -/
namespace Go.Proofs.YtbphabgjhoifbaaGreatDoor
open Go.RowKit

def locB : ByteArray := ⟨#[76, 111, 99, 97, 116, 105, 111, 110]⟩
def allowB : ByteArray := ⟨#[65, 108, 108, 111, 119]⟩
def restG (st : Int) (al lo : ByteArray) : An := if st = 301 ∨ st = 308 then ⟨st, [(locB, lo)], ⟨#[]⟩⟩ else if st = 405 then ⟨st, [(allowB, al)], ⟨#[]⟩⟩ else ⟨st, [], ⟨#[]⟩⟩
set_option maxRecDepth 100000 in
set_option maxHeartbeats 4000000 in
theorem answer_rest (p : Option Addr) (qm qt qb : ByteArray) (fa : Option Addr) (fn fc : Nat) (st rt : Int) (pa : Option Addr) (pn pc : Nat) (al lo : ByteArray) (w : World) (h2 : st ≠ 200) :
    Calls Tryz.prog 57 #[.pointer p, .agg #[.string qm, .string qt, .slice fa fn fc, .string qb], .agg #[.int .i64 st, .int .i64 rt, .slice pa pn pc, .string al, .string lo]] w (ThPost (some (restG st al lo)) w) := by
  have hb1 := (Below.refl w.heap.size w).alloc (Nat.le_refl _) (.cells #[.string qm, .string qt, .slice fa fn fc, .string qb] 58)
  have hb2 := hb1.alloc hb1.size (.cells #[.int .i64 st, .int .i64 rt, .slice pa pn pc, .string al, .string lo] 138)
  have m2 : (st == 200) = false := by simpa using h2
  by_cases h3 : st = 301
  · subst h3
    have eG : restG 301 al lo = ⟨301, [(locB, lo)], ⟨#[]⟩⟩ := by unfold restG; simp
    rw [eG]
    have hb3 := hb2.alloc hb2.size (.cells #[.int .i64 301, .slice (some ⟨w.heap.size + 1 + 1 + 1, 0, none⟩) 1 1, .string ⟨#[]⟩, .bool false] 64)
    have hb4 := hb3.alloc hb3.size (.cells #[.string locB, .string lo] 133)
    have ho := one_field locB lo w.heap.size _ hb3.size
    rw [show (((w.alloc (.cells #[.string qm, .string qt, .slice fa fn fc, .string qb] 58)).alloc (.cells #[.int .i64 301, .int .i64 rt, .slice pa pn pc, .string al, .string lo] 138)).alloc (.cells #[.int .i64 301, .slice (some ⟨w.heap.size + 1 + 1 + 1, 0, none⟩) 1 1, .string ⟨#[]⟩, .bool false] 64)).heap.size = w.heap.size + 1 + 1 + 1 by simp] at ho
    have HF := hid (And.intro ho hb4)
    clear ho hb4 hb3 hb2 hb1
    go_enter Tryz.func57, Tryz.ntmps57
    go_wp2_with fail
    refine bodyPost_ret (v := .agg #[.int .i64 301, .slice (some ⟨w.heap.size + 1 + 1 + 1, 0, none⟩) 1 1, .string ⟨#[]⟩, .bool false]) (by simp [results, Tryz.results57, go_sem]) rfl ?_
    exact ⟨⟨_, rfl, HF.out.1⟩, HF.out.2⟩
  by_cases h4 : st = 308
  · subst h4
    have eG : restG 308 al lo = ⟨308, [(locB, lo)], ⟨#[]⟩⟩ := by unfold restG; simp
    rw [eG]
    have hb3 := hb2.alloc hb2.size (.cells #[.int .i64 308, .slice (some ⟨w.heap.size + 1 + 1 + 1, 0, none⟩) 1 1, .string ⟨#[]⟩, .bool false] 64)
    have hb4 := hb3.alloc hb3.size (.cells #[.string locB, .string lo] 133)
    have ho := one_field locB lo w.heap.size _ hb3.size
    rw [show (((w.alloc (.cells #[.string qm, .string qt, .slice fa fn fc, .string qb] 58)).alloc (.cells #[.int .i64 308, .int .i64 rt, .slice pa pn pc, .string al, .string lo] 138)).alloc (.cells #[.int .i64 308, .slice (some ⟨w.heap.size + 1 + 1 + 1, 0, none⟩) 1 1, .string ⟨#[]⟩, .bool false] 64)).heap.size = w.heap.size + 1 + 1 + 1 by simp] at ho
    have HF := hid (And.intro ho hb4)
    clear ho hb4 hb3 hb2 hb1
    go_enter Tryz.func57, Tryz.ntmps57
    go_wp2_with fail
    refine bodyPost_ret (v := .agg #[.int .i64 308, .slice (some ⟨w.heap.size + 1 + 1 + 1, 0, none⟩) 1 1, .string ⟨#[]⟩, .bool false]) (by simp [results, Tryz.results57, go_sem]) rfl ?_
    exact ⟨⟨_, rfl, HF.out.1⟩, HF.out.2⟩
  by_cases h5 : st = 405
  · subst h5
    have eG : restG 405 al lo = ⟨405, [(allowB, al)], ⟨#[]⟩⟩ := by unfold restG; simp
    rw [eG]
    have hb3 := hb2.alloc hb2.size (.cells #[.int .i64 405, .slice (some ⟨w.heap.size + 1 + 1 + 1, 0, none⟩) 1 1, .string ⟨#[]⟩, .bool false] 64)
    have hb4 := hb3.alloc hb3.size (.cells #[.string allowB, .string al] 133)
    have ho := one_field allowB al w.heap.size _ hb3.size
    rw [show (((w.alloc (.cells #[.string qm, .string qt, .slice fa fn fc, .string qb] 58)).alloc (.cells #[.int .i64 405, .int .i64 rt, .slice pa pn pc, .string al, .string lo] 138)).alloc (.cells #[.int .i64 405, .slice (some ⟨w.heap.size + 1 + 1 + 1, 0, none⟩) 1 1, .string ⟨#[]⟩, .bool false] 64)).heap.size = w.heap.size + 1 + 1 + 1 by simp] at ho
    have HF := hid (And.intro ho hb4)
    clear ho hb4 hb3 hb2 hb1
    go_enter Tryz.func57, Tryz.ntmps57
    go_wp2_with fail
    refine bodyPost_ret (v := .agg #[.int .i64 405, .slice (some ⟨w.heap.size + 1 + 1 + 1, 0, none⟩) 1 1, .string ⟨#[]⟩, .bool false]) (by simp [results, Tryz.results57, go_sem]) rfl ?_
    exact ⟨⟨_, rfl, HF.out.1⟩, HF.out.2⟩
  have eG : restG st al lo = ⟨st, [], ⟨#[]⟩⟩ := by unfold restG; simp [h3, h4, h5]
  rw [eG]
  have m3 : (st == 301) = false := by simpa using h3
  have m4 : (st == 308) = false := by simpa using h4
  have m5 : (st == 405) = false := by simpa using h5
  have hb3 := hb2.alloc hb2.size (.cells #[.int .i64 st, .slice none 0 0, .string ⟨#[]⟩, .bool false] 64)
  clear hb1 hb2 h2 h3 h4 h5
  go_enter Tryz.func57, Tryz.ntmps57
  go_wp2_with fail
  refine bodyPost_ret (v := .agg #[.int .i64 st, .slice none 0 0, .string ⟨#[]⟩, .bool false]) (by simp [results, Tryz.results57, go_sem]) rfl ?_
  exact ⟨⟨_, rfl, World.ownsRow_nil _ _ _ _⟩, hb3⟩
end Go.Proofs.YtbphabgjhoifbaaGreatDoor

/- A field that ends its line, out of strings.ContainsAny. -/
namespace Go.Proofs.YtbphabgjhoifbaaGreatDoor
open Go.RowKit

def endG (v : ByteArray) : Bool := v.data.toList.any fun x => x == 13 || x == 10 || x == 0
set_option maxHeartbeats 2000000 in
theorem ends_of (n v : ByteArray) (w : World) (HCA : ∀ W, Below w.heap.size w W → Calls Tryz.prog 86 #[.string v, .string ⟨#[13, 10, 0]⟩] W fun e w' => e = .returned (.bool (endG v)) ∧ Below W.heap.size W w') :
    Calls Tryz.prog 59 #[.agg #[.string n, .string v]] w fun e w' => e = .returned (.bool (endG v)) ∧ Below w.heap.size w w' := by
  have hA := (Below.refl w.heap.size w).alloc (Nat.le_refl _) (.cells #[.string n, .string v] 133)
  have HC := hid (HCA _ hA)
  generalize endG v = E at *
  clear HCA
  go_enter Tryz.func59, Tryz.ntmps59
  go_wp2_with (go_at_call 86; refine HC.out.mono ?_; rintro e w1 ⟨rfl, hb1⟩)
  go_ret
  exact ⟨rfl, bel_of hA hb1⟩
end Go.Proofs.YtbphabgjhoifbaaGreatDoor
