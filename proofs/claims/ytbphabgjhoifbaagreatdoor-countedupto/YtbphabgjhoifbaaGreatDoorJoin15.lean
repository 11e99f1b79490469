/- Texts that follow one another, joined. -/
import Derived.Test.YtbphabgjhoifbaaGreatDoorJoin14
import Derived.Defers
import Derived.Deep.RegionWith
import Derived.Deep.Cut
import Derived.Deep.RegionHeld3
import Derived.Test.YtbphabgjhoifbaaGreatDoorJoin13
/- The count of a route that was found. -/
namespace Go.Proofs.YtbphabgjhoifbaaGreatDoor
open Go.RowKit Go.MuLone

def hitS (st : Int) (ro : Nat) (hs : List Int) : List Int := if st = 200 then hs.set ro ((hs[ro]?).getD 0 + 1) else hs
theorem hit_len (st : Int) (ro : Nat) (hs : List Int) : (hitS st ro hs).length = hs.length := by unfold hitS; split <;> simp
theorem hic_get {hs : List Int} {k : Nat} (h : k < hs.length) : (hiC hs)[k]? = some (.int .i64 ((hs[k]?).getD 0)) := by
  rw [List.getElem?_toArray, List.getElem?_map, List.getElem?_eq_getElem h]; rfl
theorem heap_set {w : World} {g : Nat} {cs : Array Value} {t : TypeId} (hg : w.heap[g]? = some (.cells cs t (0, 0))) (i : Nat) (v : Value) : (w.setCell ⟨g, i, none⟩ v).heap[g]? = some (.cells (cs.setIfInBounds i v) t (0, 0)) := heap_setCell_same w g i cs t v hg
/- a count in memory is raised under the lock -/
theorem raise_mem {V : Sv} {hs : List Int} {w : World} (I : SvI V hs w) (k : Nat) (x : Int) : SvI V (hs.set k x) (((w.setCell ⟨V.s, 3, none⟩ (.int .i32 1)).setCell ⟨V.h, k, none⟩ (.int .i64 x)).drew.setCell ⟨V.s, 3, none⟩ (.int .i32 0)) ∧ Kx [V.s, V.h] w (((w.setCell ⟨V.s, 3, none⟩ (.int .i32 1)).setCell ⟨V.h, k, none⟩ (.int .i64 x)).drew.setCell ⟨V.s, 3, none⟩ (.int .i32 0)) := by
  have hk1 : Kx [V.s, V.h] w (w.setCell ⟨V.s, 3, none⟩ (.int .i32 1)) := Kx.set _ _ (by simp)
  have hk2 : Kx [V.s, V.h] (w.setCell ⟨V.s, 3, none⟩ (.int .i32 1)) ((w.setCell ⟨V.s, 3, none⟩ (.int .i32 1)).setCell ⟨V.h, k, none⟩ (.int .i64 x)) := Kx.set _ _ (by simp)
  have hk3 : Kx [V.s, V.h] ((w.setCell ⟨V.s, 3, none⟩ (.int .i32 1)).setCell ⟨V.h, k, none⟩ (.int .i64 x)).drew (((w.setCell ⟨V.s, 3, none⟩ (.int .i32 1)).setCell ⟨V.h, k, none⟩ (.int .i64 x)).drew.setCell ⟨V.s, 3, none⟩ (.int .i32 0)) := Kx.set _ _ (by simp)
  have hK := ((hk1.trans hk2 (fun b hb => .inl hb)).next (Below.refl _ _).drew).trans hk3 (fun b hb => .inl hb)
  have hL : ∀ b ∈ [V.s, V.h], V.w1.heap.size ≤ b := fun b hb => by
    simp only [List.mem_cons, List.not_mem_nil, or_false] at hb
    rcases hb with rfl | rfl
    · exact I.ge1
    · exact I.ge2
  refine ⟨⟨I.bel.trans (hK.below hL I.bel.size), ?_, ?_, I.ge1, I.ge2, I.ne⟩, hK⟩
  · have e1 := heap_set I.blk 3 (.int .i32 1)
    have e2 : ((w.setCell ⟨V.s, 3, none⟩ (.int .i32 1)).setCell ⟨V.h, k, none⟩ (.int .i64 x)).drew.heap[V.s]? = some (.cells (svC V 1 hs.length) 105 (0, 0)) := by
      show ((w.setCell ⟨V.s, 3, none⟩ (.int .i32 1)).setCell ⟨V.h, k, none⟩ (.int .i64 x)).heap[V.s]? = _
      rw [Below.heap_setCell _ _ _ _ (fun e => I.ne e)]; exact e1
    have e3 := heap_set e2 3 (.int .i32 0)
    rw [List.length_set]; exact e3
  · have e1 : (w.setCell ⟨V.s, 3, none⟩ (.int .i32 1)).heap[V.h]? = some (.cells (hiC hs) 3 (0, 0)) := by
      rw [Below.heap_setCell _ _ _ _ (fun e => I.ne e.symm)]; exact I.hit
    have e2 := heap_set e1 k (.int .i64 x)
    rw [Below.heap_setCell _ _ _ _ (fun e => I.ne e.symm)]
    show ((w.setCell ⟨V.s, 3, none⟩ (.int .i32 1)).setCell ⟨V.h, k, none⟩ (.int .i64 x)).heap[V.h]? = _
    rw [e2]
    congr 2
    apply Array.ext'
    simp [List.map_set]
end Go.Proofs.YtbphabgjhoifbaaGreatDoor

/- The server's count. -/
namespace Go.Proofs.YtbphabgjhoifbaaGreatDoor
open Go.RowKit Go.MuLone

theorem ct_of {s gs q : Nat} {qm qt : ByteArray} {w1 W : World} (h1 : w1.cell? ⟨s, 2, none⟩ = some (.pointer (some ⟨gs, 0, none⟩))) (h2 : w1.cell? ⟨q, 0, none⟩ = some (.string qm)) (h3 : w1.cell? ⟨q, 1, none⟩ = some (.string qt)) (hb : Below w1.heap.size w1 W) : Below w1.heap.size w1 W ∧ W.cell? ⟨s, 2, none⟩ = some (.pointer (some ⟨gs, 0, none⟩)) ∧ W.cell? ⟨q, 0, none⟩ = some (.string qm) ∧ W.cell? ⟨q, 1, none⟩ = some (.string qt) :=
  ⟨hb, cell_later hb h1, cell_later hb h2, cell_later hb h3⟩
theorem alloc_held {w1 w2 : World} {o : Obj} (hb : Below (w1.alloc o).heap.size (w1.alloc o) w2) : w2.heap[w1.heap.size]? = some o := by
  rw [hb.block w1.heap.size (by simp)]; exact heap_alloc_new w1 o
abbrev fnZ : Array Value := #[.int .i64 0, .int .i64 0, .slice none 0 0, .string ⟨#[]⟩, .string ⟨#[]⟩]
theorem found_held {w1 w2 : World} (hb : Below (w1.drew.alloc (.cells fnZ 138)).heap.size (w1.drew.alloc (.cells fnZ 138)) w2) : w2.cell? ⟨w1.heap.size, 0, none⟩ = some (.int .i64 0) ∧ w2.cell? ⟨w1.heap.size, 1, none⟩ = some (.int .i64 0) ∧ w2.cell? ⟨w1.heap.size, 2, none⟩ = some (.slice none 0 0) ∧ w2.cell? ⟨w1.heap.size, 3, none⟩ = some (.string ⟨#[]⟩) ∧ w2.cell? ⟨w1.heap.size, 4, none⟩ = some (.string ⟨#[]⟩) ∧ w2.frozen? ⟨w1.heap.size, 0, none⟩ = false ∧ w2.frozen? ⟨w1.heap.size, 1, none⟩ = false ∧ w2.frozen? ⟨w1.heap.size, 2, none⟩ = false ∧ w2.frozen? ⟨w1.heap.size, 3, none⟩ = false ∧ w2.frozen? ⟨w1.heap.size, 4, none⟩ = false := by
  have h : w2.heap[w1.heap.size]? = some (.cells fnZ 138 (0, 0)) := alloc_held (w1 := w1.drew) hb
  refine ⟨?_, ?_, ?_, ?_, ?_, Lib.frozen_of_heap h 0, Lib.frozen_of_heap h 1, Lib.frozen_of_heap h 2, Lib.frozen_of_heap h 3, Lib.frozen_of_heap h 4⟩ <;> (rw [Lib.cell_of_heap h]; rfl)
theorem found_set {w1 w2 : World} (h : Below w1.heap.size w1 w2) (a b c d e : Value) : Below w1.heap.size w1 (((((w2.setCell ⟨w1.heap.size, 0, none⟩ a).setCell ⟨w1.heap.size, 1, none⟩ b).setCell ⟨w1.heap.size, 2, none⟩ c).setCell ⟨w1.heap.size, 3, none⟩ d).setCell ⟨w1.heap.size, 4, none⟩ e) :=
  ((((h.setCell (Nat.le_refl _) _).setCell (Nat.le_refl _) _).setCell (Nat.le_refl _) _).setCell (Nat.le_refl _) _).setCell (Nat.le_refl _) _
structure FuI (st : Int) (ro : Nat) (w1 : World) (fb : Nat) (W : World) : Prop where
  b : Below w1.heap.size w1 W
  c0 : W.cell? ⟨fb, 0, none⟩ = some (.int .i64 st)
  c1 : W.cell? ⟨fb, 1, none⟩ = some (.int .i64 ro)
  ge : w1.heap.size ≤ fb
theorem fu_new {st : Int} {ro : Nat} {w1 w2 : World} {c d e : Value} (h : Below w1.heap.size w1 w2) : FuI st ro w1 w2.heap.size (w2.alloc (.cells #[.int .i64 st, .int .i64 ro, c, d, e] 138)) := by
  have b := heap_alloc_new w2 (.cells #[.int .i64 st, .int .i64 ro, c, d, e] 138)
  exact ⟨h.alloc h.size _, by rw [Lib.cell_of_heap b]; rfl, by rw [Lib.cell_of_heap b]; rfl, h.size⟩
theorem fu_set {st : Int} {ro : Nat} {w1 w2 : World} {c d e : Value} (h : Below w1.heap.size w1 w2) (hf : w2.heap[w1.heap.size]? = some (.cells fnZ 138 (0, 0))) : FuI st ro w1 w1.heap.size (((((w2.setCell ⟨w1.heap.size, 0, none⟩ (.int .i64 st)).setCell ⟨w1.heap.size, 1, none⟩ (.int .i64 ro)).setCell ⟨w1.heap.size, 2, none⟩ c).setCell ⟨w1.heap.size, 3, none⟩ d).setCell ⟨w1.heap.size, 4, none⟩ e) := by
  have b := heap_set (heap_set (heap_set (heap_set (heap_set hf 0 (.int .i64 st)) 1 (.int .i64 ro)) 2 c) 3 d) 4 e
  exact ⟨found_set h _ _ _ _ _, by rw [Lib.cell_of_heap b]; rfl, by rw [Lib.cell_of_heap b]; rfl, Nat.le_refl _⟩
set_option maxRecDepth 100000 in
set_option maxHeartbeats 4000000 in
theorem count_of (V : Sv) (hs : List Int) (qm qt qb : ByteArray) (fa : Option Addr) (fn fc : Nat) (st e : Int) (ro : Nat) (w : World) (I : SvI V hs w) (hro : st = 200 → ro < hs.length) (hb : ∀ x ∈ hs, 0 ≤ x ∧ x ≤ 4611686018427387904)
    (HD : ∀ W, Below w.heap.size w W → Calls Tryz.prog 56 #[.pointer (some ⟨V.gs, 0, none⟩), .string qm, .string qt] W fun x w' => (∃ pa, ∃ pn pc : Nat, ∃ ua ul : ByteArray, x = .returned (.tuple #[.agg #[.int .i64 st, .int .i64 ro, .slice pa pn pc, .string ua, .string ul], .int .i64 e])) ∧ Below W.heap.size W w') :
    Calls Tryz.prog 62 #[.pointer (some ⟨V.s, 0, none⟩), .agg #[.string qm, .string qt, .slice fa fn fc, .string qb]] w fun x w' => x = .returned (.tuple #[]) ∧ SvI V (hitS st ro hs) w' ∧ Kx [V.s, V.h] w w' := by
  have hA := (Below.refl w.heap.size w).alloc (Nat.le_refl _) (.cells #[.string qm, .string qt, .slice fa fn fc, .string qb] 58)
  have b1 := heap_alloc_new w (.cells #[.string qm, .string qt, .slice fa fn fc, .string qb] 58)
  have I1 := I.below hA
  have ls := I1.ls
  have q0 : (w.alloc (.cells #[.string qm, .string qt, .slice fa fn fc, .string qb] 58)).cell? ⟨w.heap.size, 0, none⟩ = some (.string qm) := by rw [Lib.cell_of_heap b1]; rfl
  have q1 : (w.alloc (.cells #[.string qm, .string qt, .slice fa fn fc, .string qb] 58)).cell? ⟨w.heap.size, 1, none⟩ = some (.string qt) := by rw [Lib.cell_of_heap b1]; rfl
  obtain ⟨-, -, s2, -, -, -⟩ := I1.cells
  have HDD := hid HD
  have HI1 := hid I1
  clear HD I1 b1
  go_enter_defers Tryz.func62, Tryz.ntmps62
  go_upto_region 1 with fail
  generalize w.alloc (.cells #[.string qm, .string qt, .slice fa fn fc, .string qb] 58) = w1 at *
  go_cut [4] from 5 (fun p wx => ∃ fb, p = .pointer (some ⟨fb, 0, none⟩) ∧ Hid (FuI st ro w1 fb wx))
  case first =>
    go_region_held3 (fun W => Below w1.heap.size w1 W ∧ W.cell? ⟨V.s, 2, none⟩ = some (.pointer (some ⟨V.gs, 0, none⟩)) ∧ W.cell? ⟨w.heap.size, 0, none⟩ = some (.string qm) ∧ W.cell? ⟨w.heap.size, 1, none⟩ = some (.string qt)) ((refine ct_of s2 q0 q1 ?_; first | exact (Below.refl _ _).drew | (have hh := (‹_ ∧ _ ∧ _ ∧ _›).1; first | exact hh.alloc hh.size _ | exact hh.drew | exact hB2 | exact hB2.alloc hB2.size _ | exact found_set hB2 _ _ _ _ _))) (first | (go_at_call 56; refine (HDD.out (w1.drew.alloc (.cells fnZ 138)) (bel_of hA (‹_ ∧ _ ∧ _ ∧ _›).1)).mono ?_; rintro x w2 ⟨⟨pa, pn, pc, ua, ul, rfl⟩, hb2⟩; have hB2 := bel_of (‹_ ∧ _ ∧ _ ∧ _›).1 hb2; have F2 := alloc_held (w1 := w1.drew) hb2; obtain ⟨f0, f1, f2, f3, f4, z0, z1, z2, z3, z4⟩ := found_held hb2) | (go_at_call 56; refine (HDD.out w1.drew (bel_of hA (‹_ ∧ _ ∧ _ ∧ _›).1)).mono ?_; rintro x w2 ⟨⟨pa, pn, pc, ua, ul, rfl⟩, hb2⟩; have hB2 := bel_of (‹_ ∧ _ ∧ _ ∧ _›).1 hb2))
    all_goals (go_wp2_with fail; go_meet)
    all_goals first | exact ⟨_, rfl, fu_new hB2⟩ | exact ⟨_, rfl, fu_set hB2 F2⟩
  case rest =>
    obtain ⟨fb, rfl, HFU⟩ := hcut
    obtain ⟨hB, c0, c1, hge⟩ := HFU.out
    have Ic := HI1.out.below hB
    have lsc := Ic.ls
    obtain ⟨-, -, -, s3, -, s5⟩ := Ic.cells
    have z3 : wc.frozen? ⟨V.s, 3, none⟩ = false := Lib.frozen_of_heap Ic.blk 3
    have hK : Kx [V.s, V.h] w wc := (Kx.of (bel_of hA hB))
    clear HI1 HFU HDD
    by_cases hst : st = 200
    · have hk := hro hst
      have hsb : (st != 200) = false := by rw [hst]; rfl
      have hv0 : wc.cell? ⟨V.h, ro, none⟩ = some (.int .i64 ((hs[ro]?).getD 0)) := by rw [Lib.cell_of_heap Ic.hit]; exact hic_get hk
      obtain ⟨x, hx⟩ : ∃ x, (hs[ro]?).getD 0 = x := ⟨_, rfl⟩
      have hxb : 0 ≤ x ∧ x ≤ 4611686018427387904 := by
        rw [← hx, List.getElem?_eq_getElem hk]; exact hb _ (List.getElem_mem hk)
      have zh : wc.frozen? ⟨V.h, ro, none⟩ = false := Lib.frozen_of_heap Ic.hit ro
      rw [hx] at hv0
      have r0 : (0 : Int) ≤ (ro : Int) := by omega
      have r1 : (ro : Int) < (hs.length : Int) := by omega
      have hne := Ic.ne
      have hnf : V.s ≠ fb := by omega
      have t5 := (World.cell?_setCell_other wc ⟨V.s, 3, none⟩ ⟨V.s, 5, none⟩ (.int .i32 1) (by simp)).trans s5
      have t1 := (World.cell?_setCell_other wc ⟨V.s, 3, none⟩ ⟨fb, 1, none⟩ (.int .i32 1) (by simp <;> omega)).trans c1
      have th := (World.cell?_setCell_other wc ⟨V.s, 3, none⟩ ⟨V.h, ro, none⟩ (.int .i32 1) (by simp <;> omega)).trans hv0
      have zt : (wc.setCell ⟨V.s, 3, none⟩ (.int .i32 1)).frozen? ⟨V.h, ro, none⟩ = false := by simp [zh]
      have hres : hitS st ro hs = hs.set ro (x + 1) := by unfold hitS; rw [if_pos hst, hx]
      obtain ⟨R1, R2⟩ := raise_mem Ic ro (x + 1)
      go_wp2_with (go_at_call 92; refine (lock_free Tryz.muLib ⟨V.s, 3, none⟩ _ s3 z3).mono ?_; rintro e w' ⟨rfl, rfl⟩)
      refine wp_region_noPanic ?_
      go_region
      refine NoPanic.normal ?_
      refine leaves_cons (f := 93) (args := #[.pointer (some ⟨V.s, 3, none⟩)]) (by simp) (by simp [go_sem]) ?_
      refine (unlock_deferred Tryz.muLib ⟨V.s, 3, none⟩ .returning _ ?_ ?_).mono ?_
      · exact (World.cell?_setCell_other _ ⟨V.h, ro, none⟩ ⟨V.s, 3, none⟩ _ (by simp <;> omega)).trans (World.cell?_setCell_same wc ⟨V.s, 3, none⟩ (.int .i32 1) s3)
      · simp [z3]
      rintro e u' w'' ⟨rfl, rfl, rfl⟩
      rw [hres]
      exact ⟨_, results_none rfl _ _ _, rfl, R1, hK.trans R2 (fun b hb => .inl hb)⟩
    · have hsb : (st != 200) = true := by simpa using hst
      have hres : hitS st ro hs = hs := if_neg hst
      go_wp2_with fail
      rw [hres]
      exact ⟨_, results_none rfl _ _ _, rfl, Ic, hK⟩
end Go.Proofs.YtbphabgjhoifbaaGreatDoor

/- The server's answer: it counts, then asks its site. -/
namespace Go.Proofs.YtbphabgjhoifbaaGreatDoor
open Go.RowKit

abbrev anZ : Array Value := #[.int .i64 0, .slice none 0 0, .string ⟨#[]⟩, .bool false]
abbrev anA (st : Int) (v : Value) (b : ByteArray) (cl : Bool) : Array Value := #[.int .i64 st, v, .string b, .bool cl]
abbrev rqA (qm qt qb : ByteArray) (fa : Option Addr) (fn fc : Nat) : Array Value := #[.string qm, .string qt, .slice fa fn fc, .string qb]
structure AuI (st : Int) (n : Nat) (xs : List Value) (b : ByteArray) (cl : Bool) (w2 : World) (ab : Nat) (W : World) : Prop where
  bel : Below w2.heap.size w2 W
  ge : w2.heap.size ≤ ab
  x : ∃ pa pc, W.heap[ab]? = some (.cells (anA st (.slice pa n pc) b cl) 64 (0, 0)) ∧ W.ownsRow w2.heap.size 133 2 (.slice pa n pc) n xs ∧ (Value.slice pa n pc).ownBlock ≠ some ab
theorem own_lt' {w : World} {B : Nat} {e : TypeId} {sz : Nat} {v : Value} {n : Nat} {xs : List Value} (h : w.ownsRow B e sz v n xs) {r : Nat} (hr : v.ownBlock = some r) : B ≤ r ∧ r < w.heap.size := by
  rcases h.2 with ⟨rfl, -⟩ | ⟨g, cap, cur, rfl, h1, h2, -⟩
  · simp [Value.ownBlock] at hr
  · simp [Value.ownBlock] at hr; subst hr; exact ⟨h1, heap_lt h2⟩
theorem own_keep' {w w' : World} {B : Nat} {e : TypeId} {sz : Nat} {v : Value} {n : Nat} {xs : List Value} (h : w.ownsRow B e sz v n xs) (hk : ∀ r, v.ownBlock = some r → w'.heap[r]? = w.heap[r]?) : w'.ownsRow B e sz v n xs := by
  obtain ⟨q1, q2⟩ := h
  refine ⟨q1, ?_⟩
  rcases q2 with q2 | ⟨r, cap, cur, hv, hB, hgr, q3⟩
  · exact .inl q2
  · exact .inr ⟨r, cap, cur, hv, hB, by rw [hk r (by rw [hv]; rfl)]; exact hgr, q3⟩
theorem own_down' {w : World} {B B' : Nat} {e : TypeId} {sz : Nat} {v : Value} {n : Nat} {xs : List Value} (h : w.ownsRow B e sz v n xs) (hb : B' ≤ B) : w.ownsRow B' e sz v n xs := by
  refine ⟨h.1, ?_⟩
  rcases h.2 with h | ⟨g, cap, cur, hv, h1, h2⟩
  · exact .inl h
  · exact .inr ⟨g, cap, cur, hv, Nat.le_trans hb h1, h2⟩
theorem an_held {w1 w2 : World} (hb : Below (w1.drew.alloc (.cells anZ 64)).heap.size (w1.drew.alloc (.cells anZ 64)) w2) : w2.cell? ⟨w1.heap.size, 0, none⟩ = some (.int .i64 0) ∧ w2.cell? ⟨w1.heap.size, 1, none⟩ = some (.slice none 0 0) ∧ w2.cell? ⟨w1.heap.size, 2, none⟩ = some (.string ⟨#[]⟩) ∧ w2.cell? ⟨w1.heap.size, 3, none⟩ = some (.bool false) ∧ w2.frozen? ⟨w1.heap.size, 0, none⟩ = false ∧ w2.frozen? ⟨w1.heap.size, 1, none⟩ = false ∧ w2.frozen? ⟨w1.heap.size, 2, none⟩ = false ∧ w2.frozen? ⟨w1.heap.size, 3, none⟩ = false := by
  have h : w2.heap[w1.heap.size]? = some (.cells anZ 64 (0, 0)) := alloc_held (w1 := w1.drew) hb
  refine ⟨?_, ?_, ?_, ?_, Lib.frozen_of_heap h 0, Lib.frozen_of_heap h 1, Lib.frozen_of_heap h 2, Lib.frozen_of_heap h 3⟩ <;> (rw [Lib.cell_of_heap h]; rfl)
theorem an_set {w1 w2 : World} (h : Below w1.heap.size w1 w2) (a b c d : Value) : Below w1.heap.size w1 ((((w2.setCell ⟨w1.heap.size, 0, none⟩ a).setCell ⟨w1.heap.size, 1, none⟩ b).setCell ⟨w1.heap.size, 2, none⟩ c).setCell ⟨w1.heap.size, 3, none⟩ d) :=
  (((h.setCell (Nat.le_refl _) _).setCell (Nat.le_refl _) _).setCell (Nat.le_refl _) _).setCell (Nat.le_refl _) _
theorem an_kx (g : Nat) (w : World) (a b c d : Value) : Kx [g] w ((((w.setCell ⟨g, 0, none⟩ a).setCell ⟨g, 1, none⟩ b).setCell ⟨g, 2, none⟩ c).setCell ⟨g, 3, none⟩ d) :=
  (((Kx.set (L := [g]) ⟨g, 0, none⟩ a (by simp)).trans (Kx.set (L := [g]) ⟨g, 1, none⟩ b (by simp)) (fun _ h => .inl h)).trans (Kx.set (L := [g]) ⟨g, 2, none⟩ c (by simp)) (fun _ h => .inl h)).trans (Kx.set (L := [g]) ⟨g, 3, none⟩ d (by simp)) (fun _ h => .inl h)
theorem au_new {st : Int} {n : Nat} {xs : List Value} {b : ByteArray} {cl : Bool} {w1 w2 : World} {B : Nat} {pa : Option Addr} {pc : Nat} (h : Below w1.heap.size w1 w2) (ho : w2.ownsRow B 133 2 (.slice pa n pc) n xs) (hB : w1.heap.size ≤ B) : AuI st n xs b cl w1 w2.heap.size (w2.alloc (.cells (anA st (.slice pa n pc) b cl) 64)) :=
  ⟨h.alloc h.size _, h.size, pa, pc, heap_alloc_new w2 _, own_down' (own_keep' ho (fun r hr => Below.heap_alloc _ _ _ (own_lt' ho hr).2)) hB, fun e => by have := (own_lt' ho e).2; omega⟩
theorem au_set {st : Int} {n : Nat} {xs : List Value} {b : ByteArray} {cl : Bool} {w1 w2 : World} {pa : Option Addr} {pc : Nat} (h : Below w1.heap.size w1 w2) (hf : w2.heap[w1.heap.size]? = some (.cells anZ 64 (0, 0))) (ho : w2.ownsRow (w1.heap.size + 1) 133 2 (.slice pa n pc) n xs) : AuI st n xs b cl w1 w1.heap.size ((((w2.setCell ⟨w1.heap.size, 0, none⟩ (.int .i64 st)).setCell ⟨w1.heap.size, 1, none⟩ (.slice pa n pc)).setCell ⟨w1.heap.size, 2, none⟩ (.string b)).setCell ⟨w1.heap.size, 3, none⟩ (.bool cl)) := by
  have hb := heap_set (heap_set (heap_set (heap_set hf 0 (.int .i64 st)) 1 (.slice pa n pc)) 2 (.string b)) 3 (.bool cl)
  have hno : ∀ r, (Value.slice pa n pc).ownBlock = some r → r ≠ w1.heap.size := fun r hr => by have := (own_lt' ho hr).1; omega
  refine ⟨an_set h _ _ _ _, Nat.le_refl _, pa, pc, hb, own_down' (own_keep' ho (fun r hr => ?_)) (Nat.le_succ _), fun e => hno _ e rfl⟩
  rw [Below.heap_setCell _ _ _ _ (hno r hr), Below.heap_setCell _ _ _ _ (hno r hr), Below.heap_setCell _ _ _ _ (hno r hr), Below.heap_setCell _ _ _ _ (hno r hr)]
theorem aw_of {s gs q : Nat} {qm qt qb : ByteArray} {v : Value} {w1 W : World} (h1 : w1.cell? ⟨s, 2, none⟩ = some (.pointer (some ⟨gs, 0, none⟩))) (h2 : w1.cell? ⟨q, 0, none⟩ = some (.string qm)) (h3 : w1.cell? ⟨q, 1, none⟩ = some (.string qt)) (h4 : w1.cell? ⟨q, 2, none⟩ = some v) (h5 : w1.cell? ⟨q, 3, none⟩ = some (.string qb)) (hb : Below w1.heap.size w1 W) : Below w1.heap.size w1 W ∧ W.cell? ⟨s, 2, none⟩ = some (.pointer (some ⟨gs, 0, none⟩)) ∧ W.cell? ⟨q, 0, none⟩ = some (.string qm) ∧ W.cell? ⟨q, 1, none⟩ = some (.string qt) ∧ W.cell? ⟨q, 2, none⟩ = some v ∧ W.cell? ⟨q, 3, none⟩ = some (.string qb) :=
  ⟨hb, cell_later hb h1, cell_later hb h2, cell_later hb h3, cell_later hb h4, cell_later hb h5⟩
set_option maxRecDepth 100000 in
set_option maxHeartbeats 4000000 in
theorem answer_of (V : Sv) (hs hs2 : List Int) (qm qt qb : ByteArray) (fa : Option Addr) (fn fc : Nat) (st e : Int) (n : Nat) (xs : List Value) (b : ByteArray) (cl : Bool) (w : World) (I : SvI V hs w)
    (HC : ∀ W, Below w.heap.size w W → Calls Tryz.prog 62 #[.pointer (some ⟨V.s, 0, none⟩), .agg (rqA qm qt qb fa fn fc)] W fun x w' => x = .returned (.tuple #[]) ∧ SvI V hs2 w' ∧ Kx [V.s, V.h] W w')
    (HR : ∀ W, Below V.w1.heap.size V.w1 W → Kx [V.s, V.h] w W → Calls Tryz.prog 37 #[.pointer (some ⟨V.gs, 0, none⟩), .agg (rqA qm qt qb fa fn fc)] W fun x w' => (∃ pa pc, x = .returned (.tuple #[.agg (anA st (.slice pa n pc) b cl), .int .i64 e]) ∧ w'.ownsRow W.heap.size 133 2 (.slice pa n pc) n xs) ∧ Below W.heap.size W w') :
    Calls Tryz.prog 42 #[.pointer (some ⟨V.s, 0, none⟩), .agg (rqA qm qt qb fa fn fc)] w fun x w' => (∃ pa pc, x = .returned (.agg (anA st (.slice pa n pc) b cl)) ∧ w'.ownsRow w.heap.size 133 2 (.slice pa n pc) n xs) ∧ SvI V hs2 w' ∧ Kx [V.s, V.h] w w' := by
  have hA1 := (Below.refl w.heap.size w).alloc (Nat.le_refl _) (.cells (rqA qm qt qb fa fn fc) 58)
  have hA := hA1.alloc hA1.size (.cells anZ 64)
  have b1 : ((w.alloc (.cells (rqA qm qt qb fa fn fc) 58)).alloc (.cells anZ 64)).heap[w.heap.size]? = some (.cells (rqA qm qt qb fa fn fc) 58 (0, 0)) := by
    rw [Below.heap_alloc _ _ _ (by simp)]; exact heap_alloc_new w _
  have b2 : ((w.alloc (.cells (rqA qm qt qb fa fn fc) 58)).alloc (.cells anZ 64)).heap[w.heap.size + 1]? = some (.cells anZ 64 (0, 0)) := by
    have := heap_alloc_new (w.alloc (.cells (rqA qm qt qb fa fn fc) 58)) (.cells anZ 64)
    rw [show (w.alloc (.cells (rqA qm qt qb fa fn fc) 58)).heap.size = w.heap.size + 1 by simp] at this
    exact this
  have q0 : ((w.alloc (.cells (rqA qm qt qb fa fn fc) 58)).alloc (.cells anZ 64)).cell? ⟨w.heap.size, 0, none⟩ = some (.string qm) := by rw [Lib.cell_of_heap b1]; rfl
  have q1 : ((w.alloc (.cells (rqA qm qt qb fa fn fc) 58)).alloc (.cells anZ 64)).cell? ⟨w.heap.size, 1, none⟩ = some (.string qt) := by rw [Lib.cell_of_heap b1]; rfl
  have q2 : ((w.alloc (.cells (rqA qm qt qb fa fn fc) 58)).alloc (.cells anZ 64)).cell? ⟨w.heap.size, 2, none⟩ = some (.slice fa fn fc) := by rw [Lib.cell_of_heap b1]; rfl
  have q3 : ((w.alloc (.cells (rqA qm qt qb fa fn fc) 58)).alloc (.cells anZ 64)).cell? ⟨w.heap.size, 3, none⟩ = some (.string qb) := by rw [Lib.cell_of_heap b1]; rfl
  have HCC := hid (HC _ hA)
  have HRR := hid HR
  have HB1 := hid b1
  have HB2 := hid b2
  have ls := I.ls
  have lh := I.lh
  clear HC HR b1 b2
  go_enter Tryz.func42, Tryz.ntmps42
  go_wp2_with fail
  generalize (w.alloc (.cells (rqA qm qt qb fa fn fc) 58)).alloc (.cells anZ 64) = w1 at *
  refine HCC.out.mono ?_
  rintro x w2 ⟨rfl, I2, hK2⟩
  have hK : Kx [V.s, V.h] w w2 := (Kx.of hA).trans hK2 (fun b hb => .inl hb)
  have nq : w.heap.size ∉ [V.s, V.h] := by simp; omega
  have na : w.heap.size + 1 ∉ [V.s, V.h] := by simp; omega
  have B1 := hK2.heap HB1.out nq
  have B2 := hK2.heap HB2.out na
  have lq := heap_lt B1
  have la := heap_lt B2
  have p0 : w2.cell? ⟨w.heap.size, 0, none⟩ = some (.string qm) := by rw [Lib.cell_of_heap B1]; rfl
  have p1 : w2.cell? ⟨w.heap.size, 1, none⟩ = some (.string qt) := by rw [Lib.cell_of_heap B1]; rfl
  have p2 : w2.cell? ⟨w.heap.size, 2, none⟩ = some (.slice fa fn fc) := by rw [Lib.cell_of_heap B1]; rfl
  have p3 : w2.cell? ⟨w.heap.size, 3, none⟩ = some (.string qb) := by rw [Lib.cell_of_heap B1]; rfl
  obtain ⟨-, -, s2, -, -, -⟩ := I2.cells
  have HRW := hid (fun W (hb : Below w2.heap.size w2 W) => HRR.out W (I2.bel.trans (hb.mono I2.bel.size)) (hK.next hb))
  have HI2 := hid I2
  have HHK := hid hK
  have HBA := hid B2
  clear HRR HCC HB1 HB2 q0 q1 q2 q3 hK2 hK B1 B2 I2
  go_upto_region 2 with fail
  go_cut [5] from 6 (fun p wx => ∃ ab, p = .pointer (some ⟨ab, 0, none⟩) ∧ Hid (AuI st n xs b cl w2 ab wx))
  case first =>
    go_region_held3 (fun W => Below w2.heap.size w2 W ∧ W.cell? ⟨V.s, 2, none⟩ = some (.pointer (some ⟨V.gs, 0, none⟩)) ∧ W.cell? ⟨w.heap.size, 0, none⟩ = some (.string qm) ∧ W.cell? ⟨w.heap.size, 1, none⟩ = some (.string qt) ∧ W.cell? ⟨w.heap.size, 2, none⟩ = some (.slice fa fn fc) ∧ W.cell? ⟨w.heap.size, 3, none⟩ = some (.string qb)) ((refine aw_of s2 p0 p1 p2 p3 ?_; first | exact (Below.refl _ _).drew | (have hh := (‹_ ∧ _ ∧ _ ∧ _ ∧ _ ∧ _›).1; first | exact hh.alloc hh.size _ | exact hh.drew | exact hB3 | exact hB3.alloc hB3.size _ | exact an_set hB3 _ _ _ _))) (first | (go_at_call 37; refine (HRW.out (w2.drew.alloc (.cells anZ 64)) (‹_ ∧ _ ∧ _ ∧ _ ∧ _ ∧ _›).1).mono ?_; rintro x w3 ⟨⟨pa, pc, rfl, ow⟩, hb3⟩; have hB3 := bel_of (‹_ ∧ _ ∧ _ ∧ _ ∧ _ ∧ _›).1 hb3; have F3 := alloc_held (w1 := w2.drew) hb3; obtain ⟨f0, f1, f2, f3, z0, z1, z2, z3⟩ := an_held hb3) | (go_at_call 37; refine (HRW.out w2.drew (‹_ ∧ _ ∧ _ ∧ _ ∧ _ ∧ _›).1).mono ?_; rintro x w3 ⟨⟨pa, pc, rfl, ow⟩, hb3⟩; have hB3 := bel_of (‹_ ∧ _ ∧ _ ∧ _ ∧ _ ∧ _›).1 hb3))
    all_goals (go_wp2_with fail; go_meet)
    all_goals first | exact ⟨_, rfl, au_new hB3 ow (Nat.le_refl _)⟩ | exact ⟨_, rfl, au_set hB3 F3 (own_down' ow (by simp))⟩
  case rest =>
    obtain ⟨ab, rfl, HAU⟩ := hcut
    obtain ⟨hB, hge, pa, pc, hbk, ho, hno⟩ := HAU.out
    have c0 : wc.cell? ⟨ab, 0, none⟩ = some (.int .i64 st) := by rw [Lib.cell_of_heap hbk]; rfl
    have c1 : wc.cell? ⟨ab, 1, none⟩ = some (.slice pa n pc) := by rw [Lib.cell_of_heap hbk]; rfl
    have c2 : wc.cell? ⟨ab, 2, none⟩ = some (.string b) := by rw [Lib.cell_of_heap hbk]; rfl
    have c3 : wc.cell? ⟨ab, 3, none⟩ = some (.bool cl) := by rw [Lib.cell_of_heap hbk]; rfl
    have BA : wc.heap[w.heap.size + 1]? = some (.cells anZ 64 (0, 0)) := by rw [hB.block _ la]; exact HBA.out
    have d0 : wc.cell? ⟨w.heap.size + 1, 0, none⟩ = some (.int .i64 0) := by rw [Lib.cell_of_heap BA]; rfl
    have d1 : wc.cell? ⟨w.heap.size + 1, 1, none⟩ = some (.slice none 0 0) := by rw [Lib.cell_of_heap BA]; rfl
    have d2 : wc.cell? ⟨w.heap.size + 1, 2, none⟩ = some (.string ⟨#[]⟩) := by rw [Lib.cell_of_heap BA]; rfl
    have d3 : wc.cell? ⟨w.heap.size + 1, 3, none⟩ = some (.bool false) := by rw [Lib.cell_of_heap BA]; rfl
    have z0 := Lib.frozen_of_heap BA 0
    have z1 := Lib.frozen_of_heap BA 1
    have z2 := Lib.frozen_of_heap BA 2
    have z3 := Lib.frozen_of_heap BA 3
    have BF := heap_set (heap_set (heap_set (heap_set BA 0 (.int .i64 st)) 1 (.slice pa n pc)) 2 (.string b)) 3 (.bool cl)
    have e0 := (Lib.cell_of_heap BF (j := 0)).trans (show _ = some (Value.int .i64 st) from rfl)
    have e1 := (Lib.cell_of_heap BF (j := 1)).trans (show _ = some (Value.slice pa n pc) from rfl)
    have e2 := (Lib.cell_of_heap BF (j := 2)).trans (show _ = some (Value.string b) from rfl)
    have e3 := (Lib.cell_of_heap BF (j := 3)).trans (show _ = some (Value.bool cl) from rfl)
    have lz := hB.size
    have g1 := I.ge1
    have hX := an_kx (w.heap.size + 1) wc (.int .i64 st) (.slice pa n pc) (.string b) (.bool cl)
    have HI := hid ((HI2.out.below hB).kx hX (fun x hx => by simp at hx; omega) (by simp; omega) (by simp; omega))
    have HK := hid ((HHK.out.next hB).trans hX (fun x hx => .inr (by simp at hx; omega)))
    have HO := hid (own_down' (own_keep' ho (fun r hr => hX.2 r (own_lt' ho hr).2 (by have := (own_lt' ho hr).1; simp; omega))) (show w.heap.size ≤ w2.heap.size by omega))
    clear HRW HI2 HHK HBA HAU hbk BF BA hX ho
    go_wp2_with fail
    refine bodyPost_ret (v := .agg (anA st (.slice pa n pc) b cl)) (by simp [results, Tryz.results42, go_sem, e0, e1, e2, e3]) rfl ?_
    exact ⟨⟨pa, pc, rfl, HO.out⟩, HI.out, HK.out⟩
end Go.Proofs.YtbphabgjhoifbaaGreatDoor

/- What a connection sends. -/
namespace Go.Proofs.YtbphabgjhoifbaaGreatDoor
open Go.RowKit

section
variable {P : Program} (w : World)
theorem wp_append_ownO {o : Oper} {a : Act} {K : Act → World → Prop} {Q : Exit → Act → World → Prop} (sl x : Operand) (t u : TypeId)
    (ho : o.op = .call { callee := .builtin .append, args := #[sl, x], argTypes := #[t, u] })
    (B : Nat) (e : TypeId) (i : TypeInfo) (ht : P.underlying t = some (.slice e)) (hu : P.underlying u = some .string) (hi : P.info? e = some i) (hz : i.zero = some (.int .u8 0))
    (hsize : i.size = 1) (hby : i.bytes = 1)
    (v : Value) (xs : List Value) (hs : a.eval sl = v) (hown : OwnO B e v xs w) (s : ByteArray) (hx : a.eval x = .string s)
    (hbytes : xs.length + s.size ≤ 140737488355328) (hB : B ≤ w.heap.size)
    (h : ∀ (ad : Option Addr) (n cap : Nat) w', OwnO B e (.slice ad n cap) (xs ++ Lib.strCells s) w' → w.grownBy w' v.ownBlock → (∀ r, (Value.slice ad n cap).ownBlock = some r → v.ownBlock = some r ∨ w.heap.size ≤ r) → K (a.put o.dst (.slice ad n cap)) w') : Oper.wp P o a w K Q := by
  obtain ⟨v', w', hr, h2, h3, h4⟩ := run_append_ownO (P := P) w B t u o.type e i ht hu hi hz hsize hby v xs hown s hbytes hB
  obtain ⟨ad, cap, rfl⟩ := h2.sl
  unfold Oper.wp execOp
  simp only [ho, resolve, invoke, builtin, Sem.run_bind, Sem.run_pure, Result.andThen_ok, List.map_toArray, List.map_cons, List.map_nil, hs, hx, hr]
  exact h _ _ _ _ h2 h3 h4
theorem step_append_ownO {ops : Array Oper} {o : Oper} {a : Act} {K : Act → World → Prop} {Q : Exit → Act → World → Prop} {E : Prop} (hgd : o.guard = none) (sl x : Operand) (t u : TypeId)
    (ho : o.op = .call { callee := .builtin .append, args := #[sl, x], argTypes := #[t, u] })
    (B : Nat) (e : TypeId) (i : TypeInfo) (ht : P.underlying t = some (.slice e)) (hu : P.underlying u = some .string) (hi : P.info? e = some i) (hz : i.zero = some (.int .u8 0))
    (hsize : i.size = 1) (hby : i.bytes = 1)
    (v : Value) (xs : List Value) (hs : a.eval sl = v) (hown : OwnO B e v xs w) (s : ByteArray) (hx : a.eval x = .string s)
    (hbytes : xs.length + s.size ≤ 140737488355328) (hB : B ≤ w.heap.size)
    (h : ∀ (ad : Option Addr) (n cap : Nat) w', OwnO B e (.slice ad n cap) (xs ++ Lib.strCells s) w' → w.grownBy w' v.ownBlock → (∀ r, (Value.slice ad n cap).ownBlock = some r → v.ownBlock = some r ∨ w.heap.size ≤ r) → K (a.put o.dst (.slice ad n cap)) w') :
    if Region.wanted o (yielded ops a.tmps) = true then Oper.wp P o a w K Q else E := by
  have hw : Region.wanted o (yielded ops a.tmps) = true := by simp [Region.wanted, hgd]
  rw [if_pos hw]
  exact wp_append_ownO w sl x t u ho B e i ht hu hi hz hsize hby v xs hs hown s hx hbytes hB h
end
theorem ak_of {q : Nat} {st : Int} {v : Value} {b : ByteArray} {cl : Bool} {W W' : World} (hk : W'.heap[q]? = W.heap[q]?) (h : W.cell? ⟨q, 0, none⟩ = some (.int .i64 st) ∧ W.cell? ⟨q, 1, none⟩ = some v ∧ W.cell? ⟨q, 2, none⟩ = some (.string b) ∧ W.cell? ⟨q, 3, none⟩ = some (.bool cl)) : W'.cell? ⟨q, 0, none⟩ = some (.int .i64 st) ∧ W'.cell? ⟨q, 1, none⟩ = some v ∧ W'.cell? ⟨q, 2, none⟩ = some (.string b) ∧ W'.cell? ⟨q, 3, none⟩ = some (.bool cl) := by
  rw [World.cell?_of_block (w := W) (a := ⟨q, 0, none⟩) hk, World.cell?_of_block (w := W) (a := ⟨q, 1, none⟩) hk, World.cell?_of_block (w := W) (a := ⟨q, 2, none⟩) hk, World.cell?_of_block (w := W) (a := ⟨q, 3, none⟩) hk]
  exact h
theorem close_any (V : Sv) (c : Nat) (vo : Value) (held : ByteArray) (out : List UInt8) (rq : Nat) (cl : Bool) (w : World) (I : CnI V c vo held out rq cl w) :
    Calls Tryz.prog 40 #[.pointer (some ⟨c, 0, none⟩)] w fun x w' => x = .returned (.tuple #[]) ∧ CnI V c vo ⟨#[]⟩ out rq true w' ∧ Kx [c] w w' := by
  obtain ⟨c0, c1, c2, c3, c4⟩ := I.cells
  have lc := I.lt
  have z1 := Lib.frozen_of_heap I.blk 1
  have z4 := Lib.frozen_of_heap I.blk 4
  have t4 := (World.cell?_setCell_other w ⟨c, 1, none⟩ ⟨c, 4, none⟩ (.string ⟨#[]⟩) (by simp)).trans c4
  have hB := heap_set (heap_set I.blk 1 (.string ⟨#[]⟩)) 4 (.bool true)
  have hK : Kx [c] w ((w.setCell ⟨c, 1, none⟩ (.string ⟨#[]⟩)).setCell ⟨c, 4, none⟩ (.bool true)) := (Kx.set (L := [c]) ⟨c, 1, none⟩ _ (by simp)).trans (Kx.set (L := [c]) ⟨c, 4, none⟩ _ (by simp)) (fun _ h => .inl h)
  have HI := hid (show CnI V c vo ⟨#[]⟩ out rq true _ from ⟨hB, I.out.kx hK (fun r hr hm => by simp at hm; subst hm; exact I.o1 hr), I.ge, I.n1, I.n2, I.o1, I.o2, I.o3⟩)
  have HK := hid hK
  clear I hB hK
  go_enter Tryz.func40, Tryz.ntmps40
  go_wp2
  refine bodyPost_end (v := .tuple #[]) (by simp [results, Tryz.results40, go_sem]) rfl ?_
  exact ⟨rfl, HI.out, HK.out⟩
def refSt (e : Int) : Int := if e = 4 then 413 else if e = 5 then 431 else if e = 6 then 501 else if e = 7 then 505 else 400
theorem refusalStatus_any (e : Int) (w : World) : Calls Tryz.prog 63 #[.int .i64 e] w fun x w' => x = .returned (.int .i64 (refSt e)) ∧ w' = w := by
  have key : ∀ r, refSt e = r → Calls Tryz.prog 63 #[.int .i64 e] w fun x w' => x = .returned (.int .i64 r) ∧ w' = w := by
    intro r hr
    unfold refSt at hr
    by_cases h4 : e = 4
    · subst h4; rw [if_pos rfl] at hr; subst hr
      go_enter Tryz.func63, Tryz.ntmps63
      go_wp2; go_ret; exact ⟨rfl, rfl⟩
    by_cases h5 : e = 5
    · subst h5; rw [if_neg (by decide), if_pos rfl] at hr; subst hr
      go_enter Tryz.func63, Tryz.ntmps63
      go_wp2; go_ret; exact ⟨rfl, rfl⟩
    by_cases h6 : e = 6
    · subst h6; rw [if_neg (by decide), if_neg (by decide), if_pos rfl] at hr; subst hr
      go_enter Tryz.func63, Tryz.ntmps63
      go_wp2; go_ret; exact ⟨rfl, rfl⟩
    by_cases h7 : e = 7
    · subst h7; rw [if_neg (by decide), if_neg (by decide), if_neg (by decide), if_pos rfl] at hr; subst hr
      go_enter Tryz.func63, Tryz.ntmps63
      go_wp2; go_ret; exact ⟨rfl, rfl⟩
    rw [if_neg h4, if_neg h5, if_neg h6, if_neg h7] at hr; subst hr
    have b4 : (e == 4) = false := by simpa using h4
    have b5 : (e == 5) = false := by simpa using h5
    have b6 : (e == 6) = false := by simpa using h6
    have b7 : (e == 7) = false := by simpa using h7
    go_enter Tryz.func63, Tryz.ntmps63
    go_wp2; go_ret; exact ⟨rfl, rfl⟩
  exact key _ rfl
theorem refusal_any (e : Int) (w : World) : Calls Tryz.prog 43 #[.int .i64 e] w fun x w' => x = .returned (.agg (anA (refSt e) (.slice none 0 0) ⟨#[]⟩ true)) ∧ Below w.heap.size w w' := by
  have HR := hid (fun W => refusalStatus_any e W)
  have hA := (Below.refl w.heap.size w).alloc (Nat.le_refl _) (.cells (anA (refSt e) (.slice none 0 0) ⟨#[]⟩ true) 64)
  have b1 := heap_alloc_new w (.cells (anA (refSt e) (.slice none 0 0) ⟨#[]⟩ true) 64)
  have e0 : (w.alloc (.cells (anA (refSt e) (.slice none 0 0) ⟨#[]⟩ true) 64)).cell? ⟨w.heap.size, 0, none⟩ = some (.int .i64 (refSt e)) := by rw [Lib.cell_of_heap b1]; rfl
  have e1 : (w.alloc (.cells (anA (refSt e) (.slice none 0 0) ⟨#[]⟩ true) 64)).cell? ⟨w.heap.size, 1, none⟩ = some (.slice none 0 0) := by rw [Lib.cell_of_heap b1]; rfl
  have e2 : (w.alloc (.cells (anA (refSt e) (.slice none 0 0) ⟨#[]⟩ true) 64)).cell? ⟨w.heap.size, 2, none⟩ = some (.string ⟨#[]⟩) := by rw [Lib.cell_of_heap b1]; rfl
  have e3 : (w.alloc (.cells (anA (refSt e) (.slice none 0 0) ⟨#[]⟩ true) 64)).cell? ⟨w.heap.size, 3, none⟩ = some (.bool true) := by rw [Lib.cell_of_heap b1]; rfl
  generalize refSt e = r at *
  go_enter Tryz.func43, Tryz.ntmps43
  go_wp2_with (go_at_call 63; refine (HR.out _).mono ?_; rintro x w' ⟨rfl, rfl⟩)
  refine bodyPost_ret (v := .agg (anA r (.slice none 0 0) ⟨#[]⟩ true)) (by simp [results, Tryz.results43, go_sem, e0, e1, e2, e3]) rfl ?_
  exact ⟨rfl, hA⟩
end Go.Proofs.YtbphabgjhoifbaaGreatDoor

/- The program's Reply: what comes of a request, as plain mathematics; an answer and a request on its way in memory; param. -/
namespace Go.Proofs.YtbphabgjhoifbaaGreatDoor
open Go.RowKit

/- an answer, but for Close -/
structure An where
  st : Int
  fs : List Prm
  b : ByteArray
def stG (n : List UInt8) : List Prm → ByteArray
  | [] => ⟨#[]⟩
  | p :: r => if p.1.data.toList = n then p.2 else stG n r
/- what a handler answers; none: it gives up -/
def handG (h : Hn) (qb : ByteArray) (ps : List Prm) : Option An :=
  if h.k = 0 then some ⟨h.st, [], h.t⟩ else if h.k = 1 then some ⟨h.st, [], qb⟩ else if h.k = 2 then some ⟨h.st, [], stG h.n.data.toList ps⟩ else if h.k = 3 then some ⟨h.st, [(h.t, stG h.n.data.toList ps)], ⟨#[]⟩⟩ else none
def savedB : ByteArray := ⟨#[115, 97, 118, 101, 100]⟩
def wareG (x : Wr) (qf : List Prm) (qb : ByteArray) (G : Option An) : Option An :=
  if x.k = 0 then G.map fun a => ⟨a.st, a.fs ++ [(x.n, x.v)], a.b⟩
  else if x.k = 1 then (if x.v.data.toList ∈ (valsOf qf x.n.data.toList).map (fun b => b.data.toList) then G else some ⟨403, [], ⟨#[]⟩⟩)
  else if x.k = 2 then (if x.lim < (qb.size : Int) then some ⟨413, [], ⟨#[]⟩⟩ else G)
  else if x.k = 3 then (match G with
    | none => some ⟨500, [], savedB⟩
    | some a => some a)
  else if x.k = 4 then G.map fun a => ⟨a.st, a.fs ++ (valsOf qf x.n.data.toList).map (fun v => (x.n, v)), a.b⟩
  else G
def thrG (qf : List Prm) (qb : ByteArray) (h : Hn) (ps : List Prm) : List Wr → Option An
  | [] => handG h qb ps
  | x :: r => wareG x qf qb (thrG qf qb h ps r)
/- an answer's block -/
def AnB (g : Nat) (st : Int) (vv : Value) (b : ByteArray) (cl : Bool) (w : World) : Prop := w.heap[g]? = some (.cells #[.int .i64 st, vv, .string b, .bool cl] 64 (0, 0))
theorem AnB.cells {g : Nat} {st : Int} {vv : Value} {b : ByteArray} {cl : Bool} {w : World} (h : AnB g st vv b cl w) : w.cell? ⟨g, 0, none⟩ = some (.int .i64 st) ∧ w.cell? ⟨g, 1, none⟩ = some vv ∧ w.cell? ⟨g, 2, none⟩ = some (.string b) ∧ w.cell? ⟨g, 3, none⟩ = some (.bool cl) := by
  refine ⟨?_, ?_, ?_, ?_⟩ <;> (rw [Lib.cell_of_heap h]; rfl)
theorem AnB.free {g : Nat} {st : Int} {vv : Value} {b : ByteArray} {cl : Bool} {w : World} (h : AnB g st vv b cl w) (j : Nat) : w.frozen? ⟨g, j, none⟩ = false := Lib.frozen_of_heap h j
theorem AnB.lt {g : Nat} {st : Int} {vv : Value} {b : ByteArray} {cl : Bool} {w : World} (h : AnB g st vv b cl w) : g < w.heap.size := block_lt_of_cell h.cells.1
theorem AnB.below {g : Nat} {st : Int} {vv : Value} {b : ByteArray} {cl : Bool} {w w' : World} (h : AnB g st vv b cl w) (hb : Below w.heap.size w w') : AnB g st vv b cl w' := by
  have := hb.block g h.lt; unfold AnB at *; rw [this]; exact h
def setA (g : Nat) (st : Int) (vv : Value) (b : ByteArray) (cl : Bool) (w : World) : World := (((w.setCell ⟨g, 0, none⟩ (.int .i64 st)).setCell ⟨g, 1, none⟩ vv).setCell ⟨g, 2, none⟩ (.string b)).setCell ⟨g, 3, none⟩ (.bool cl)
theorem AnB.set {g : Nat} {st : Int} {vv : Value} {b : ByteArray} {cl : Bool} {w : World} (h : AnB g st vv b cl w) (st' : Int) (vv' : Value) (b' : ByteArray) (cl' : Bool) : AnB g st' vv' b' cl' (setA g st' vv' b' cl' w) := by
  unfold AnB setA at *
  rw [heap_setCell_same _ g 3 _ _ _ (heap_setCell_same _ g 2 _ _ _ (heap_setCell_same _ g 1 _ _ _ (heap_setCell_same _ g 0 _ _ _ h)))]
  rfl
theorem below_setA {g B : Nat} {st : Int} {vv : Value} {b : ByteArray} {cl : Bool} {w w' : World} (h : Below B w w') (hB : B ≤ g) : Below B w (setA g st vv b cl w') :=
  (((h.setCell hB _).setCell hB _).setCell hB _).setCell hB _
theorem owns_setA {g B : Nat} {e : TypeId} {sz n : Nat} {v : Value} {xs : List Value} {st : Int} {vv : Value} {b : ByteArray} {cl : Bool} {w : World} (h : w.ownsRow B e sz v n xs) (hn : v.ownBlock ≠ some g) : (setA g st vv b cl w).ownsRow B e sz v n xs :=
  owns_not (owns_not (owns_not (owns_not h hn 0 _) hn 1 _) hn 2 _) hn 3 _
/- a request on its way -/
structure Rn where
  qm : ByteArray
  qt : ByteArray
  qb : ByteArray
  fs : List Prm
  fa : Option Addr
  fc : Nat
  ps : List Prm
  pa : Option Addr
  pc : Nat
  h : Hn
def Rn.vals (r : Rn) : Array Value := #[.string r.qm, .string r.qt, .slice r.fa r.fs.length r.fc, .string r.qb, .slice r.pa r.ps.length r.pc, .int .i64 r.h.k, .int .i64 r.h.st, .string r.h.t, .string r.h.n]
structure RnAt (r : Rn) (w : World) : Prop where
  f : FlAt r.fs r.fa w
  p : FlAt r.ps r.pa w
  nf : r.fs.length ≤ 1000000
  np : r.ps.length ≤ 1000000
  zf : ∀ i (h : i < r.fs.length), r.fs[i].1.size ≤ maxLen
theorem RnAt.below {r : Rn} {w w' : World} (h : RnAt r w) (hb : Below w.heap.size w w') : RnAt r w' := ⟨h.f.below hb, h.p.below hb, h.nf, h.np, h.zf⟩
/- the block of such a request -/
def RnB (g : Nat) (r : Rn) (w : World) : Prop := w.heap[g]? = some (.cells r.vals 166 (0, 0))
theorem RnB.cells {g : Nat} {r : Rn} {w : World} (h : RnB g r w) : w.cell? ⟨g, 0, none⟩ = some (.string r.qm) ∧ w.cell? ⟨g, 1, none⟩ = some (.string r.qt) ∧ w.cell? ⟨g, 2, none⟩ = some (.slice r.fa r.fs.length r.fc) ∧ w.cell? ⟨g, 3, none⟩ = some (.string r.qb) ∧ w.cell? ⟨g, 4, none⟩ = some (.slice r.pa r.ps.length r.pc) ∧ w.cell? ⟨g, 5, none⟩ = some (.int .i64 r.h.k) ∧ w.cell? ⟨g, 6, none⟩ = some (.int .i64 r.h.st) ∧ w.cell? ⟨g, 7, none⟩ = some (.string r.h.t) ∧ w.cell? ⟨g, 8, none⟩ = some (.string r.h.n) := by
  refine ⟨?_, ?_, ?_, ?_, ?_, ?_, ?_, ?_, ?_⟩ <;> (rw [Lib.cell_of_heap h]; rfl)
theorem RnB.lt {g : Nat} {r : Rn} {w : World} (h : RnB g r w) : g < w.heap.size := block_lt_of_cell h.cells.1
theorem RnB.below {g : Nat} {r : Rn} {w w' : World} (h : RnB g r w) (hb : Below w.heap.size w w') : RnB g r w' := by
  have := hb.block g h.lt; unfold RnB at *; rw [this]; exact h
set_option maxRecDepth 100000 in
set_option maxHeartbeats 2000000 in
theorem param_any (r : Rn) (n : ByteArray) (w : World) (hr : RnAt r w) :
    Calls Tryz.prog 149 #[.agg r.vals, .string n] w fun x w' => x = .returned (.string (stG n.data.toList r.ps)) ∧ Below w.heap.size w w' := by
  have hA := (Below.refl w.heap.size w).alloc (Nat.le_refl _) (.cells r.vals 166)
  have hg : RnB w.heap.size r (w.alloc (.cells r.vals 166)) := heap_alloc_new w _
  have HP := hid hr.p
  have hnp := hr.np
  generalize hRES : stG n.data.toList r.ps = RES
  have HRES : Hid (stG n.data.toList (r.ps.drop 0) = RES) := hRES
  obtain ⟨c0, c1, c2, c3, c4, c5, c6, c7, c8⟩ := hg.cells
  have l0 := hg.lt
  clear hr hg hRES
  obtain ⟨qm, qt, qb, fs, fa, fc, ps, pa, pc, h⟩ := r
  simp only [Rn.vals] at *
  go_enter Tryz.func149, Tryz.ntmps149
  go_wp2_with fail
  generalize w.alloc (.cells #[.string qm, .string qt, .slice fa fs.length fc, .string qb, .slice pa ps.length pc, .int .i64 h.k, .int .i64 h.st, .string h.t, .string h.n] 166) = w1 at *
  clear c0 c1 c2 c3 c4 c5 c6 c7 c8
  go_loopw [10] (fun i wr => ∃ k : Nat, k ≤ ps.length ∧ i = .int .i64 k ∧ Hid (stG n.data.toList (ps.drop k) = RES) ∧ Below w.heap.size w wr) (fun i _ => ps.length - (intOf i).toNat)
  case atStart => exact ⟨0, Nat.zero_le _, rfl, HRES, hA⟩
  case round =>
    obtain ⟨k, hk, rfl, HK, hbw⟩ := hrel
    by_cases hlt : k < ps.length
    · obtain ⟨g, rfl, hg, hc1, hc2⟩ := (HP.out.below hbw) k hlt
      have hs := HK.out
      rw [← List.getElem_cons_drop hlt, stG] at hs
      have HS := hid hs
      generalize ps[k] = p at *
      obtain ⟨pn, pv⟩ := p
      simp only at hc1 hc2 HS
      have hbe := bne_lists pn n
      have hB := hbw.alloc hbw.size (.cells #[.string pn, .string pv] 256)
      clear hs HK HRES
      by_cases he : pn.data.toList = n.data.toList
      · have hs := HS.out
        rw [if_pos he] at hs
        subst hs
        rw [decide_eq_true he] at hbe
        clear HS
        go_wp2_with fail
        go_ret
        exact ⟨rfl, hB⟩
      · have hs := HS.out
        rw [if_neg he] at hs
        have HS2 := hid hs
        rw [decide_eq_false he] at hbe
        clear HS hs
        go_wp2_with fail
        exact ⟨⟨k + 1, by omega, by go_num, HS2, hB⟩, by simp [intOf]; omega⟩
    · have hne : ¬ (k : Int) < (ps.length : Int) := by omega
      have hs := HK.out
      rw [List.drop_eq_nil_of_le (by omega), stG] at hs
      subst hs
      clear HK HRES
      go_wp2_with fail
      go_ret
      exact ⟨rfl, hbw⟩
end Go.Proofs.YtbphabgjhoifbaaGreatDoor
