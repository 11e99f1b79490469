/- Texts that follow one another, joined. -/
import Derived.Test.YtnohadlihgjppaaDoorJoin30
/- A book that holds lists of parameters, second part: keepParams. -/
namespace Go.Proofs.YtnohadlihgjppaaDoor.Bp
open Go.RowKit

/- the book's block and the row of its lists -/
structure BkAt (bk B : Nat) (vs : List Value) (V : Value) (w : World) : Prop where
  blk : w.heap[bk]? = some (.cells #[.slice none 0 0, .slice none 0 0, V, .slice none 0 0] 42 (0, 0))
  own : w.ownsRow B 48 1 V vs.length vs
  lt : bk < B
/- a list of the book: it reads as the i-th was written; its block is its own -/
def Good (bk : Nat) (V : Value) (i : Nat) (v : Value) (w : World) : Prop :=
  ∃ a n cap, v = .slice a n cap ∧ n ≤ 1000000 ∧ Mk (i / 4 * 4) n a w ∧ ∀ r, v.ownBlock = some r → r < w.heap.size ∧ r ≠ bk ∧ V.ownBlock ≠ some r
theorem owns_len {w : World} {B : Nat} {e : TypeId} {sz : Nat} {v : Value} {n : Nat} {xs : List Value} (h : w.ownsRow B e sz v n xs) : ∃ a c, v = .slice a n c := by
  rcases h.2 with ⟨rfl, rfl⟩ | ⟨g, cap, cur, rfl, _⟩
  · exact ⟨_, _, rfl⟩
  · exact ⟨_, _, rfl⟩
theorem owns_blk {w : World} {B : Nat} {e : TypeId} {sz : Nat} {v : Value} {n : Nat} {xs : List Value} (h : w.ownsRow B e sz v n xs) : ∀ r, v.ownBlock = some r → B ≤ r ∧ r < w.heap.size := by
  intro r hr
  rcases h.2 with ⟨rfl, _⟩ | ⟨g, cap, cur, rfl, hB, hg, _⟩
  · cases hr
  · simp only [Value.ownBlock, Option.some.injEq] at hr
    subst hr
    refine ⟨hB, ?_⟩
    rcases Nat.lt_or_ge g w.heap.size with h' | h'
    · exact h'
    · simp [Array.getElem?_eq_none h'] at hg
theorem mk_block {n k : Nat} {a : Option Addr} {w w' : World} (h : Mk n k a w) (hs : w.heap.size ≤ w'.heap.size) (hb : ∀ g, a = some ⟨g, 0, none⟩ → w'.heap[g]? = w.heap[g]?) : Mk n k a w' := fun i hi => by
  obtain ⟨g, h1, h2, h3, h4⟩ := h i hi
  have := hb g h1
  exact ⟨g, h1, Nat.lt_of_lt_of_le h2 hs, by rw [World.cell?_of_block (w := w) this]; exact h3, by rw [World.cell?_of_block (w := w) this]; exact h4⟩
theorem take_mrk {cur : Array Value} {n k : Nat} (hs : k * 2 ≤ cur.size) (h : ∀ i, i < k → cur[i * 2]? = some (.string (markB n)) ∧ cur[i * 2 + 1]? = some (.string ⟨#[46]⟩)) : cur.toList.take (k * 2) = mrk n k := by
  apply List.ext_getElem?
  intro x
  by_cases hx : x < k * 2
  · rw [List.getElem?_take_of_lt hx]
    obtain ⟨h1, h2⟩ := h (x / 2) (by omega)
    obtain ⟨m1, m2⟩ := mrk_get n k (x / 2) (by omega)
    rcases Nat.mod_two_eq_zero_or_one x with h0 | h0
    · have e : x / 2 * 2 = x := by omega
      rw [e] at h1 m1; rw [m1]; simpa using h1
    · have e : x / 2 * 2 + 1 = x := by omega
      rw [e] at h2 m2; rw [m2]; simpa using h2
  · rw [List.getElem?_eq_none (by simp; omega), List.getElem?_eq_none (by rw [mrk_len]; omega)]

theorem infoP : (Tryd.prog.info? 71).map (fun i => (i.zero, i.size, i.bytes)) = some (some (.agg #[.string ⟨#[]⟩, .string ⟨#[]⟩]), 2, 32) := by kernel_rfl
theorem infoL : (Tryd.prog.info? 48).map (fun i => (i.zero, i.size, i.bytes)) = some (some (.slice none 0 0), 1, 24) := by kernel_rfl

/- what holds while the list is appended to -/
structure St (bk B L N0 mb : Nat) (vs : List Value) (V l : Value) (k : Nat) (w0 w : World) : Prop where
  ow : w.ownsRow L 71 2 l k (mrk vs.length k)
  kbk : w.heap[bk]? = some (.cells #[.slice none 0 0, .slice none 0 0, V, .slice none 0 0] 42 (0, 0))
  kV : w.ownsRow B 48 1 V vs.length vs
  kB : Below N0 w0 w
  kG : ∀ i (h : i < vs.length), Good bk V i vs[i] w ∧ ∀ r, (vs[i]).ownBlock = some r → r < L
  km : w.heap[mb]? = some (.cells #[.string (markB vs.length), .string ⟨#[46]⟩] 71 (0, 0))
  kS : L ≤ w.heap.size
  kT : B ≤ w.heap.size
  kN : N0 ≤ L
theorem heap_lt {w : World} {g : Nat} {o : Obj} (h : w.heap[g]? = some o) : g < w.heap.size := by
  rcases Nat.lt_or_ge g w.heap.size with h' | h'
  · exact h'
  · simp [Array.getElem?_eq_none h'] at h
theorem good_below {bk : Nat} {V : Value} {i : Nat} {v : Value} {w w' : World} (h : Good bk V i v w) (hb : Below w.heap.size w w') : Good bk V i v w' := by
  obtain ⟨a, n, cap, e1, e2, e3, e4⟩ := h
  exact ⟨a, n, cap, e1, e2, e3.below hb, fun r hr => ⟨Nat.lt_of_lt_of_le (e4 r hr).1 hb.size, (e4 r hr).2⟩⟩
theorem St.below {bk B L N0 mb : Nat} {vs : List Value} {V l : Value} {k : Nat} {w0 w w' : World} (h : St bk B L N0 mb vs V l k w0 w) (hb : Below w.heap.size w w') : St bk B L N0 mb vs V l k w0 w' :=
  { ow := owns_below h.ow hb, kbk := by rw [hb.block bk (heap_lt h.kbk)]; exact h.kbk, kV := owns_below h.kV hb, kB := h.kB.trans (hb.mono (Nat.le_trans h.kN h.kS)), kG := fun i hi => ⟨good_below (h.kG i hi).1 hb, (h.kG i hi).2⟩, km := by rw [hb.block mb (heap_lt h.km)]; exact h.km, kS := Nat.le_trans h.kS hb.size, kT := Nat.le_trans h.kT hb.size, kN := h.kN }
theorem St.grown {bk B L N0 mb : Nat} {vs : List Value} {V l : Value} {k : Nat} {w0 w w' : World} (h : St bk B L N0 mb vs V l k w0 w) (hg : w.grownBy w' l.ownBlock) (how : w'.ownsRow L 71 2 l k (mrk vs.length k)) (h1 : bk < L) (h2 : ∀ r, V.ownBlock = some r → r < L) (h3 : l.ownBlock ≠ some mb) (n3 : N0 ≤ L) (n4 : N0 ≤ w.heap.size) : St bk B L N0 mb vs V l k w0 w' := by
  have hl := owns_blk h.ow
  have blk : ∀ r, r < w.heap.size → r < L → w'.heap[r]? = w.heap[r]? := fun r hr hrL => hg.block r hr (fun e => by have := (hl r e.symm).1; omega)
  refine { ow := how, kbk := by rw [blk bk (heap_lt h.kbk) h1]; exact h.kbk, kV := ?_, kB := h.kB.grown hg n4 (fun r hr => Nat.le_trans n3 (hl r hr).1), kG := ?_, km := ?_, kS := Nat.le_trans h.kS hg.size, kT := Nat.le_trans h.kT hg.size, kN := h.kN }
  · rcases h.kV.2 with e | ⟨g, cap, cur, e1, e2, e3, e4⟩
    · exact ⟨h.kV.1, .inl e⟩
    · exact ⟨h.kV.1, .inr ⟨g, cap, cur, e1, e2, by rw [blk g (heap_lt e3) (h2 g (by rw [e1]; rfl))]; exact e3, e4⟩⟩
  · intro i hi
    obtain ⟨⟨a, n, cap, e1, e2, e3, e4⟩, e5⟩ := h.kG i hi
    refine ⟨⟨a, n, cap, e1, e2, mk_block e3 hg.size (fun g hgg => ?_), fun r hr => ⟨Nat.lt_of_lt_of_le (e4 r hr).1 hg.size, (e4 r hr).2⟩⟩, e5⟩
    have hr : (vs[i]).ownBlock = some g := by rw [e1, hgg]; rfl
    exact blk g (e4 g hr).1 (e5 g hr)
  · rw [hg.block mb (heap_lt h.km) (fun e => h3 e.symm)]; exact h.km

set_option maxRecDepth 100000 in
set_option maxHeartbeats 2000000 in
theorem keepFields_any (bk B L N0 : Nat) (vs : List Value) (V l : Value) (k : Nat) (xs : List Value) (w0 w : World) (hbk : BkAt bk B vs V w) (hvs : vs.length ≤ 8) (hl : w.ownsRow L 71 2 l k xs) (hk : k ≤ 1000)
    (hL : bk < L) (hLV : ∀ r, V.ownBlock = some r → r < L) (hg : ∀ i (h : i < vs.length), Good bk V i vs[i] w ∧ ∀ r, (vs[i]).ownBlock = some r → r < L) (h4 : vs.length % 4 = 0)
    (hB : Below N0 w0 w) (n1 : N0 ≤ bk) (n2 : N0 ≤ B) (n3 : N0 ≤ L) (n4 : B ≤ w.heap.size) (n5 : L ≤ w.heap.size) :
    Calls Tryd.prog 19 #[.pointer (some ⟨bk, 0, none⟩), l] w fun r w' => r = .returned (.tuple #[]) ∧
      ∃ vs' V', vs'.length = vs.length + 4 ∧ BkAt bk B vs' V' w' ∧ (∀ i (h : i < vs'.length), Good bk V' i vs'[i] w') ∧ Below N0 w0 w' := by
  obtain ⟨i0, hi, hz0, hz1, hz2⟩ := info_parts infoP
  obtain ⟨j0, hj, jz0, jz1, jz2⟩ := info_parts infoL
  obtain ⟨Va, Vc, rfl⟩ := owns_len hbk.own
  have hbB := hbk.lt
  obtain ⟨la, lc, rfl⟩ := owns_len hl
  have b3 : w.cell? ⟨bk, 2, none⟩ = some (.slice Va vs.length Vc) := by rw [Lib.cell_of_heap hbk.blk]; rfl
  go_enter Tryd.func19, Tryd.ntmps19
  go_wp2_with fail
  refine (markField_any vs.length (by omega) _).mono ?_
  rintro e w1 ⟨rfl, hb1⟩
  have hA2 := bel_of hb1 ((Below.refl w1.heap.size w1).alloc (Nat.le_refl _) (.cells #[.string (markB vs.length), .string ⟨#[46]⟩] 71))
  have hl2 := owns_below hl hA2
  have hV2 := owns_below hbk.own hA2
  have hk2 : (w1.alloc (.cells #[.string (markB vs.length), .string ⟨#[46]⟩] 71)).heap[bk]? = some (.cells #[.slice none 0 0, .slice none 0 0, .slice Va vs.length Vc, .slice none 0 0] 42 (0, 0)) := by
    rw [hA2.block bk (by omega)]; exact hbk.blk
  have hB2 : Below N0 w0 (w1.alloc (.cells #[.string (markB vs.length), .string ⟨#[46]⟩] 71)) := hB.trans (hA2.mono (by omega))
  have hg2 : ∀ i (h : i < vs.length), Good bk (.slice Va vs.length Vc) i vs[i] (w1.alloc (.cells #[.string (markB vs.length), .string ⟨#[46]⟩] 71)) ∧ ∀ r, (vs[i]).ownBlock = some r → r < L := fun i h => by
    obtain ⟨⟨a, n, cap, e1, e2, e3, e4⟩, e5⟩ := hg i h
    exact ⟨⟨a, n, cap, e1, e2, e3.below hA2, fun r hr => ⟨Nat.lt_of_lt_of_le (e4 r hr).1 hA2.size, (e4 r hr).2⟩⟩, e5⟩
  have hm2 : (w1.alloc (.cells #[.string (markB vs.length), .string ⟨#[46]⟩] 71)).heap[w1.heap.size]? = some (.cells #[.string (markB vs.length), .string ⟨#[46]⟩] 71 (0, 0)) := heap_alloc_new w1 _
  have sz2 : w.heap.size ≤ w1.heap.size := hb1.size
  go_wp2_with fail
  have szm : w1.heap.size < (w1.alloc (.cells #[.string (markB vs.length), .string ⟨#[46]⟩] 71)).heap.size := by simp
  generalize w1.alloc (.cells #[.string (markB vs.length), .string ⟨#[46]⟩] 71) = w2 at *
  generalize w1.heap.size = mb at *
  have HG2 := hid hg2
  clear hg2 hg
  obtain ⟨gl, hgl1, hgl2, hgl3, hst⟩ : ∃ gl, L ≤ gl ∧ gl ≠ mb ∧ (∀ r, (Value.slice la k lc).ownBlock = some r → r = gl) ∧ ((k = 0 ∧ w2.ownsRow L 71 2 (.slice la k lc) k []) ∨ ∃ cur, la = some ⟨gl, 0, none⟩ ∧ w2.heap[gl]? = some (.cells cur 71 (0, 0)) ∧ k ≤ lc ∧ lc ≤ maxLen ∧ cur.size = lc * 2) := by
    rcases hl2.2 with ⟨h1, h2⟩ | ⟨g, cap, cur, h1, h2, h3, h4', h5, h6, h7⟩
    · refine ⟨w2.heap.size, by omega, by omega, fun r hr => ?_, .inl ⟨h2, ?_⟩⟩
      · rw [h1] at hr; cases hr
      · have : xs = [] := List.eq_nil_of_length_eq_zero (by rw [hl2.1, h2])
        rw [this] at hl2; exact hl2
    · simp only [Value.slice.injEq] at h1
      obtain ⟨rfl, _, rfl⟩ := h1
      have hgw : g < w.heap.size := (owns_blk hl g rfl).2
      exact ⟨g, h2, by omega, fun r hr => by simpa [Value.ownBlock] using hr.symm, .inr ⟨cur, rfl, h3, h4', h5, h6⟩⟩
  clear hl hbk hB hb1 hA2 hl2 b3
  go_loopw [5] (fun i wr => ∃ q : Nat, q ≤ k ∧ i = .int .i64 q ∧ Kp gl w2 wr ∧ ((k = 0 ∧ wr.ownsRow L 71 2 (.slice la k lc) k []) ∨ ∃ cur, la = some ⟨gl, 0, none⟩ ∧ wr.heap[gl]? = some (.cells cur 71 (0, 0)) ∧ k ≤ lc ∧ lc ≤ maxLen ∧ cur.size = lc * 2 ∧ ∀ i, i < q → cur[i * 2]? = some (.string (markB vs.length)) ∧ cur[i * 2 + 1]? = some (.string ⟨#[46]⟩))) (fun i _ => k - (intOf i).toNat)
  case atStart =>
    refine ⟨0, Nat.zero_le _, rfl, Kp.refl _ _, ?_⟩
    rcases hst with h | ⟨cur, h1, h2, h3, h4', h5⟩
    · exact .inl h
    · exact .inr ⟨cur, h1, h2, h3, h4', h5, fun i hi => absurd hi (by omega)⟩
  case round =>
    obtain ⟨q, hq, rfl, hkp, hst2⟩ := hrel
    have mc0 := hkp.cell (a := ⟨mb, 0, none⟩) (v := .string (markB vs.length)) (by rw [Lib.cell_of_heap hm2]; rfl) (Ne.symm hgl2)
    have mc1 := hkp.cell (a := ⟨mb, 1, none⟩) (v := .string ⟨#[46]⟩) (by rw [Lib.cell_of_heap hm2]; rfl) (Ne.symm hgl2)
    by_cases hlt : q < k
    · rcases hst2 with ⟨h0, _⟩ | ⟨cur, rfl, hh, h3, h4', h5, h6⟩
      · omega
      · have c0 : wr.cell? ⟨gl, q * 2, none⟩ = some cur[q * 2] := by rw [Lib.cell_of_heap hh, Array.getElem?_eq_getElem (by omega)]
        have c1 : wr.cell? ⟨gl, q * 2 + 1, none⟩ = some cur[q * 2 + 1] := by rw [Lib.cell_of_heap hh, Array.getElem?_eq_getElem (by omega)]
        have d0 : wr.frozen? ⟨gl, q * 2, none⟩ = false := Lib.frozen_of_heap hh _
        have d1 : wr.frozen? ⟨gl, q * 2 + 1, none⟩ = false := Lib.frozen_of_heap hh _
        have HH := hid hh
        have HS := hid h5
        have H6 := hid h6
        generalize cur[q * 2] = x0 at *
        generalize cur[q * 2 + 1] = x1 at *
        clear h6 hh h5
        go_wp2
        refine ⟨⟨q + 1, by omega, by go_num, (hkp.trans (Kp.set gl _ _ _)).trans (Kp.set gl _ _ _), .inr ⟨_, trivial, heap_setCell_same _ gl _ _ _ _ (heap_setCell_same _ gl _ _ _ _ HH.out), h3, h4', ?_, ?_⟩⟩, by simp [intOf]; omega⟩
        · simpa using HS.out
        · intro i hi
          have hcs := HS.out
          by_cases hiq : i = q
          · subst hiq
            constructor
            · simp [Array.getElem?_setIfInBounds]; omega
            · simp [Array.getElem?_setIfInBounds]; omega
          · obtain ⟨g1, g2⟩ := H6.out i (by omega)
            constructor
            · rw [Array.getElem?_setIfInBounds_ne (by omega), Array.getElem?_setIfInBounds_ne (by omega)]; exact g1
            · rw [Array.getElem?_setIfInBounds_ne (by omega), Array.getElem?_setIfInBounds_ne (by omega)]; exact g2
    · have hqk : q = k := by omega
      subst hqk
      have ow : wr.ownsRow L 71 2 (.slice la q lc) q (mrk vs.length q) := by
        rcases hst2 with ⟨h0, h1⟩ | ⟨cur, rfl, hh, h3, h4', h5, h6⟩
        · subst h0; exact h1
        · exact ⟨mrk_len _ _, .inr ⟨gl, lc, cur, rfl, hgl1, hh, h3, h4', h5, take_mrk (by omega) h6⟩⟩
      have kbk := hkp.block hk2 (by omega)
      have kV : wr.ownsRow B 48 1 (.slice Va vs.length Vc) vs.length vs := by
        rcases hV2.2 with h | ⟨g, cap, cur, h1, h2, h3, h4'⟩
        · exact ⟨hV2.1, .inl h⟩
        · refine ⟨hV2.1, .inr ⟨g, cap, cur, h1, h2, hkp.block h3 ?_, h4'⟩⟩
          have := hLV g (by rw [h1]; rfl)
          omega
      have kB : Below N0 w0 wr := { os := hkp.1.trans hB2.os, tape := hkp.2.1.trans hB2.tape, output := hkp.2.2.1.trans hB2.output, size := Nat.le_trans hB2.size hkp.2.2.2.1, block := fun r hr => (hkp.2.2.2.2 r (Nat.lt_of_lt_of_le (Nat.lt_of_lt_of_le hr (Nat.le_trans n1 (Nat.le_of_lt hL))) (by omega)) (by omega)).trans (hB2.block r hr) }
      have kG : ∀ i (h : i < vs.length), Good bk (.slice Va vs.length Vc) i vs[i] wr ∧ ∀ r, (vs[i]).ownBlock = some r → r < L := fun i h => by
        obtain ⟨⟨a, n, cap, e1, e2, e3, e4⟩, e5⟩ := HG2.out i h
        refine ⟨⟨a, n, cap, e1, e2, mk_block e3 hkp.2.2.2.1 (fun g hg => ?_), fun r hr => ⟨Nat.lt_of_lt_of_le (e4 r hr).1 hkp.2.2.2.1, (e4 r hr).2⟩⟩, e5⟩
        have hr : (vs[i]).ownBlock = some g := by rw [e1, hg]; rfl
        exact hkp.2.2.2.2 g (e4 g hr).1 (by have := e5 g hr; omega)
      have kS : w2.heap.size ≤ wr.heap.size := hkp.2.2.2.1
      have km := hkp.block hm2 (Ne.symm hgl2)
      have S2 : St bk B L N0 mb vs (.slice Va vs.length Vc) (.slice la q lc) q w0 wr := { ow := ow, kbk := kbk, kV := kV, kB := kB, kG := kG, km := km, kS := by omega, kT := by omega, kN := n3 }
      have hlm : (Value.slice la q lc).ownBlock ≠ some mb := fun h => hgl2 (hgl3 mb h).symm
      clear hst2 hst hkp hm2 hV2 hk2 hB2 HG2 ow kbk kV kB kG km hgl1 hgl2 hgl3
      clear mc0 mc1
      obtain ⟨mc0, mc1⟩ : wr.cell? ⟨mb, 0, none⟩ = some (.string (markB vs.length)) ∧ wr.cell? ⟨mb, 1, none⟩ = some (.string ⟨#[46]⟩) := ⟨by rw [Lib.cell_of_heap S2.km]; rfl, by rw [Lib.cell_of_heap S2.km]; rfl⟩
      have lm1 := heap_lt S2.km
      go_wp2_with (at_builtin; refine wpList_append_marks _ rfl _ _ 48 rfl L 71 i0 _ Tryd.underlying48 hi hz0 hz1 hz2 rfl (.slice la q lc) vs.length q rfl (owns_below S2.ow ((Below.refl _ _).alloc (Nat.le_refl _) _)) ⟨wr.heap.size, 0, none⟩ 1 1 rfl ?c1 (by omega) (by omega) ?c5 ?_)
      case c1 =>
        intro j x hj
        match j, hj with
        | 0, hj => simp [mrk] at hj; subst hj; simp [Addr.add]
        | 1, hj => simp [mrk] at hj; subst hj; simp [Addr.add]
      case c5 => have := S2.kS; simp; omega
      intro g1 p1 w3 o1 gr1 at1 lt1 ow1 mk1
      have S3 := (S2.below ((Below.refl _ _).alloc (Nat.le_refl _) _)).grown gr1 ow1 hL hLV hlm n3 (by have := S2.kS; simp; omega)
      have Lg1 : L ≤ g1 := by
        rcases at1 with h | h
        · exact (owns_blk S2.ow _ h).1
        · have := S2.kS; (try simp at h); omega
      have M1 : Mk vs.length (q + 1) (some ⟨g1, 0, none⟩) w3 := by
        obtain ⟨a, c, e1, e2⟩ := mk_of_owns o1
        simp only [Value.slice.injEq] at e1
        rw [e1.1]; exact e2
      clear mc0 mc1 gr1 at1 o1 ow1 mk1
      obtain ⟨mc0, mc1⟩ : w3.cell? ⟨mb, 0, none⟩ = some (.string (markB vs.length)) ∧ w3.cell? ⟨mb, 1, none⟩ = some (.string ⟨#[46]⟩) := ⟨by rw [Lib.cell_of_heap S3.km]; rfl, by rw [Lib.cell_of_heap S3.km]; rfl⟩
      have lm2 := heap_lt S3.km
      go_wp2_with (at_builtin; refine wpList_append_marks _ rfl _ _ 48 rfl L 71 i0 _ Tryd.underlying48 hi hz0 hz1 hz2 rfl (.slice la q lc) vs.length q rfl (owns_below S3.ow ((Below.refl _ _).alloc (Nat.le_refl _) _)) ⟨w3.heap.size, 0, none⟩ 2 2 rfl ?c1 (by omega) (by omega) ?c5 ?_)
      case c1 =>
        intro j x hj
        match j, hj with
        | 0, hj => simp [mrk] at hj; subst hj; simp [Addr.add]
        | 1, hj => simp [mrk] at hj; subst hj; simp [Addr.add]
        | 2, hj => simp [mrk] at hj; subst hj; simp [Addr.add]
        | 3, hj => simp [mrk] at hj; subst hj; simp [Addr.add]
      case c5 => have := S3.kS; simp; omega
      intro g2 p2 w4 o2 gr2 at2 lt2 ow2 mk2
      have S4 := (S3.below ((Below.refl _ _).alloc (Nat.le_refl _) _)).grown gr2 ow2 hL hLV hlm n3 (by have := S3.kS; simp; omega)
      have Lg2 : L ≤ g2 := by
        rcases at2 with h | h
        · exact (owns_blk S3.ow _ h).1
        · have := S3.kS; (try simp at h); omega
      have M2 : Mk vs.length (q + 2) (some ⟨g2, 0, none⟩) w4 := by
        obtain ⟨a, c, e1, e2⟩ := mk_of_owns o2
        simp only [Value.slice.injEq] at e1
        rw [e1.1]; exact e2
      have M1' := mk2 _ _ (M1.below ((Below.refl _ _).alloc (Nat.le_refl _) _))
      clear mc0 mc1 gr2 at2 o2 ow2 mk2
      obtain ⟨mc0, mc1⟩ : w4.cell? ⟨mb, 0, none⟩ = some (.string (markB vs.length)) ∧ w4.cell? ⟨mb, 1, none⟩ = some (.string ⟨#[46]⟩) := ⟨by rw [Lib.cell_of_heap S4.km]; rfl, by rw [Lib.cell_of_heap S4.km]; rfl⟩
      have lm3 := heap_lt S4.km
      go_wp2_with (at_builtin; refine wpList_append_marks _ rfl _ _ 48 rfl L 71 i0 _ Tryd.underlying48 hi hz0 hz1 hz2 rfl (.slice la q lc) vs.length q rfl (owns_below S4.ow ((Below.refl _ _).alloc (Nat.le_refl _) _)) ⟨w4.heap.size, 0, none⟩ 3 3 rfl ?c1 (by omega) (by omega) ?c5 ?_)
      case c1 =>
        intro j x hj
        match j, hj with
        | 0, hj => simp [mrk] at hj; subst hj; simp [Addr.add]
        | 1, hj => simp [mrk] at hj; subst hj; simp [Addr.add]
        | 2, hj => simp [mrk] at hj; subst hj; simp [Addr.add]
        | 3, hj => simp [mrk] at hj; subst hj; simp [Addr.add]
        | 4, hj => simp [mrk] at hj; subst hj; simp [Addr.add]
        | 5, hj => simp [mrk] at hj; subst hj; simp [Addr.add]
      case c5 => have := S4.kS; simp; omega
      intro g3 p3 w5 o3 gr3 at3 lt3 ow3 mk3
      have S5 := (S4.below ((Below.refl _ _).alloc (Nat.le_refl _) _)).grown gr3 ow3 hL hLV hlm n3 (by have := S4.kS; simp; omega)
      have Lg3 : L ≤ g3 := by
        rcases at3 with h | h
        · exact (owns_blk S4.ow _ h).1
        · have := S4.kS; (try simp at h); omega
      have M3 : Mk vs.length (q + 3) (some ⟨g3, 0, none⟩) w5 := by
        obtain ⟨a, c, e1, e2⟩ := mk_of_owns o3
        simp only [Value.slice.injEq] at e1
        rw [e1.1]; exact e2
      have M1'' := mk3 _ _ (M1'.below ((Below.refl _ _).alloc (Nat.le_refl _) _))
      have M2' := mk3 _ _ (M2.below ((Below.refl _ _).alloc (Nat.le_refl _) _))
      clear mc0 mc1 gr3 at3 o3 ow3 mk3
      have b3 : w5.cell? ⟨bk, 2, none⟩ = some (.slice Va vs.length Vc) := by rw [Lib.cell_of_heap S5.kbk]; rfl
      have lk5 := heap_lt S5.kbk
      have hlq := owns_blk S5.ow
      go_wp2_with (at_builtin; refine wpList_append_lies _ rfl _ _ 39 rfl B 48 j0 _ 1 24 Tryd.underlying39 hj jz0 jz1 jz2 rfl (by omega) (.slice Va vs.length Vc) vs.length vs rfl (owns_below S5.kV ((Below.refl _ _).alloc (Nat.le_refl _) _)) ⟨w5.heap.size, 0, none⟩ 4 4 [.slice la q lc, .slice (some ⟨g1, 0, none⟩) (q + 1) p1, .slice (some ⟨g2, 0, none⟩) (q + 2) p2, .slice (some ⟨g3, 0, none⟩) (q + 3) p3] rfl rfl ?c1 ?c2 (by omega) ?c3 ?c4 ?c5 _ rfl ?_)
      case c1 =>
        intro j x hj
        match j, hj with
        | 0, hj => simp at hj; subst hj; simp [Addr.add]
        | 1, hj => simp at hj; subst hj; simp [Addr.add]
        | 2, hj => simp at hj; subst hj; simp [Addr.add]
        | 3, hj => simp at hj; subst hj; simp [Addr.add]
      case c2 => intro x hx; simp at hx; rcases hx with rfl | rfl | rfl | rfl <;> rfl
      case c3 => unfold maxLen; omega
      case c4 => omega
      case c5 => have := S5.kT; simp; omega
      intro gV pV w7 oV grV atV ltV
      have hA6 := (Below.refl w5.heap.size w5).alloc (Nat.le_refl _) (.cells #[.slice la q lc, .slice (some ⟨g1, 0, none⟩) (q + 1) p1, .slice (some ⟨g2, 0, none⟩) (q + 2) p2, .slice (some ⟨g3, 0, none⟩) (q + 3) p3] 48)
      have S6 := S5.below hA6
      have k7 : w7.heap[bk]? = some (.cells #[.slice none 0 0, .slice none 0 0, .slice Va vs.length Vc, .slice none 0 0] 42 (0, 0)) := by
        rw [grV.block bk (heap_lt S6.kbk) (fun e => by have := (owns_blk S6.kV bk e.symm).1; omega)]; exact S6.kbk
      have c7 : w7.cell? ⟨bk, 2, none⟩ = some (.slice Va vs.length Vc) := by rw [Lib.cell_of_heap k7]; rfl
      have d7 : w7.frozen? ⟨bk, 2, none⟩ = false := Lib.frozen_of_heap k7 2
      go_wp2
      have hgV : ∀ r, r < w5.heap.size → (Value.slice Va vs.length Vc).ownBlock ≠ some r → r ≠ gV := fun r h1 h2 e => by
        rcases atV with h | h
        · exact h2 (by rw [h, e])
        · (try simp at h); omega
      have w8b : ∀ r, r < w5.heap.size → r ≠ bk → (Value.slice Va vs.length Vc).ownBlock ≠ some r → (w7.setCell ⟨bk, 2, none⟩ (.slice (some ⟨gV, 0, none⟩) (vs.length + 4) pV)).heap[r]? = w5.heap[r]? := fun r h1 h2 h3 => by
        rw [heap_setCell_other w7 ⟨bk, 2, none⟩ r _ h2, grV.block r (by simp; omega) (fun e => h3 e.symm), hA6.block r h1]
      have sz8 : w5.heap.size ≤ (w7.setCell ⟨bk, 2, none⟩ (.slice (some ⟨gV, 0, none⟩) (vs.length + 4) pV)).heap.size := by
        have := grV.size; simp at this ⊢; omega
      have GV : ∀ (a : Option Addr) (n cap i : Nat), i / 4 * 4 = vs.length → n ≤ 1000000 → Mk vs.length n a w5 → (∀ r, (Value.slice a n cap).ownBlock = some r → L ≤ r ∧ r < w5.heap.size) → Good bk (.slice (some ⟨gV, 0, none⟩) (vs.length + 4) pV) i (.slice a n cap) (w7.setCell ⟨bk, 2, none⟩ (.slice (some ⟨gV, 0, none⟩) (vs.length + 4) pV)) := fun a n cap i hi hn hm hr => by
        have hV : ∀ r, L ≤ r → (Value.slice Va vs.length Vc).ownBlock ≠ some r := fun r h e => by have := hLV r e; omega
        refine ⟨a, n, cap, rfl, hn, ?_, fun r h => ?_⟩
        · rw [hi]
          refine mk_block hm sz8 (fun g hg => ?_)
          obtain ⟨r1, r2⟩ := hr g (by rw [hg]; rfl)
          exact w8b g r2 (by omega) (hV g r1)
        · obtain ⟨r1, r2⟩ := hr r h
          exact ⟨Nat.lt_of_lt_of_le r2 sz8, by omega, fun e => hgV r r2 (hV r r1) (by simpa [Value.ownBlock] using e.symm)⟩
      refine bodyPost_end (v := .tuple #[]) (by simp [results, Tryd.results19, go_sem]) rfl ?_
      refine ⟨rfl, vs ++ [.slice la q lc, .slice (some ⟨g1, 0, none⟩) (q + 1) p1, .slice (some ⟨g2, 0, none⟩) (q + 2) p2, .slice (some ⟨g3, 0, none⟩) (q + 3) p3], .slice (some ⟨gV, 0, none⟩) (vs.length + 4) pV, by simp, ?_, ?_, ?_⟩
      · refine { blk := ?_, own := ?_, lt := hbB }
        · have := heap_setCell_same w7 bk 2 _ _ (.slice (some ⟨gV, 0, none⟩) (vs.length + 4) pV) k7
          simpa using this
        · rw [List.length_append]
          exact owns_other oV hbB 2 _
      · intro i hi
        by_cases hiv : i < vs.length
        · rw [List.getElem_append_left hiv]
          obtain ⟨⟨a, n, cap, e1, e2, e3, e4⟩, e5⟩ := S5.kG i hiv
          refine ⟨a, n, cap, e1, e2, mk_block e3 sz8 (fun g hg => ?_), fun r hr => ?_⟩
          · obtain ⟨f1, f2, f3⟩ := e4 g (by rw [e1, hg]; rfl)
            exact w8b g f1 f2 f3
          · obtain ⟨f1, f2, f3⟩ := e4 r hr
            exact ⟨Nat.lt_of_lt_of_le f1 sz8, f2, fun e => hgV r f1 f3 (by simpa [Value.ownBlock] using e.symm)⟩
        · have hi4 : i - vs.length < 4 := by simp at hi; omega
          rw [List.getElem_append_right (by omega)]
          obtain ⟨d, hd⟩ : ∃ d, d = i - vs.length := ⟨_, rfl⟩
          have hidx : i / 4 * 4 = vs.length := by omega
          have Ml : Mk vs.length q la w5 := by
            obtain ⟨a, c, e1, e2⟩ := mk_of_owns S5.ow
            simp only [Value.slice.injEq] at e1
            rw [e1.1]; exact e2
          have s34 : g1 < w5.heap.size ∧ g2 < w5.heap.size ∧ g3 < w5.heap.size := by
            refine ⟨?_, ?_, lt3⟩
            · obtain ⟨x1, x2, x3, _⟩ := M1'' 0 (by simp)
              simp only [Option.some.injEq, Addr.mk.injEq] at x2
              omega
            · obtain ⟨x1, x2, x3, _⟩ := M2' 0 (by simp)
              simp only [Option.some.injEq, Addr.mk.injEq] at x2
              omega
          match d, hd with
          | 0, hd => simp only [← hd]; exact GV la q lc i hidx (by omega) Ml (fun r hr => hlq r hr)
          | 1, hd => simp only [← hd]; exact GV _ _ p1 i hidx (by omega) M1'' (fun r hr => by simp only [Value.ownBlock, Option.some.injEq] at hr; omega)
          | 2, hd => simp only [← hd]; exact GV _ _ p2 i hidx (by omega) M2' (fun r hr => by simp only [Value.ownBlock, Option.some.injEq] at hr; omega)
          | 3, hd => simp only [← hd]; exact GV _ _ p3 i hidx (by omega) M3 (fun r hr => by simp only [Value.ownBlock, Option.some.injEq] at hr; omega)
          | d + 4, hd => omega
      · exact ((S6.kB.grown grV (by have := S6.kS; omega) (fun r hr => Nat.le_trans n2 (owns_blk S6.kV r hr).1)).setCell n1 _)
end Go.Proofs.YtnohadlihgjppaaDoor.Bp

/- A book that holds lists of parameters, third part: looks. -/
namespace Go.Proofs.YtnohadlihgjppaaDoor.Bp
open Go.RowKit

theorem owns_at1 {w : World} {B : Nat} {e : TypeId} {v : Value} {n : Nat} {xs : List Value} (h : w.ownsRow B e 1 v n xs) : ∃ a c, v = .slice a n c ∧ ∀ i (_ : i < n) (hx : i < xs.length), ∃ g, a = some ⟨g, 0, none⟩ ∧ g < w.heap.size ∧ w.cell? ⟨g, i, none⟩ = some xs[i] := by
  obtain ⟨h1, h2⟩ := h
  rcases h2 with ⟨rfl, rfl⟩ | ⟨g, cap, cur, rfl, _, hg, _, _, _, hc⟩
  · exact ⟨none, 0, rfl, fun i hi => absurd hi (by omega)⟩
  · refine ⟨some ⟨g, 0, none⟩, cap, rfl, fun i hi hx => ⟨g, rfl, heap_lt hg, ?_⟩⟩
    rw [Lib.cell_of_heap hg]
    have h3 : (cur.toList.take (n * 1))[i]? = some xs[i] := by rw [hc, List.getElem?_eq_getElem hx]
    rw [List.getElem?_take] at h3
    split at h3
    · simpa using h3
    · cases h3

set_option maxRecDepth 100000 in
set_option maxHeartbeats 2000000 in
theorem lookFields_any (bk B : Nat) (vs : List Value) (V : Value) (w : World) (hbk : BkAt bk B vs V w) (hvs : vs.length ≤ 12) (hg : ∀ i (h : i < vs.length), Good bk V i vs[i] w) :
    Calls Tryd.prog 24 #[.pointer (some ⟨bk, 0, none⟩)] w fun r w' => r = .returned (.bool true) ∧ Below w.heap.size w w' := by
  obtain ⟨Va, Vc, rfl, hcell⟩ := owns_at1 hbk.own
  have HC := hid hcell
  have HG := hid hg
  have HB : Hid (w.cell? ⟨bk, 2, none⟩ = some (.slice Va vs.length Vc)) := by show w.cell? ⟨bk, 2, none⟩ = some (.slice Va vs.length Vc); rw [Lib.cell_of_heap hbk.blk]; rfl
  have lk := heap_lt hbk.blk
  clear hbk hg hcell
  go_enter Tryd.func24, Tryd.ntmps24
  go_wp2_with fail
  go_loopw [3, 4, 5] (fun i _ _ wr => ∃ q : Nat, q ≤ vs.length ∧ i = .int .i64 q ∧ Below w.heap.size w wr) (fun i _ _ _ => vs.length - (intOf i).toNat)
  case atStart => exact ⟨0, Nat.zero_le _, rfl, Below.refl _ _⟩
  case round =>
    obtain ⟨q, hq, rfl, hbw⟩ := hrel
    have b3 := cell_later hbw HB.out
    by_cases hlt : q < vs.length
    · go_wp2_with fail
      rw [show ((q : Int) / 4 * 4) = ((q / 4 * 4 : Nat) : Int) from by omega]
      refine (markField_any (q / 4 * 4) (by omega) _).mono ?_
      rintro e w1 ⟨rfl, hb1⟩
      have hB1 := bel_of hbw hb1
      have hA2 := (Below.refl w1.heap.size w1).alloc (Nat.le_refl _) (.cells #[.string (markB (q / 4 * 4)), .string ⟨#[46]⟩] 71)
      have hB2 := bel_of hB1 hA2
      have hm2 : (w1.alloc (.cells #[.string (markB (q / 4 * 4)), .string ⟨#[46]⟩] 71)).heap[w1.heap.size]? = some (.cells #[.string (markB (q / 4 * 4)), .string ⟨#[46]⟩] 71 (0, 0)) := heap_alloc_new w1 _
      clear b3 hbw hb1 hB1 hA2
      go_wp2_with fail
      generalize w1.alloc (.cells #[.string (markB (q / 4 * 4)), .string ⟨#[46]⟩] 71) = w2 at *
      generalize w1.heap.size = mb at *
      obtain ⟨la, n, lc, hv, hn, hmk, _⟩ := HG.out q hlt
      obtain ⟨gV, rfl, hgV, hvc⟩ := HC.out q hlt hlt
      rw [hv] at hvc
      have HMK := hid hmk
      clear hmk
      go_loopw [5] (fun j wr2 => ∃ p : Nat, p ≤ n ∧ j = .int .i64 p ∧ Below w2.heap.size w2 wr2) (fun j _ => n - (intOf j).toNat)
      case atStart => exact ⟨0, Nat.zero_le _, rfl, Below.refl _ _⟩
      case round =>
        obtain ⟨p, hp, rfl, hbp⟩ := hrel
        have hB3 := bel_of hB2 hbp
        have b3 := cell_later hB3 HB.out
        have v3 := cell_later hB3 hvc
        have m0 := cell_later hbp (a := ⟨mb, 0, none⟩) (v := .string (markB (q / 4 * 4))) (by rw [Lib.cell_of_heap hm2]; rfl)
        have m1 := cell_later hbp (a := ⟨mb, 1, none⟩) (v := .string ⟨#[46]⟩) (by rw [Lib.cell_of_heap hm2]; rfl)
        by_cases hlp : p < n
        · obtain ⟨gl, rfl, hgl, hc1, hc2⟩ := (HMK.out.below hB3) p (by simpa using hlp)
          simp only [List.getElem_replicate, mkF] at hc1 hc2
          go_wp2_with fail
          go_quiet (fail)
          go_wp2
          exact ⟨⟨p + 1, by omega, by go_num, below_drewN hbp _⟩, by simp [intOf]; omega⟩
        · go_wp2
          exact ⟨⟨q + 1, by omega, by go_num, hB3⟩, by simp [intOf]; omega⟩
    · go_wp2
      go_ret
      exact ⟨rfl, hbw⟩

set_option maxHeartbeats 1000000 in
theorem lookInts_none (bk : Nat) (w : World) (h : w.cell? ⟨bk, 0, none⟩ = some (.slice none 0 0)) :
    Calls Tryd.prog 22 #[.pointer (some ⟨bk, 0, none⟩)] w fun r w' => r = .returned (.bool true) ∧ w' = w := by
  go_enter Tryd.func22, Tryd.ntmps22
  go_wp2_with fail
  go_loop [3, 4, 5] (fun i _ _ => i = .int .i64 0) (fun _ _ _ => 0)
  case atStart => rfl
  case round =>
    obtain rfl := hrel
    go_wp2
    go_ret
    exact ⟨rfl, rfl⟩

set_option maxHeartbeats 1000000 in
theorem lookTexts_none (bk : Nat) (w : World) (h : w.cell? ⟨bk, 1, none⟩ = some (.slice none 0 0)) :
    Calls Tryd.prog 23 #[.pointer (some ⟨bk, 0, none⟩)] w fun r w' => r = .returned (.bool true) ∧ w' = w := by
  go_enter Tryd.func23, Tryd.ntmps23
  go_wp2_with fail
  go_loop [3, 4, 5] (fun i _ _ => i = .int .i64 0) (fun _ _ _ => 0)
  case atStart => rfl
  case round =>
    obtain rfl := hrel
    go_wp2
    go_ret
    exact ⟨rfl, rfl⟩

set_option maxHeartbeats 1000000 in
theorem lookFields_none (bk : Nat) (w : World) (h : w.cell? ⟨bk, 3, none⟩ = some (.slice none 0 0)) :
    Calls Tryd.prog 25 #[.pointer (some ⟨bk, 0, none⟩)] w fun r w' => r = .returned (.bool true) ∧ w' = w := by
  go_enter Tryd.func25, Tryd.ntmps25
  go_wp2_with fail
  go_loop [3, 4, 5] (fun i _ _ => i = .int .i64 0) (fun _ _ _ => 0)
  case atStart => rfl
  case round =>
    obtain rfl := hrel
    go_wp2
    go_ret
    exact ⟨rfl, rfl⟩

set_option maxHeartbeats 1000000 in
theorem looks_any (bk B : Nat) (vs : List Value) (V : Value) (w : World) (hbk : BkAt bk B vs V w) (hvs : vs.length ≤ 12) (hg : ∀ i (h : i < vs.length), Good bk V i vs[i] w) :
    Calls Tryd.prog 12 #[.pointer (some ⟨bk, 0, none⟩)] w fun r w' => r = .returned (.bool true) ∧ Below w.heap.size w w' := by
  have c0 : w.cell? ⟨bk, 0, none⟩ = some (.slice none 0 0) := by rw [Lib.cell_of_heap hbk.blk]; rfl
  have c1 : w.cell? ⟨bk, 1, none⟩ = some (.slice none 0 0) := by rw [Lib.cell_of_heap hbk.blk]; rfl
  have c3 : w.cell? ⟨bk, 3, none⟩ = some (.slice none 0 0) := by rw [Lib.cell_of_heap hbk.blk]; rfl
  have H1 := hid (lookInts_none bk w c0)
  have H2 := hid (lookTexts_none bk w c1)
  have H3 := hid (fun W (hW : Below w.heap.size w W) => lookFields_none bk W (cell_later hW c3))
  have H4 := hid (lookFields_any bk B vs V w hbk hvs hg)
  clear c0 c1 c3 hbk hg
  go_enter Tryd.func12, Tryd.ntmps12
  go_wp2_with fail
  refine H1.out.mono ?_
  rintro e w1 ⟨rfl, hw1⟩
  subst hw1
  go_wp2_with fail
  refine H2.out.mono ?_
  rintro e w2 ⟨rfl, hw2⟩
  subst hw2
  go_wp2_with fail
  refine H4.out.mono ?_
  rintro e w3 ⟨rfl, hb3⟩
  go_wp2_with fail
  refine (H3.out _ hb3).mono ?_
  rintro e w4 ⟨rfl, hw4⟩
  subst hw4
  clear H1 H2 H3 H4
  go_wp2
  go_ret
  exact ⟨rfl, hb3⟩
end Go.Proofs.YtnohadlihgjppaaDoor.Bp
