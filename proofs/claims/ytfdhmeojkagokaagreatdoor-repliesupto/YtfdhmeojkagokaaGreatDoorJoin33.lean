/- Texts that follow one another, joined. -/
import Derived.Test.YtfdhmeojkagokaaGreatDoorJoin29
import Derived.Test.YtfdhmeojkagokaaGreatDoorJoin07
import Derived.Test.YtfdhmeojkagokaaGreatDoorJoin08
import Derived.Deep.AppendLies
import Derived.Test.YtfdhmeojkagokaaGreatDoorJoin32
/- A book that holds lists of parameters, first part: marks, lists that are the same, appending marks. -/
namespace Go.Proofs.YtfdhmeojkagokaaGreatDoor.Bp
open Go.RowKit

/- the mark of the n-th list, for the few lists that there are -/
def digS (n : Nat) : ByteArray := ⟨#[(48 + n).toUInt8]⟩
theorem ret_str {a b : ByteArray} (h : a = b) : Ending.returned (.string a) = .returned (.string b) := by rw [h]
def markB (n : Nat) : ByteArray := ⟨#[109, 97, 114, 107, 32, (48 + n).toUInt8]⟩
set_option maxHeartbeats 1000000 in
theorem number_digit (n : Nat) (hn : n ≤ 9) (w : World) :
    Calls Tryz.prog 51 #[.int .i64 n, .int .i64 10] w fun e w' => e = .returned (.string (digS n)) ∧ Below w.heap.size w w' := by
  have hx : ∀ k : Nat, k ≤ 9 → ((⟨#[48, 49, 50, 51, 52, 53, 54, 55, 56, 57, 97, 98, 99, 100, 101, 102]⟩ : ByteArray).extract k (k + 1)) = digS k := by decide
  have HX := hid (hx n hn)
  have hsz : (digS n).size = 1 := rfl
  clear hx
  go_enter Tryz.func51, Tryz.ntmps51
  go_wp2
  go_ret
  exact ⟨ret_str HX.out, Below.refl _ _⟩
theorem mark_app (n : Nat) : (⟨#[109, 97, 114, 107, 32]⟩ : ByteArray) ++ digS n = markB n := by
  apply ByteArray.ext
  rw [ByteArray.data_append]; rfl
set_option maxHeartbeats 1000000 in
theorem markText_any (n : Nat) (hn : n ≤ 9) (w : World) :
    Calls Tryz.prog 30 #[.int .i64 n] w fun e w' => e = .returned (.string (markB n)) ∧ Below w.heap.size w w' := by
  have hsz : (digS n).size = 1 := rfl
  go_enter Tryz.func30, Tryz.ntmps30
  go_wp2_with (go_at_call 51; refine (number_digit n hn _).mono ?_; rintro e w1 ⟨rfl, hb1⟩)
  go_ret
  exact ⟨ret_str (mark_app n), hb1⟩
set_option maxHeartbeats 1000000 in
theorem markField_any (n : Nat) (hn : n ≤ 9) (w : World) :
    Calls Tryz.prog 31 #[.int .i64 n] w fun e w' => e = .returned (.agg #[.string (markB n), .string ⟨#[46]⟩]) ∧ Below w.heap.size w w' := by
  have hA := (Below.refl w.heap.size w).alloc (Nat.le_refl _) (.cells #[.string ⟨#[]⟩, .string ⟨#[]⟩] 76)
  go_enter Tryz.func31, Tryz.ntmps31
  go_wp2_with fail
  refine (markText_any n hn _).mono ?_
  rintro e w1 ⟨rfl, hb1⟩
  have c0 := cell_later hb1 (a := ⟨w.heap.size, 0, none⟩) (v := .string ⟨#[]⟩) (by simp)
  have c1 := cell_later hb1 (a := ⟨w.heap.size, 1, none⟩) (v := .string ⟨#[]⟩) (by simp)
  have d0 : w1.frozen? ⟨w.heap.size, 0, none⟩ = false := by rw [hb1.frozen (by simp)]; simp
  have d1 : w1.frozen? ⟨w.heap.size, 1, none⟩ = false := by rw [hb1.frozen (by simp)]; simp
  have BL := hid (bel_of hA hb1)
  clear hA hb1
  go_wp2
  refine bodyPost_ret (v := .agg #[.string (markB n), .string ⟨#[46]⟩]) (by simp [results, Tryz.results31, go_sem, c0, c1]) rfl ?_
  exact ⟨rfl, (BL.out.setCell (Nat.le_refl _) _).setCell (Nat.le_refl _) _⟩


def mkF (n : Nat) : ByteArray × ByteArray := (markB n, ⟨#[46]⟩)
/- the cells of k marks -/
def mrk (n : Nat) : Nat → List Value
  | 0 => []
  | k + 1 => .string (markB n) :: .string ⟨#[46]⟩ :: mrk n k
theorem mrk_len (n k : Nat) : (mrk n k).length = k * 2 := by
  induction k with
  | zero => rfl
  | succ k ih => simp [mrk, ih]; omega
theorem mrk_add (n j k : Nat) : mrk n (j + k) = mrk n j ++ mrk n k := by
  induction j with
  | zero => simp [mrk]
  | succ j ih => rw [show j + 1 + k = (j + k) + 1 from by omega]; simp [mrk, ih]
theorem mrk_get (n : Nat) : ∀ (k i : Nat), i < k → (mrk n k)[i * 2]? = some (.string (markB n)) ∧ (mrk n k)[i * 2 + 1]? = some (.string ⟨#[46]⟩)
  | 0, i, h => absurd h (by omega)
  | k + 1, 0, _ => ⟨rfl, rfl⟩
  | k + 1, i + 1, h => by
    have := mrk_get n k i (by omega)
    rw [show (i + 1) * 2 = i * 2 + 1 + 1 from by omega, show i * 2 + 1 + 1 + 1 = (i * 2 + 1) + 1 + 1 from by omega]
    simp only [mrk, List.getElem?_cons_succ]
    exact this
theorem mrk_one (n k : Nat) : ∀ u ∈ mrk n k, u.oneCell' = true := by
  induction k with
  | zero => intro u hu; simp [mrk] at hu
  | succ k ih =>
    intro u hu
    simp only [mrk, List.mem_cons] at hu
    rcases hu with rfl | rfl | hu
    · rfl
    · rfl
    · exact ih u hu
abbrev Mk (n k : Nat) (a : Option Addr) (w : World) : Prop := FlAt (List.replicate k (mkF n)) a w
theorem mk_of_owns {w : World} {B : Nat} {e : TypeId} {v : Value} {n k : Nat} (h : w.ownsRow B e 2 v k (mrk n k)) : ∃ a cap, v = .slice a k cap ∧ Mk n k a w := by
  obtain ⟨h1, h2⟩ := h
  rcases h2 with ⟨h2, h3⟩ | ⟨g, cap, cur, hv, hB, hg, hc, hm, hsz, ht⟩
  · subst h3
    exact ⟨none, 0, h2, fun i hi => by simp at hi⟩
  · refine ⟨some ⟨g, 0, none⟩, cap, hv, fun i hi => ⟨g, rfl, ?_, ?_, ?_⟩⟩
    · rcases Nat.lt_or_ge g w.heap.size with h' | h'
      · exact h'
      · simp [Array.getElem?_eq_none h'] at hg
    all_goals
      simp only [List.length_replicate] at hi
      obtain ⟨m1, m2⟩ := mrk_get n k i hi
      rw [← ht, List.getElem?_take] at m1 m2
      rw [Lib.cell_of_heap hg, List.getElem_replicate]
    · split at m1
      · simpa [mkF] using m1
      · cases m1
    · split at m2
      · simpa [mkF] using m2
      · cases m2

theorem owns_prefix {w : World} {B : Nat} {e : TypeId} {g n k m cap : Nat} (hm : w.ownsRow B e 2 (.slice (some ⟨g, 0, none⟩) (k + m) cap) (k + m) (mrk n k ++ mrk n m)) : w.ownsRow B e 2 (.slice (some ⟨g, 0, none⟩) k cap) k (mrk n k) := by
  obtain ⟨h1, h2⟩ := hm
  rcases h2 with ⟨h2, _⟩ | ⟨g', cap', cur, hv, hB, hg, hc, hmx, hsz, ht⟩
  · cases h2
  · simp only [Value.slice.injEq, Option.some.injEq, Addr.mk.injEq] at hv
    obtain ⟨⟨rfl, _, _⟩, _, rfl⟩ := hv
    refine ⟨mrk_len n k, .inr ⟨g, cap, cur, rfl, hB, hg, by omega, hmx, hsz, ?_⟩⟩
    have := congrArg (List.take (k * 2)) ht
    rw [List.take_take, List.take_left' (mrk_len n k), show min (k * 2) ((k + m) * 2) = k * 2 from by omega] at this
    exact this

theorem over_get (l ns : List Value) (A x : Nat) (hA : A ≤ l.length) : (l.take A ++ ns ++ l.drop (A + ns.length))[x]? = if x < A then l[x]? else if x < A + ns.length then ns[x - A]? else l[x]? := by
  have hl : (l.take A).length = A := by simp; omega
  rw [List.append_assoc]
  by_cases h1 : x < A
  · rw [if_pos h1, List.getElem?_append_left (by omega), List.getElem?_take_of_lt h1]
  · rw [if_neg h1, List.getElem?_append_right (by omega), hl]
    by_cases h2 : x < A + ns.length
    · rw [if_pos h2, List.getElem?_append_left (by omega)]
    · rw [if_neg h2, List.getElem?_append_right (by omega), List.getElem?_drop]
      congr 1; omega
section
variable {P : Program} (w : World)
theorem run_append_marks (t ty : TypeId) (base : Nat) (e : TypeId) (i : TypeInfo) (z : Value) (ht : P.underlying t = some (.slice e)) (hi : P.info? e = some i) (hz : i.zero = some z)
    (hsize : i.size = 2) (hby : i.bytes = 32) (hzs : z.cells.size = 2) (v : Value) (n k : Nat) (hown : w.ownsRow base e 2 v k (mrk n k))
    (ad : Addr) (m c : Nat) (hnews : ∀ j u, (mrk n m)[j]? = some u → w.cell? (ad.add j) = some u)
    (hm : 0 < m) (h63 : k + m ≤ 1000000) (hbase : base ≤ w.heap.size) :
    ∃ g cap w', (Builtin.append_ #[t, t] ty #[v, .slice (some ad) m c]).run P w = .ok (.slice (some ⟨g, 0, none⟩) (k + m) cap) w' ∧
      w'.ownsRow base e 2 (.slice (some ⟨g, 0, none⟩) (k + m) cap) (k + m) (mrk n (k + m)) ∧ w.grownBy w' v.ownBlock ∧ (v.ownBlock = some g ∨ g = w.heap.size) ∧ g < w'.heap.size ∧
      w'.ownsRow base e 2 v k (mrk n k) ∧ (∀ j a, Mk n j a w → Mk n j a w') := by
  obtain ⟨g, cap, w', hr, h2, h3, h4, h5⟩ := run_append_lies (P := P) w t ty base e i z 2 32 ht hi hz hsize hby hzs (by omega) v k (mrk n k) hown ad m c (mrk n m) (mrk_len n m) hnews (mrk_one n m) hm (by unfold maxLen; omega) (by omega) hbase _ rfl
  refine ⟨g, cap, w', hr, by rw [mrk_add]; exact h2, h3, h4, h5, ?_⟩
  rcases hown.2 with ⟨rfl, rfl⟩ | ⟨g0, cap0, cur, rfl, hbg, hg, hnc, hcm, hcs, htake⟩
  · refine ⟨World.ownsRow_nil _ _ _ _, fun j a hj => ?_⟩
    refine fun q hq => ?_
    obtain ⟨gg, h6, h7, h8, h9⟩ := hj q hq
    have hb := h3.block gg h7 (by simp [Value.ownBlock])
    exact ⟨gg, h6, Nat.lt_of_lt_of_le h7 h3.size, by rw [World.cell?_of_block (w := w) hb]; exact h8, by rw [World.cell?_of_block (w := w) hb]; exact h9⟩
  · by_cases hroom : k + m ≤ cap0
    · have hr2 := run_append_room (P := P) w t ty e i ht hi g0 k cap0 cur hg ad m c (mrk n m) (by rw [hsize]; exact mrk_len n m) hnews (mrk_one n m) hroom (by rw [hsize, mrk_len, hcs]; omega)
      rw [hr] at hr2
      simp only [Result.ok.injEq, Value.slice.injEq, Option.some.injEq, Addr.mk.injEq] at hr2
      obtain ⟨⟨⟨rfl, _, _⟩, _, rfl⟩, hw'⟩ := hr2
      refine ⟨owns_prefix h2, fun j a hj q hq => ?_⟩
      obtain ⟨gg, h6, h7, h8, h9⟩ := hj q hq
      by_cases hgg : gg = g
      · subst hgg
        rw [hsize, mrk_len] at hw'
        have hg2 : w'.heap[gg]? = some (.cells (cur.toList.take (k * 2) ++ mrk n m ++ cur.toList.drop (k * 2 + m * 2)).toArray e (0, 0)) := by
          rw [hw']; exact setRow_heap w gg cur _ e _ hg
        have hA : k * 2 ≤ cur.toList.length := by rw [Array.length_toList, hcs]; omega
        rw [Lib.cell_of_heap hg] at h8 h9
        have og := fun x => over_get cur.toList (mrk n m) (k * 2) x hA
        rw [mrk_len] at og
        refine ⟨gg, h6, Nat.lt_of_lt_of_le h7 h3.size, ?_, ?_⟩
        · rw [Lib.cell_of_heap hg2, List.getElem?_toArray, og]
          split
          · simpa using h8
          · split
            · have := (mrk_get n m (q - k) (by omega)).1
              rw [show q * 2 - k * 2 = (q - k) * 2 from by omega, this, List.getElem_replicate]; rfl
            · simpa using h8
        · rw [Lib.cell_of_heap hg2, List.getElem?_toArray, og]
          split
          · simpa using h9
          · split
            · have := (mrk_get n m (q - k) (by omega)).2
              rw [show q * 2 + 1 - k * 2 = (q - k) * 2 + 1 from by omega, this, List.getElem_replicate]; rfl
            · simpa using h9
      · have hb := h3.block gg h7 (by simp [Value.ownBlock]; exact fun h => hgg h)
        exact ⟨gg, h6, Nat.lt_of_lt_of_le h7 h3.size, by rw [World.cell?_of_block (w := w) hb]; exact h8, by rw [World.cell?_of_block (w := w) hb]; exact h9⟩
    · have holds : ∀ j u, (mrk n k)[j]? = some u → w.cell? ((⟨g0, 0, none⟩ : Addr).add j) = some u := hown.cells (g := g0) rfl
      have hr2 := run_append_grow (P := P) w t ty e i z ht hi hz ⟨g0, 0, none⟩ k cap0 (mrk n k) (by rw [hsize]; exact mrk_len n k) holds ad m c (mrk n m) (by rw [hsize]; exact mrk_len n m) hnews (by omega) (by omega) (growslice_fits (by omega) (by rw [hby]; omega))
      rw [hr] at hr2
      simp only [Result.ok.injEq] at hr2
      obtain ⟨_, hw'⟩ := hr2
      have hB : Below w.heap.size w w' := by rw [hw']; exact (Below.refl _ _).drew.alloc (by simp) _
      exact ⟨owns_below hown hB, fun j a hj => hj.below hB⟩
theorem wpList_append_marks {ops : Array Oper} {rest : List Oper} {o : Oper} {a : Act} {Q : Exit → Act → World → Prop} (hgd : o.guard = none) (s x : Operand) (t : TypeId)
    (ho : o.op = .call { callee := .builtin .append, args := #[s, x], argTypes := #[t, t] })
    (base : Nat) (e : TypeId) (i : TypeInfo) (z : Value) (ht : P.underlying t = some (.slice e)) (hi : P.info? e = some i) (hz : i.zero = some z)
    (hsize : i.size = 2) (hby : i.bytes = 32) (hzs : z.cells.size = 2) (v : Value) (n k : Nat) (hs : a.eval s = v) (hown : w.ownsRow base e 2 v k (mrk n k))
    (ad : Addr) (m c : Nat) (hx : a.eval x = .slice (some ad) m c) (hnews : ∀ j u, (mrk n m)[j]? = some u → w.cell? (ad.add j) = some u)
    (hm : 0 < m) (h63 : k + m ≤ 1000000) (hbase : base ≤ w.heap.size)
    (h : ∀ g cap w', w'.ownsRow base e 2 (.slice (some ⟨g, 0, none⟩) (k + m) cap) (k + m) (mrk n (k + m)) → w.grownBy w' v.ownBlock → (v.ownBlock = some g ∨ g = w.heap.size) → g < w'.heap.size →
      w'.ownsRow base e 2 v k (mrk n k) → (∀ j a, Mk n j a w → Mk n j a w') → wpList P ops Q rest (a.put o.dst (.slice (some ⟨g, 0, none⟩) (k + m) cap)) w') : wpList P ops Q (o :: rest) a w := by
  refine wpList_plain hgd fun K hK => ?_
  obtain ⟨g, cap, w', hr, h2, h3, h4, h5, h6, h7⟩ := run_append_marks (P := P) w t o.type base e i z ht hi hz hsize hby hzs v n k hown ad m c hnews hm h63 hbase
  unfold Oper.wp execOp
  simp only [ho, resolve, invoke, builtin, Sem.run_bind, Sem.run_pure, Result.andThen_ok, List.map_toArray, List.map_cons, List.map_nil, hs, hx, hr]
  exact hK _ _ (h g cap w' h2 h3 h4 h5 h6 h7)
end
end Go.Proofs.YtfdhmeojkagokaaGreatDoor.Bp

/- A book that holds lists of parameters, second part: keepParams. -/
namespace Go.Proofs.YtfdhmeojkagokaaGreatDoor.Bp
open Go.RowKit

/- the book's block and the row of its lists -/
structure BkAt (bk B : Nat) (vs : List Value) (V : Value) (w : World) : Prop where
  blk : w.heap[bk]? = some (.cells #[.slice none 0 0, .slice none 0 0, V, .slice none 0 0] 37 (0, 0))
  own : w.ownsRow B 61 1 V vs.length vs
  lt : bk < B
/- a list of the book: it reads as the i-th was written; its block is its own -/
def Good (bk : Nat) (V : Value) (i : Nat) (v : Value) (w : World) : Prop :=
  ∃ a n cap, v = .slice a n cap ∧ n ≤ 1000000 ∧ Mk (i / 4 * 4) n a w ∧ ∀ r, v.ownBlock = some r → r < w.heap.size ∧ r ≠ bk ∧ V.ownBlock ≠ some r
theorem owns_len {w : World} {B : Nat} {e : TypeId} {sz : Nat} {v : Value} {n : Nat} {xs : List Value} (h : w.ownsRow B e sz v n xs) : ∃ a c, v = .slice a n c := by
  rcases h.2 with ⟨rfl, rfl⟩ | ⟨g, cap, cur, rfl, _⟩
  · exact ⟨_, _, rfl⟩
  · exact ⟨_, _, rfl⟩
theorem owns_blk {w : World} {B : Nat} {e : TypeId} {sz : Nat} {v : Value} {n : Nat} {xs : List Value} (h : w.ownsRow B e sz v n xs) : ∀ r, v.ownBlock = some r → B ≤ r ∧ r < w.heap.size := by
  intro r hr
  rcases h.2 with ⟨rfl, _⟩ | ⟨g, cap, cur, rfl, hB, hg, _⟩
  · cases hr
  · simp only [Value.ownBlock, Option.some.injEq] at hr
    subst hr
    refine ⟨hB, ?_⟩
    rcases Nat.lt_or_ge g w.heap.size with h' | h'
    · exact h'
    · simp [Array.getElem?_eq_none h'] at hg
theorem mk_block {n k : Nat} {a : Option Addr} {w w' : World} (h : Mk n k a w) (hs : w.heap.size ≤ w'.heap.size) (hb : ∀ g, a = some ⟨g, 0, none⟩ → w'.heap[g]? = w.heap[g]?) : Mk n k a w' := fun i hi => by
  obtain ⟨g, h1, h2, h3, h4⟩ := h i hi
  have := hb g h1
  exact ⟨g, h1, Nat.lt_of_lt_of_le h2 hs, by rw [World.cell?_of_block (w := w) this]; exact h3, by rw [World.cell?_of_block (w := w) this]; exact h4⟩
theorem take_mrk {cur : Array Value} {n k : Nat} (hs : k * 2 ≤ cur.size) (h : ∀ i, i < k → cur[i * 2]? = some (.string (markB n)) ∧ cur[i * 2 + 1]? = some (.string ⟨#[46]⟩)) : cur.toList.take (k * 2) = mrk n k := by
  apply List.ext_getElem?
  intro x
  by_cases hx : x < k * 2
  · rw [List.getElem?_take_of_lt hx]
    obtain ⟨h1, h2⟩ := h (x / 2) (by omega)
    obtain ⟨m1, m2⟩ := mrk_get n k (x / 2) (by omega)
    rcases Nat.mod_two_eq_zero_or_one x with h0 | h0
    · have e : x / 2 * 2 = x := by omega
      rw [e] at h1 m1; rw [m1]; simpa using h1
    · have e : x / 2 * 2 + 1 = x := by omega
      rw [e] at h2 m2; rw [m2]; simpa using h2
  · rw [List.getElem?_eq_none (by simp; omega), List.getElem?_eq_none (by rw [mrk_len]; omega)]

theorem infoL : (Tryz.prog.info? 61).map (fun i => (i.zero, i.size, i.bytes)) = some (some (.slice none 0 0), 1, 24) := by kernel_rfl

/- what holds while the list is appended to -/
structure St (bk B L N0 mb : Nat) (vs : List Value) (V l : Value) (k : Nat) (w0 w : World) : Prop where
  ow : w.ownsRow L 76 2 l k (mrk vs.length k)
  kbk : w.heap[bk]? = some (.cells #[.slice none 0 0, .slice none 0 0, V, .slice none 0 0] 37 (0, 0))
  kV : w.ownsRow B 61 1 V vs.length vs
  kB : Below N0 w0 w
  kG : ∀ i (h : i < vs.length), Good bk V i vs[i] w ∧ ∀ r, (vs[i]).ownBlock = some r → r < L
  km : w.heap[mb]? = some (.cells #[.string (markB vs.length), .string ⟨#[46]⟩] 76 (0, 0))
  kS : L ≤ w.heap.size
  kT : B ≤ w.heap.size
  kN : N0 ≤ L
theorem heap_lt {w : World} {g : Nat} {o : Obj} (h : w.heap[g]? = some o) : g < w.heap.size := by
  rcases Nat.lt_or_ge g w.heap.size with h' | h'
  · exact h'
  · simp [Array.getElem?_eq_none h'] at h
theorem good_below {bk : Nat} {V : Value} {i : Nat} {v : Value} {w w' : World} (h : Good bk V i v w) (hb : Below w.heap.size w w') : Good bk V i v w' := by
  obtain ⟨a, n, cap, e1, e2, e3, e4⟩ := h
  exact ⟨a, n, cap, e1, e2, e3.below hb, fun r hr => ⟨Nat.lt_of_lt_of_le (e4 r hr).1 hb.size, (e4 r hr).2⟩⟩
theorem St.below {bk B L N0 mb : Nat} {vs : List Value} {V l : Value} {k : Nat} {w0 w w' : World} (h : St bk B L N0 mb vs V l k w0 w) (hb : Below w.heap.size w w') : St bk B L N0 mb vs V l k w0 w' :=
  { ow := owns_below h.ow hb, kbk := by rw [hb.block bk (heap_lt h.kbk)]; exact h.kbk, kV := owns_below h.kV hb, kB := h.kB.trans (hb.mono (Nat.le_trans h.kN h.kS)), kG := fun i hi => ⟨good_below (h.kG i hi).1 hb, (h.kG i hi).2⟩, km := by rw [hb.block mb (heap_lt h.km)]; exact h.km, kS := Nat.le_trans h.kS hb.size, kT := Nat.le_trans h.kT hb.size, kN := h.kN }
theorem St.grown {bk B L N0 mb : Nat} {vs : List Value} {V l : Value} {k : Nat} {w0 w w' : World} (h : St bk B L N0 mb vs V l k w0 w) (hg : w.grownBy w' l.ownBlock) (how : w'.ownsRow L 76 2 l k (mrk vs.length k)) (h1 : bk < L) (h2 : ∀ r, V.ownBlock = some r → r < L) (h3 : l.ownBlock ≠ some mb) (n3 : N0 ≤ L) (n4 : N0 ≤ w.heap.size) : St bk B L N0 mb vs V l k w0 w' := by
  have hl := owns_blk h.ow
  have blk : ∀ r, r < w.heap.size → r < L → w'.heap[r]? = w.heap[r]? := fun r hr hrL => hg.block r hr (fun e => by have := (hl r e.symm).1; omega)
  refine { ow := how, kbk := by rw [blk bk (heap_lt h.kbk) h1]; exact h.kbk, kV := ?_, kB := h.kB.grown hg n4 (fun r hr => Nat.le_trans n3 (hl r hr).1), kG := ?_, km := ?_, kS := Nat.le_trans h.kS hg.size, kT := Nat.le_trans h.kT hg.size, kN := h.kN }
  · rcases h.kV.2 with e | ⟨g, cap, cur, e1, e2, e3, e4⟩
    · exact ⟨h.kV.1, .inl e⟩
    · exact ⟨h.kV.1, .inr ⟨g, cap, cur, e1, e2, by rw [blk g (heap_lt e3) (h2 g (by rw [e1]; rfl))]; exact e3, e4⟩⟩
  · intro i hi
    obtain ⟨⟨a, n, cap, e1, e2, e3, e4⟩, e5⟩ := h.kG i hi
    refine ⟨⟨a, n, cap, e1, e2, mk_block e3 hg.size (fun g hgg => ?_), fun r hr => ⟨Nat.lt_of_lt_of_le (e4 r hr).1 hg.size, (e4 r hr).2⟩⟩, e5⟩
    have hr : (vs[i]).ownBlock = some g := by rw [e1, hgg]; rfl
    exact blk g (e4 g hr).1 (e5 g hr)
  · rw [hg.block mb (heap_lt h.km) (fun e => h3 e.symm)]; exact h.km

end Go.Proofs.YtfdhmeojkagokaaGreatDoor.Bp

/- A book that holds lists of parameters, third part: looks. -/
namespace Go.Proofs.YtfdhmeojkagokaaGreatDoor.Bp
open Go.RowKit

theorem owns_at1 {w : World} {B : Nat} {e : TypeId} {v : Value} {n : Nat} {xs : List Value} (h : w.ownsRow B e 1 v n xs) : ∃ a c, v = .slice a n c ∧ ∀ i (_ : i < n) (hx : i < xs.length), ∃ g, a = some ⟨g, 0, none⟩ ∧ g < w.heap.size ∧ w.cell? ⟨g, i, none⟩ = some xs[i] := by
  obtain ⟨h1, h2⟩ := h
  rcases h2 with ⟨rfl, rfl⟩ | ⟨g, cap, cur, rfl, _, hg, _, _, _, hc⟩
  · exact ⟨none, 0, rfl, fun i hi => absurd hi (by omega)⟩
  · refine ⟨some ⟨g, 0, none⟩, cap, rfl, fun i hi hx => ⟨g, rfl, heap_lt hg, ?_⟩⟩
    rw [Lib.cell_of_heap hg]
    have h3 : (cur.toList.take (n * 1))[i]? = some xs[i] := by rw [hc, List.getElem?_eq_getElem hx]
    rw [List.getElem?_take] at h3
    split at h3
    · simpa using h3
    · cases h3

set_option maxRecDepth 100000 in
set_option maxHeartbeats 2000000 in
theorem lookFields_any (bk B : Nat) (vs : List Value) (V : Value) (w : World) (hbk : BkAt bk B vs V w) (hvs : vs.length ≤ 12) (hg : ∀ i (h : i < vs.length), Good bk V i vs[i] w) :
    Calls Tryz.prog 17 #[.pointer (some ⟨bk, 0, none⟩)] w fun r w' => r = .returned (.bool true) ∧ Below w.heap.size w w' := by
  obtain ⟨Va, Vc, rfl, hcell⟩ := owns_at1 hbk.own
  have HC := hid hcell
  have HG := hid hg
  have HB : Hid (w.cell? ⟨bk, 2, none⟩ = some (.slice Va vs.length Vc)) := by show w.cell? ⟨bk, 2, none⟩ = some (.slice Va vs.length Vc); rw [Lib.cell_of_heap hbk.blk]; rfl
  have lk := heap_lt hbk.blk
  clear hbk hg hcell
  go_enter Tryz.func17, Tryz.ntmps17
  go_wp2_with fail
  go_loopw [3, 4, 5] (fun i _ _ wr => ∃ q : Nat, q ≤ vs.length ∧ i = .int .i64 q ∧ Below w.heap.size w wr) (fun i _ _ _ => vs.length - (intOf i).toNat)
  case atStart => exact ⟨0, Nat.zero_le _, rfl, Below.refl _ _⟩
  case round =>
    obtain ⟨q, hq, rfl, hbw⟩ := hrel
    have b3 := cell_later hbw HB.out
    by_cases hlt : q < vs.length
    · go_wp2_with fail
      rw [show ((q : Int) / 4 * 4) = ((q / 4 * 4 : Nat) : Int) from by omega]
      refine (markField_any (q / 4 * 4) (by omega) _).mono ?_
      rintro e w1 ⟨rfl, hb1⟩
      have hB1 := bel_of hbw hb1
      have hA2 := (Below.refl w1.heap.size w1).alloc (Nat.le_refl _) (.cells #[.string (markB (q / 4 * 4)), .string ⟨#[46]⟩] 76)
      have hB2 := bel_of hB1 hA2
      have hm2 : (w1.alloc (.cells #[.string (markB (q / 4 * 4)), .string ⟨#[46]⟩] 76)).heap[w1.heap.size]? = some (.cells #[.string (markB (q / 4 * 4)), .string ⟨#[46]⟩] 76 (0, 0)) := heap_alloc_new w1 _
      clear b3 hbw hb1 hB1 hA2
      go_wp2_with fail
      generalize w1.alloc (.cells #[.string (markB (q / 4 * 4)), .string ⟨#[46]⟩] 76) = w2 at *
      generalize w1.heap.size = mb at *
      obtain ⟨la, n, lc, hv, hn, hmk, _⟩ := HG.out q hlt
      obtain ⟨gV, rfl, hgV, hvc⟩ := HC.out q hlt hlt
      rw [hv] at hvc
      have HMK := hid hmk
      clear hmk
      go_loopw [5] (fun j wr2 => ∃ p : Nat, p ≤ n ∧ j = .int .i64 p ∧ Below w2.heap.size w2 wr2) (fun j _ => n - (intOf j).toNat)
      case atStart => exact ⟨0, Nat.zero_le _, rfl, Below.refl _ _⟩
      case round =>
        obtain ⟨p, hp, rfl, hbp⟩ := hrel
        have hB3 := bel_of hB2 hbp
        have b3 := cell_later hB3 HB.out
        have v3 := cell_later hB3 hvc
        have m0 := cell_later hbp (a := ⟨mb, 0, none⟩) (v := .string (markB (q / 4 * 4))) (by rw [Lib.cell_of_heap hm2]; rfl)
        have m1 := cell_later hbp (a := ⟨mb, 1, none⟩) (v := .string ⟨#[46]⟩) (by rw [Lib.cell_of_heap hm2]; rfl)
        by_cases hlp : p < n
        · obtain ⟨gl, rfl, hgl, hc1, hc2⟩ := (HMK.out.below hB3) p (by simpa using hlp)
          simp only [List.getElem_replicate, mkF] at hc1 hc2
          go_wp2_with fail
          go_quiet (fail)
          go_wp2
          exact ⟨⟨p + 1, by omega, by go_num, below_drewN hbp _⟩, by simp [intOf]; omega⟩
        · go_wp2
          exact ⟨⟨q + 1, by omega, by go_num, hB3⟩, by simp [intOf]; omega⟩
    · go_wp2
      go_ret
      exact ⟨rfl, hbw⟩

set_option maxHeartbeats 1000000 in
theorem lookInts_none (bk : Nat) (w : World) (h : w.cell? ⟨bk, 0, none⟩ = some (.slice none 0 0)) :
    Calls Tryz.prog 15 #[.pointer (some ⟨bk, 0, none⟩)] w fun r w' => r = .returned (.bool true) ∧ w' = w := by
  go_enter Tryz.func15, Tryz.ntmps15
  go_wp2_with fail
  go_loop [3, 4, 5] (fun i _ _ => i = .int .i64 0) (fun _ _ _ => 0)
  case atStart => rfl
  case round =>
    obtain rfl := hrel
    go_wp2
    go_ret
    exact ⟨rfl, rfl⟩

set_option maxHeartbeats 1000000 in
theorem lookTexts_none (bk : Nat) (w : World) (h : w.cell? ⟨bk, 1, none⟩ = some (.slice none 0 0)) :
    Calls Tryz.prog 16 #[.pointer (some ⟨bk, 0, none⟩)] w fun r w' => r = .returned (.bool true) ∧ w' = w := by
  go_enter Tryz.func16, Tryz.ntmps16
  go_wp2_with fail
  go_loop [3, 4, 5] (fun i _ _ => i = .int .i64 0) (fun _ _ _ => 0)
  case atStart => rfl
  case round =>
    obtain rfl := hrel
    go_wp2
    go_ret
    exact ⟨rfl, rfl⟩

set_option maxHeartbeats 1000000 in
theorem lookFields_none (bk : Nat) (w : World) (h : w.cell? ⟨bk, 3, none⟩ = some (.slice none 0 0)) :
    Calls Tryz.prog 18 #[.pointer (some ⟨bk, 0, none⟩)] w fun r w' => r = .returned (.bool true) ∧ w' = w := by
  go_enter Tryz.func18, Tryz.ntmps18
  go_wp2_with fail
  go_loop [3, 4, 5] (fun i _ _ => i = .int .i64 0) (fun _ _ _ => 0)
  case atStart => rfl
  case round =>
    obtain rfl := hrel
    go_wp2
    go_ret
    exact ⟨rfl, rfl⟩

set_option maxHeartbeats 1000000 in
theorem looks_any (bk B : Nat) (vs : List Value) (V : Value) (w : World) (hbk : BkAt bk B vs V w) (hvs : vs.length ≤ 12) (hg : ∀ i (h : i < vs.length), Good bk V i vs[i] w) :
    Calls Tryz.prog 5 #[.pointer (some ⟨bk, 0, none⟩)] w fun r w' => r = .returned (.bool true) ∧ Below w.heap.size w w' := by
  have c0 : w.cell? ⟨bk, 0, none⟩ = some (.slice none 0 0) := by rw [Lib.cell_of_heap hbk.blk]; rfl
  have c1 : w.cell? ⟨bk, 1, none⟩ = some (.slice none 0 0) := by rw [Lib.cell_of_heap hbk.blk]; rfl
  have c3 : w.cell? ⟨bk, 3, none⟩ = some (.slice none 0 0) := by rw [Lib.cell_of_heap hbk.blk]; rfl
  have H1 := hid (lookInts_none bk w c0)
  have H2 := hid (lookTexts_none bk w c1)
  have H3 := hid (fun W (hW : Below w.heap.size w W) => lookFields_none bk W (cell_later hW c3))
  have H4 := hid (lookFields_any bk B vs V w hbk hvs hg)
  clear c0 c1 c3 hbk hg
  go_enter Tryz.func5, Tryz.ntmps5
  go_wp2_with fail
  refine H1.out.mono ?_
  rintro e w1 ⟨rfl, hw1⟩
  subst hw1
  go_wp2_with fail
  refine H2.out.mono ?_
  rintro e w2 ⟨rfl, hw2⟩
  subst hw2
  go_wp2_with fail
  refine H4.out.mono ?_
  rintro e w3 ⟨rfl, hb3⟩
  go_wp2_with fail
  refine (H3.out _ hb3).mono ?_
  rintro e w4 ⟨rfl, hw4⟩
  subst hw4
  clear H1 H2 H3 H4
  go_wp2
  go_ret
  exact ⟨rfl, hb3⟩
end Go.Proofs.YtfdhmeojkagokaaGreatDoor.Bp

/- The reference's Common: the path that two patterns share, if there is one; nothing old in memory turns. -/
namespace Go.Proofs.YtfdhmeojkagokaaGreatDoor
open Go.RowKit

set_option maxRecDepth 100000 in
set_option maxHeartbeats 4000000 in
theorem rCommon_any (s t : ByteArray) (w : World) (hs : s.size ≤ 64) (ht : t.size ≤ 64) (ns : pcs s.data.toList ≠ []) (nt : pcs t.data.toList ≠ []) :
    Calls Tryz.prog 116 #[.string s, .string t] w fun r w' => (∃ b : ByteArray, r = .returned (.string b) ∧ b.toList.isEmpty = !(cmnB (pcs s.data.toList) (pcs t.data.toList))) ∧ Below w.heap.size w w' := by
  have HP1 := hid (fun W => rPieces_any s W (by omega))
  have HP2 := hid (fun W => rPieces_any t W (by omega))
  have HH1 := hid (fun (b : ByteArray) W (h : b.size ≤ 10000) => rHas_any s b W (by omega) (by omega))
  have HH2 := hid (fun (b : ByteArray) W (h : b.size ≤ 10000) => rHas_any t b W (by omega) (by omega))
  have hsl : s.data.toList.length = s.size := by simp
  have htl : t.data.toList.length = t.size := by simp
  have l1 := pcs_le _ s.data.toList (Nat.le_refl _)
  have l2 := pcs_le _ t.data.toList (Nat.le_refl _)
  rw [hsl] at l1
  rw [htl] at l2
  generalize hCB : cmnB (pcs s.data.toList) (pcs t.data.toList) = CB
  have HCB := hid hCB
  clear hCB
  unfold cmnB at HCB
  generalize pcs s.data.toList = A at *
  generalize pcs t.data.toList = B at *
  go_enter Tryz.func116, Tryz.ntmps116
  go_wp2_with fail
  refine (HP1.out _).mono ?_
  rintro e w1 ⟨⟨v1, ts, rfl, ow1, h1⟩, hb1⟩
  obtain ⟨a, ca, rfl, st1⟩ := StAt.of_owns ow1
  clear HP1 ow1
  go_wp2_with fail
  refine (HP2.out _).mono ?_
  rintro e w2 ⟨⟨v2, xs, rfl, ow2, h2⟩, hb2⟩
  obtain ⟨b, cb, rfl, st2⟩ := StAt.of_owns ow2
  have hB2 := bel_of hb1 hb2
  have ST1 := hid (st1.below hb2)
  have ST2 := hid st2
  subst h1 h2
  rw [List.length_map] at l1 l2
  have n1 : 0 < ts.length := List.length_pos_iff.mpr (fun h => ns (by rw [h]; rfl))
  have n2 : 0 < xs.length := List.length_pos_iff.mpr (fun h => nt (by rw [h]; rfl))
  have HZ1 : Hid (∀ i (h : i < ts.length), ts[i].size ≤ 64) := fun i h => by
    have h1 := l1.2 ts[i].data.toList (List.mem_map.mpr ⟨_, List.getElem_mem h, rfl⟩)
    have h2 : ts[i].data.toList.length = ts[i].size := by simp
    omega
  have HZ2 : Hid (∀ i (h : i < xs.length), xs[i].size ≤ 64) := fun i h => by
    have h1 := l2.2 xs[i].data.toList (List.mem_map.mpr ⟨_, List.getElem_mem h, rfl⟩)
    have h2 : xs[i].data.toList.length = xs[i].size := by simp
    omega
  have tl1 : ts.length ≤ 64 := by omega
  have tl2 : xs.length ≤ 64 := by omega
  clear HP2 ow2 st1 st2 hb1 hb2 l1 l2 hsl htl ns nt
  rw [List.length_map, List.length_map] at HCB
  generalize hA : ts.map (·.data.toList) = A at *
  generalize hBB : xs.map (·.data.toList) = B at *
  have HA := hid hA
  have HB := hid hBB
  clear hA hBB
  obtain ⟨n, hn⟩ : ∃ n, n = max ts.length xs.length := ⟨_, rfl⟩
  rw [← hn] at HCB
  have hmx : (ts.length < xs.length ∧ xs.length = n) ∨ (¬ ts.length < xs.length ∧ ts.length = n) := by omega
  have hn1 : ts.length ≤ n := by omega
  have hn2 : xs.length ≤ n := by omega
  have hn3 : n ≤ 64 := by omega
  clear hn
  have w1' : IntKind.i64.wrap ((ts.length : Int) - 1) = (ts.length : Int) - 1 := by simp [IntKind.wrap, IntKind.bits, IntKind.signed]; omega
  have w2' : IntKind.i64.wrap ((xs.length : Int) - 1) = (xs.length : Int) - 1 := by simp [IntKind.wrap, IntKind.bits, IntKind.signed]; omega
  rcases hmx with ⟨hlt, rfl⟩ | ⟨hlt, rfl⟩
  · go_wp2_with fail
    go_loopw [8, 9, 10, 11, 12, 13, 14, 15, 16, 17] (fun sv i _ _ _ _ _ _ _ _ wr => ∃ (q : Nat) (bs : ByteArray) (cs : List (List UInt8)), q ≤ xs.length ∧ i = .int .i64 q ∧ sv = .string bs ∧ bs.size ≤ q * 65 ∧ Hid (cmn A B q = some cs ∧ bs.data.toList = flatP cs) ∧ Below w2.heap.size w2 wr) (fun _ i _ _ _ _ _ _ _ _ _ => xs.length - (intOf i).toNat)
    case atStart => exact ⟨0, ⟨#[]⟩, [], Nat.zero_le _, rfl, rfl, Nat.le_refl _, ⟨rfl, rfl⟩, Below.refl _ _⟩
    case round =>
      obtain ⟨q, bs, cs, hq, rfl, rfl, hbs, H, hbw⟩ := hrel
      have HX : Hid ((xB ts q).data.toList = xAt A q) := by unfold Hid; rw [xB_at, HA.out]
      have HY : Hid ((xB xs q).data.toList = xAt B q) := by unfold Hid; rw [xB_at, HB.out]
      by_cases hq2 : q < xs.length
      · obtain ⟨ga, rfl, hga, hcaL⟩ := (ST1.out.below hbw) (ts.length - 1) (by omega)
        obtain ⟨gb, rfl, hgb, hcbL⟩ := (ST2.out.below hbw) (xs.length - 1) (by omega)
        obtain ⟨gN, hgN, _, hcN⟩ := (ST2.out.below hbw) q hq2
        obtain rfl : gb = gN := by simpa using hgN
        have hzN := HZ2.out q hq2
        have eN : xB xs q = xs[q] := by unfold xB; rw [if_pos hq2, List.getD_eq_getElem?_getD, List.getElem?_eq_getElem hq2]; rfl
        rw [← eN] at hcN hzN
        generalize xs[xs.length - 1] = lastN at *
        by_cases hq3 : q < ts.length
        · obtain ⟨gO, hgO, _, hcO⟩ := (ST1.out.below hbw) q hq3
          obtain rfl : ga = gO := by simpa using hgO
          have hzO := HZ1.out q hq3
          have eO : xB ts q = ts[q] := by unfold xB; rw [if_pos hq3, List.getD_eq_getElem?_getD, List.getElem?_eq_getElem hq3]; rfl
          rw [← eO] at hcO hzO
          generalize ts[ts.length - 1] = lastO at *
          generalize xB ts q = X at *
          generalize xB xs q = Y at *
          clear eN eO hgN hgO
          have hTs := heap_alloc_new wr (.cells #[.string X, .string Y, .string ⟨#[120]⟩] 214)
          have hA3 := (Below.refl wr.heap.size wr).alloc (Nat.le_refl _) (.cells #[.string X, .string Y, .string ⟨#[120]⟩] 214)
          have hB3 := bel_of hbw hA3
          have hzX : X.size ≤ 64 := by assumption
          have hzY : Y.size ≤ 64 := by assumption
          go_wp2_with fail
          generalize wr.alloc (.cells #[.string X, .string Y, .string ⟨#[120]⟩] 214) = w3 at *
          clear hA3
          generalize wr.heap.size = gT at *
          have HT : Hid (w3.heap[gT]? = some (.cells #[.string X, .string Y, .string ⟨#[120]⟩] 214 (0, 0))) := hTs
          have HTK := hid (fun p s W => rtakes_any p s W)
          have HFX := hid (fun s W => rIsFixed_any s W)
          clear hTs
          go_loopw [8, 13, 14, 15, 16, 17] (fun sv f k _ _ _ wi => ∃ (kk : Nat) (fd : Bool) (b2 : ByteArray), kk ≤ 3 ∧ k = .int .i64 kk ∧ f = .bool fd ∧ sv = .string b2 ∧ b2.size ≤ (q + 1) * 65 ∧ Hid ((fd = false ∧ b2 = bs ∧ ∀ j, j < kk → fitB X Y (tryAt X Y j) = false) ∨ (fd = true ∧ ∃ c, fnd X.data.toList Y.data.toList = some c ∧ b2.data.toList = bs.data.toList ++ 47 :: c)) ∧ Below w3.heap.size w3 wi) (fun _ _ k _ _ _ _ => 3 - (intOf k).toNat)
          case atStart => exact ⟨0, false, bs, Nat.zero_le _, rfl, rfl, rfl, by omega, .inl ⟨rfl, rfl, fun j h => absurd h (by omega)⟩, Below.refl _ _⟩
          case round =>
            obtain ⟨kk, fd, b2, hkk, rfl, rfl, rfl, hb2z, HI, hbi⟩ := hrel
            cases fd
            · obtain ⟨rfl, hno⟩ : b2 = bs ∧ ∀ j, j < kk → fitB X Y (tryAt X Y j) = false := by
                rcases HI.out with ⟨_, h1, h2⟩ | ⟨h, _⟩
                · exact ⟨h1, h2⟩
                · cases h
              have HNO := hid hno
              clear hno HI
              by_cases hk3 : kk < 3
              · have hcT := cell_later hbi (show w3.cell? ⟨gT, kk, none⟩ = some (.string (tryAt X Y kk)) by
                  rw [Lib.cell_of_heap HT.out]
                  match kk, hk3 with
                  | 0, _ => rfl
                  | 1, _ => rfl
                  | 2, _ => rfl)
                have hgT := Nat.lt_of_lt_of_le (Bp.heap_lt HT.out) hbi.size
                have hzT : (tryAt X Y kk).size ≤ 64 := by unfold tryAt; split; exact hzX; split; exact hzY; decide
                have HF : Hid (fitB X Y (tryAt X Y kk) = ((tkR X (tryAt X Y kk) && tkR Y (tryAt X Y kk)) && (Pm.pieceK (tryAt X Y kk).data.toList == 0))) := rfl
                have HYES : Hid (fitB X Y (tryAt X Y kk) = true → fnd X.data.toList Y.data.toList = some (tryAt X Y kk).data.toList) := fun h => fnd_at hk3 HNO.out h
                have HNEX : Hid (fitB X Y (tryAt X Y kk) = false → ∀ j, j < kk + 1 → fitB X Y (tryAt X Y j) = false) := fun h j hj => by
                  rcases Nat.lt_or_ge j kk with h3 | h3
                  · exact HNO.out j h3
                  · obtain rfl : j = kk := by omega
                    exact h
                generalize tryAt X Y kk = TT at *
                generalize fitB X Y TT = FB at *
                go_wp2_with fail
                refine (HTK.out X TT _).mono ?_
                rintro e w4 ⟨rfl, hb4⟩
                have hcT4 := cell_later hb4 hcT
                have hgT4 : gT < w4.heap.size := Nat.lt_of_lt_of_le hgT hb4.size
                have hB4 := bel_of hbi hb4
                clear hcT hgT
                go_wp2_with fail
                refine (HTK.out Y TT _).mono ?_
                rintro e w5 ⟨rfl, hb5⟩
                have hcT5 := cell_later hb5 hcT4
                have hgT5 : gT < w5.heap.size := Nat.lt_of_lt_of_le hgT4 hb5.size
                have hB5 := bel_of hB4 hb5
                clear hcT4 hgT4
                go_wp2_with fail
                refine (HFX.out TT _).mono ?_
                rintro e w6 ⟨rfl, hb6⟩
                have hcT6 := cell_later hb6 hcT5
                have hgT6 : gT < w6.heap.size := Nat.lt_of_lt_of_le hgT5 hb6.size
                have hB6 := bel_of hB5 hb6
                clear hcT5 hgT5 hb4 hb5 hb6 hB4 hB5
                generalize tkR X TT = f1 at *
                generalize tkR Y TT = f2 at *
                generalize (Pm.pieceK TT.data.toList == 0) = f3 at *
                cases f1
                · have HN2 := hid (HNEX.out HF.out)
                  clear HYES HNEX HF
                  go_wp2
                  exact ⟨⟨kk + 1, false, b2, by omega, by go_num, rfl, rfl, hb2z, .inl ⟨rfl, rfl, HN2.out⟩, hB6⟩, by simp [intOf]; omega⟩
                · cases f2
                  · have HN2 := hid (HNEX.out HF.out)
                    clear HYES HNEX HF
                    go_wp2
                    exact ⟨⟨kk + 1, false, b2, by omega, by go_num, rfl, rfl, hb2z, .inl ⟨rfl, rfl, HN2.out⟩, hB6⟩, by simp [intOf]; omega⟩
                  · cases f3
                    · have HN2 := hid (HNEX.out HF.out)
                      clear HYES HNEX HF
                      go_wp2
                      exact ⟨⟨kk + 1, false, b2, by omega, by go_num, rfl, rfl, hb2z, .inl ⟨rfl, rfl, HN2.out⟩, hB6⟩, by simp [intOf]; omega⟩
                    · have HY2 := hid (HYES.out HF.out)
                      clear HYES HNEX HF
                      go_wp2
                      exact ⟨⟨kk + 1, true, b2 ++ ⟨#[47]⟩ ++ TT, by omega, by go_num, rfl, rfl, (by simp only [ByteArray.size_append]; have h47 : (⟨#[47]⟩ : ByteArray).size = 1 := rfl; omega), .inr ⟨rfl, _, HY2.out, by simp⟩, hB6⟩, by simp [intOf]; omega⟩
              · have HS : Hid (cmn A B xs.length = none) := by
                  obtain rfl : kk = 3 := by omega
                  have h2 := fnd_no HNO.out
                  rw [HX.out, HY.out] at h2
                  exact cmn_stop h2 _ hq2
                have HF : Hid (CB = false) := by unfold Hid; rw [← HCB.out, HS.out]
                have hB7 := bel_of hB2 (bel_of hB3 hbi)
                clear HS HCB
                go_wp2
                go_ret
                exact ⟨⟨_, rfl, by rw [HF.out, ByteArray.toList_eq]; rfl⟩, hB7⟩
            · obtain ⟨c, hc1, hc2⟩ : ∃ c, fnd X.data.toList Y.data.toList = some c ∧ b2.data.toList = bs.data.toList ++ 47 :: c := by
                rcases HI.out with ⟨h, _⟩ | ⟨_, h⟩
                · cases h
                · exact h
              have HC : Hid (cmn A B (q + 1) = some (cs ++ [c]) ∧ b2.data.toList = flatP (cs ++ [c])) := by
                rw [HX.out, HY.out] at hc1
                exact ⟨cmn_next H.out.1 hc1, by rw [hc2, H.out.2, flatP_snoc]⟩
              have hB7 := bel_of hB3 hbi
              clear HI hc1 hc2
              go_wp2
              all_goals exact ⟨⟨q + 1, b2, _, by omega, by go_num, rfl, hb2z, HC.out, hB7⟩, by simp [intOf]; omega⟩
        · have hzO := HZ1.out (ts.length - 1) (by omega)
          have eO : xB ts q = ts[ts.length - 1] := by unfold xB; rw [if_neg hq3, List.getD_eq_getElem?_getD, List.getElem?_eq_getElem (by omega)]; rfl
          rw [← eO] at hcaL hzO
          generalize xB ts q = X at *
          generalize xB xs q = Y at *
          clear eN eO hgN
          have hTs := heap_alloc_new wr (.cells #[.string X, .string Y, .string ⟨#[120]⟩] 214)
          have hA3 := (Below.refl wr.heap.size wr).alloc (Nat.le_refl _) (.cells #[.string X, .string Y, .string ⟨#[120]⟩] 214)
          have hB3 := bel_of hbw hA3
          have hzX : X.size ≤ 64 := by assumption
          have hzY : Y.size ≤ 64 := by assumption
          go_wp2_with fail
          generalize wr.alloc (.cells #[.string X, .string Y, .string ⟨#[120]⟩] 214) = w3 at *
          clear hA3
          generalize wr.heap.size = gT at *
          have HT : Hid (w3.heap[gT]? = some (.cells #[.string X, .string Y, .string ⟨#[120]⟩] 214 (0, 0))) := hTs
          have HTK := hid (fun p s W => rtakes_any p s W)
          have HFX := hid (fun s W => rIsFixed_any s W)
          clear hTs
          go_loopw [8, 13, 14, 15, 16, 17] (fun sv f k _ _ _ wi => ∃ (kk : Nat) (fd : Bool) (b2 : ByteArray), kk ≤ 3 ∧ k = .int .i64 kk ∧ f = .bool fd ∧ sv = .string b2 ∧ b2.size ≤ (q + 1) * 65 ∧ Hid ((fd = false ∧ b2 = bs ∧ ∀ j, j < kk → fitB X Y (tryAt X Y j) = false) ∨ (fd = true ∧ ∃ c, fnd X.data.toList Y.data.toList = some c ∧ b2.data.toList = bs.data.toList ++ 47 :: c)) ∧ Below w3.heap.size w3 wi) (fun _ _ k _ _ _ _ => 3 - (intOf k).toNat)
          case atStart => exact ⟨0, false, bs, Nat.zero_le _, rfl, rfl, rfl, by omega, .inl ⟨rfl, rfl, fun j h => absurd h (by omega)⟩, Below.refl _ _⟩
          case round =>
            obtain ⟨kk, fd, b2, hkk, rfl, rfl, rfl, hb2z, HI, hbi⟩ := hrel
            cases fd
            · obtain ⟨rfl, hno⟩ : b2 = bs ∧ ∀ j, j < kk → fitB X Y (tryAt X Y j) = false := by
                rcases HI.out with ⟨_, h1, h2⟩ | ⟨h, _⟩
                · exact ⟨h1, h2⟩
                · cases h
              have HNO := hid hno
              clear hno HI
              by_cases hk3 : kk < 3
              · have hcT := cell_later hbi (show w3.cell? ⟨gT, kk, none⟩ = some (.string (tryAt X Y kk)) by
                  rw [Lib.cell_of_heap HT.out]
                  match kk, hk3 with
                  | 0, _ => rfl
                  | 1, _ => rfl
                  | 2, _ => rfl)
                have hgT := Nat.lt_of_lt_of_le (Bp.heap_lt HT.out) hbi.size
                have hzT : (tryAt X Y kk).size ≤ 64 := by unfold tryAt; split; exact hzX; split; exact hzY; decide
                have HF : Hid (fitB X Y (tryAt X Y kk) = ((tkR X (tryAt X Y kk) && tkR Y (tryAt X Y kk)) && (Pm.pieceK (tryAt X Y kk).data.toList == 0))) := rfl
                have HYES : Hid (fitB X Y (tryAt X Y kk) = true → fnd X.data.toList Y.data.toList = some (tryAt X Y kk).data.toList) := fun h => fnd_at hk3 HNO.out h
                have HNEX : Hid (fitB X Y (tryAt X Y kk) = false → ∀ j, j < kk + 1 → fitB X Y (tryAt X Y j) = false) := fun h j hj => by
                  rcases Nat.lt_or_ge j kk with h3 | h3
                  · exact HNO.out j h3
                  · obtain rfl : j = kk := by omega
                    exact h
                generalize tryAt X Y kk = TT at *
                generalize fitB X Y TT = FB at *
                go_wp2_with fail
                refine (HTK.out X TT _).mono ?_
                rintro e w4 ⟨rfl, hb4⟩
                have hcT4 := cell_later hb4 hcT
                have hgT4 : gT < w4.heap.size := Nat.lt_of_lt_of_le hgT hb4.size
                have hB4 := bel_of hbi hb4
                clear hcT hgT
                go_wp2_with fail
                refine (HTK.out Y TT _).mono ?_
                rintro e w5 ⟨rfl, hb5⟩
                have hcT5 := cell_later hb5 hcT4
                have hgT5 : gT < w5.heap.size := Nat.lt_of_lt_of_le hgT4 hb5.size
                have hB5 := bel_of hB4 hb5
                clear hcT4 hgT4
                go_wp2_with fail
                refine (HFX.out TT _).mono ?_
                rintro e w6 ⟨rfl, hb6⟩
                have hcT6 := cell_later hb6 hcT5
                have hgT6 : gT < w6.heap.size := Nat.lt_of_lt_of_le hgT5 hb6.size
                have hB6 := bel_of hB5 hb6
                clear hcT5 hgT5 hb4 hb5 hb6 hB4 hB5
                generalize tkR X TT = f1 at *
                generalize tkR Y TT = f2 at *
                generalize (Pm.pieceK TT.data.toList == 0) = f3 at *
                cases f1
                · have HN2 := hid (HNEX.out HF.out)
                  clear HYES HNEX HF
                  go_wp2
                  exact ⟨⟨kk + 1, false, b2, by omega, by go_num, rfl, rfl, hb2z, .inl ⟨rfl, rfl, HN2.out⟩, hB6⟩, by simp [intOf]; omega⟩
                · cases f2
                  · have HN2 := hid (HNEX.out HF.out)
                    clear HYES HNEX HF
                    go_wp2
                    exact ⟨⟨kk + 1, false, b2, by omega, by go_num, rfl, rfl, hb2z, .inl ⟨rfl, rfl, HN2.out⟩, hB6⟩, by simp [intOf]; omega⟩
                  · cases f3
                    · have HN2 := hid (HNEX.out HF.out)
                      clear HYES HNEX HF
                      go_wp2
                      exact ⟨⟨kk + 1, false, b2, by omega, by go_num, rfl, rfl, hb2z, .inl ⟨rfl, rfl, HN2.out⟩, hB6⟩, by simp [intOf]; omega⟩
                    · have HY2 := hid (HYES.out HF.out)
                      clear HYES HNEX HF
                      go_wp2
                      exact ⟨⟨kk + 1, true, b2 ++ ⟨#[47]⟩ ++ TT, by omega, by go_num, rfl, rfl, (by simp only [ByteArray.size_append]; have h47 : (⟨#[47]⟩ : ByteArray).size = 1 := rfl; omega), .inr ⟨rfl, _, HY2.out, by simp⟩, hB6⟩, by simp [intOf]; omega⟩
              · have HS : Hid (cmn A B xs.length = none) := by
                  obtain rfl : kk = 3 := by omega
                  have h2 := fnd_no HNO.out
                  rw [HX.out, HY.out] at h2
                  exact cmn_stop h2 _ hq2
                have HF : Hid (CB = false) := by unfold Hid; rw [← HCB.out, HS.out]
                have hB7 := bel_of hB2 (bel_of hB3 hbi)
                clear HS HCB
                go_wp2
                go_ret
                exact ⟨⟨_, rfl, by rw [HF.out, ByteArray.toList_eq]; rfl⟩, hB7⟩
            · obtain ⟨c, hc1, hc2⟩ : ∃ c, fnd X.data.toList Y.data.toList = some c ∧ b2.data.toList = bs.data.toList ++ 47 :: c := by
                rcases HI.out with ⟨h, _⟩ | ⟨_, h⟩
                · cases h
                · exact h
              have HC : Hid (cmn A B (q + 1) = some (cs ++ [c]) ∧ b2.data.toList = flatP (cs ++ [c])) := by
                rw [HX.out, HY.out] at hc1
                exact ⟨cmn_next H.out.1 hc1, by rw [hc2, H.out.2, flatP_snoc]⟩
              have hB7 := bel_of hB3 hbi
              clear HI hc1 hc2
              go_wp2
              all_goals exact ⟨⟨q + 1, b2, _, by omega, by go_num, rfl, hb2z, HC.out, hB7⟩, by simp [intOf]; omega⟩
      · clear HX HY
        obtain rfl : q = xs.length := by omega
        obtain ⟨H1, H2⟩ := H.out
        rw [H1] at HCB
        have hcl := cmn_len _ _ H1
        have hne : cs ≠ [] := by rintro rfl; simp at hcl; omega
        have HE : Hid (bs.toList.isEmpty = false) := by unfold Hid; rw [ByteArray.toList_eq, H2]; exact flatP_empty cs hne
        have hbz : bs.size ≤ 10000 := by omega
        have HP1 := hid (fun W => HH1.out bs W hbz)
        have HP2 := hid (fun W => HH2.out bs W hbz)
        simp only at HCB
        rw [H2] at HP1 HP2
        generalize hasL A (pcs (flatP cs)) = M1 at *
        generalize hasL B (pcs (flatP cs)) = M2 at *
        have hB3 := bel_of hB2 hbw
        clear HH1 HH2 H H1 H2 hbw
        go_wp2_with fail
        refine (HP1.out _).mono ?_
        rintro e w4 ⟨hr4, hb4⟩
        have hB4 := bel_of hB3 hb4
        obtain ⟨v4, hv4⟩ : ∃ v, e = .returned (.tuple #[v, .bool M1.isSome]) := by
          cases M1 with
          | none => exact ⟨_, hr4⟩
          | some ps => obtain ⟨v, h, _⟩ := hr4; exact ⟨v, h⟩
        subst hv4
        clear hr4 HP1 hB3 hb4
        go_wp2_with fail
        refine (HP2.out _).mono ?_
        rintro e w5 ⟨hr5, hb5⟩
        have hB5 := bel_of hB4 hb5
        obtain ⟨v5, hv5⟩ : ∃ v, e = .returned (.tuple #[v, .bool M2.isSome]) := by
          cases M2 with
          | none => exact ⟨_, hr5⟩
          | some ps => obtain ⟨v, h, _⟩ := hr5; exact ⟨v, h⟩
        subst hv5
        clear hr5 HP2 hB4 hb5
        generalize M1.isSome = m1 at *
        generalize M2.isSome = m2 at *
        cases m1
        · have HF : Hid (CB = false) := HCB.out.symm
          clear HCB
          go_wp2
          go_ret
          exact ⟨⟨_, rfl, by rw [HF.out, ByteArray.toList_eq]; rfl⟩, hB5⟩
        · cases m2
          · have HF : Hid (CB = false) := HCB.out.symm
            clear HCB
            go_wp2
            go_ret
            exact ⟨⟨_, rfl, by rw [HF.out, ByteArray.toList_eq]; rfl⟩, hB5⟩
          · have HF : Hid (CB = true) := HCB.out.symm
            clear HCB
            go_wp2
            go_ret
            exact ⟨⟨_, rfl, by rw [HF.out, HE.out]; rfl⟩, hB5⟩
  · go_wp2_with fail
    go_loopw [8, 9, 10, 11, 12, 13, 14, 15, 16, 17] (fun sv i _ _ _ _ _ _ _ _ wr => ∃ (q : Nat) (bs : ByteArray) (cs : List (List UInt8)), q ≤ ts.length ∧ i = .int .i64 q ∧ sv = .string bs ∧ bs.size ≤ q * 65 ∧ Hid (cmn A B q = some cs ∧ bs.data.toList = flatP cs) ∧ Below w2.heap.size w2 wr) (fun _ i _ _ _ _ _ _ _ _ _ => ts.length - (intOf i).toNat)
    case atStart => exact ⟨0, ⟨#[]⟩, [], Nat.zero_le _, rfl, rfl, Nat.le_refl _, ⟨rfl, rfl⟩, Below.refl _ _⟩
    case round =>
      obtain ⟨q, bs, cs, hq, rfl, rfl, hbs, H, hbw⟩ := hrel
      have HX : Hid ((xB ts q).data.toList = xAt A q) := by unfold Hid; rw [xB_at, HA.out]
      have HY : Hid ((xB xs q).data.toList = xAt B q) := by unfold Hid; rw [xB_at, HB.out]
      by_cases hq2 : q < ts.length
      · obtain ⟨ga, rfl, hga, hcaL⟩ := (ST1.out.below hbw) (ts.length - 1) (by omega)
        obtain ⟨gb, rfl, hgb, hcbL⟩ := (ST2.out.below hbw) (xs.length - 1) (by omega)
        obtain ⟨gN, hgN, _, hcN⟩ := (ST1.out.below hbw) q hq2
        obtain rfl : ga = gN := by simpa using hgN
        have hzN := HZ1.out q hq2
        have eN : xB ts q = ts[q] := by unfold xB; rw [if_pos hq2, List.getD_eq_getElem?_getD, List.getElem?_eq_getElem hq2]; rfl
        rw [← eN] at hcN hzN
        generalize ts[ts.length - 1] = lastN at *
        by_cases hq3 : q < xs.length
        · obtain ⟨gO, hgO, _, hcO⟩ := (ST2.out.below hbw) q hq3
          obtain rfl : gb = gO := by simpa using hgO
          have hzO := HZ2.out q hq3
          have eO : xB xs q = xs[q] := by unfold xB; rw [if_pos hq3, List.getD_eq_getElem?_getD, List.getElem?_eq_getElem hq3]; rfl
          rw [← eO] at hcO hzO
          generalize xs[xs.length - 1] = lastO at *
          generalize xB ts q = X at *
          generalize xB xs q = Y at *
          clear eN eO hgN hgO
          have hTs := heap_alloc_new wr (.cells #[.string X, .string Y, .string ⟨#[120]⟩] 214)
          have hA3 := (Below.refl wr.heap.size wr).alloc (Nat.le_refl _) (.cells #[.string X, .string Y, .string ⟨#[120]⟩] 214)
          have hB3 := bel_of hbw hA3
          have hzX : X.size ≤ 64 := by assumption
          have hzY : Y.size ≤ 64 := by assumption
          go_wp2_with fail
          generalize wr.alloc (.cells #[.string X, .string Y, .string ⟨#[120]⟩] 214) = w3 at *
          clear hA3
          generalize wr.heap.size = gT at *
          have HT : Hid (w3.heap[gT]? = some (.cells #[.string X, .string Y, .string ⟨#[120]⟩] 214 (0, 0))) := hTs
          have HTK := hid (fun p s W => rtakes_any p s W)
          have HFX := hid (fun s W => rIsFixed_any s W)
          clear hTs
          go_loopw [8, 13, 14, 15, 16, 17] (fun sv f k _ _ _ wi => ∃ (kk : Nat) (fd : Bool) (b2 : ByteArray), kk ≤ 3 ∧ k = .int .i64 kk ∧ f = .bool fd ∧ sv = .string b2 ∧ b2.size ≤ (q + 1) * 65 ∧ Hid ((fd = false ∧ b2 = bs ∧ ∀ j, j < kk → fitB X Y (tryAt X Y j) = false) ∨ (fd = true ∧ ∃ c, fnd X.data.toList Y.data.toList = some c ∧ b2.data.toList = bs.data.toList ++ 47 :: c)) ∧ Below w3.heap.size w3 wi) (fun _ _ k _ _ _ _ => 3 - (intOf k).toNat)
          case atStart => exact ⟨0, false, bs, Nat.zero_le _, rfl, rfl, rfl, by omega, .inl ⟨rfl, rfl, fun j h => absurd h (by omega)⟩, Below.refl _ _⟩
          case round =>
            obtain ⟨kk, fd, b2, hkk, rfl, rfl, rfl, hb2z, HI, hbi⟩ := hrel
            cases fd
            · obtain ⟨rfl, hno⟩ : b2 = bs ∧ ∀ j, j < kk → fitB X Y (tryAt X Y j) = false := by
                rcases HI.out with ⟨_, h1, h2⟩ | ⟨h, _⟩
                · exact ⟨h1, h2⟩
                · cases h
              have HNO := hid hno
              clear hno HI
              by_cases hk3 : kk < 3
              · have hcT := cell_later hbi (show w3.cell? ⟨gT, kk, none⟩ = some (.string (tryAt X Y kk)) by
                  rw [Lib.cell_of_heap HT.out]
                  match kk, hk3 with
                  | 0, _ => rfl
                  | 1, _ => rfl
                  | 2, _ => rfl)
                have hgT := Nat.lt_of_lt_of_le (Bp.heap_lt HT.out) hbi.size
                have hzT : (tryAt X Y kk).size ≤ 64 := by unfold tryAt; split; exact hzX; split; exact hzY; decide
                have HF : Hid (fitB X Y (tryAt X Y kk) = ((tkR X (tryAt X Y kk) && tkR Y (tryAt X Y kk)) && (Pm.pieceK (tryAt X Y kk).data.toList == 0))) := rfl
                have HYES : Hid (fitB X Y (tryAt X Y kk) = true → fnd X.data.toList Y.data.toList = some (tryAt X Y kk).data.toList) := fun h => fnd_at hk3 HNO.out h
                have HNEX : Hid (fitB X Y (tryAt X Y kk) = false → ∀ j, j < kk + 1 → fitB X Y (tryAt X Y j) = false) := fun h j hj => by
                  rcases Nat.lt_or_ge j kk with h3 | h3
                  · exact HNO.out j h3
                  · obtain rfl : j = kk := by omega
                    exact h
                generalize tryAt X Y kk = TT at *
                generalize fitB X Y TT = FB at *
                go_wp2_with fail
                refine (HTK.out X TT _).mono ?_
                rintro e w4 ⟨rfl, hb4⟩
                have hcT4 := cell_later hb4 hcT
                have hgT4 : gT < w4.heap.size := Nat.lt_of_lt_of_le hgT hb4.size
                have hB4 := bel_of hbi hb4
                clear hcT hgT
                go_wp2_with fail
                refine (HTK.out Y TT _).mono ?_
                rintro e w5 ⟨rfl, hb5⟩
                have hcT5 := cell_later hb5 hcT4
                have hgT5 : gT < w5.heap.size := Nat.lt_of_lt_of_le hgT4 hb5.size
                have hB5 := bel_of hB4 hb5
                clear hcT4 hgT4
                go_wp2_with fail
                refine (HFX.out TT _).mono ?_
                rintro e w6 ⟨rfl, hb6⟩
                have hcT6 := cell_later hb6 hcT5
                have hgT6 : gT < w6.heap.size := Nat.lt_of_lt_of_le hgT5 hb6.size
                have hB6 := bel_of hB5 hb6
                clear hcT5 hgT5 hb4 hb5 hb6 hB4 hB5
                generalize tkR X TT = f1 at *
                generalize tkR Y TT = f2 at *
                generalize (Pm.pieceK TT.data.toList == 0) = f3 at *
                cases f1
                · have HN2 := hid (HNEX.out HF.out)
                  clear HYES HNEX HF
                  go_wp2
                  exact ⟨⟨kk + 1, false, b2, by omega, by go_num, rfl, rfl, hb2z, .inl ⟨rfl, rfl, HN2.out⟩, hB6⟩, by simp [intOf]; omega⟩
                · cases f2
                  · have HN2 := hid (HNEX.out HF.out)
                    clear HYES HNEX HF
                    go_wp2
                    exact ⟨⟨kk + 1, false, b2, by omega, by go_num, rfl, rfl, hb2z, .inl ⟨rfl, rfl, HN2.out⟩, hB6⟩, by simp [intOf]; omega⟩
                  · cases f3
                    · have HN2 := hid (HNEX.out HF.out)
                      clear HYES HNEX HF
                      go_wp2
                      exact ⟨⟨kk + 1, false, b2, by omega, by go_num, rfl, rfl, hb2z, .inl ⟨rfl, rfl, HN2.out⟩, hB6⟩, by simp [intOf]; omega⟩
                    · have HY2 := hid (HYES.out HF.out)
                      clear HYES HNEX HF
                      go_wp2
                      exact ⟨⟨kk + 1, true, b2 ++ ⟨#[47]⟩ ++ TT, by omega, by go_num, rfl, rfl, (by simp only [ByteArray.size_append]; have h47 : (⟨#[47]⟩ : ByteArray).size = 1 := rfl; omega), .inr ⟨rfl, _, HY2.out, by simp⟩, hB6⟩, by simp [intOf]; omega⟩
              · have HS : Hid (cmn A B ts.length = none) := by
                  obtain rfl : kk = 3 := by omega
                  have h2 := fnd_no HNO.out
                  rw [HX.out, HY.out] at h2
                  exact cmn_stop h2 _ hq2
                have HF : Hid (CB = false) := by unfold Hid; rw [← HCB.out, HS.out]
                have hB7 := bel_of hB2 (bel_of hB3 hbi)
                clear HS HCB
                go_wp2
                go_ret
                exact ⟨⟨_, rfl, by rw [HF.out, ByteArray.toList_eq]; rfl⟩, hB7⟩
            · obtain ⟨c, hc1, hc2⟩ : ∃ c, fnd X.data.toList Y.data.toList = some c ∧ b2.data.toList = bs.data.toList ++ 47 :: c := by
                rcases HI.out with ⟨h, _⟩ | ⟨_, h⟩
                · cases h
                · exact h
              have HC : Hid (cmn A B (q + 1) = some (cs ++ [c]) ∧ b2.data.toList = flatP (cs ++ [c])) := by
                rw [HX.out, HY.out] at hc1
                exact ⟨cmn_next H.out.1 hc1, by rw [hc2, H.out.2, flatP_snoc]⟩
              have hB7 := bel_of hB3 hbi
              clear HI hc1 hc2
              go_wp2
              all_goals exact ⟨⟨q + 1, b2, _, by omega, by go_num, rfl, hb2z, HC.out, hB7⟩, by simp [intOf]; omega⟩
        · have hzO := HZ2.out (xs.length - 1) (by omega)
          have eO : xB xs q = xs[xs.length - 1] := by unfold xB; rw [if_neg hq3, List.getD_eq_getElem?_getD, List.getElem?_eq_getElem (by omega)]; rfl
          rw [← eO] at hcbL hzO
          generalize xB ts q = X at *
          generalize xB xs q = Y at *
          clear eN eO hgN
          have hTs := heap_alloc_new wr (.cells #[.string X, .string Y, .string ⟨#[120]⟩] 214)
          have hA3 := (Below.refl wr.heap.size wr).alloc (Nat.le_refl _) (.cells #[.string X, .string Y, .string ⟨#[120]⟩] 214)
          have hB3 := bel_of hbw hA3
          have hzX : X.size ≤ 64 := by assumption
          have hzY : Y.size ≤ 64 := by assumption
          go_wp2_with fail
          generalize wr.alloc (.cells #[.string X, .string Y, .string ⟨#[120]⟩] 214) = w3 at *
          clear hA3
          generalize wr.heap.size = gT at *
          have HT : Hid (w3.heap[gT]? = some (.cells #[.string X, .string Y, .string ⟨#[120]⟩] 214 (0, 0))) := hTs
          have HTK := hid (fun p s W => rtakes_any p s W)
          have HFX := hid (fun s W => rIsFixed_any s W)
          clear hTs
          go_loopw [8, 13, 14, 15, 16, 17] (fun sv f k _ _ _ wi => ∃ (kk : Nat) (fd : Bool) (b2 : ByteArray), kk ≤ 3 ∧ k = .int .i64 kk ∧ f = .bool fd ∧ sv = .string b2 ∧ b2.size ≤ (q + 1) * 65 ∧ Hid ((fd = false ∧ b2 = bs ∧ ∀ j, j < kk → fitB X Y (tryAt X Y j) = false) ∨ (fd = true ∧ ∃ c, fnd X.data.toList Y.data.toList = some c ∧ b2.data.toList = bs.data.toList ++ 47 :: c)) ∧ Below w3.heap.size w3 wi) (fun _ _ k _ _ _ _ => 3 - (intOf k).toNat)
          case atStart => exact ⟨0, false, bs, Nat.zero_le _, rfl, rfl, rfl, by omega, .inl ⟨rfl, rfl, fun j h => absurd h (by omega)⟩, Below.refl _ _⟩
          case round =>
            obtain ⟨kk, fd, b2, hkk, rfl, rfl, rfl, hb2z, HI, hbi⟩ := hrel
            cases fd
            · obtain ⟨rfl, hno⟩ : b2 = bs ∧ ∀ j, j < kk → fitB X Y (tryAt X Y j) = false := by
                rcases HI.out with ⟨_, h1, h2⟩ | ⟨h, _⟩
                · exact ⟨h1, h2⟩
                · cases h
              have HNO := hid hno
              clear hno HI
              by_cases hk3 : kk < 3
              · have hcT := cell_later hbi (show w3.cell? ⟨gT, kk, none⟩ = some (.string (tryAt X Y kk)) by
                  rw [Lib.cell_of_heap HT.out]
                  match kk, hk3 with
                  | 0, _ => rfl
                  | 1, _ => rfl
                  | 2, _ => rfl)
                have hgT := Nat.lt_of_lt_of_le (Bp.heap_lt HT.out) hbi.size
                have hzT : (tryAt X Y kk).size ≤ 64 := by unfold tryAt; split; exact hzX; split; exact hzY; decide
                have HF : Hid (fitB X Y (tryAt X Y kk) = ((tkR X (tryAt X Y kk) && tkR Y (tryAt X Y kk)) && (Pm.pieceK (tryAt X Y kk).data.toList == 0))) := rfl
                have HYES : Hid (fitB X Y (tryAt X Y kk) = true → fnd X.data.toList Y.data.toList = some (tryAt X Y kk).data.toList) := fun h => fnd_at hk3 HNO.out h
                have HNEX : Hid (fitB X Y (tryAt X Y kk) = false → ∀ j, j < kk + 1 → fitB X Y (tryAt X Y j) = false) := fun h j hj => by
                  rcases Nat.lt_or_ge j kk with h3 | h3
                  · exact HNO.out j h3
                  · obtain rfl : j = kk := by omega
                    exact h
                generalize tryAt X Y kk = TT at *
                generalize fitB X Y TT = FB at *
                go_wp2_with fail
                refine (HTK.out X TT _).mono ?_
                rintro e w4 ⟨rfl, hb4⟩
                have hcT4 := cell_later hb4 hcT
                have hgT4 : gT < w4.heap.size := Nat.lt_of_lt_of_le hgT hb4.size
                have hB4 := bel_of hbi hb4
                clear hcT hgT
                go_wp2_with fail
                refine (HTK.out Y TT _).mono ?_
                rintro e w5 ⟨rfl, hb5⟩
                have hcT5 := cell_later hb5 hcT4
                have hgT5 : gT < w5.heap.size := Nat.lt_of_lt_of_le hgT4 hb5.size
                have hB5 := bel_of hB4 hb5
                clear hcT4 hgT4
                go_wp2_with fail
                refine (HFX.out TT _).mono ?_
                rintro e w6 ⟨rfl, hb6⟩
                have hcT6 := cell_later hb6 hcT5
                have hgT6 : gT < w6.heap.size := Nat.lt_of_lt_of_le hgT5 hb6.size
                have hB6 := bel_of hB5 hb6
                clear hcT5 hgT5 hb4 hb5 hb6 hB4 hB5
                generalize tkR X TT = f1 at *
                generalize tkR Y TT = f2 at *
                generalize (Pm.pieceK TT.data.toList == 0) = f3 at *
                cases f1
                · have HN2 := hid (HNEX.out HF.out)
                  clear HYES HNEX HF
                  go_wp2
                  exact ⟨⟨kk + 1, false, b2, by omega, by go_num, rfl, rfl, hb2z, .inl ⟨rfl, rfl, HN2.out⟩, hB6⟩, by simp [intOf]; omega⟩
                · cases f2
                  · have HN2 := hid (HNEX.out HF.out)
                    clear HYES HNEX HF
                    go_wp2
                    exact ⟨⟨kk + 1, false, b2, by omega, by go_num, rfl, rfl, hb2z, .inl ⟨rfl, rfl, HN2.out⟩, hB6⟩, by simp [intOf]; omega⟩
                  · cases f3
                    · have HN2 := hid (HNEX.out HF.out)
                      clear HYES HNEX HF
                      go_wp2
                      exact ⟨⟨kk + 1, false, b2, by omega, by go_num, rfl, rfl, hb2z, .inl ⟨rfl, rfl, HN2.out⟩, hB6⟩, by simp [intOf]; omega⟩
                    · have HY2 := hid (HYES.out HF.out)
                      clear HYES HNEX HF
                      go_wp2
                      exact ⟨⟨kk + 1, true, b2 ++ ⟨#[47]⟩ ++ TT, by omega, by go_num, rfl, rfl, (by simp only [ByteArray.size_append]; have h47 : (⟨#[47]⟩ : ByteArray).size = 1 := rfl; omega), .inr ⟨rfl, _, HY2.out, by simp⟩, hB6⟩, by simp [intOf]; omega⟩
              · have HS : Hid (cmn A B ts.length = none) := by
                  obtain rfl : kk = 3 := by omega
                  have h2 := fnd_no HNO.out
                  rw [HX.out, HY.out] at h2
                  exact cmn_stop h2 _ hq2
                have HF : Hid (CB = false) := by unfold Hid; rw [← HCB.out, HS.out]
                have hB7 := bel_of hB2 (bel_of hB3 hbi)
                clear HS HCB
                go_wp2
                go_ret
                exact ⟨⟨_, rfl, by rw [HF.out, ByteArray.toList_eq]; rfl⟩, hB7⟩
            · obtain ⟨c, hc1, hc2⟩ : ∃ c, fnd X.data.toList Y.data.toList = some c ∧ b2.data.toList = bs.data.toList ++ 47 :: c := by
                rcases HI.out with ⟨h, _⟩ | ⟨_, h⟩
                · cases h
                · exact h
              have HC : Hid (cmn A B (q + 1) = some (cs ++ [c]) ∧ b2.data.toList = flatP (cs ++ [c])) := by
                rw [HX.out, HY.out] at hc1
                exact ⟨cmn_next H.out.1 hc1, by rw [hc2, H.out.2, flatP_snoc]⟩
              have hB7 := bel_of hB3 hbi
              clear HI hc1 hc2
              go_wp2
              all_goals exact ⟨⟨q + 1, b2, _, by omega, by go_num, rfl, hb2z, HC.out, hB7⟩, by simp [intOf]; omega⟩
      · clear HX HY
        obtain rfl : q = ts.length := by omega
        obtain ⟨H1, H2⟩ := H.out
        rw [H1] at HCB
        have hcl := cmn_len _ _ H1
        have hne : cs ≠ [] := by rintro rfl; simp at hcl; omega
        have HE : Hid (bs.toList.isEmpty = false) := by unfold Hid; rw [ByteArray.toList_eq, H2]; exact flatP_empty cs hne
        have hbz : bs.size ≤ 10000 := by omega
        have HP1 := hid (fun W => HH1.out bs W hbz)
        have HP2 := hid (fun W => HH2.out bs W hbz)
        simp only at HCB
        rw [H2] at HP1 HP2
        generalize hasL A (pcs (flatP cs)) = M1 at *
        generalize hasL B (pcs (flatP cs)) = M2 at *
        have hB3 := bel_of hB2 hbw
        clear HH1 HH2 H H1 H2 hbw
        go_wp2_with fail
        refine (HP1.out _).mono ?_
        rintro e w4 ⟨hr4, hb4⟩
        have hB4 := bel_of hB3 hb4
        obtain ⟨v4, hv4⟩ : ∃ v, e = .returned (.tuple #[v, .bool M1.isSome]) := by
          cases M1 with
          | none => exact ⟨_, hr4⟩
          | some ps => obtain ⟨v, h, _⟩ := hr4; exact ⟨v, h⟩
        subst hv4
        clear hr4 HP1 hB3 hb4
        go_wp2_with fail
        refine (HP2.out _).mono ?_
        rintro e w5 ⟨hr5, hb5⟩
        have hB5 := bel_of hB4 hb5
        obtain ⟨v5, hv5⟩ : ∃ v, e = .returned (.tuple #[v, .bool M2.isSome]) := by
          cases M2 with
          | none => exact ⟨_, hr5⟩
          | some ps => obtain ⟨v, h, _⟩ := hr5; exact ⟨v, h⟩
        subst hv5
        clear hr5 HP2 hB4 hb5
        generalize M1.isSome = m1 at *
        generalize M2.isSome = m2 at *
        cases m1
        · have HF : Hid (CB = false) := HCB.out.symm
          clear HCB
          go_wp2
          go_ret
          exact ⟨⟨_, rfl, by rw [HF.out, ByteArray.toList_eq]; rfl⟩, hB5⟩
        · cases m2
          · have HF : Hid (CB = false) := HCB.out.symm
            clear HCB
            go_wp2
            go_ret
            exact ⟨⟨_, rfl, by rw [HF.out, ByteArray.toList_eq]; rfl⟩, hB5⟩
          · have HF : Hid (CB = true) := HCB.out.symm
            clear HCB
            go_wp2
            go_ret
            exact ⟨⟨_, rfl, by rw [HF.out, HE.out]; rfl⟩, hB5⟩
end Go.Proofs.YtfdhmeojkagokaaGreatDoor
