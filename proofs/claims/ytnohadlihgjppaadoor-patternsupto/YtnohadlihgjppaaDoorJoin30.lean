/- Texts that follow one another, joined. -/
import Derived.Test.YtnohadlihgjppaaDoorJoin29
import Derived.Test.YtnohadlihgjppaaDoorJoin23
import Derived.Test.YtnohadlihgjppaaDoorJoin15
import Derived.Test.YtnohadlihgjppaaDoorJoin16
import Derived.Deep.AppendLies
/- The reference's Common and Overlap; nothing old in memory turns. -/
namespace Go.Proofs.YtnohadlihgjppaaDoor
open Go.RowKit

theorem tkR_L (p s : ByteArray) : tkR p s = tkL p.data.toList s.data.toList := by
  unfold tkR tkL; rw [ByteArray.toList_eq, ByteArray.toList_eq]
def tryAt (x y : ByteArray) (k : Nat) : ByteArray := if k = 0 then x else if k = 1 then y else ⟨#[120]⟩
def fitB (x y t : ByteArray) : Bool := (tkR x t && tkR y t) && (Pm.pieceK t.data.toList == 0)
theorem fitB_eq (x y t : ByteArray) : fitB x y t = fits x.data.toList y.data.toList t.data.toList := by
  unfold fitB fits; rw [tkR_L, tkR_L]
theorem fnd_at {x y : ByteArray} {k : Nat} (hk : k < 3) (h1 : ∀ j, j < k → fitB x y (tryAt x y j) = false) (h2 : fitB x y (tryAt x y k) = true) : fnd x.data.toList y.data.toList = some (tryAt x y k).data.toList := by
  have e : ∀ j, fitB x y (tryAt x y j) = fits x.data.toList y.data.toList (tryAt x y j).data.toList := fun j => fitB_eq _ _ _
  unfold fnd
  match k, hk with
  | 0, _ =>
    have := e 0; rw [h2] at this
    have t : tryAt x y 0 = x := rfl
    rw [t] at this ⊢; rw [if_pos this.symm]
  | 1, _ =>
    have a0 := e 0; rw [h1 0 (by omega)] at a0
    have a1 := e 1; rw [h2] at a1
    have t0 : tryAt x y 0 = x := rfl
    have t1 : tryAt x y 1 = y := rfl
    rw [t0] at a0; rw [t1] at a1 ⊢
    rw [← a0, ← a1]; rfl
  | 2, _ =>
    have a0 := e 0; rw [h1 0 (by omega)] at a0
    have a1 := e 1; rw [h1 1 (by omega)] at a1
    have a2 := e 2; rw [h2] at a2
    have t0 : tryAt x y 0 = x := rfl
    have t1 : tryAt x y 1 = y := rfl
    have t2 : (tryAt x y 2).data.toList = [120] := rfl
    rw [t0] at a0; rw [t1] at a1; rw [t2] at a2 ⊢
    rw [← a0, ← a1, ← a2]; rfl
theorem fnd_no {x y : ByteArray} (h1 : ∀ j, j < 3 → fitB x y (tryAt x y j) = false) : fnd x.data.toList y.data.toList = none := by
  have e : ∀ j, fitB x y (tryAt x y j) = fits x.data.toList y.data.toList (tryAt x y j).data.toList := fun j => fitB_eq _ _ _
  unfold fnd
  have a0 := e 0; rw [h1 0 (by omega)] at a0
  have a1 := e 1; rw [h1 1 (by omega)] at a1
  have a2 := e 2; rw [h1 2 (by omega)] at a2
  have t0 : tryAt x y 0 = x := rfl
  have t1 : tryAt x y 1 = y := rfl
  have t2 : (tryAt x y 2).data.toList = [120] := rfl
  rw [t0] at a0; rw [t1] at a1; rw [t2] at a2
  rw [← a0, ← a1, ← a2]; rfl
def xB (ts : List ByteArray) (i : Nat) : ByteArray := if i < ts.length then ts.getD i ⟨#[]⟩ else ts.getD (ts.length - 1) ⟨#[]⟩
theorem xB_at (ts : List ByteArray) (i : Nat) : (xB ts i).data.toList = xAt (ts.map (·.data.toList)) i := by
  have key : ∀ j, (ts.getD j ⟨#[]⟩).data.toList = (ts.map (·.data.toList)).getD j [] := fun j => by
    rw [List.getD_eq_getElem?_getD, List.getD_eq_getElem?_getD, List.getElem?_map]
    cases ts[j]? <;> rfl
  unfold xB xAt
  rw [List.length_map]
  split
  · exact key i
  · exact key _
theorem flatP_snoc (cs : List (List UInt8)) (c : List UInt8) : flatP (cs ++ [c]) = flatP cs ++ 47 :: c := by simp [flatP, List.flatMap_append]
theorem flatP_empty (cs : List (List UInt8)) (h : cs ≠ []) : (flatP cs).isEmpty = false := by
  cases cs with
  | nil => exact absurd rfl h
  | cons c r => rfl
theorem cmn_next {A B : List (List UInt8)} {k : Nat} {cs : List (List UInt8)} {c : List UInt8} (h : cmn A B k = some cs) (h2 : fnd (xAt A k) (xAt B k) = some c) : cmn A B (k + 1) = some (cs ++ [c]) := by
  rw [cmn, h]; simp only; rw [h2]
theorem cmn_stop {A B : List (List UInt8)} {k : Nat} (h2 : fnd (xAt A k) (xAt B k) = none) : ∀ n, k < n → cmn A B n = none
  | 0, h => absurd h (by omega)
  | n + 1, h => by
    rcases Nat.lt_or_ge k n with h3 | h3
    · rw [cmn, cmn_stop h2 n h3]
    · obtain rfl : k = n := by omega
      rw [cmn]
      cases cmn A B k with
      | none => rfl
      | some l => simp only; rw [h2]
theorem cmn_len {A B : List (List UInt8)} : ∀ (k : Nat) (cs : List (List UInt8)), cmn A B k = some cs → cs.length = k
  | 0, cs, h => by rw [cmn] at h; cases h; rfl
  | k + 1, cs, h => by
    rw [cmn] at h
    cases hc : cmn A B k with
    | none => rw [hc] at h; cases h
    | some l =>
      rw [hc] at h
      simp only at h
      cases hf : fnd (xAt A k) (xAt B k) with
      | none => rw [hf] at h; cases h
      | some c =>
        rw [hf] at h; simp only at h; cases h
        rw [List.length_append, cmn_len k l hc]; rfl
end Go.Proofs.YtnohadlihgjppaaDoor

/- A book that holds lists of parameters, first part: marks, lists that are the same, appending marks. -/
namespace Go.Proofs.YtnohadlihgjppaaDoor.Bp
open Go.RowKit

theorem fnum_any (n : Int) (w : World) :
    Calls Tryd.prog 18 #[.int .i64 n] w fun e w' => e = .returned (.int .i64 n) ∧ w' = w := by
  go_enter Tryd.func18, Tryd.ntmps18
  go_wp2
  go_ret
  exact ⟨rfl, rfl⟩

set_option maxHeartbeats 1000000 in
theorem sameFields_any (fs : List (ByteArray × ByteArray)) (a b : Option Addr) (ca cb : Nat) (w : World) (ha : FlAt fs a w) (hb : FlAt fs b w) (hl : fs.length ≤ 9223372036854775807) :
    Calls Tryd.prog 17 #[.slice a fs.length ca, .slice b fs.length cb] w fun e w' => e = .returned (.bool true) ∧ Below w.heap.size w w' := by
  have HA := hid ha
  have HB := hid hb
  clear ha hb
  go_enter Tryd.func17, Tryd.ntmps17
  go_wp2_with fail
  go_loopw [5] (fun i wr => ∃ k : Nat, k ≤ fs.length ∧ i = .int .i64 k ∧ Below w.heap.size w wr) (fun i _ => fs.length - (intOf i).toNat)
  case atStart => exact ⟨0, Nat.zero_le _, rfl, Below.refl _ _⟩
  case round =>
    obtain ⟨k, hk, rfl, hbw⟩ := hrel
    by_cases hlt : k < fs.length
    · obtain ⟨ga, rfl, hg1, hc1, hc2⟩ := (HA.out.below hbw) k hlt
      obtain ⟨gb, rfl, hg2, hc3, hc4⟩ := (HB.out.below hbw) k hlt
      generalize fs[k].1 = nm at *
      generalize fs[k].2 = vl at *
      go_wp2_with fail
      go_quiet (fail)
      go_wp2
      exact ⟨⟨k + 1, by omega, by go_num, below_drewN hbw _⟩, by simp [intOf]; omega⟩
    · go_wp2
      go_ret
      exact ⟨rfl, hbw⟩

/- the mark of the n-th list, for the few lists that there are -/
def digS (n : Nat) : ByteArray := ⟨#[(48 + n).toUInt8]⟩
theorem ret_str {a b : ByteArray} (h : a = b) : Ending.returned (.string a) = .returned (.string b) := by rw [h]
def markB (n : Nat) : ByteArray := ⟨#[109, 97, 114, 107, 32, (48 + n).toUInt8]⟩
set_option maxHeartbeats 1000000 in
theorem number_digit (n : Nat) (hn : n ≤ 9) (w : World) :
    Calls Tryd.prog 43 #[.int .i64 n, .int .i64 10] w fun e w' => e = .returned (.string (digS n)) ∧ Below w.heap.size w w' := by
  have hx : ∀ k : Nat, k ≤ 9 → ((⟨#[48, 49, 50, 51, 52, 53, 54, 55, 56, 57, 97, 98, 99, 100, 101, 102]⟩ : ByteArray).extract k (k + 1)) = digS k := by decide
  have HX := hid (hx n hn)
  have hsz : (digS n).size = 1 := rfl
  clear hx
  go_enter Tryd.func43, Tryd.ntmps43
  go_wp2
  go_ret
  exact ⟨ret_str HX.out, Below.refl _ _⟩
theorem mark_app (n : Nat) : (⟨#[109, 97, 114, 107, 32]⟩ : ByteArray) ++ digS n = markB n := by
  apply ByteArray.ext
  rw [ByteArray.data_append]; rfl
set_option maxHeartbeats 1000000 in
theorem markText_any (n : Nat) (hn : n ≤ 9) (w : World) :
    Calls Tryd.prog 40 #[.int .i64 n] w fun e w' => e = .returned (.string (markB n)) ∧ Below w.heap.size w w' := by
  have hsz : (digS n).size = 1 := rfl
  go_enter Tryd.func40, Tryd.ntmps40
  go_wp2_with (go_at_call 43; refine (number_digit n hn _).mono ?_; rintro e w1 ⟨rfl, hb1⟩)
  go_ret
  exact ⟨ret_str (mark_app n), hb1⟩
set_option maxHeartbeats 1000000 in
theorem markField_any (n : Nat) (hn : n ≤ 9) (w : World) :
    Calls Tryd.prog 36 #[.int .i64 n] w fun e w' => e = .returned (.agg #[.string (markB n), .string ⟨#[46]⟩]) ∧ Below w.heap.size w w' := by
  have hA := (Below.refl w.heap.size w).alloc (Nat.le_refl _) (.cells #[.string ⟨#[]⟩, .string ⟨#[]⟩] 71)
  go_enter Tryd.func36, Tryd.ntmps36
  go_wp2_with fail
  refine (markText_any n hn _).mono ?_
  rintro e w1 ⟨rfl, hb1⟩
  have c0 := cell_later hb1 (a := ⟨w.heap.size, 0, none⟩) (v := .string ⟨#[]⟩) (by simp)
  have c1 := cell_later hb1 (a := ⟨w.heap.size, 1, none⟩) (v := .string ⟨#[]⟩) (by simp)
  have d0 : w1.frozen? ⟨w.heap.size, 0, none⟩ = false := by rw [hb1.frozen (by simp)]; simp
  have d1 : w1.frozen? ⟨w.heap.size, 1, none⟩ = false := by rw [hb1.frozen (by simp)]; simp
  have BL := hid (bel_of hA hb1)
  clear hA hb1
  go_wp2
  refine bodyPost_ret (v := .agg #[.string (markB n), .string ⟨#[46]⟩]) (by simp [results, Tryd.results36, go_sem, c0, c1]) rfl ?_
  exact ⟨rfl, (BL.out.setCell (Nat.le_refl _) _).setCell (Nat.le_refl _) _⟩


def mkF (n : Nat) : ByteArray × ByteArray := (markB n, ⟨#[46]⟩)
/- the cells of k marks -/
def mrk (n : Nat) : Nat → List Value
  | 0 => []
  | k + 1 => .string (markB n) :: .string ⟨#[46]⟩ :: mrk n k
theorem mrk_len (n k : Nat) : (mrk n k).length = k * 2 := by
  induction k with
  | zero => rfl
  | succ k ih => simp [mrk, ih]; omega
theorem mrk_add (n j k : Nat) : mrk n (j + k) = mrk n j ++ mrk n k := by
  induction j with
  | zero => simp [mrk]
  | succ j ih => rw [show j + 1 + k = (j + k) + 1 from by omega]; simp [mrk, ih]
theorem mrk_get (n : Nat) : ∀ (k i : Nat), i < k → (mrk n k)[i * 2]? = some (.string (markB n)) ∧ (mrk n k)[i * 2 + 1]? = some (.string ⟨#[46]⟩)
  | 0, i, h => absurd h (by omega)
  | k + 1, 0, _ => ⟨rfl, rfl⟩
  | k + 1, i + 1, h => by
    have := mrk_get n k i (by omega)
    rw [show (i + 1) * 2 = i * 2 + 1 + 1 from by omega, show i * 2 + 1 + 1 + 1 = (i * 2 + 1) + 1 + 1 from by omega]
    simp only [mrk, List.getElem?_cons_succ]
    exact this
theorem mrk_one (n k : Nat) : ∀ u ∈ mrk n k, u.oneCell' = true := by
  induction k with
  | zero => intro u hu; simp [mrk] at hu
  | succ k ih =>
    intro u hu
    simp only [mrk, List.mem_cons] at hu
    rcases hu with rfl | rfl | hu
    · rfl
    · rfl
    · exact ih u hu
abbrev Mk (n k : Nat) (a : Option Addr) (w : World) : Prop := FlAt (List.replicate k (mkF n)) a w
theorem mk_of_owns {w : World} {B : Nat} {e : TypeId} {v : Value} {n k : Nat} (h : w.ownsRow B e 2 v k (mrk n k)) : ∃ a cap, v = .slice a k cap ∧ Mk n k a w := by
  obtain ⟨h1, h2⟩ := h
  rcases h2 with ⟨h2, h3⟩ | ⟨g, cap, cur, hv, hB, hg, hc, hm, hsz, ht⟩
  · subst h3
    exact ⟨none, 0, h2, fun i hi => by simp at hi⟩
  · refine ⟨some ⟨g, 0, none⟩, cap, hv, fun i hi => ⟨g, rfl, ?_, ?_, ?_⟩⟩
    · rcases Nat.lt_or_ge g w.heap.size with h' | h'
      · exact h'
      · simp [Array.getElem?_eq_none h'] at hg
    all_goals
      simp only [List.length_replicate] at hi
      obtain ⟨m1, m2⟩ := mrk_get n k i hi
      rw [← ht, List.getElem?_take] at m1 m2
      rw [Lib.cell_of_heap hg, List.getElem_replicate]
    · split at m1
      · simpa [mkF] using m1
      · cases m1
    · split at m2
      · simpa [mkF] using m2
      · cases m2

theorem owns_prefix {w : World} {B : Nat} {e : TypeId} {g n k m cap : Nat} (hm : w.ownsRow B e 2 (.slice (some ⟨g, 0, none⟩) (k + m) cap) (k + m) (mrk n k ++ mrk n m)) : w.ownsRow B e 2 (.slice (some ⟨g, 0, none⟩) k cap) k (mrk n k) := by
  obtain ⟨h1, h2⟩ := hm
  rcases h2 with ⟨h2, _⟩ | ⟨g', cap', cur, hv, hB, hg, hc, hmx, hsz, ht⟩
  · cases h2
  · simp only [Value.slice.injEq, Option.some.injEq, Addr.mk.injEq] at hv
    obtain ⟨⟨rfl, _, _⟩, _, rfl⟩ := hv
    refine ⟨mrk_len n k, .inr ⟨g, cap, cur, rfl, hB, hg, by omega, hmx, hsz, ?_⟩⟩
    have := congrArg (List.take (k * 2)) ht
    rw [List.take_take, List.take_left' (mrk_len n k), show min (k * 2) ((k + m) * 2) = k * 2 from by omega] at this
    exact this

theorem over_get (l ns : List Value) (A x : Nat) (hA : A ≤ l.length) : (l.take A ++ ns ++ l.drop (A + ns.length))[x]? = if x < A then l[x]? else if x < A + ns.length then ns[x - A]? else l[x]? := by
  have hl : (l.take A).length = A := by simp; omega
  rw [List.append_assoc]
  by_cases h1 : x < A
  · rw [if_pos h1, List.getElem?_append_left (by omega), List.getElem?_take_of_lt h1]
  · rw [if_neg h1, List.getElem?_append_right (by omega), hl]
    by_cases h2 : x < A + ns.length
    · rw [if_pos h2, List.getElem?_append_left (by omega)]
    · rw [if_neg h2, List.getElem?_append_right (by omega), List.getElem?_drop]
      congr 1; omega
section
variable {P : Program} (w : World)
theorem run_append_marks (t ty : TypeId) (base : Nat) (e : TypeId) (i : TypeInfo) (z : Value) (ht : P.underlying t = some (.slice e)) (hi : P.info? e = some i) (hz : i.zero = some z)
    (hsize : i.size = 2) (hby : i.bytes = 32) (hzs : z.cells.size = 2) (v : Value) (n k : Nat) (hown : w.ownsRow base e 2 v k (mrk n k))
    (ad : Addr) (m c : Nat) (hnews : ∀ j u, (mrk n m)[j]? = some u → w.cell? (ad.add j) = some u)
    (hm : 0 < m) (h63 : k + m ≤ 1000000) (hbase : base ≤ w.heap.size) :
    ∃ g cap w', (Builtin.append_ #[t, t] ty #[v, .slice (some ad) m c]).run P w = .ok (.slice (some ⟨g, 0, none⟩) (k + m) cap) w' ∧
      w'.ownsRow base e 2 (.slice (some ⟨g, 0, none⟩) (k + m) cap) (k + m) (mrk n (k + m)) ∧ w.grownBy w' v.ownBlock ∧ (v.ownBlock = some g ∨ g = w.heap.size) ∧ g < w'.heap.size ∧
      w'.ownsRow base e 2 v k (mrk n k) ∧ (∀ j a, Mk n j a w → Mk n j a w') := by
  obtain ⟨g, cap, w', hr, h2, h3, h4, h5⟩ := run_append_lies (P := P) w t ty base e i z 2 32 ht hi hz hsize hby hzs (by omega) v k (mrk n k) hown ad m c (mrk n m) (mrk_len n m) hnews (mrk_one n m) hm (by unfold maxLen; omega) (by omega) hbase _ rfl
  refine ⟨g, cap, w', hr, by rw [mrk_add]; exact h2, h3, h4, h5, ?_⟩
  rcases hown.2 with ⟨rfl, rfl⟩ | ⟨g0, cap0, cur, rfl, hbg, hg, hnc, hcm, hcs, htake⟩
  · refine ⟨World.ownsRow_nil _ _ _ _, fun j a hj => ?_⟩
    refine fun q hq => ?_
    obtain ⟨gg, h6, h7, h8, h9⟩ := hj q hq
    have hb := h3.block gg h7 (by simp [Value.ownBlock])
    exact ⟨gg, h6, Nat.lt_of_lt_of_le h7 h3.size, by rw [World.cell?_of_block (w := w) hb]; exact h8, by rw [World.cell?_of_block (w := w) hb]; exact h9⟩
  · by_cases hroom : k + m ≤ cap0
    · have hr2 := run_append_room (P := P) w t ty e i ht hi g0 k cap0 cur hg ad m c (mrk n m) (by rw [hsize]; exact mrk_len n m) hnews (mrk_one n m) hroom (by rw [hsize, mrk_len, hcs]; omega)
      rw [hr] at hr2
      simp only [Result.ok.injEq, Value.slice.injEq, Option.some.injEq, Addr.mk.injEq] at hr2
      obtain ⟨⟨⟨rfl, _, _⟩, _, rfl⟩, hw'⟩ := hr2
      refine ⟨owns_prefix h2, fun j a hj q hq => ?_⟩
      obtain ⟨gg, h6, h7, h8, h9⟩ := hj q hq
      by_cases hgg : gg = g
      · subst hgg
        rw [hsize, mrk_len] at hw'
        have hg2 : w'.heap[gg]? = some (.cells (cur.toList.take (k * 2) ++ mrk n m ++ cur.toList.drop (k * 2 + m * 2)).toArray e (0, 0)) := by
          rw [hw']; exact setRow_heap w gg cur _ e _ hg
        have hA : k * 2 ≤ cur.toList.length := by rw [Array.length_toList, hcs]; omega
        rw [Lib.cell_of_heap hg] at h8 h9
        have og := fun x => over_get cur.toList (mrk n m) (k * 2) x hA
        rw [mrk_len] at og
        refine ⟨gg, h6, Nat.lt_of_lt_of_le h7 h3.size, ?_, ?_⟩
        · rw [Lib.cell_of_heap hg2, List.getElem?_toArray, og]
          split
          · simpa using h8
          · split
            · have := (mrk_get n m (q - k) (by omega)).1
              rw [show q * 2 - k * 2 = (q - k) * 2 from by omega, this, List.getElem_replicate]; rfl
            · simpa using h8
        · rw [Lib.cell_of_heap hg2, List.getElem?_toArray, og]
          split
          · simpa using h9
          · split
            · have := (mrk_get n m (q - k) (by omega)).2
              rw [show q * 2 + 1 - k * 2 = (q - k) * 2 + 1 from by omega, this, List.getElem_replicate]; rfl
            · simpa using h9
      · have hb := h3.block gg h7 (by simp [Value.ownBlock]; exact fun h => hgg h)
        exact ⟨gg, h6, Nat.lt_of_lt_of_le h7 h3.size, by rw [World.cell?_of_block (w := w) hb]; exact h8, by rw [World.cell?_of_block (w := w) hb]; exact h9⟩
    · have holds : ∀ j u, (mrk n k)[j]? = some u → w.cell? ((⟨g0, 0, none⟩ : Addr).add j) = some u := hown.cells (g := g0) rfl
      have hr2 := run_append_grow (P := P) w t ty e i z ht hi hz ⟨g0, 0, none⟩ k cap0 (mrk n k) (by rw [hsize]; exact mrk_len n k) holds ad m c (mrk n m) (by rw [hsize]; exact mrk_len n m) hnews (by omega) (by omega) (growslice_fits (by omega) (by rw [hby]; omega))
      rw [hr] at hr2
      simp only [Result.ok.injEq] at hr2
      obtain ⟨_, hw'⟩ := hr2
      have hB : Below w.heap.size w w' := by rw [hw']; exact (Below.refl _ _).drew.alloc (by simp) _
      exact ⟨owns_below hown hB, fun j a hj => hj.below hB⟩
theorem wpList_append_marks {ops : Array Oper} {rest : List Oper} {o : Oper} {a : Act} {Q : Exit → Act → World → Prop} (hgd : o.guard = none) (s x : Operand) (t : TypeId)
    (ho : o.op = .call { callee := .builtin .append, args := #[s, x], argTypes := #[t, t] })
    (base : Nat) (e : TypeId) (i : TypeInfo) (z : Value) (ht : P.underlying t = some (.slice e)) (hi : P.info? e = some i) (hz : i.zero = some z)
    (hsize : i.size = 2) (hby : i.bytes = 32) (hzs : z.cells.size = 2) (v : Value) (n k : Nat) (hs : a.eval s = v) (hown : w.ownsRow base e 2 v k (mrk n k))
    (ad : Addr) (m c : Nat) (hx : a.eval x = .slice (some ad) m c) (hnews : ∀ j u, (mrk n m)[j]? = some u → w.cell? (ad.add j) = some u)
    (hm : 0 < m) (h63 : k + m ≤ 1000000) (hbase : base ≤ w.heap.size)
    (h : ∀ g cap w', w'.ownsRow base e 2 (.slice (some ⟨g, 0, none⟩) (k + m) cap) (k + m) (mrk n (k + m)) → w.grownBy w' v.ownBlock → (v.ownBlock = some g ∨ g = w.heap.size) → g < w'.heap.size →
      w'.ownsRow base e 2 v k (mrk n k) → (∀ j a, Mk n j a w → Mk n j a w') → wpList P ops Q rest (a.put o.dst (.slice (some ⟨g, 0, none⟩) (k + m) cap)) w') : wpList P ops Q (o :: rest) a w := by
  refine wpList_plain hgd fun K hK => ?_
  obtain ⟨g, cap, w', hr, h2, h3, h4, h5, h6, h7⟩ := run_append_marks (P := P) w t o.type base e i z ht hi hz hsize hby hzs v n k hown ad m c hnews hm h63 hbase
  unfold Oper.wp execOp
  simp only [ho, resolve, invoke, builtin, Sem.run_bind, Sem.run_pure, Result.andThen_ok, List.map_toArray, List.map_cons, List.map_nil, hs, hx, hr]
  exact hK _ _ (h g cap w' h2 h3 h4 h5 h6 h7)
end
end Go.Proofs.YtnohadlihgjppaaDoor.Bp
