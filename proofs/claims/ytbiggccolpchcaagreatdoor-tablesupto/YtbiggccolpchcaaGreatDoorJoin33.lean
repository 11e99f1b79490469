/- Texts that follow one another, joined. -/
import Derived.Below
import Derived.Lib.AppendStr
import Derived.WalkKit
import Derived.Lib.Builder
import Derived.Test.YtbiggccolpchcaaGreatDoorJoin32
import Derived.Test.YtbiggccolpchcaaGreatDoorJoin00
import Derived.Lib.ItoaNum
/- All blocks but some stay; a row of bytes that begins anywhere in its block, and what append makes of it. -/
namespace Go.Proofs.YtbiggccolpchcaaGreatDoor
open Go.RowKit

def Kx (L : List Nat) (w w' : World) : Prop := Below 0 w w' ∧ ∀ k, k < w.heap.size → k ∉ L → w'.heap[k]? = w.heap[k]?
theorem Kx.refl (L : List Nat) (w : World) : Kx L w w := ⟨Below.refl _ _, fun _ _ _ => rfl⟩
theorem Kx.size {L : List Nat} {w w' : World} (h : Kx L w w') : w.heap.size ≤ w'.heap.size := h.1.size
theorem Kx.of {L : List Nat} {w w' : World} (h : Below w.heap.size w w') : Kx L w w' := ⟨h.mono (Nat.zero_le _), fun k hk _ => h.block k hk⟩
theorem Kx.trans {L M : List Nat} {w w1 w2 : World} (h : Kx L w w1) (k : Kx M w1 w2) (hs : ∀ b ∈ M, b ∈ L ∨ w.heap.size ≤ b) : Kx L w w2 :=
  ⟨h.1.trans k.1, fun b hb hn => by
    rw [k.2 b (Nat.lt_of_lt_of_le hb h.size) (fun hm => by rcases hs b hm with q | q; exact hn q; omega), h.2 b hb hn]⟩
theorem Kx.next {L : List Nat} {w w1 w2 : World} (h : Kx L w w1) (k : Below w1.heap.size w1 w2) : Kx L w w2 := h.trans (Kx.of (L := []) k) (fun b hb => by simp at hb)
theorem Kx.mono {L M : List Nat} {w w' : World} (h : Kx L w w') (hs : ∀ b ∈ L, b ∈ M ∨ w.heap.size ≤ b) : Kx M w w' :=
  (Kx.refl M w).trans h hs
theorem Kx.below {L : List Nat} {w w' : World} (h : Kx L w w') {B : Nat} (hL : ∀ b ∈ L, B ≤ b) (hB : B ≤ w.heap.size) : Below B w w' :=
  ⟨h.1.os, h.1.tape, h.1.output, h.1.size, fun k hk => h.2 k (by omega) (fun hm => by have := hL k hm; omega)⟩
theorem Kx.set {L : List Nat} {w : World} (p : Addr) (v : Value) (h : p.block ∈ L) : Kx L w (w.setCell p v) :=
  ⟨(Below.refl 0 w).setCell (Nat.zero_le _) v, fun _ _ hn => Below.heap_setCell _ _ _ _ (fun e => hn (e ▸ h))⟩
theorem Kx.grown {L : List Nat} {w w' : World} {row : Option Nat} (hg : w.grownBy w' row) (hr : ∀ k, row = some k → k ∈ L) : Kx L w w' :=
  ⟨⟨hg.os, hg.tape, hg.output, hg.size, fun _ hk => by omega⟩, fun k hk hn => hg.block k hk (fun e => hn (hr k e.symm))⟩
theorem Kx.heap {L : List Nat} {w w' : World} (h : Kx L w w') {k : Nat} {o : Obj} (hk : w.heap[k]? = some o) (hn : k ∉ L) : w'.heap[k]? = some o := by
  rw [h.2 k ?_ hn]; exact hk
  rcases Nat.lt_or_ge k w.heap.size with q | q
  · exact q
  · simp [Array.getElem?_eq_none q] at hk
theorem heap_lt {w : World} {k : Nat} {o : Obj} (hk : w.heap[k]? = some o) : k < w.heap.size := by
  rcases Nat.lt_or_ge k w.heap.size with q | q
  · exact q
  · simp [Array.getElem?_eq_none q] at hk
/- a row of single cells from anywhere in its block -/
def OwnO (B : Nat) (e : TypeId) (v : Value) (xs : List Value) (w : World) : Prop :=
  (v = .slice none 0 0 ∧ xs = []) ∨
   ∃ g off cap cur, v = .slice (some ⟨g, off, none⟩) xs.length cap ∧ B ≤ g ∧ w.heap[g]? = some (.cells cur e (0, 0)) ∧ xs.length ≤ cap ∧ cap ≤ maxLen ∧ off + cap ≤ cur.size ∧ (cur.toList.drop off).take xs.length = xs
theorem OwnO.nil (B : Nat) (e : TypeId) (w : World) : OwnO B e (.slice none 0 0) [] w := .inl ⟨rfl, rfl⟩
theorem OwnO.keep {B : Nat} {e : TypeId} {v : Value} {xs : List Value} {w w' : World} (h : OwnO B e v xs w) (hk : ∀ r, v.ownBlock = some r → w'.heap[r]? = w.heap[r]?) : OwnO B e v xs w' := by
  rcases h with h | ⟨g, off, cap, cur, rfl, h1, h2, h3⟩
  · exact .inl h
  · exact .inr ⟨g, off, cap, cur, rfl, h1, by rw [hk g rfl]; exact h2, h3⟩
theorem OwnO.lt {B : Nat} {e : TypeId} {v : Value} {xs : List Value} {w : World} (h : OwnO B e v xs w) {r : Nat} (hr : v.ownBlock = some r) : B ≤ r ∧ r < w.heap.size := by
  rcases h with ⟨rfl, _⟩ | ⟨g, off, cap, cur, rfl, h1, h2, h3⟩
  · simp [Value.ownBlock] at hr
  · simp [Value.ownBlock] at hr; subst hr; exact ⟨h1, heap_lt h2⟩
theorem OwnO.kx {B : Nat} {e : TypeId} {v : Value} {xs : List Value} {w w' : World} (h : OwnO B e v xs w) {L : List Nat} (hk : Kx L w w') (hn : ∀ r, v.ownBlock = some r → r ∉ L) : OwnO B e v xs w' :=
  h.keep fun r hr => hk.2 r (h.lt hr).2 (hn r hr)
theorem OwnO.below {B : Nat} {e : TypeId} {v : Value} {xs : List Value} {w w' : World} (h : OwnO B e v xs w) (hb : Below w.heap.size w w') : OwnO B e v xs w' :=
  h.keep fun r hr => hb.block r (h.lt hr).2
theorem OwnO.sl {B : Nat} {e : TypeId} {v : Value} {xs : List Value} {w : World} (h : OwnO B e v xs w) : ∃ a c, v = .slice a xs.length c := by
  rcases h with ⟨rfl, rfl⟩ | ⟨g, off, cap, cur, rfl, _⟩
  · exact ⟨_, _, rfl⟩
  · exact ⟨_, _, rfl⟩
theorem OwnO.cell {B : Nat} {e : TypeId} {xs : List Value} {w : World} {g off cap : Nat} {n : Nat} (h : OwnO B e (.slice (some ⟨g, off, none⟩) n cap) xs w) (j : Nat) (v : Value) (hj : xs[j]? = some v) : w.cell? ⟨g, off + j, none⟩ = some v := by
  rcases h with ⟨h, _⟩ | ⟨g', off', cap', cur, h0, h1, h2, h3, h4, h5, h6⟩
  · simp at h
  · simp only [Value.slice.injEq, Option.some.injEq, Addr.mk.injEq, and_true] at h0
    obtain ⟨⟨rfl, rfl⟩, rfl, rfl⟩ := h0
    rw [Lib.cell_of_heap h2]
    rw [← h6, List.getElem?_take, List.getElem?_drop] at hj
    split at hj
    · simpa using hj
    · simp at hj
section
variable {P : Program} (w : World)
theorem run_append_roomO (t u ty e : TypeId) (i : TypeInfo) (ht : P.underlying t = some (.slice e)) (hu : P.underlying u = some .string) (hi : P.info? e = some i) (hs1 : i.size = 1)
    (g off sLen sCap : Nat) (cur : Array Value) (hg : w.heap[g]? = some (.cells cur e (0, 0))) (s : ByteArray)
    (hroom : sLen + s.size ≤ sCap) (hfit : off + sLen + s.size ≤ cur.size) :
    (Builtin.append_ #[t, u] ty #[.slice (some ⟨g, off, none⟩) sLen sCap, .string s]).run P w =
      .ok (.slice (some ⟨g, off, none⟩) (sLen + s.size) sCap) (w.setRow g (cur.toList.take (off + sLen) ++ Lib.strCells s ++ cur.toList.drop (off + sLen + s.size)).toArray) := by
  have hf := Lib.run_firstCells_string (P := P) w 1 s
  have hst := run_storeCells_at P g (off + sLen) e (Lib.strCells s) 0 cur w hg (by simpa [Lib.strCells_length] using hfit) (Lib.strCells_oneCell s)
  simp only [Nat.add_zero, Lib.strCells_length] at hst
  simp [Builtin.append_, run_underlying ht, run_underlying hu, sizeOf, typeInfo, hi, hs1, Builtin.lenOf, hroom, hf, Addr.add_lit, hst]
theorem run_append_ownO (B : Nat) (t u ty e : TypeId) (i : TypeInfo) (ht : P.underlying t = some (.slice e)) (hu : P.underlying u = some .string) (hi : P.info? e = some i) (hz : i.zero = some (.int .u8 0))
    (hsize : i.size = 1) (hby : i.bytes = 1)
    (v : Value) (xs : List Value) (hown : OwnO B e v xs w) (s : ByteArray)
    (hbytes : xs.length + s.size ≤ 140737488355328) (hB : B ≤ w.heap.size) :
    ∃ v' w', (Builtin.append_ #[t, u] ty #[v, .string s]).run P w = .ok v' w' ∧ OwnO B e v' (xs ++ Lib.strCells s) w' ∧ w.grownBy w' v.ownBlock ∧ ∀ r, v'.ownBlock = some r → v.ownBlock = some r ∨ w.heap.size ≤ r := by
  have hmx : xs.length + s.size ≤ maxLen := by unfold maxLen; omega
  rcases hown with ⟨rfl, rfl⟩ | ⟨g, off, cap, cur, rfl, h1, h2, h3, h4, h5, h6⟩
  · obtain ⟨v', w', k1, k2, k3, k4⟩ := Lib.run_append_own_string (P := P) w w.heap.size t u ty e i ht hu hi hz hsize hby (.slice none 0 0) 0 [] (World.ownsRow_nil w w.heap.size e 1) s (by simpa using hmx) (by simpa using hbytes) (Nat.le_refl _)
    refine ⟨v', w', k1, ?_, k3, ?_⟩
    · rcases k2.2 with ⟨q1, q2⟩ | ⟨g, cap, cur, q1, q2, q3, q4, q5, q6, q7⟩
      · have : s.size = 0 := by omega
        refine .inl ⟨q1, ?_⟩
        exact List.eq_nil_of_length_eq_zero (by simp [Lib.strCells_length, this])
      · refine .inr ⟨g, 0, cap, cur, ?_, by omega, q3, ?_, q5, by omega, ?_⟩
        · rw [q1]; simp [Lib.strCells_length]
        · simp [Lib.strCells_length]; omega
        · rw [List.drop_zero, List.nil_append, Lib.strCells_length]
          simpa using q7
    · intro r hr
      rcases k2.2 with ⟨q1, q2⟩ | ⟨g, cap, cur, q1, q2, q3, q4⟩
      · rw [q1] at hr; simp [Value.ownBlock] at hr
      · rw [q1] at hr; simp [Value.ownBlock] at hr; omega
  · by_cases hroom : xs.length + s.size ≤ cap
    · have hr := run_append_roomO (P := P) w t u ty e i ht hu hi hsize g off xs.length cap cur h2 s hroom (by omega)
      refine ⟨_, _, hr, .inr ⟨g, off, cap, _, ?_, h1, setRow_heap w g cur _ e _ h2, ?_, h4, ?_, ?_⟩, ⟨rfl, rfl, rfl, by simp, fun k _ hk => setRow_other w g k _ (fun e => hk (by simp [Value.ownBlock, e]))⟩, fun r hr => .inl hr⟩
      · simp [Lib.strCells_length]
      · simp [Lib.strCells_length]; omega
      · simp only [List.size_toArray, List.length_append, List.length_take, List.length_drop, Array.length_toList, Lib.strCells_length]
        omega
      · have e1 : cur.toList.take (off + xs.length) = cur.toList.take off ++ xs := by
          rw [List.take_add, h6]
        simp only [e1, List.append_assoc]
        rw [List.drop_append_of_le_length (by simp; omega), List.drop_take, Nat.sub_self, List.take_zero, List.nil_append, ← List.append_assoc]
        exact List.take_left
    · have holds : ∀ j u, xs[j]? = some u → w.cell? ((⟨g, off, none⟩ : Addr).add j) = some u := fun j u hj => by
        rw [Addr.add_lit]
        exact OwnO.cell (B := B) (e := e) (n := xs.length) (cap := cap) (.inr ⟨g, off, cap, cur, rfl, h1, h2, h3, h4, h5, h6⟩) j u hj
      have hr := Lib.run_append_grow_string (P := P) w t u ty e i (.int .u8 0) ht hu hi hz ⟨g, off, none⟩ xs.length cap xs (by rw [hsize, Nat.mul_one]) holds s (by omega) (by omega) (by rw [hby]; exact growslice_fits (by omega) (by omega))
      have hge := grownCap_ge w (xs.length + s.size) cap e
      have hcm : grownCap w (xs.length + s.size) cap e ≤ maxLen := grownCap_le_maxLen w (xs.length + s.size) cap e hmx
      refine ⟨_, _, hr, .inr ⟨w.heap.size, 0, _, _, ?_, hB, heap_alloc_new w.drew _, ?_, hcm, ?_, ?_⟩, ⟨rfl, rfl, rfl, by simp, fun k hk _ => Below.heap_alloc w.drew _ k hk⟩, fun r hr => .inr ?_⟩
      · simp [Lib.strCells_length]
      · simp [Lib.strCells_length]; omega
      · have hz1 : (Value.int IntKind.u8 0).cells.size = 1 := rfl
        simp only [Array.size_append, List.size_toArray, size_zeroCells, hz1, Lib.strCells_length]
        omega
      · simp only [Array.toList_append, List.drop_zero]
        exact List.take_left
      · simp [Value.ownBlock] at hr; omega
theorem wpList_append_ownO {ops : Array Oper} {rest : List Oper} {o : Oper} {a : Act} {Q : Exit → Act → World → Prop} (hgd : o.guard = none) (sl x : Operand) (t u : TypeId)
    (ho : o.op = .call { callee := .builtin .append, args := #[sl, x], argTypes := #[t, u] })
    (B : Nat) (e : TypeId) (i : TypeInfo) (ht : P.underlying t = some (.slice e)) (hu : P.underlying u = some .string) (hi : P.info? e = some i) (hz : i.zero = some (.int .u8 0))
    (hsize : i.size = 1) (hby : i.bytes = 1)
    (v : Value) (xs : List Value) (hs : a.eval sl = v) (hown : OwnO B e v xs w) (s : ByteArray) (hx : a.eval x = .string s)
    (hbytes : xs.length + s.size ≤ 140737488355328) (hB : B ≤ w.heap.size)
    (h : ∀ v' w', OwnO B e v' (xs ++ Lib.strCells s) w' → w.grownBy w' v.ownBlock → (∀ r, v'.ownBlock = some r → v.ownBlock = some r ∨ w.heap.size ≤ r) → wpList P ops Q rest (a.put o.dst v') w') : wpList P ops Q (o :: rest) a w := by
  refine wpList_plain hgd fun K hK => ?_
  obtain ⟨v', w', hr, h2, h3, h4⟩ := run_append_ownO (P := P) w B t u o.type e i ht hu hi hz hsize hby v xs hown s hbytes hB
  unfold Oper.wp execOp
  simp only [ho, resolve, invoke, builtin, Sem.run_bind, Sem.run_pure, Result.andThen_ok, List.map_toArray, List.map_cons, List.map_nil, hs, hx, hr]
  exact hK _ _ (h v' w' h2 h3 h4)
end
end Go.Proofs.YtbiggccolpchcaaGreatDoor

/- A book of any number of lists: what holds while a list is written full and appended to. -/
namespace Go.Proofs.YtbiggccolpchcaaGreatDoor.Bn
open Go.RowKit

/- a list that bears its mark -/
def LsI (mc : List Value) (u : Value) (w : World) : Prop := ∃ a n cap, u = .slice a n cap ∧ n ≤ 1000000 ∧ MkG mc n a w
theorem LsI.kx {mc : List Value} {u : Value} {w w' : World} {L : List Nat} (h : LsI mc u w) (k : Kx L w w') (hn : ∀ r, u.ownBlock = some r → r ∉ L) : LsI mc u w' := by
  obtain ⟨a, n, cap, rfl, h1, h2⟩ := h
  refine ⟨a, n, cap, rfl, h1, fun i hi => ?_⟩
  obtain ⟨g, e1, e2, e3⟩ := h2 i hi
  subst e1
  refine ⟨g, rfl, Nat.lt_of_lt_of_le e2 k.size, fun j v hj => ?_⟩
  rw [World.cell?_of_block (w := w) (k.2 g e2 (hn g rfl))]
  exact e3 j v hj
theorem owns_lenG {w : World} {B : Nat} {e : TypeId} {sz : Nat} {v : Value} {n : Nat} {xs : List Value} (h : w.ownsRow B e sz v n xs) : ∃ a c, v = .slice a n c := by
  rcases h.2 with ⟨rfl, rfl⟩ | ⟨g, cap, cur, rfl, _⟩
  · exact ⟨_, _, rfl⟩
  · exact ⟨_, _, rfl⟩
theorem owns_blkG {w : World} {B : Nat} {e : TypeId} {sz : Nat} {v : Value} {n : Nat} {xs : List Value} (h : w.ownsRow B e sz v n xs) : ∀ r, v.ownBlock = some r → B ≤ r ∧ r < w.heap.size := by
  intro r hr
  rcases h.2 with ⟨rfl, _⟩ | ⟨g, cap, cur, rfl, hB, hg, _⟩
  · cases hr
  · simp only [Value.ownBlock, Option.some.injEq] at hr
    subst hr
    refine ⟨hB, ?_⟩
    rcases Nat.lt_or_ge g w.heap.size with h' | h'
    · exact h'
    · simp [Array.getElem?_eq_none h'] at hg
theorem owns_kx {w w' : World} {B : Nat} {e : TypeId} {sz : Nat} {v : Value} {n : Nat} {xs : List Value} {L : List Nat} (h : w.ownsRow B e sz v n xs) (k : Kx L w w') (hn : ∀ r, v.ownBlock = some r → r ∉ L) : w'.ownsRow B e sz v n xs := by
  refine ⟨h.1, ?_⟩
  rcases h.2 with h0 | ⟨g, cap, cur, rfl, hB, hg, h4⟩
  · exact .inl h0
  · exact .inr ⟨g, cap, cur, rfl, hB, k.heap hg (hn g rfl), h4⟩
structure St (bk L B : Nat) (cs : Array Value) (ct et lt : TypeId) (mb : Option Nat) (mc vs : List Value) (V l : Value) (k : Nat) (w0 w : World) : Prop where
  ow : w.ownsRow L et mc.length l k (mrkG mc k)
  kbk : w.heap[bk]? = some (.cells cs ct (0, 0))
  kV : w.ownsRow B lt 1 V vs.length vs
  kx : Kx l.ownBlock.toList w0 w
  kS : L ≤ w.heap.size
  kT : B ≤ w.heap.size
  km : ∀ b, mb = some b → b < w.heap.size ∧ ∀ j v, mc[j]? = some v → w.cell? ⟨b, j, none⟩ = some v
section
variable {bk L B : Nat} {cs : Array Value} {ct et lt : TypeId} {mb : Option Nat} {mc vs : List Value} {V l : Value} {k : Nat} {w0 w w' : World}
theorem St.below (h : St bk L B cs ct et lt mb mc vs V l k w0 w) (hb : Below w.heap.size w w') : St bk L B cs ct et lt mb mc vs V l k w0 w' :=
  ⟨owns_below h.ow hb, by rw [hb.block bk (heap_lt h.kbk)]; exact h.kbk, owns_below h.kV hb, h.kx.next hb, Nat.le_trans h.kS hb.size, Nat.le_trans h.kT hb.size, fun b hbb => ⟨Nat.lt_of_lt_of_le (h.km b hbb).1 hb.size, fun j v hj => cell_later hb ((h.km b hbb).2 j v hj)⟩⟩
theorem St.grown (h : St bk L B cs ct et lt mb mc vs V l k w0 w) (hg : w.grownBy w' l.ownBlock) (how : w'.ownsRow L et mc.length l k (mrkG mc k)) (h1 : l.ownBlock ≠ some bk) (h2 : ∀ r, V.ownBlock = some r → l.ownBlock ≠ some r) (h3 : ∀ b, mb = some b → l.ownBlock ≠ some b) : St bk L B cs ct et lt mb mc vs V l k w0 w' := by
  have kk : Kx l.ownBlock.toList w w' := Kx.grown hg (fun k hk => by rw [Option.mem_toList]; exact hk)
  refine ⟨how, kk.heap h.kbk (by rw [Option.mem_toList]; exact h1), owns_kx h.kV kk (fun r hr => by rw [Option.mem_toList]; exact h2 r hr), h.kx.trans kk (fun b hb => .inl hb), Nat.le_trans h.kS kk.size, Nat.le_trans h.kT kk.size, fun b hbb => ⟨Nat.lt_of_lt_of_le (h.km b hbb).1 kk.size, fun j v hj => ?_⟩⟩
  rw [World.cell?_of_block (w := w) (kk.2 b (h.km b hbb).1 (by rw [Option.mem_toList]; exact h3 b hbb))]
  exact (h.km b hbb).2 j v hj
end
/- what keeping a list leaves behind -/
structure Kept4 (bk j B : Nat) (cs : Array Value) (ct lt : TypeId) (mc vs : List Value) (V l : Value) (w w' : World) : Prop where
  ex : ∃ V' v1 v2 v3, w'.heap[bk]? = some (.cells (cs.setIfInBounds j V') ct (0, 0)) ∧ w'.ownsRow B lt 1 V' (vs.length + 4) (vs ++ [l, v1, v2, v3]) ∧ (∀ r, V'.ownBlock = some r → V.ownBlock = some r ∨ w.heap.size ≤ r) ∧ ∀ u ∈ [l, v1, v2, v3], LsI mc u w' ∧ ∀ r, u.ownBlock = some r → (l.ownBlock = some r ∨ w.heap.size ≤ r) ∧ r < w'.heap.size ∧ r ≠ bk ∧ V'.ownBlock ≠ some r
  kx : Kx (bk :: V.ownBlock.toList ++ l.ownBlock.toList) w w'
theorem keep_end {bk L B j : Nat} {cs : Array Value} {ct et lt : TypeId} {mb : Option Nat} {mc vs : List Value} {Va la : Option Addr} {Vc lc q g1 g2 g3 p1 p2 p3 gV pV : Nat} {w w5 w7 : World} {o : Obj}
    (S : St bk L B cs ct et lt mb mc vs (.slice Va vs.length Vc) (.slice la q lc) q w w5) (hq : q ≤ 900000)
    (h1 : (Value.slice la q lc).ownBlock ≠ some bk) (h2 : ∀ r, (Value.slice Va vs.length Vc).ownBlock = some r → (Value.slice la q lc).ownBlock ≠ some r) (hbw : bk < w.heap.size) (hlw : ∀ r, (Value.slice la q lc).ownBlock = some r → r < w.heap.size) (hVw : ∀ r, (Value.slice Va vs.length Vc).ownBlock = some r → r < w.heap.size) (hVb : (Value.slice Va vs.length Vc).ownBlock ≠ some bk)
    (a1 : (Value.slice la q lc).ownBlock = some g1 ∨ w.heap.size ≤ g1) (a2 : (Value.slice la q lc).ownBlock = some g2 ∨ w.heap.size ≤ g2) (a3 : (Value.slice la q lc).ownBlock = some g3 ∨ w.heap.size ≤ g3)
    (l1 : g1 < w5.heap.size) (l2 : g2 < w5.heap.size) (l3 : g3 < w5.heap.size)
    (M0 : MkG mc q la w5) (M1 : MkG mc (q + 1) (some ⟨g1, 0, none⟩) w5) (M2 : MkG mc (q + 2) (some ⟨g2, 0, none⟩) w5) (M3 : MkG mc (q + 3) (some ⟨g3, 0, none⟩) w5)
    (oV : w7.ownsRow B lt 1 (.slice (some ⟨gV, 0, none⟩) (vs.length + 4) pV) (vs.length + 4) (vs ++ [.slice la q lc, .slice (some ⟨g1, 0, none⟩) (q + 1) p1, .slice (some ⟨g2, 0, none⟩) (q + 2) p2, .slice (some ⟨g3, 0, none⟩) (q + 3) p3]))
    (grV : (w5.alloc o).grownBy w7 (Value.slice Va vs.length Vc).ownBlock) (atV : (Value.slice Va vs.length Vc).ownBlock = some gV ∨ gV = (w5.alloc o).heap.size) :
    Kept4 bk j B cs ct lt mc vs (.slice Va vs.length Vc) (.slice la q lc) w (w7.setCell ⟨bk, j, none⟩ (.slice (some ⟨gV, 0, none⟩) (vs.length + 4) pV)) := by
  have hA := (Below.refl w5.heap.size w5).alloc (Nat.le_refl _) o
  have z5 := S.kx.size
  have zA : (w5.alloc o).heap.size = w5.heap.size + 1 := by simp
  have hVm : ∀ r, r < w5.heap.size → (Value.slice Va vs.length Vc).ownBlock ≠ some r → r ≠ gV := fun r h3 h4 e => by
    rcases atV with h | h
    · exact h4 (by rw [h, e])
    · omega
  have kV : Kx (Value.slice Va vs.length Vc).ownBlock.toList w5 w7 := ((Kx.of hA).trans (Kx.grown grV (fun k hk => by rw [Option.mem_toList]; exact hk)) (fun b hb => .inl hb))
  have kS : Kx [bk] w7 (w7.setCell ⟨bk, j, none⟩ (.slice (some ⟨gV, 0, none⟩) (vs.length + 4) pV)) := Kx.set _ _ (by simp)
  have kA : Kx (bk :: (Value.slice Va vs.length Vc).ownBlock.toList) w5 (w7.setCell ⟨bk, j, none⟩ (.slice (some ⟨gV, 0, none⟩) (vs.length + 4) pV)) :=
    (kV.mono (fun b hb => .inl (List.mem_cons_of_mem _ hb))).trans kS (fun b hb => .inl (by rw [List.mem_singleton] at hb; subst hb; exact List.mem_cons_self))
  have k7 : w7.heap[bk]? = some (.cells cs ct (0, 0)) := kV.heap S.kbk (by rw [Option.mem_toList]; exact hVb)
  have hgb : gV ≠ bk := fun e => by
    rcases atV with h | h
    · exact hVb (by rw [h, e])
    · omega
  have good : ∀ (a : Option Addr) (n cap : Nat), n ≤ 1000000 → MkG mc n a w5 → (∀ r, (Value.slice a n cap).ownBlock = some r → ((Value.slice la q lc).ownBlock = some r ∨ w.heap.size ≤ r) ∧ r < w5.heap.size) → LsI mc (.slice a n cap) (w7.setCell ⟨bk, j, none⟩ (.slice (some ⟨gV, 0, none⟩) (vs.length + 4) pV)) ∧ ∀ r, (Value.slice a n cap).ownBlock = some r → ((Value.slice la q lc).ownBlock = some r ∨ w.heap.size ≤ r) ∧ r < (w7.setCell ⟨bk, j, none⟩ (.slice (some ⟨gV, 0, none⟩) (vs.length + 4) pV)).heap.size ∧ r ≠ bk ∧ (Value.slice (some ⟨gV, 0, none⟩) (vs.length + 4) pV).ownBlock ≠ some r := fun a n cap hn hM hr => by
    have hne : ∀ r, (Value.slice a n cap).ownBlock = some r → r ≠ bk ∧ (Value.slice Va vs.length Vc).ownBlock ≠ some r := fun r e => by
      rcases (hr r e).1 with h | h
      · exact ⟨fun q => h1 (by rw [h, q]), fun q => h2 r q h⟩
      · exact ⟨by omega, fun q => by have := hVw r q; omega⟩
    refine ⟨LsI.kx ⟨a, n, cap, rfl, hn, hM⟩ kA (fun r e => ?_), fun r e => ⟨(hr r e).1, Nat.lt_of_lt_of_le (hr r e).2 kA.size, (hne r e).1, fun q => ?_⟩⟩
    · rw [List.mem_cons, Option.mem_toList]
      rintro (q | q)
      · exact (hne r e).1 q
      · exact (hne r e).2 q
    · simp only [Value.ownBlock, Option.some.injEq] at q
      exact hVm r (hr r e).2 (hne r e).2 q.symm
  have one : ∀ (g n cap : Nat), ((Value.slice la q lc).ownBlock = some g ∨ w.heap.size ≤ g) → g < w5.heap.size → ∀ r, (Value.slice (some ⟨g, 0, none⟩) n cap).ownBlock = some r → ((Value.slice la q lc).ownBlock = some r ∨ w.heap.size ≤ r) ∧ r < w5.heap.size := fun g n cap h3 h4 r e => by
    simp only [Value.ownBlock, Option.some.injEq] at e
    subst e
    exact ⟨h3, h4⟩
  refine ⟨⟨.slice (some ⟨gV, 0, none⟩) (vs.length + 4) pV, _, _, _, heap_setCell_same w7 bk j _ _ _ k7, owns_not oV (by simp [Value.ownBlock, hgb]) j _, fun r e => ?_, fun u hu => ?_⟩, ?_⟩
  · simp only [Value.ownBlock, Option.some.injEq] at e
    subst e
    rcases atV with h | h
    · exact .inl h
    · right; omega
  · simp only [List.mem_cons, List.not_mem_nil, or_false] at hu
    rcases hu with rfl | rfl | rfl | rfl
    · exact good _ _ _ (by omega) M0 (fun r e => ⟨.inl e, Nat.lt_of_lt_of_le (hlw r e) z5⟩)
    · exact good _ _ _ (by omega) M1 (one _ _ _ a1 l1)
    · exact good _ _ _ (by omega) M2 (one _ _ _ a2 l2)
    · exact good _ _ _ (by omega) M3 (one _ _ _ a3 l3)
  · refine (S.kx.mono (fun b hb => .inl ?_)).trans kA (fun b hb => .inl ?_)
    · rw [List.cons_append]; exact List.mem_cons_of_mem _ (List.mem_append_right _ hb)
    · exact List.mem_append_left _ hb
end Go.Proofs.YtbiggccolpchcaaGreatDoor.Bn

/- Plain mathematics: a number in digits to a base, as the reference tells it; base ten is the library's. -/
namespace Go.Proofs.YtbiggccolpchcaaGreatDoor

def digC (d : Nat) : UInt8 := if d < 10 then UInt8.ofNat (48 + d) else UInt8.ofNat (87 + d)
def natTF (b : Nat) : Nat → Nat → List UInt8
  | 0, u => [digC u]
  | k + 1, u => if u < b ∨ b < 2 then [digC u] else natTF b k (u / b) ++ [digC (u % b)]
def natT (b u : Nat) : List UInt8 := natTF b u u
theorem natTF_up (b : Nat) : ∀ (k u j : Nat), u ≤ k → k ≤ j → natTF b j u = natTF b k u
  | 0, u, j, h, _ => by
    cases j with
    | zero => rfl
    | succ j =>
      unfold natTF
      split
      · rfl
      · exfalso; omega
  | k + 1, u, j, h, h2 => by
    cases j with
    | zero => exfalso; omega
    | succ j =>
      unfold natTF
      split
      · rfl
      · have hd : u / b < u := Nat.div_lt_self (by omega) (by omega)
        rw [natTF_up b k (u / b) j (by omega) (by omega)]
theorem natT_small {b u : Nat} (h : u < b) : natT b u = [digC u] := by
  unfold natT
  cases u with
  | zero => rfl
  | succ u => unfold natTF; rw [if_pos (Or.inl h)]
theorem natT_big {b u : Nat} (hb : 2 ≤ b) (h : ¬ u < b) : natT b u = natT b (u / b) ++ [digC (u % b)] := by
  unfold natT
  cases u with
  | zero => exfalso; omega
  | succ u =>
    have hd : (u + 1) / b < u + 1 := Nat.div_lt_self (by omega) (by omega)
    rw [natTF, if_neg (by omega), natTF_up b ((u + 1) / b) ((u + 1) / b) u (by omega) (by omega)]
def numT (b : Nat) (n : Int) : List UInt8 := if n < 0 then 45 :: natT b n.natAbs else natT b n.toNat
theorem natT_ten (u : Nat) : natT 10 u = Lib.decDigits u := by
  induction u using Nat.strongRecOn with
  | _ u ih =>
    by_cases h : u < 10
    · rw [natT_small h, Lib.decDigits, dif_pos h]; unfold digC; rw [if_pos h]
    · rw [natT_big (by omega) h, Lib.decDigits, dif_neg h, ih (u / 10) (by omega)]
      unfold digC; rw [if_pos (by omega)]
theorem numT_ten (n : Int) : numT 10 n = Lib.itoa n := by
  unfold numT Lib.itoa; rw [natT_ten, natT_ten]
theorem natT_len {b : Nat} (hb : 2 ≤ b) : ∀ (k u : Nat), u < 2 ^ (k + 1) → (natT b u).length ≤ k + 1
  | 0, u, h => by rw [natT_small (by simp at h; omega)]; simp
  | k + 1, u, h => by
    by_cases hu : u < b
    · rw [natT_small hu]; simp
    · rw [natT_big hb hu, List.length_append]
      have h1 : u / b < 2 ^ (k + 1) := by
        rw [Nat.div_lt_iff_lt_mul (by omega)]
        rw [Nat.pow_succ] at h
        exact Nat.lt_of_lt_of_le h (Nat.mul_le_mul_left _ hb)
      have := natT_len hb k (u / b) h1
      simp; omega
theorem natT_le {b u : Nat} (hb : 2 ≤ b) (h : u ≤ 9223372036854775808) : (natT b u).length ≤ 64 := natT_len hb 63 u (by omega)
theorem numT_le {b : Nat} {n : Int} (hb : 2 ≤ b) (h0 : -9223372036854775808 ≤ n) (h1 : n ≤ 9223372036854775807) : (numT b n).length ≤ 65 := by
  unfold numT
  split
  · have := natT_le (b := b) (u := n.natAbs) hb (by omega); simp; omega
  · have := natT_le (b := b) (u := n.toNat) hb (by omega); omega
end Go.Proofs.YtbiggccolpchcaaGreatDoor
