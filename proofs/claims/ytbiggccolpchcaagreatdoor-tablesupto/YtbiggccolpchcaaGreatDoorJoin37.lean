/- Texts that follow one another, joined. -/
import Derived.Test.YtbiggccolpchcaaGreatDoorJoin36
import Derived.Test.YtbiggccolpchcaaGreatDoorJoin24
import Derived.Test.YtbiggccolpchcaaGreatDoorJoin27
import Derived.Test.YtbiggccolpchcaaGreatDoorJoin21
/- What a script has made, step by step: a list is kept, a pattern is added, a table is made. -/
namespace Go.Proofs.YtbiggccolpchcaaGreatDoor
open Go.RowKit Bn

theorem LsI.stay {mc : List Value} {u : Value} {w w' : World} (h : LsI mc u w) (hs : w.heap.size ≤ w'.heap.size) (hk : ∀ r, u.ownBlock = some r → w'.heap[r]? = w.heap[r]?) : LsI mc u w' := by
  obtain ⟨a, n, cap, rfl, h1, h2⟩ := h
  exact ⟨a, n, cap, rfl, h1, h2.block hs (fun g hg => hk g (by rw [hg]; rfl))⟩
theorem wlC_set (V : Nat → Value) (vs V1 : Value) (j : Nat) (hj : j < 4) : (wlC V vs).setIfInBounds j V1 = wlC (fun i => if i = j then V1 else V i) vs := by
  match j, hj with
  | 0, _ => rfl
  | 1, _ => rfl
  | 2, _ => rfl
  | 3, _ => rfl
section
variable {O : Nat → Nat} {wb : Nat} {V : Nat → Value} {l : Nat → List Value} {vs : Value} {tb : List Pr} {n : Nat} {w0 wA w w' : World}
theorem WI.keep (h : WI O wb V l vs tb n w0 wA) (hb : Below wA.heap.size wA w) {j : Nat} (hj : j < 4) {u : Value} (hu : ∀ r, u.ownBlock = some r → wA.heap.size ≤ r) (K : Kept4 wb j w0.heap.size (wlC V vs) 37 (etG j) (mkG j (l j).length) (l j) (V j) u w w') : ∃ O' V' l', WI O' wb V' l' vs tb (n + 1) w0 w' := by
  obtain ⟨⟨V1, v1, v2, v3, k1, k2, k3, k4⟩, kx⟩ := K
  have hsA := hb.size
  have hVo := (h.rw_ j hj).2
  have hVl := owns_blkG (h.rw_ j hj).1
  have hst : ∀ b, b < wA.heap.size → O b ≠ 0 → O b ≠ 2 + j → w'.heap[b]? = wA.heap[b]? := fun b hbb h0 h2 => by
    rw [kx.2 b (by omega) ?_, hb.block b hbb]
    simp only [List.cons_append, List.mem_cons, List.mem_append, Option.mem_toList, not_or]
    exact ⟨fun e => h0 (by rw [e]; exact h.oW), fun e => h2 (hVo b e), fun e => by have := hu b e; omega⟩
  have hsw := kx.size
  have hO : ∀ b, b < wA.heap.size → (if b < wA.heap.size then O b else if V1.ownBlock = some b then 2 + j else 6) = O b := fun b hbb => if_pos hbb
  refine ⟨fun b => if b < wA.heap.size then O b else if V1.ownBlock = some b then 2 + j else 6, fun i => if i = j then V1 else V i, fun i => if i = j then l j ++ [u, v1, v2, v3] else l i, ?_⟩
  refine ⟨(bel_of h.bel hb).trans (kx.below (fun b hbb => ?_) (Nat.le_trans h.bel.size hsA)), by rw [k1, wlC_set V vs V1 j hj], h.wge, by rw [hO wb h.lt]; exact h.oW, fun i hi => ?_, fun i hi k hk => ?_, fun i hi => ?_, ?_, fun r hr => ?_, fun i hi => ?_, ?_⟩
  · simp only [List.cons_append, List.mem_cons, List.mem_append, Option.mem_toList] at hbb
    rcases hbb with rfl | e | e
    · exact h.wge
    · exact (hVl b e).1
    · exact Nat.le_trans h.bel.size (hu b e)
  · by_cases hij : i = j
    · subst hij
      simp only [if_true]
      refine ⟨by rw [List.length_append]; exact k2, fun r hr => ?_⟩
      by_cases hr2 : r < wA.heap.size
      · rw [hO r hr2]
        rcases k3 r hr with e | e
        · exact hVo r e
        · omega
      · rw [if_neg hr2, if_pos hr]
    · simp only [if_neg hij]
      have hl := owns_blkG (h.rw_ i hi).1
      have ho := (h.rw_ i hi).2
      exact ⟨owns_stay (h.rw_ i hi).1 (fun r hr => hst r (hl r hr).2 (by rw [ho r hr]; omega) (by rw [ho r hr]; omega)), fun r hr => by rw [hO r (hl r hr).2]; exact ho r hr⟩
  · have old : ∀ i (_ : i < 4) k (hk : k < (l i).length), LsI (mkG i (k / 4 * 4)) (l i)[k] w' ∧ ∀ r, ((l i)[k]).ownBlock = some r → r < w'.heap.size ∧ (if r < wA.heap.size then O r else if V1.ownBlock = some r then 2 + j else 6) = 6 := fun i hi k hk => by
      obtain ⟨e1, e2⟩ := h.lis i hi k hk
      exact ⟨LsI.stay e1 (by omega) (fun r hr => hst r (e2 r hr).1 (by rw [(e2 r hr).2]; decide) (by rw [(e2 r hr).2]; omega)), fun r hr => ⟨by have := (e2 r hr).1; omega, by rw [hO r (e2 r hr).1]; exact (e2 r hr).2⟩⟩
    by_cases hij : i = j
    · subst hij
      simp only [if_true] at hk ⊢
      have h4 := (h.few i hi).2
      by_cases hk2 : k < (l i).length
      · rw [List.getElem_append_left hk2]; exact old i hi k hk2
      · rw [List.getElem_append_right (by omega)]
        rw [List.length_append] at hk
        have hk3 : k - (l i).length < [u, v1, v2, v3].length := by omega
        have hmem := List.getElem_mem hk3
        obtain ⟨e1, e2⟩ := k4 _ hmem
        simp only [List.length_cons, List.length_nil] at hk3
        rw [show k / 4 * 4 = (l i).length by omega]
        refine ⟨e1, fun r hr => ⟨(e2 r hr).2.1, ?_⟩⟩
        rw [if_neg, if_neg (e2 r hr).2.2.2]
        rcases (e2 r hr).1 with q | q
        · have := hu r q; omega
        · omega
    · simp only [if_neg hij] at hk ⊢
      exact old i hi k hk
  · have := h.few i hi
    by_cases hij : i = j
    · subst hij
      simp only [if_true, List.length_append, List.length_cons, List.length_nil]; omega
    · simp only [if_neg hij]; omega
  · have hl := owns_blkG h.sh
    exact owns_stay h.sh (fun r hr => hst r (hl r hr).2 (by rw [h.osh r hr]; decide) (by rw [h.osh r hr]; omega))
  · rw [hO r (owns_blkG h.sh r hr).2]; exact h.osh r hr
  · obtain ⟨e1, e2, e3⟩ := h.tab i hi
    refine ⟨e1.stay (by omega) (fun b hbb => ?_), fun b hbb => by rw [hO b (e1.fp_lt (.inl hbb))]; exact e2 b hbb, fun b hbb => by rw [hO b (e1.fp_lt (.inr hbb))]; exact e3 b hbb⟩
    rcases hbb with q | q
    · exact hst b (e1.fp_lt (.inl q)) (by rw [e2 b q]; omega) (by rw [e2 b q]; omega)
    · exact hst b (e1.fp_lt (.inr q)) (by rw [e3 b q]; omega) (by rw [e3 b q]; omega)
  · have := h.ft; omega
end
end Go.Proofs.YtbiggccolpchcaaGreatDoor

/- What a script has made: a pattern is added, a table is made. -/
namespace Go.Proofs.YtbiggccolpchcaaGreatDoor
open Go.RowKit Bn

theorem prP_set (tb : List Pr) (i : Nat) (hi : i < tb.length) (p' : Pr) (h1 : p'.gx = (tb[i]).gx) (h2 : p'.gr = (tb[i]).gr) : prP (tb.set i p') = prP tb := by
  unfold prP
  rw [List.set_eq_take_append_cons_drop, if_pos hi]
  conv => rhs; rw [show tb = tb.take i ++ (tb[i] :: tb.drop (i + 1)) by rw [← List.drop_eq_getElem_cons hi, List.take_append_drop]]
  rw [List.flatMap_append, List.flatMap_cons, List.flatMap_append, List.flatMap_cons, h1, h2]
theorem prP_snoc (tb : List Pr) (p : Pr) : prP (tb ++ [p]) = prP tb ++ [.pointer (some ⟨p.gx, 0, none⟩), .pointer (some ⟨p.gr, 0, none⟩)] := by
  unfold prP; rw [List.flatMap_append]; simp
theorem prP_len (tb : List Pr) : (prP tb).length = tb.length * 2 := by
  induction tb with
  | nil => rfl
  | cons a r ih => unfold prP at ih ⊢; rw [List.flatMap_cons, List.length_append, ih]; simp; omega
section
variable {O : Nat → Nat} {wb : Nat} {V : Nat → Value} {l : Nat → List Value} {vs : Value} {tb : List Pr} {n : Nat} {w0 w w1 w2 : World}
/- the reference's table is as it was when the program has added -/
theorem WI.mid (h : WI O wb V l vs tb n w0 w) {i : Nat} (hi : i < tb.length) (k1 : Kept (tb[i]).gx (tb[i]).v w w1) : TrAt (tb[i]).gr (tb[i]).gr (tb[i]).rs (tb[i]).vr w1 := by
  obtain ⟨e1, e2, e3⟩ := h.tab i hi
  have ne : ∀ b, (tb[i]).fr b → w1.heap[b]? = w.heap[b]? := fun b hb => by
    have hO := e3 b hb
    refine k1 b (fr_lt e1.tr hb) (fun e => ?_) (fun e => ?_)
    · have := e2 b (.inl e); omega
    · have := e2 b (.inr (.inl e)); omega
  exact e1.tr.stay (ne _ (.inl rfl)) (fun r hr => ne r (.inr hr))
theorem WI.add (h : WI O wb V l vs tb n w0 w) {i : Nat} (hi : i < tb.length) {m s : ByteArray} {p : List (Int × ByteArray)} (hp : patternOf s.data.toList = some p) (hno : hitG m.data.toList p ((tb[i]).rs.map refB) 0 = none) (A : Added (tb[i]).gx 0 (tb[i]).gx (tb[i]).es (tb[i]).v m p w w1)
    (B2 : Below (tb[i]).gr w1 w2) (K2 : Kept (tb[i]).gr (tb[i]).vr w1 w2) {vr' : Value} (T2 : TrAt (tb[i]).gr (tb[i]).gr ((tb[i]).rs ++ [(m, s)]) vr' w2) (hv2 : ∀ r, vr'.ownBlock = some r → (tb[i]).vr.ownBlock = some r ∨ w1.heap.size ≤ r) : ∃ O' tb', WI O' wb V l vs tb' n w0 w2 ∧ tb'.length = tb.length := by
  obtain ⟨e1, e2, e3⟩ := h.tab i hi
  obtain ⟨a, c, v', T1, hv1, hpa⟩ := A.tb
  have s1 := A.bl.size
  have s2 := B2.size
  have hfr : ∀ b, (tb[i]).fr b → b < w.heap.size := fun b hb => fr_lt e1.tr hb
  have hfx : ∀ b, (tb[i]).fx b → b < w.heap.size := fun b hb => fx_lt e1.tx hb
  -- all else stays
  have hst : ∀ b, b < w.heap.size → O b ≠ 7 + 2 * i → O b ≠ 8 + 2 * i → w2.heap[b]? = w.heap[b]? := fun b hb h7 h8 => by
    rw [K2 b (by omega) (fun e => h8 (e3 b (.inl e))) (fun e => h8 (e3 b (.inr e))), A.kp b hb (fun e => h7 (e2 b (.inl e))) (fun e => h7 (e2 b (.inr (.inl e))))]
  -- the program's blocks stay in the second step
  have h12 : ∀ b, b < w1.heap.size → ¬ (tb[i]).fr b → w2.heap[b]? = w1.heap[b]? := fun b hb hn => K2 b hb (fun e => hn (.inl e)) (fun e => hn (.inr e))
  have nx : ∀ b, (tb[i]).fx b ∨ w.heap.size ≤ b → ¬ (tb[i]).fr b := fun b hb hf => by
    rcases hb with q | q
    · have := e2 b q; have := e3 b hf; omega
    · have := hfr b hf; omega
  have hvn : ∀ r, v'.ownBlock = some r → (tb[i]).fx r ∨ w.heap.size ≤ r := fun r hr => by
    rcases hv1 with e | ⟨q, e, hq⟩
    · rw [e] at hr; exact .inl (.inr (.inl hr))
    · rw [e] at hr; cases hr; exact .inr hq
  have hpn : ∀ e ∈ (tb[i]).es ++ [⟨m, p, a, c⟩], ∀ g, e.a = some ⟨g, 0, none⟩ → (tb[i]).fx g ∨ w.heap.size ≤ g := fun e he g hg => by
    rcases List.mem_append.1 he with q | q
    · exact .inl (.inr (.inr ⟨e, q, hg⟩))
    · rw [List.mem_singleton] at q; subst q; exact .inr (hpa g hg)
  have T1' : TbAt (tb[i]).gx 0 (tb[i]).gx ((tb[i]).es ++ [⟨m, p, a, c⟩]) v' w2 := by
    refine T1.stay s2 (h12 _ T1.lt (nx _ (.inl (.inl rfl)))) (fun r hr => h12 r (owns_blkG T1.row r hr).2 (nx r (hvn r hr))) (fun e he g hg => ?_)
    obtain ⟨k, hk, rfl⟩ := List.getElem_of_mem he
    exact h12 g (T1.blk k hk g hg) (nx g (hpn _ (List.getElem_mem hk) g hg))
  have P' : PrI w0.heap.size ⟨(tb[i]).gx, v', (tb[i]).es ++ [⟨m, p, a, c⟩], (tb[i]).gr, vr', (tb[i]).rs ++ [(m, s)]⟩ w2 := by
    refine ⟨T1', T2, ?_, e1.sp.more hp hno, e1.b1, e1.b2⟩
    simp only [List.map_append, e1.eq, List.map_cons, List.map_nil]
    congr 1
    simp [Ent.bare, refB, hp]
  have hO : ∀ b, b < w.heap.size → (if b < w.heap.size then O b else if b < w1.heap.size then 7 + 2 * i else 8 + 2 * i) = O b := fun b hb => if_pos hb
  refine ⟨fun b => if b < w.heap.size then O b else if b < w1.heap.size then 7 + 2 * i else 8 + 2 * i, tb.set i ⟨(tb[i]).gx, v', (tb[i]).es ++ [⟨m, p, a, c⟩], (tb[i]).gr, vr', (tb[i]).rs ++ [(m, s)]⟩, ?_, List.length_set⟩
  refine ⟨h.bel.trans ((A.bl.mono e1.b1).trans (B2.mono e1.b2)), ?_, h.wge, by rw [hO wb h.lt]; exact h.oW, fun j hj => ?_, fun j hj k hk => ?_, h.few, ?_, fun r hr => ?_, fun k hk => ?_, by rw [List.length_set]; exact h.ft⟩
  · rw [hst wb h.lt (by rw [h.oW]; omega) (by rw [h.oW]; omega)]; exact h.blk
  · have hl := owns_blkG (h.rw_ j hj).1
    have ho := (h.rw_ j hj).2
    exact ⟨owns_stay (h.rw_ j hj).1 (fun r hr => hst r (hl r hr).2 (by rw [ho r hr]; omega) (by rw [ho r hr]; omega)), fun r hr => by rw [hO r (hl r hr).2]; exact ho r hr⟩
  · obtain ⟨q1, q2⟩ := h.lis j hj k hk
    exact ⟨LsI.stay q1 (by omega) (fun r hr => hst r (q2 r hr).1 (by rw [(q2 r hr).2]; omega) (by rw [(q2 r hr).2]; omega)), fun r hr => ⟨by have := (q2 r hr).1; omega, by rw [hO r (q2 r hr).1]; exact (q2 r hr).2⟩⟩
  · have hpp := prP_set tb i hi (Pr.mk (tb[i]).gx v' ((tb[i]).es ++ [Ent.mk m p a c]) (tb[i]).gr vr' ((tb[i]).rs ++ [(m, s)])) rfl rfl
    rw [List.length_set, hpp]
    have hl := owns_blkG h.sh
    exact owns_stay h.sh (fun r hr => hst r (hl r hr).2 (by rw [h.osh r hr]; omega) (by rw [h.osh r hr]; omega))
  · rw [hO r (owns_blkG h.sh r hr).2]; exact h.osh r hr
  · rw [List.length_set] at hk
    by_cases hki : k = i
    · subst hki
      rw [List.getElem_set_self]
      refine ⟨P', fun b hb => ?_, fun b hb => ?_⟩
      · have : (tb[k]).fx b ∨ w.heap.size ≤ b := by
          rcases hb with q | q | ⟨e, he, q⟩
          · exact .inl (.inl q)
          · exact hvn b q
          · exact hpn e he b q
        have hlt : b < w1.heap.size := by
          rcases hb with q | q | ⟨e, he, q⟩
          · rw [q]; exact T1.lt
          · exact (owns_blkG T1.row b q).2
          · obtain ⟨x, hx, rfl⟩ := List.getElem_of_mem he
            exact T1.blk x hx b q
        rcases this with q | q
        · rw [hO b (hfx b q)]; exact e2 b q
        · rw [if_neg (by omega), if_pos hlt]
      · have : (tb[k]).fr b ∨ w1.heap.size ≤ b := by
          rcases hb with q | q
          · exact .inl (.inl q)
          · rcases hv2 b q with x | x
            · exact .inl (.inr x)
            · exact .inr x
        rcases this with q | q
        · rw [hO b (hfr b q)]; exact e3 b q
        · rw [if_neg (by omega), if_neg (by omega)]
    · rw [List.getElem_set_ne (fun e => hki e.symm)]
      obtain ⟨d1, d2, d3⟩ := h.tab k hk
      refine ⟨d1.stay (by omega) (fun b hbb => ?_), fun b hbb => by rw [hO b (d1.fp_lt (.inl hbb))]; exact d2 b hbb, fun b hbb => by rw [hO b (d1.fp_lt (.inr hbb))]; exact d3 b hbb⟩
      rcases hbb with q | q
      · exact hst b (d1.fp_lt (.inl q)) (by rw [d2 b q]; omega) (by rw [d2 b q]; omega)
      · exact hst b (d1.fp_lt (.inr q)) (by rw [d3 b q]; omega) (by rw [d3 b q]; omega)
/- a table more -/
theorem WI.table (h : WI O wb V l vs tb n w0 w) {gx gr g cap : Nat} {o : Obj} {w3 : World} (hgx : w.heap.size ≤ gx) (hgr : w.heap.size ≤ gr) (hne : gx ≠ gr) (hb : Below w.heap.size w w2) (T1 : TbAt gx 0 gx [] (.slice none 0 0) w2) (T2 : TrAt gr gr [] (.slice none 0 0) w2)
    (hg : (w2.alloc o).grownBy w3 vs.ownBlock) (hat : vs.ownBlock = some g ∨ g = (w2.alloc o).heap.size) (how : w3.ownsRow w0.heap.size 59 2 (.slice (some ⟨g, 0, none⟩) (tb.length + 1) cap) (tb.length + 1) (prP tb ++ [.pointer (some ⟨gx, 0, none⟩), .pointer (some ⟨gr, 0, none⟩)])) :
    ∃ O' vs' tb', WI O' wb V l vs' tb' (n + 1) w0 (w3.setCell ⟨wb, 4, none⟩ (.slice (some ⟨g, 0, none⟩) (tb.length + 1) cap)) ∧ tb'.length = tb.length + 1 := by
  have hA : Below w2.heap.size w2 (w2.alloc o) := (Below.refl _ _).alloc (Nat.le_refl _) o
  have hz : (w2.alloc o).heap.size = w2.heap.size + 1 := by simp
  have hbA := bel_of hb hA
  have h2 := h.below hbA
  have kg : Kx vs.ownBlock.toList (w2.alloc o) w3 := Kx.grown hg (fun k hk => by rw [Option.mem_toList]; exact hk)
  have ks : Kx [wb] w3 (w3.setCell ⟨wb, 4, none⟩ (.slice (some ⟨g, 0, none⟩) (tb.length + 1) cap)) := Kx.set _ _ (by simp)
  have kk : Kx (wb :: vs.ownBlock.toList) (w2.alloc o) (w3.setCell ⟨wb, 4, none⟩ (.slice (some ⟨g, 0, none⟩) (tb.length + 1) cap)) :=
    (kg.mono (fun b hb => .inl (List.mem_cons_of_mem _ hb))).trans ks (fun b hb => .inl (by rw [List.mem_singleton] at hb; subst hb; exact List.mem_cons_self))
  have sz := kk.size
  have hvl := owns_blkG h.sh
  have hgx2 := T1.lt
  have hgr2 := T2.lt
  have s02 := hb.size
  have hst : ∀ b, b < (w2.alloc o).heap.size → b ≠ wb → vs.ownBlock ≠ some b → (w3.setCell ⟨wb, 4, none⟩ (.slice (some ⟨g, 0, none⟩) (tb.length + 1) cap)).heap[b]? = (w2.alloc o).heap[b]? := fun b hb h1 h2 => kk.2 b hb (by rw [List.mem_cons, Option.mem_toList, not_or]; exact ⟨h1, h2⟩)
  have hso : ∀ b, b < w.heap.size → O b ≠ 0 → O b ≠ 1 → (w3.setCell ⟨wb, 4, none⟩ (.slice (some ⟨g, 0, none⟩) (tb.length + 1) cap)).heap[b]? = (w2.alloc o).heap[b]? := fun b hb h1 h2 => hst b (by omega) (fun e => h1 (by rw [e]; exact h.oW)) (fun e => h2 (h.osh b e))
  have hgn : g ≠ wb := fun e => by
    rcases hat with q | q
    · have := h.osh g q; rw [e, h.oW] at this; omega
    · have := h.lt; omega
  have hO : ∀ b, b < w.heap.size → (if b < w.heap.size then O b else if b = gx then 7 + 2 * tb.length else if b = gr then 8 + 2 * tb.length else 1) = O b := fun b hb => if_pos hb
  have P' : PrI w0.heap.size ⟨gx, .slice none 0 0, [], gr, .slice none 0 0, []⟩ (w3.setCell ⟨wb, 4, none⟩ (.slice (some ⟨g, 0, none⟩) (tb.length + 1) cap)) := by
    have lw := h.lt
    have b0 := h.bel.size
    refine PrI.stay (w := w2.alloc o) ⟨T1.below hA, ?_, rfl, fun i j hi => absurd hi (by simp), by show w0.heap.size ≤ gx; omega, by show w0.heap.size ≤ gr; omega⟩ sz (fun b hbb => ?_)
    · exact T2.below hA
    · have hb2 : b = gx ∨ b = gr := by
        rcases hbb with (q | q | ⟨e, he, _⟩) | (q | q)
        · exact .inl q
        · cases q
        · cases he
        · exact .inr q
        · cases q
      refine hst b (by rcases hb2 with q | q <;> omega) (by rcases hb2 with q | q <;> omega) (fun e => ?_)
      have := (hvl b e).2
      rcases hb2 with q | q <;> omega
  refine ⟨fun b => if b < w.heap.size then O b else if b = gx then 7 + 2 * tb.length else if b = gr then 8 + 2 * tb.length else 1, .slice (some ⟨g, 0, none⟩) (tb.length + 1) cap, tb ++ [⟨gx, .slice none 0 0, [], gr, .slice none 0 0, []⟩], ?_, by simp⟩
  refine ⟨h2.bel.trans (kk.below (fun b hbb => ?_) h2.bel.size), ?_, h.wge, by rw [hO wb h.lt]; exact h.oW, fun j hj => ?_, fun j hj k hk => ?_, fun j hj => ?_, ?_, fun r hr => ?_, fun k hk => ?_, ?_⟩
  · rw [List.mem_cons, Option.mem_toList] at hbb
    rcases hbb with rfl | e
    · exact h.wge
    · exact (hvl b e).1
  · have e3 : w3.heap[wb]? = some (.cells (wlC V vs) 37 (0, 0)) := kg.heap h2.blk (by rw [Option.mem_toList]; intro e; have := h.osh wb e; rw [h.oW] at this; omega)
    rw [heap_setCell_same w3 wb 4 _ _ _ e3]
    rfl
  · have hl := owns_blkG (h.rw_ j hj).1
    have ho := (h.rw_ j hj).2
    exact ⟨owns_stay (h2.rw_ j hj).1 (fun r hr => hso r (hl r hr).2 (by rw [ho r hr]; omega) (by rw [ho r hr]; omega)), fun r hr => by rw [hO r (hl r hr).2]; exact ho r hr⟩
  · obtain ⟨q1, q2⟩ := h.lis j hj k hk
    exact ⟨LsI.stay (h2.lis j hj k hk).1 sz (fun r hr => hso r (q2 r hr).1 (by rw [(q2 r hr).2]; omega) (by rw [(q2 r hr).2]; omega)), fun r hr => ⟨by have := (q2 r hr).1; omega, by rw [hO r (q2 r hr).1]; exact (q2 r hr).2⟩⟩
  · have := h.few j hj; omega
  · rw [List.length_append, prP_snoc]
    exact owns_not how (by simp [Value.ownBlock, hgn]) 4 _
  · simp only [Value.ownBlock, Option.some.injEq] at hr
    subst hr
    rcases hat with q | q
    · rw [hO g (hvl g q).2]; exact h.osh g q
    · rw [if_neg (by omega), if_neg (by omega), if_neg (by omega)]
  · rw [List.length_append] at hk
    by_cases hk2 : k < tb.length
    · rw [List.getElem_append_left hk2]
      obtain ⟨d1, d2, d3⟩ := h.tab k hk2
      refine ⟨(h2.tab k hk2).1.stay sz (fun b hbb => ?_), fun b hbb => by rw [hO b (d1.fp_lt (.inl hbb))]; exact d2 b hbb, fun b hbb => by rw [hO b (d1.fp_lt (.inr hbb))]; exact d3 b hbb⟩
      rcases hbb with q | q
      · exact hso b (d1.fp_lt (.inl q)) (by rw [d2 b q]; omega) (by rw [d2 b q]; omega)
      · exact hso b (d1.fp_lt (.inr q)) (by rw [d3 b q]; omega) (by rw [d3 b q]; omega)
    · have hke : k = tb.length := by simp at hk; omega
      subst hke
      rw [List.getElem_concat_length rfl]
      refine ⟨P', fun b hbb => ?_, fun b hbb => ?_⟩
      · rcases hbb with q | q | ⟨e, he, _⟩
        · have q' : b = gx := q
          rw [if_neg (by omega), if_pos q']
        · cases q
        · cases he
      · rcases hbb with q | q
        · have q' : b = gr := q
          rw [if_neg (by omega), if_neg (by omega), if_pos q']
        · cases q
  · have := h.ft; rw [List.length_append]; simp; omega
end
end Go.Proofs.YtbiggccolpchcaaGreatDoor

/- Small configurations; how many parameters a request can have. -/
namespace Go.Proofs.YtbiggccolpchcaaGreatDoor
open Go.RowKit

structure RtSm (r : Rt) : Prop where
  m : r.m.size ≤ 1048576
  p : r.p.size ≤ 1048576
  t : r.h.t.size ≤ 1048576
  n : r.h.n.size ≤ 1048576
theorem RtSm.ok {r : Rt} (h : RtSm r) : RtOk r := ⟨by have := h.m; omega, by have := h.p; omega, by have := h.t; omega, by have := h.n; omega⟩
theorem matchB_len5 : ∀ (ps : List (Int × ByteArray)) (l : List UInt8) (mr : Bool) (acc fs : List Prm), matchB ps l mr acc = some fs → fs.length ≤ acc.length + ps.length
  | [], l, mr, acc, fs, h => by
    rw [matchB] at h
    split at h
    · cases h
    · cases h; simp
  | p :: r, l, mr, acc, fs, h => by
    rw [matchB] at h
    split at h
    · cases h
    · split at h
      · have := matchB_len5 r _ _ _ _ h
        rw [List.length_cons]
        split at this
        · omega
        · simp at this; omega
      · cases h
theorem pat_good5 {s : List UInt8} {p : List (Int × ByteArray)} (h : patternOf s = some p) : p = (pcs s).map pcB ∧ pieces (pcs s) ∧ pcs s ≠ [] ∧ s.length ≤ 64 := by
  have ht : ((pcs s).map fun x => (⟨x.toArray⟩ : ByteArray)).map (·.data.toList) = pcs s := by rw [List.map_map]; simp [Function.comp_def]
  by_cases hg : GoodP s ((pcs s).map fun x => (⟨x.toArray⟩ : ByteArray))
  · have h2 := patternOf_good ht hg
    rw [h] at h2
    obtain ⟨g1, g2, g3⟩ := hg
    exact ⟨Option.some.inj h2, good_pieces ht g3, pcs_ne g2, g1⟩
  · rw [patternOf_bad ht hg] at h; cases h
theorem findG_len (K : Nat) (m l : List UInt8) : ∀ (es : List Ent) (k : Nat), (∀ e ∈ es, e.ps.length ≤ K) → (findG m l es k).2.1.length ≤ K
  | [], _, _ => by simp [findG]
  | e :: r, k, h => by
    have ih := findG_len K m l r (k + 1) (fun x hx => h x (by simp [hx]))
    rw [findG]
    split
    · split
      · rename_i fs hfs
        have h1 := matchB_len5 _ _ _ _ _ hfs
        have h2 := h e (by simp)
        simp at h1 ⊢; omega
      · exact ih
    · exact ih
theorem pat_len (r : Rt) : (rtBare r).ps.length ≤ 64 := by
  unfold rtBare
  cases hp : patternOf r.p.data.toList with
  | none => simp
  | some p =>
    obtain ⟨h1, -, -, h4⟩ := pat_good5 hp
    have h5 := (pcs_le _ r.p.data.toList (Nat.le_refl _)).1
    simp only [Option.getD_some]
    rw [h1, List.length_map]; omega
theorem pd_len (hd bd : Int) (rs : List Rt) (ws : List Wr) (m t : List UInt8) : (pdG hd bd rs ws m t).ps.length ≤ 1000 ∧ ((pdG hd bd rs ws m t).e ≠ 0 → (pdG hd bd rs ws m t).ps = []) := by
  have hz : ∀ l, (leadG m l (rs.map rtBare)).2.1.length ≤ 64 := fun l => by
    have hh : ∀ e ∈ rs.map rtBare, e.ps.length ≤ 64 := fun e he => by
      obtain ⟨r, _, rfl⟩ := List.mem_map.1 he
      exact pat_len r
    unfold leadG
    split
    · exact findG_len 64 _ _ _ _ hh
    · exact findG_len 64 _ _ _ _ hh
  unfold pdG
  split
  · unfold dspG
    split
    · simp
    · split
      · have := hz (Pm.ahead 63 t)
        exact ⟨by simp only; omega, fun h => absurd rfl h⟩
      · split
        · simp
        · split <;> simp
  · simp
end Go.Proofs.YtbiggccolpchcaaGreatDoor
