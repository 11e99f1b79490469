/- Texts that follow one another, joined. -/
import Derived.Test.YtfdhmeojkagokaaGreatDoorJoin36
import Derived.Laws.IdiomCopy
import Derived.Lib.SlBuf
import Derived.OwnWalk
import Derived.Laws.Cover3
import Derived.Deep.RegionHeld3
/- The reference's Check and Dispatch, of any configuration. -/
namespace Go.Proofs.YtfdhmeojkagokaaGreatDoor
open Go.RowKit

theorem dsp_zero {m t : List UInt8} {es : List Ent} (h1 : Pm.isMethod m = true) (h2 : Pm.isTarget t = true) : (dspG m t es).e = 0 := by
  unfold dspG
  rw [if_neg (by rw [h1, h2]; simp)]
  split
  · rfl
  · split
    · rfl
    · split <;> rfl
set_option maxRecDepth 100000 in
set_option maxHeartbeats 2000000 in
theorem rDispatch_any (hd bd : Int) (rs : List Rt) (ws : List Wr) (ar : Option Addr) (cr : Nat) (aw : Option Addr) (cw : Nat) (m t : ByteArray) (w : World) (hR : MuAt 6 Rt.cells rs ar w) (hW : MuAt 4 Wr.cells ws aw w) (hro : ∀ r ∈ rs, RtSm r) (hwo : ∀ x ∈ ws, x.n.size ≤ 1048576 ∧ x.v.size ≤ 1048576) (hms : m.size ≤ maxLen) (hts : t.size ≤ 1000000000000) :
    Calls Tryz.prog 24 #[.agg #[.int .i64 hd, .int .i64 bd, .slice ar rs.length cr, .slice aw ws.length cw], .string m, .string t] w (DpPost (pdG hd bd rs ws m.data.toList t.data.toList) w) := by
  have HTA := hid (fun W (hb : Below w.heap.size w W) => rTabled_any hd bd rs ws ar cr aw cw W (hR.below hb) (hW.below hb) hro hwo)
  have HIM := hid (fun W => rIsMethod_any m W hms)
  have HIT := hid (fun W => rIsTarget_any t W (by unfold maxLen; omega))
  have hA1 := (Below.refl w.heap.size w).alloc (Nat.le_refl _) (.cells #[.int .i64 hd, .int .i64 bd, .slice ar rs.length cr, .slice aw ws.length cw] 27)
  have hA := hA1.alloc hA1.size (.cells #[.int .i64 0, .int .i64 0, .slice none 0 0, .string ⟨#[]⟩, .string ⟨#[]⟩] 63)
  have z1 : (w.alloc (.cells #[.int .i64 hd, .int .i64 bd, .slice ar rs.length cr, .slice aw ws.length cw] 27)).heap.size = w.heap.size + 1 := by simp
  have h0 : FnB (w.heap.size + 1) 0 0 (.slice none 0 0) ⟨#[]⟩ ⟨#[]⟩ ((w.alloc (.cells #[.int .i64 hd, .int .i64 bd, .slice ar rs.length cr, .slice aw ws.length cw] 27)).alloc (.cells #[.int .i64 0, .int .i64 0, .slice none 0 0, .string ⟨#[]⟩, .string ⟨#[]⟩] 63)) := by
    rw [← z1]; exact heap_alloc_new _ _
  have hE : ∀ E, cfgE hd bd rs ws = E → pdG hd bd rs ws m.data.toList t.data.toList = if E.2 = 0 then dspG m.data.toList t.data.toList (rs.map rtBare) else ⟨0, 0, [], [], [], E.2⟩ := fun E h => by subst h; rfl
  have HP := hid (hE _ rfl)
  generalize cfgE hd bd rs ws = E at *
  generalize pdG hd bd rs ws m.data.toList t.data.toList = R at *
  clear hR hW hro hwo hE hA1
  go_enter Tryz.func24, Tryz.ntmps24
  go_wp2_with fail
  generalize (w.alloc (.cells #[.int .i64 hd, .int .i64 bd, .slice ar rs.length cr, .slice aw ws.length cw] 27)).alloc (.cells #[.int .i64 0, .int .i64 0, .slice none 0 0, .string ⟨#[]⟩, .string ⟨#[]⟩] 63) = w1 at *
  clear z1
  refine (HTA.out _ hA).mono ?_
  rintro x w2 ⟨gt, rfl, hb2, htab⟩
  have hB2 := bel_of hA hb2
  have F2 := h0.below hb2
  have HTB := hid htab
  clear HTA h0 htab
  by_cases q : E.2 = 0
  · have hq : (E.2 != 0) = false := by rw [q]; rfl
    obtain ⟨es, v, he, T, hsp, hsz⟩ := HTB.out q
    have hR := HP.out
    rw [if_pos q, ← he] at hR
    have HRR := hid hR
    have HDI := hid (fun W (hW : Below w2.heap.size w2 W) h1 h2 => rdispatched_any gt gt es v m t W (T.below hW) hsp hsz h1 h2 hts)
    clear HP HTB T hsp hsz he hR
    go_wp2_with fail
    refine (HIM.out _).mono ?_
    rintro x w3 ⟨rfl, hw3⟩
    have hw4 := hw3.symm
    subst hw4
    clear hw3
    go_wp2_with fail
    refine (HIT.out _).mono ?_
    rintro x w4 ⟨rfl, hb4⟩
    have hB4 := bel_of hB2 hb4
    have F4 := F2.below hb4
    have hbx := hb4
    clear HIM HIT
    by_cases hbad : Pm.isMethod m.data.toList = false ∨ Pm.isTarget t.data.toList = false
    · have hR0 : dspG m.data.toList t.data.toList (es.map refB) = ⟨0, 0, [], [], [], 3⟩ := if_pos hbad
      have hR := HRR.out
      rw [hR0] at hR
      have HR3 := hid hR
      obtain ⟨c0, c1, c2, c3, c4⟩ := F4.cells
      have f0 := F4.free 0
      have f1 := F4.free 1
      have f2 := F4.free 2
      have f3 := F4.free 3
      have f4 := F4.free 4
      have l0 := F4.lt
      obtain ⟨d0, d1, d2, d3, d4⟩ := (F4.set 0 0 (.slice none 0 0) ⟨#[]⟩ ⟨#[]⟩).cells
      unfold setF at d0 d1 d2 d3 d4
      clear HRR hR hR0 HDI
      generalize Pm.isMethod m.data.toList = b1 at *
      generalize Pm.isTarget t.data.toList = b2 at *
      have hcs : b1 = false ∨ (b1 = true ∧ b2 = false) := by cases b1 <;> cases b2 <;> simp_all
      clear hbad
      rcases hcs with rfl | ⟨rfl, rfl⟩
      all_goals
        go_wp2_with fail
        refine bodyPost_ret (v := .tuple #[.agg #[.int .i64 0, .int .i64 0, (.slice none 0 0), .string ⟨#[]⟩, .string ⟨#[]⟩], .int .i64 3]) (by simp [results, Tryz.results24, go_sem, d0, d1, d2, d3, d4]) rfl ?_
        rw [HR3.out]
        exact ⟨⟨_, _, _, rfl, rfl, rfl, World.ownsRow_nil _ _ _ _⟩, below_setF hB4 (Nat.le_succ _)⟩
    · have h1 : Pm.isMethod m.data.toList = true := by cases q : Pm.isMethod m.data.toList; exact absurd (.inl q) hbad; rfl
      have h2 : Pm.isTarget t.data.toList = true := by cases q : Pm.isTarget t.data.toList; exact absurd (.inr q) hbad; rfl
      have HD2 := hid (HDI.out w4 hbx h1 h2)
      have hez := dsp_zero (es := es.map refB) h1 h2
      rw [← HRR.out] at HD2 hez
      have HZ := hid hez
      rw [h1, h2]
      clear HRR HDI hbad h1 h2 hez
      go_wp2_with fail
      refine HD2.out.mono ?_
      rintro x w5 ⟨⟨vv, ua, ul, rfl, hua, hul, ow⟩, hb5⟩
      have hB5 := bel_of hB4 hb5
      have F5 := F4.below hb5
      have l4 := F4.lt
      have hb6 := (Below.refl w5.heap.size w5).alloc (Nat.le_refl _) (.cells #[.int .i64 R.st, .int .i64 R.ro, vv, .string ua, .string ul] 63)
      have hno : vv.ownBlock ≠ some (w.heap.size + 1) := fun e => by have := own_ge ow _ e; omega
      have HO := hid (owns_below (owns_base ow (show w.heap.size ≤ w4.heap.size from hB4.size)) hb6)
      obtain ⟨ax, cx, rfl⟩ := sl_of ow
      have hB6 := bel_of hB5 hb6
      have F6 := F5.below hb6
      obtain ⟨c0, c1, c2, c3, c4⟩ := F6.cells
      have f0 := F6.free 0
      have f1 := F6.free 1
      have f2 := F6.free 2
      have f3 := F6.free 3
      have f4 := F6.free 4
      have l0 := F6.lt
      obtain ⟨d0, d1, d2, d3, d4⟩ := (F6.set R.st R.ro (.slice ax R.ps.length cx) ua ul).cells
      unfold setF at d0 d1 d2 d3 d4
      have HUA := hid (And.intro hua hul)
      clear ow HD2 F5 F2 F4 hua hul
      go_wp2_with fail
      refine bodyPost_ret (v := .tuple #[.agg #[.int .i64 R.st, .int .i64 R.ro, .slice ax R.ps.length cx, .string ua, .string ul], .int .i64 0]) (by simp [results, Tryz.results24, go_sem, d0, d1, d2, d3, d4]) rfl ?_
      exact ⟨⟨_, _, _, by rw [HZ.out], HUA.out.1, HUA.out.2, owns_setF HO.out hno⟩, below_setF hB6 (Nat.le_succ _)⟩
  · have hR := HP.out
    rw [if_neg q] at hR
    subst hR
    obtain ⟨c0, c1, c2, c3, c4⟩ := F2.cells
    have f0 := F2.free 0
    have f1 := F2.free 1
    have f2 := F2.free 2
    have f3 := F2.free 3
    have f4 := F2.free 4
    have l0 := F2.lt
    obtain ⟨d0, d1, d2, d3, d4⟩ := (F2.set 0 0 (.slice none 0 0) ⟨#[]⟩ ⟨#[]⟩).cells
    unfold setF at d0 d1 d2 d3 d4
    have hq : (E.2 != 0) = true := by simpa using q
    clear HP HTB HIM HIT
    go_wp2_with fail
    refine bodyPost_ret (v := .tuple #[.agg #[.int .i64 0, .int .i64 0, .slice none 0 0, .string ⟨#[]⟩, .string ⟨#[]⟩], .int .i64 E.2]) (by simp [results, Tryz.results24, go_sem, d0, d1, d2, d3, d4]) rfl ?_
    exact ⟨⟨_, _, _, rfl, rfl, rfl, World.ownsRow_nil _ _ _ _⟩, below_setF hB2 (Nat.le_succ _)⟩
end Go.Proofs.YtfdhmeojkagokaaGreatDoor

/- Lists of many-celled elements that are lent: blocks of the caller's own, their cells from the block's head on. -/
namespace Go.Proofs.YtfdhmeojkagokaaGreatDoor
open Go.RowKit

/- a block's first m cells are there and may be written -/
def OwnM (g m : Nat) (w : World) : Prop := ∀ j, j < m → (w.cell? ⟨g, j, none⟩).isSome = true ∧ w.frozen? ⟨g, j, none⟩ = false
theorem OwnM.below {g m : Nat} {w w' : World} {B : Nat} (h : OwnM g m w) (hb : Below B w w') (hg : g < B) : OwnM g m w' := fun j hj => by
  obtain ⟨h1, h2⟩ := h j hj
  exact ⟨by rw [hb.cell hg]; exact h1, by rw [hb.frozen hg]; exact h2⟩
theorem OwnM.cell {g m : Nat} {w : World} (h : OwnM g m w) (j : Nat) (hj : j < m) : ∃ v, w.cell? ⟨g, j, none⟩ = some v := Option.isSome_iff_exists.mp (h j hj).1
theorem OwnM.sets {g m o : Nat} {w : World} (h : OwnM g m w) (cs : List Value) (hl : o + cs.length ≤ m) : OwnM g m (w.setCells g o cs) := fun j hj => by
  refine ⟨?_, by rw [World.frozen?_setCells]; exact (h j hj).2⟩
  by_cases hk : o ≤ j ∧ j < o + cs.length
  · have := World.cell?_setCells_in g cs o w (fun i hi => (h (o + i) (by omega)).1) (j - o) (by omega)
    rw [show o + (j - o) = j from by omega] at this
    rw [this]; rfl
  · rw [World.cell?_setCells_out g cs o w ⟨g, j, none⟩ (fun _ _ => by show j < o ∨ o + cs.length ≤ j; omega)]; exact (h j hj).1
theorem flatm_get {α : Type} {sz : Nat} {f : α → List Value} (hf : ∀ x, (f x).length = sz) : ∀ (l : List α) (i : Nat) (h : i < l.length) (j : Nat) (v : Value), (f l[i])[j]? = some v → (l.flatMap f)[i * sz + j]? = some v
  | [], i, h, _, _, _ => absurd h (by simp)
  | x :: r, 0, _, j, v, hv => by
    rw [List.flatMap_cons]
    simp only [Nat.zero_mul, Nat.zero_add]
    simp only [List.getElem_cons_zero] at hv
    obtain ⟨hj, rfl⟩ := List.getElem?_eq_some_iff.1 hv
    rw [List.getElem?_append_left hj]; exact hv
  | x :: r, i + 1, h, j, v, hv => by
    have ih := flatm_get hf r i (by simpa using h) j v (by simpa using hv)
    rw [List.flatMap_cons, List.getElem?_append_right (by rw [hf x, Nat.succ_mul]; omega), hf x]
    rw [show (i + 1) * sz + j - sz = i * sz + j by rw [Nat.succ_mul]; omega]
    exact ih
theorem flatm_len {α : Type} {sz : Nat} {f : α → List Value} (hf : ∀ x, (f x).length = sz) (l : List α) : (l.flatMap f).length = l.length * sz := by
  induction l with
  | nil => simp
  | cons a r ih => rw [List.flatMap_cons, List.length_append, ih, hf a, List.length_cons, Nat.succ_mul]; omega
theorem mu_src {α : Type} {sz : Nat} {f : α → List Value} (hz : 0 < sz) (hf : ∀ x, (f x).length = sz) {l : List α} {ad : Addr} {w : World} (h : MuAt sz f l (some ad) w) : ∀ j v, (l.flatMap f)[j]? = some v → w.cell? (ad.add j) = some v := fun j v hj => by
  have hl : j < (l.flatMap f).length := (List.getElem?_eq_some_iff.1 hj).1
  rw [flatm_len hf] at hl
  have hi : j / sz < l.length := (Nat.div_lt_iff_lt_mul hz).2 hl
  have hr : j % sz < sz := Nat.mod_lt _ hz
  have hd : j / sz * sz + j % sz = j := by rw [Nat.mul_comm]; exact Nat.div_add_mod j sz
  obtain ⟨g, o, e, _, hc⟩ := h (j / sz) hi
  obtain rfl : ad = ⟨g, o, none⟩ := by simpa using e
  have hv : (f l[j / sz])[j % sz]? = some ((f l[j / sz])[j % sz]'(by rw [hf]; exact hr)) := List.getElem?_eq_getElem _
  have h1 := flatm_get hf l (j / sz) hi (j % sz) _ hv
  rw [hd, hj] at h1
  have h2 := hc (j % sz) _ hv
  rw [Addr.add_lit, show o + j = o + j / sz * sz + j % sz from by omega, h2, h1]
/- a list that was lent: its cells from the block's head on -/
def LvM {α : Type} (sz : Nat) (f : α → List Value) (L : List α) (g : Nat) (w : World) : Prop :=
  ∀ i (h : i < L.length) j v, (f L[i])[j]? = some v → w.cell? ⟨g, i * sz + j, none⟩ = some v
theorem LvM.below {α : Type} {sz : Nat} {f : α → List Value} {L : List α} {g : Nat} {w w' : World} {B : Nat} (h : LvM sz f L g w) (hb : Below B w w') (hg : g < B) : LvM sz f L g w' := fun i hi j v hv => by
  rw [hb.cell hg]; exact h i hi j v hv
theorem LvM.mu {α : Type} {sz : Nat} {f : α → List Value} {l L : List α} {g : Nat} {w : World} (h : LvM sz f (l ++ L) g w) (hg : g < w.heap.size) : MuAt sz f l (some ⟨g, 0, none⟩) w := fun i hi => by
  refine ⟨g, 0, rfl, hg, fun j v hv => ?_⟩
  rw [Nat.zero_add]
  exact h i (by rw [List.length_append]; omega) j v (by rw [List.getElem_append_left hi]; exact hv)
theorem own_copiedL {α : Type} {sz : Nat} {f : α → List Value} (hf : ∀ x, (f x).length = sz) {g m : Nat} {w : World} (h : OwnM g m w) (l : List α) (hl : l.length * sz ≤ m) : OwnM g m (w.setCells g 0 (l.flatMap f)) ∧ LvM sz f l g (w.setCells g 0 (l.flatMap f)) := by
  have hlen := flatm_len hf l
  refine ⟨h.sets _ (by omega), fun i hi j v hv => ?_⟩
  have h1 := flatm_get hf l i hi j v hv
  obtain ⟨hj, rfl⟩ := List.getElem?_eq_some_iff.1 h1
  have := World.cell?_setCells_in g (l.flatMap f) 0 w (fun i hi => by rw [Nat.zero_add]; exact (h i (by omega)).1) _ hj
  rw [Nat.zero_add] at this
  exact this
theorem LvM.snoc {α : Type} {sz : Nat} {f : α → List Value} (hf : ∀ x, (f x).length = sz) {L : List α} {g m : Nat} {w : World} (h : LvM sz f L g w) (ho : OwnM g m w) (x : α) (hm : L.length * sz + sz ≤ m) :
    LvM sz f (L ++ [x]) g (w.setCells g (L.length * sz) (f x)) := fun i hi j v hv => by
  rw [List.length_append, List.length_singleton] at hi
  by_cases hk : i < L.length
  · rw [List.getElem_append_left hk] at hv
    have hj : j < sz := by have := (List.getElem?_eq_some_iff.1 hv).1; rw [hf] at this; exact this
    have hle : i * sz + sz ≤ L.length * sz := by
      have : (i + 1) * sz ≤ L.length * sz := Nat.mul_le_mul_right _ hk
      rw [Nat.succ_mul] at this; exact this
    rw [World.cell?_setCells_out g (f x) _ w _ (fun _ _ => by left; show i * sz + j < L.length * sz; omega)]
    exact h i hk j v hv
  · obtain rfl : i = L.length := by omega
    rw [List.getElem_append_right (Nat.le_refl _)] at hv
    simp only [Nat.sub_self, List.getElem_cons_zero] at hv
    obtain ⟨hj, rfl⟩ := List.getElem?_eq_some_iff.1 hv
    exact World.cell?_setCells_in g (f x) (L.length * sz) w (fun i hi => (ho _ (by rw [hf] at hi; omega)).1) j hj
/- .. from an element on -/
def LfM {α : Type} (sz : Nat) (f : α → List Value) (L : List α) (k g : Nat) (w : World) : Prop :=
  ∀ i (h : i < L.length) j v, k ≤ i → (f L[i])[j]? = some v → w.cell? ⟨g, i * sz + j, none⟩ = some v
theorem LfM.below {α : Type} {sz : Nat} {f : α → List Value} {L : List α} {k g : Nat} {w w' : World} {B : Nat} (h : LfM sz f L k g w) (hb : Below B w w') (hg : g < B) : LfM sz f L k g w' := fun i hi j v hk hv => by
  rw [hb.cell hg]; exact h i hi j v hk hv
theorem LfM.next {α : Type} {sz : Nat} {f : α → List Value} {L : List α} {k g : Nat} {w : World} (h : LfM sz f L k g w) (cs : List Value) (hc : cs.length = sz) : LfM sz f L (k + 1) g (w.setCells g (k * sz) cs) := fun i hi j v hk hv => by
  have hle : k * sz + sz ≤ i * sz := by
    have : (k + 1) * sz ≤ i * sz := Nat.mul_le_mul_right _ hk
    rw [Nat.succ_mul] at this; exact this
  rw [World.cell?_setCells_out g cs _ w _ (fun _ _ => by right; show k * sz + cs.length ≤ i * sz + j; omega)]
  exact h i hi j v (by omega) hv
theorem owns_ownM {w : World} {B : Nat} {e : TypeId} {sz g n : Nat} {xs : List Value} (h : w.ownsRow B e sz (.slice (some ⟨g, 0, none⟩) n n) n xs) : OwnM g (n * sz) w ∧ g < w.heap.size := by
  rcases h.2 with ⟨h2, _⟩ | ⟨g', cap, cur, hv, hB, hg, hc, hm, hsz, ht⟩
  · cases h2
  · simp only [Value.slice.injEq, Option.some.injEq, Addr.mk.injEq, and_true, true_and] at hv
    obtain ⟨rfl, rfl⟩ := hv
    refine ⟨fun j hj => ⟨?_, Lib.frozen_of_heap hg j⟩, ?_⟩
    · rw [Lib.cell_of_heap hg]; simp; omega
    · rcases Nat.lt_or_ge g w.heap.size with h' | h'
      · exact h'
      · simp [Array.getElem?_eq_none h'] at hg
theorem below_sets {B g o : Nat} {w w' : World} (h : Below B w w') (hg : B ≤ g) (cs : List Value) : Below B w (w'.setCells g o cs) := Lib.below_setCells g hg cs o h
section
variable {P : Program}
theorem run_copy_wideL (w : World) (dT sT ty elem : TypeId) (sz b o dLen dCap : Nat) (a : Addr) (sLen sCap : Nat) (cs : List Value)
    (hu : P.underlying dT = some (.slice elem)) (hs : (P.info? elem).map (·.size) = some sz) (hn : cs.length = Nat.min sLen dLen * sz)
    (hsrc : ∀ j v, cs[j]? = some v → w.cell? (a.add j) = some v) (hc : ∀ j, j < cs.length → (w.cell? ⟨b, o + j, none⟩).isSome = true) (hf : ∀ j, j < cs.length → w.frozen? ⟨b, o + j, none⟩ = false) (h1 : ∀ v ∈ cs, v.oneCell' = true) :
    (Builtin.copy_ #[dT, sT] ty #[.slice (some ⟨b, o, none⟩) dLen dCap, .slice (some a) sLen sCap]).run P w = .ok (goInt (Nat.min sLen dLen)) (w.setCells b o cs) := by
  have hl := run_loadCells_list (P := P) w a cs hsrc
  have hst := run_storeCells_cells (P := P) b o cs 0 w (by simpa using hc) (by simpa using hf) h1
  cases hq : P.info? elem with
  | none => simp [hq] at hs
  | some i =>
    have hi : i.size = sz := by simpa [hq] using hs
    simp [Builtin.copy_, run_underlying hu, Builtin.lenOf, Builtin.firstCells, sizeOf, typeInfo, hq, hi, ← hn, hl, hst]
theorem run_eql_nilL (w : World) (t e : TypeId) (a : Option Addr) (l c : Nat) (h : P.underlying t = some (.slice e)) : (binOp .eql t (.slice a l c) (.slice none 0 0)).run P w = .ok (.bool a.isNone) w := by
  simp only [binOp]
  simp [run_equal_slice_nil w t e a l c h]
end
theorem rt_one (rs : List Rt) : ∀ u ∈ rs.flatMap Rt.cells, u.oneCell' = true := fun u hu => by
  obtain ⟨r, _, hr⟩ := List.mem_flatMap.mp hu
  simp [Rt.cells] at hr
  rcases hr with rfl | rfl | rfl | rfl | rfl | rfl <;> rfl
theorem wr_one (ws : List Wr) : ∀ u ∈ ws.flatMap Wr.cells, u.oneCell' = true := fun u hu => by
  obtain ⟨r, _, hr⟩ := List.mem_flatMap.mp hu
  simp [Wr.cells] at hr
  rcases hr with rfl | rfl | rfl | rfl <;> rfl
/- the marks -/
def mkR (n : Nat) : Rt := ⟨⟨#[71, 69, 84]⟩, ⟨#[47, 42, (48 + n).toUInt8]⟩, ⟨n, 200 + n, Bp.markB n, ⟨#[]⟩⟩⟩
def mkW (n : Nat) : Wr := ⟨n, ⟨#[88]⟩, Bp.markB n, 0⟩
end Go.Proofs.YtfdhmeojkagokaaGreatDoor

/- The marks of routes and wares. -/
namespace Go.Proofs.YtfdhmeojkagokaaGreatDoor
open Go.RowKit

def Rt.aggV (r : Rt) : Value := .agg #[.string r.m, .string r.p, .int .i64 r.h.k, .int .i64 r.h.st, .string r.h.t, .string r.h.n]
def Wr.aggV (x : Wr) : Value := .agg #[.int .i64 x.k, .string x.n, .string x.v, .int .i64 x.lim]
set_option maxHeartbeats 1000000 in
theorem markWare_any (n : Nat) (hn : n ≤ 9) (w : World) :
    Calls Tryz.prog 33 #[.int .i64 n] w fun e w' => e = .returned (mkW n).aggV ∧ Below w.heap.size w w' := by
  have hA := (Below.refl w.heap.size w).alloc (Nat.le_refl _) (.cells #[.int .i64 0, .string ⟨#[]⟩, .string ⟨#[]⟩, .int .i64 0] 84)
  have HM := hid (fun W => Bp.markText_any n hn W)
  have he : (mkW n).aggV = .agg #[.int .i64 n, .string ⟨#[88]⟩, .string (Bp.markB n), .int .i64 0] := rfl
  rw [he]
  generalize Bp.markB n = mt at *
  go_enter Tryz.func33, Tryz.ntmps33
  go_wp2_with fail
  refine (HM.out _).mono ?_
  rintro e w1 ⟨rfl, hb1⟩
  have c0 := cell_later hb1 (a := ⟨w.heap.size, 0, none⟩) (v := .int .i64 0) (by simp)
  have c1 := cell_later hb1 (a := ⟨w.heap.size, 1, none⟩) (v := .string ⟨#[]⟩) (by simp)
  have c2 := cell_later hb1 (a := ⟨w.heap.size, 2, none⟩) (v := .string ⟨#[]⟩) (by simp)
  have c3 := cell_later hb1 (a := ⟨w.heap.size, 3, none⟩) (v := .int .i64 0) (by simp)
  have d0 : w1.frozen? ⟨w.heap.size, 0, none⟩ = false := by rw [hb1.frozen (by simp)]; simp
  have d1 : w1.frozen? ⟨w.heap.size, 1, none⟩ = false := by rw [hb1.frozen (by simp)]; simp
  have d2 : w1.frozen? ⟨w.heap.size, 2, none⟩ = false := by rw [hb1.frozen (by simp)]; simp
  have d3 : w1.frozen? ⟨w.heap.size, 3, none⟩ = false := by rw [hb1.frozen (by simp)]; simp
  have BL := hid (bel_of hA hb1)
  clear hA hb1
  go_wp2
  refine bodyPost_ret (v := .agg #[.int .i64 n, .string ⟨#[88]⟩, .string mt, .int .i64 0]) (by simp [results, Tryz.results33, go_sem, c0, c1, c2, c3]) rfl ?_
  exact ⟨rfl, (((BL.out.setCell (Nat.le_refl _) _).setCell (Nat.le_refl _) _).setCell (Nat.le_refl _) _).setCell (Nat.le_refl _) _⟩
theorem fz_below {B g j : Nat} {w w' : World} (hb : Below B w w') (hg : g < B) : w'.frozen? ⟨g, j, none⟩ = w.frozen? ⟨g, j, none⟩ := hb.frozen hg
theorem mark_cut (n : Nat) : (⟨#[47, 42]⟩ : ByteArray) ++ (Bp.markB n).extract 5 6 = ⟨#[47, 42, (48 + n).toUInt8]⟩ := by
  have : (Bp.markB n).extract 5 6 = ⟨#[(48 + n).toUInt8]⟩ := by
    unfold Bp.markB
    rfl
  rw [this]
  rfl
set_option maxRecDepth 100000 in
set_option maxHeartbeats 2000000 in
theorem markRoute_any (n : Nat) (hn : n ≤ 9) (w : World) :
    Calls Tryz.prog 32 #[.int .i64 n] w fun e w' => e = .returned (mkR n).aggV ∧ Below w.heap.size w w' := by
  have hA := (Below.refl w.heap.size w).alloc (Nat.le_refl _) (.cells #[.string ⟨#[]⟩, .string ⟨#[]⟩, .int .i64 0, .int .i64 0, .string ⟨#[]⟩, .string ⟨#[]⟩] 81)
  have hg := heap_alloc_new w (.cells #[.string ⟨#[]⟩, .string ⟨#[]⟩, .int .i64 0, .int .i64 0, .string ⟨#[]⟩, .string ⟨#[]⟩] 81)
  have he : (mkR n).aggV = .agg #[.string ⟨#[71, 69, 84]⟩, .string ⟨#[47, 42, (48 + n).toUInt8]⟩, .int .i64 n, .int .i64 (200 + n), .string (Bp.markB n), .string ⟨#[]⟩] := rfl
  rw [he, ← mark_cut n]
  have hsz : (Bp.markB n).size = 6 := rfl
  have hwr : IntKind.i64.wrap (200 + (n : Int)) = 200 + n := by
    rcases (by omega : n = 0 ∨ n = 1 ∨ n = 2 ∨ n = 3 ∨ n = 4 ∨ n = 5 ∨ n = 6 ∨ n = 7 ∨ n = 8 ∨ n = 9) with rfl | rfl | rfl | rfl | rfl | rfl | rfl | rfl | rfl | rfl <;> rfl
  have HM := hid (fun W => Bp.markText_any n hn W)
  generalize Bp.markB n = mt at *
  go_enter Tryz.func32, Tryz.ntmps32
  go_upto_region 1 with fail
  generalize w.alloc (.cells #[.string ⟨#[]⟩, .string ⟨#[]⟩, .int .i64 0, .int .i64 0, .string ⟨#[]⟩, .string ⟨#[]⟩] 81) = w1 at *
  have d0 : w1.cell? ⟨w.heap.size, 0, none⟩ = some (.string ⟨#[]⟩) := by rw [Lib.cell_of_heap hg]; rfl
  have d1 : w1.cell? ⟨w.heap.size, 1, none⟩ = some (.string ⟨#[]⟩) := by rw [Lib.cell_of_heap hg]; rfl
  have d2 : w1.cell? ⟨w.heap.size, 2, none⟩ = some (.int .i64 0) := by rw [Lib.cell_of_heap hg]; rfl
  have d3 : w1.cell? ⟨w.heap.size, 3, none⟩ = some (.int .i64 0) := by rw [Lib.cell_of_heap hg]; rfl
  have d4 : w1.cell? ⟨w.heap.size, 4, none⟩ = some (.string ⟨#[]⟩) := by rw [Lib.cell_of_heap hg]; rfl
  have d5 : w1.cell? ⟨w.heap.size, 5, none⟩ = some (.string ⟨#[]⟩) := by rw [Lib.cell_of_heap hg]; rfl
  have l1 : w.heap.size < w1.heap.size := block_lt_of_cell d0
  have hf := Lib.frozen_of_heap hg
  have hB1 := Below.refl w1.heap.size w1
  have hlt : ¬ (6 : Int) < 5 := by omega
  clear he hg
  go_region_held3 (fun _ => True) (trivial)
    (first
      | (go_at_call 30; refine (HM.out _).mono ?_; rintro e wA ⟨rfl, hbA⟩; (first | have hB1 := bel_of hB1.drew hbA | have hB1 := bel_of hB1 hbA); have r0 := cell_later hB1 d0; have r1 := cell_later hB1 d1; have r2 := cell_later hB1 d2; have r3 := cell_later hB1 d3; have r4 := cell_later hB1 d4; have r5 := cell_later hB1 d5; have z0 : wA.frozen? ⟨w.heap.size, 0, none⟩ = false := (fz_below hB1 l1).trans (hf 0); have z1 : wA.frozen? ⟨w.heap.size, 1, none⟩ = false := (fz_below hB1 l1).trans (hf 1); have z2 : wA.frozen? ⟨w.heap.size, 2, none⟩ = false := (fz_below hB1 l1).trans (hf 2); have z3 : wA.frozen? ⟨w.heap.size, 3, none⟩ = false := (fz_below hB1 l1).trans (hf 3); have z4 : wA.frozen? ⟨w.heap.size, 4, none⟩ = false := (fz_below hB1 l1).trans (hf 4); have z5 : wA.frozen? ⟨w.heap.size, 5, none⟩ = false := (fz_below hB1 l1).trans (hf 5); clear hbA))
  have BL := hid (bel_of hA hB1)
  clear d0 d1 d2 d3 d4 d5 hA HM
  go_wp2_with fail
  refine bodyPost_ret (v := .agg #[.string ⟨#[71, 69, 84]⟩, .string (⟨#[47, 42]⟩ ++ mt.extract 5 6), .int .i64 n, .int .i64 (200 + n), .string mt, .string ⟨#[]⟩]) (by simp [results, Tryz.results32, go_sem, r0, r1, r2, r3, r4, r5]) rfl ?_
  exact ⟨rfl, (((((BL.out.setCell (Nat.le_refl _) _).setCell (Nat.le_refl _) _).setCell (Nat.le_refl _) _).setCell (Nat.le_refl _) _).setCell (Nat.le_refl _) _).setCell (Nat.le_refl _) _⟩
end Go.Proofs.YtfdhmeojkagokaaGreatDoor

/- Routes and wares that are lent: lists of the same with marks in their spare room, in new memory; nothing old in memory turns. -/
namespace Go.Proofs.YtfdhmeojkagokaaGreatDoor
open Go.RowKit

theorem infoLr : (Tryz.prog.info? 81).map (fun i => (i.zero, i.size, i.bytes)) = some (some (.agg #[.string ⟨#[]⟩, .string ⟨#[]⟩, .int .i64 0, .int .i64 0, .string ⟨#[]⟩, .string ⟨#[]⟩]), 6, 80) := by kernel_rfl
set_option maxHeartbeats 400000 in
theorem lentRoutes_nil (w : World) :
    Calls Tryz.prog 19 #[.slice none 0 0] w fun e w' => e = .returned (.slice none 0 0) ∧ w' = w := by
  have hq := fun W => run_eql_nilL (P := Tryz.prog) W 24 81 none 0 0 Tryz.underlying24
  go_enter Tryz.func19, Tryz.ntmps19
  go_wp2
  go_ret
  exact ⟨rfl, rfl⟩
set_option maxRecDepth 100000 in
set_option maxHeartbeats 2000000 in
theorem lentRoutes_any (rs : List Rt) (ad : Addr) (ca : Nat) (w : World) (hf : MuAt 6 Rt.cells rs (some ad) w) (hn : rs.length ≤ 1000000000) :
    Calls Tryz.prog 19 #[.slice (some ad) rs.length ca] w fun e w' => ∃ g, e = .returned (.slice (some ⟨g, 0, none⟩) rs.length (rs.length + 5)) ∧ w.heap.size ≤ g ∧ g < w'.heap.size ∧ OwnM g ((rs.length + 5) * 6) w' ∧ LvM 6 Rt.cells (rs ++ List.replicate 5 (mkR 7)) g w' ∧ Below w.heap.size w w' := by
  obtain ⟨i0, hi, hz0, hz1, hz2⟩ := info_parts infoLr
  have HF := hid hf
  clear hf
  have hq := fun W => run_eql_nilL (P := Tryz.prog) W 24 81 (some ad) rs.length ca Tryz.underlying24
  have HM : Hid (∀ W : World, Calls Tryz.prog 32 #[.int .i64 7] W fun e w' => e = .returned (mkR 7).aggV ∧ Below W.heap.size W w') := fun W => markRoute_any 7 (by omega) W
  generalize mkR 7 = X at *
  obtain ⟨xm, xp, ⟨xk, xst, xt, xn⟩⟩ := X
  simp only [Rt.aggV] at HM
  have hfl := flatm_len (f := Rt.cells) (sz := 6) (fun _ => rfl) rs
  go_enter Tryz.func19, Tryz.ntmps19
  go_wp2_with (at_make; refine wpList_make_full _ rfl _ _ 24 rfl w.heap.size 81 i0 _ 6 Tryz.underlying24 hi hz0 hz1 .i64 .i64 _ _ (rs.length + 5) rfl rfl (by simp) (by simp) (by rw [hz2]; omega) (by unfold maxLen; omega) (Nat.le_refl _) ?_)
  intro w1 ow1 gr1
  have hB1 : Below w.heap.size w w1 := (Below.refl _ _).grown gr1 (Nat.le_refl _) (fun r hr => by cases hr)
  obtain ⟨ob1, gl1⟩ := owns_ownM ow1
  have hcp := run_copy_wideL (P := Tryz.prog) w1 24 24 3 81 6 w.heap.size 0 (rs.length + 5) (rs.length + 5) ad rs.length ca (rs.flatMap Rt.cells) Tryz.underlying24 (by rw [hi]; simp [hz1]) (by rw [hfl]; show _ = min _ _ * 6; rw [Nat.min_eq_left (by omega)]) (mu_src (sz := 6) (f := Rt.cells) (by omega) (fun _ => rfl) (HF.out.below hB1)) (fun j hj => by rw [hfl] at hj; simpa using (ob1 j (by omega)).1) (fun j hj => by rw [hfl] at hj; simpa using (ob1 j (by omega)).2) (rt_one rs)
  obtain ⟨ob2, lv2⟩ := own_copiedL (f := Rt.cells) (sz := 6) (fun _ => rfl) ob1 rs (by omega)
  have hB2 : Below w.heap.size w (w1.setCells w.heap.size 0 (rs.flatMap Rt.cells)) := below_sets hB1 (Nat.le_refl _) _
  have gl2 : w.heap.size < (w1.setCells w.heap.size 0 (rs.flatMap Rt.cells)).heap.size := Nat.lt_of_lt_of_le gl1 (below_sets (B := 0) (Below.refl 0 w1) (Nat.zero_le _) _).size
  have J2 := hid (And.intro ob2 (And.intro lv2 (And.intro hB2 gl2)))
  clear ow1 gr1 ob1 ob2 lv2 hB2 gl2 hB1
  go_wp2_with (at_builtin; refine Lib.wpList_copy_run _ rfl _ _ 24 24 rfl _ _ rfl rfl hcp ?_)
  generalize w1.setCells w.heap.size 0 (rs.flatMap Rt.cells) = w2 at *
  clear hcp gl1 hfl
  go_wp2_with fail
  go_loopw [5] (fun i wr => ∃ q : Nat, q ≤ 5 ∧ i = .int .i64 ((rs.length + q : Nat) : Int) ∧ Hid (OwnM w.heap.size ((rs.length + 5) * 6) wr ∧ LvM 6 Rt.cells (rs ++ List.replicate q (⟨xm, xp, ⟨xk, xst, xt, xn⟩⟩ : Rt)) w.heap.size wr ∧ Below w.heap.size w wr ∧ w.heap.size < wr.heap.size)) (fun i _ => rs.length + 5 - (intOf i).toNat)
  case atStart => exact ⟨0, by omega, by simp, J2.out.1, by simpa using J2.out.2.1, J2.out.2.2⟩
  case round =>
    clear J2
    obtain ⟨q, hq5, rfl, I⟩ := hrel
    by_cases hlt : q < 5
    · have hc5 : ((rs.length + q : Nat) : Int) = (rs.length : Int) + (q : Int) := by omega
      rw [hc5]
      have HSN := hid (fun w3 (lv3 : LvM 6 Rt.cells (rs ++ List.replicate q (⟨xm, xp, ⟨xk, xst, xt, xn⟩⟩ : Rt)) w.heap.size w3) (ob3 : OwnM w.heap.size ((rs.length + 5) * 6) w3) => (by
        have hll : (rs ++ List.replicate q (⟨xm, xp, ⟨xk, xst, xt, xn⟩⟩ : Rt)).length = rs.length + q := by simp
        have ls := lv3.snoc (f := Rt.cells) (sz := 6) (fun _ => rfl) ob3 (⟨xm, xp, ⟨xk, xst, xt, xn⟩⟩ : Rt) (by rw [hll]; omega)
        rw [hll, List.append_assoc, ← List.replicate_succ'] at ls
        exact ls : LvM 6 Rt.cells (rs ++ List.replicate (q + 1) (⟨xm, xp, ⟨xk, xst, xt, xn⟩⟩ : Rt)) w.heap.size (w3.setCells w.heap.size ((rs.length + q) * 6) (Rt.cells (⟨xm, xp, ⟨xk, xst, xt, xn⟩⟩ : Rt)))))
      go_wp2_with fail
      refine (HM.out _).mono ?_
      rintro e w3 ⟨rfl, hb3⟩
      have ob3 := I.out.1.below hb3 I.out.2.2.2
      have lv3 := I.out.2.1.below hb3 I.out.2.2.2
      have hB3 := bel_of I.out.2.2.1 hb3
      have gl3 : w.heap.size < w3.heap.size := Nat.lt_of_lt_of_le I.out.2.2.2 hb3.size
      obtain ⟨v0, hv0⟩ := ob3.cell ((rs.length + q) * 6) (by omega)
      obtain ⟨v1, hv1⟩ := ob3.cell ((rs.length + q) * 6 + 1) (by omega)
      obtain ⟨v2, hv2⟩ := ob3.cell ((rs.length + q) * 6 + 2) (by omega)
      obtain ⟨v3, hv3⟩ := ob3.cell ((rs.length + q) * 6 + 3) (by omega)
      obtain ⟨v4, hv4⟩ := ob3.cell ((rs.length + q) * 6 + 4) (by omega)
      obtain ⟨v5, hv5⟩ := ob3.cell ((rs.length + q) * 6 + 5) (by omega)
      have f0 := (ob3 ((rs.length + q) * 6) (by omega)).2
      have f1 := (ob3 ((rs.length + q) * 6 + 1) (by omega)).2
      have f2 := (ob3 ((rs.length + q) * 6 + 2) (by omega)).2
      have f3 := (ob3 ((rs.length + q) * 6 + 3) (by omega)).2
      have f4 := (ob3 ((rs.length + q) * 6 + 4) (by omega)).2
      have f5 := (ob3 ((rs.length + q) * 6 + 5) (by omega)).2
      have ls := HSN.out w3 lv3 ob3
      have obs := ob3.sets (o := (rs.length + q) * 6) (Rt.cells (⟨xm, xp, ⟨xk, xst, xt, xn⟩⟩ : Rt)) (by show (rs.length + q) * 6 + 6 ≤ _; omega)
      have hBs := below_sets (o := (rs.length + q) * 6) hB3 (Nat.le_refl _) (Rt.cells (⟨xm, xp, ⟨xk, xst, xt, xn⟩⟩ : Rt))
      have gls : w.heap.size < (w3.setCells w.heap.size ((rs.length + q) * 6) (Rt.cells (⟨xm, xp, ⟨xk, xst, xt, xn⟩⟩ : Rt))).heap.size := Nat.lt_of_lt_of_le gl3 (below_sets (B := 0) (Below.refl 0 w3) (Nat.zero_le _) _).size
      have J3 : Hid (OwnM w.heap.size ((rs.length + 5) * 6) (((((((w3.setCell ⟨w.heap.size, (rs.length + q) * 6, none⟩ (.string xm)).setCell ⟨w.heap.size, (rs.length + q) * 6 + 1, none⟩ (.string xp)).setCell ⟨w.heap.size, (rs.length + q) * 6 + 2, none⟩ (.int .i64 xk)).setCell ⟨w.heap.size, (rs.length + q) * 6 + 3, none⟩ (.int .i64 xst)).setCell ⟨w.heap.size, (rs.length + q) * 6 + 4, none⟩ (.string xt)).setCell ⟨w.heap.size, (rs.length + q) * 6 + 5, none⟩ (.string xn))) ∧ LvM 6 Rt.cells (rs ++ List.replicate (q + 1) (⟨xm, xp, ⟨xk, xst, xt, xn⟩⟩ : Rt)) w.heap.size (((((((w3.setCell ⟨w.heap.size, (rs.length + q) * 6, none⟩ (.string xm)).setCell ⟨w.heap.size, (rs.length + q) * 6 + 1, none⟩ (.string xp)).setCell ⟨w.heap.size, (rs.length + q) * 6 + 2, none⟩ (.int .i64 xk)).setCell ⟨w.heap.size, (rs.length + q) * 6 + 3, none⟩ (.int .i64 xst)).setCell ⟨w.heap.size, (rs.length + q) * 6 + 4, none⟩ (.string xt)).setCell ⟨w.heap.size, (rs.length + q) * 6 + 5, none⟩ (.string xn))) ∧ Below w.heap.size w (((((((w3.setCell ⟨w.heap.size, (rs.length + q) * 6, none⟩ (.string xm)).setCell ⟨w.heap.size, (rs.length + q) * 6 + 1, none⟩ (.string xp)).setCell ⟨w.heap.size, (rs.length + q) * 6 + 2, none⟩ (.int .i64 xk)).setCell ⟨w.heap.size, (rs.length + q) * 6 + 3, none⟩ (.int .i64 xst)).setCell ⟨w.heap.size, (rs.length + q) * 6 + 4, none⟩ (.string xt)).setCell ⟨w.heap.size, (rs.length + q) * 6 + 5, none⟩ (.string xn))) ∧ w.heap.size < (((((((w3.setCell ⟨w.heap.size, (rs.length + q) * 6, none⟩ (.string xm)).setCell ⟨w.heap.size, (rs.length + q) * 6 + 1, none⟩ (.string xp)).setCell ⟨w.heap.size, (rs.length + q) * 6 + 2, none⟩ (.int .i64 xk)).setCell ⟨w.heap.size, (rs.length + q) * 6 + 3, none⟩ (.int .i64 xst)).setCell ⟨w.heap.size, (rs.length + q) * 6 + 4, none⟩ (.string xt)).setCell ⟨w.heap.size, (rs.length + q) * 6 + 5, none⟩ (.string xn))).heap.size) :=
        ⟨obs, ls, hBs, gls⟩
      have y1 : (rs.length : Int) + (q : Int) < (rs.length : Int) + 5 := by omega
      have y0 : (0 : Int) ≤ (rs.length : Int) + (q : Int) := by omega
      have yn : ((rs.length : Int) + (q : Int)).toNat = rs.length + q := by omega
      clear ob3 lv3 hB3 ls obs hBs gls I hb3 hc5 HSN
      go_wp2
      exact ⟨⟨q + 1, by omega, by rw [show ((rs.length + (q + 1) : Nat) : Int) = (rs.length : Int) + q + 1 from by omega], J3.out⟩, by simp [intOf]; omega⟩
    · have h5 : q = 5 := by omega
      subst h5
      have hB := I.out.2.2.1
      have hc5 : ((rs.length + 5 : Nat) : Int) = (rs.length : Int) + 5 := by omega
      rw [hc5]
      go_wp2
      go_ret
      exact ⟨_, rfl, Nat.le_refl _, I.out.2.2.2, I.out.1, I.out.2.1, I.out.2.2.1⟩
theorem infoLw : (Tryz.prog.info? 84).map (fun i => (i.zero, i.size, i.bytes)) = some (some (.agg #[.int .i64 0, .string ⟨#[]⟩, .string ⟨#[]⟩, .int .i64 0]), 4, 48) := by kernel_rfl
set_option maxHeartbeats 400000 in
theorem lentWares_nil (w : World) :
    Calls Tryz.prog 20 #[.slice none 0 0] w fun e w' => e = .returned (.slice none 0 0) ∧ w' = w := by
  have hq := fun W => run_eql_nilL (P := Tryz.prog) W 25 84 none 0 0 Tryz.underlying25
  go_enter Tryz.func20, Tryz.ntmps20
  go_wp2
  go_ret
  exact ⟨rfl, rfl⟩
set_option maxRecDepth 100000 in
set_option maxHeartbeats 2000000 in
theorem lentWares_any (rs : List Wr) (ad : Addr) (ca : Nat) (w : World) (hf : MuAt 4 Wr.cells rs (some ad) w) (hn : rs.length ≤ 1000000000) :
    Calls Tryz.prog 20 #[.slice (some ad) rs.length ca] w fun e w' => ∃ g, e = .returned (.slice (some ⟨g, 0, none⟩) rs.length (rs.length + 5)) ∧ w.heap.size ≤ g ∧ g < w'.heap.size ∧ OwnM g ((rs.length + 5) * 4) w' ∧ LvM 4 Wr.cells (rs ++ List.replicate 5 (mkW 7)) g w' ∧ Below w.heap.size w w' := by
  obtain ⟨i0, hi, hz0, hz1, hz2⟩ := info_parts infoLw
  have HF := hid hf
  clear hf
  have hq := fun W => run_eql_nilL (P := Tryz.prog) W 25 84 (some ad) rs.length ca Tryz.underlying25
  have HM : Hid (∀ W : World, Calls Tryz.prog 33 #[.int .i64 7] W fun e w' => e = .returned (mkW 7).aggV ∧ Below W.heap.size W w') := fun W => markWare_any 7 (by omega) W
  generalize mkW 7 = X at *
  obtain ⟨xk, xn, xv, xl⟩ := X
  simp only [Wr.aggV] at HM
  have hfl := flatm_len (f := Wr.cells) (sz := 4) (fun _ => rfl) rs
  go_enter Tryz.func20, Tryz.ntmps20
  go_wp2_with (at_make; refine wpList_make_full _ rfl _ _ 25 rfl w.heap.size 84 i0 _ 4 Tryz.underlying25 hi hz0 hz1 .i64 .i64 _ _ (rs.length + 5) rfl rfl (by simp) (by simp) (by rw [hz2]; omega) (by unfold maxLen; omega) (Nat.le_refl _) ?_)
  intro w1 ow1 gr1
  have hB1 : Below w.heap.size w w1 := (Below.refl _ _).grown gr1 (Nat.le_refl _) (fun r hr => by cases hr)
  obtain ⟨ob1, gl1⟩ := owns_ownM ow1
  have hcp := run_copy_wideL (P := Tryz.prog) w1 25 25 3 84 4 w.heap.size 0 (rs.length + 5) (rs.length + 5) ad rs.length ca (rs.flatMap Wr.cells) Tryz.underlying25 (by rw [hi]; simp [hz1]) (by rw [hfl]; show _ = min _ _ * 4; rw [Nat.min_eq_left (by omega)]) (mu_src (sz := 4) (f := Wr.cells) (by omega) (fun _ => rfl) (HF.out.below hB1)) (fun j hj => by rw [hfl] at hj; simpa using (ob1 j (by omega)).1) (fun j hj => by rw [hfl] at hj; simpa using (ob1 j (by omega)).2) (wr_one rs)
  obtain ⟨ob2, lv2⟩ := own_copiedL (f := Wr.cells) (sz := 4) (fun _ => rfl) ob1 rs (by omega)
  have hB2 : Below w.heap.size w (w1.setCells w.heap.size 0 (rs.flatMap Wr.cells)) := below_sets hB1 (Nat.le_refl _) _
  have gl2 : w.heap.size < (w1.setCells w.heap.size 0 (rs.flatMap Wr.cells)).heap.size := Nat.lt_of_lt_of_le gl1 (below_sets (B := 0) (Below.refl 0 w1) (Nat.zero_le _) _).size
  have J2 := hid (And.intro ob2 (And.intro lv2 (And.intro hB2 gl2)))
  clear ow1 gr1 ob1 ob2 lv2 hB2 gl2 hB1
  go_wp2_with (at_builtin; refine Lib.wpList_copy_run _ rfl _ _ 25 25 rfl _ _ rfl rfl hcp ?_)
  generalize w1.setCells w.heap.size 0 (rs.flatMap Wr.cells) = w2 at *
  clear hcp gl1 hfl
  go_wp2_with fail
  go_loopw [5] (fun i wr => ∃ q : Nat, q ≤ 5 ∧ i = .int .i64 ((rs.length + q : Nat) : Int) ∧ Hid (OwnM w.heap.size ((rs.length + 5) * 4) wr ∧ LvM 4 Wr.cells (rs ++ List.replicate q (⟨xk, xn, xv, xl⟩ : Wr)) w.heap.size wr ∧ Below w.heap.size w wr ∧ w.heap.size < wr.heap.size)) (fun i _ => rs.length + 5 - (intOf i).toNat)
  case atStart => exact ⟨0, by omega, by simp, J2.out.1, by simpa using J2.out.2.1, J2.out.2.2⟩
  case round =>
    clear J2
    obtain ⟨q, hq5, rfl, I⟩ := hrel
    by_cases hlt : q < 5
    · have hc5 : ((rs.length + q : Nat) : Int) = (rs.length : Int) + (q : Int) := by omega
      rw [hc5]
      have HSN := hid (fun w3 (lv3 : LvM 4 Wr.cells (rs ++ List.replicate q (⟨xk, xn, xv, xl⟩ : Wr)) w.heap.size w3) (ob3 : OwnM w.heap.size ((rs.length + 5) * 4) w3) => (by
        have hll : (rs ++ List.replicate q (⟨xk, xn, xv, xl⟩ : Wr)).length = rs.length + q := by simp
        have ls := lv3.snoc (f := Wr.cells) (sz := 4) (fun _ => rfl) ob3 (⟨xk, xn, xv, xl⟩ : Wr) (by rw [hll]; omega)
        rw [hll, List.append_assoc, ← List.replicate_succ'] at ls
        exact ls : LvM 4 Wr.cells (rs ++ List.replicate (q + 1) (⟨xk, xn, xv, xl⟩ : Wr)) w.heap.size (w3.setCells w.heap.size ((rs.length + q) * 4) (Wr.cells (⟨xk, xn, xv, xl⟩ : Wr)))))
      go_wp2_with fail
      refine (HM.out _).mono ?_
      rintro e w3 ⟨rfl, hb3⟩
      have ob3 := I.out.1.below hb3 I.out.2.2.2
      have lv3 := I.out.2.1.below hb3 I.out.2.2.2
      have hB3 := bel_of I.out.2.2.1 hb3
      have gl3 : w.heap.size < w3.heap.size := Nat.lt_of_lt_of_le I.out.2.2.2 hb3.size
      obtain ⟨v0, hv0⟩ := ob3.cell ((rs.length + q) * 4) (by omega)
      obtain ⟨v1, hv1⟩ := ob3.cell ((rs.length + q) * 4 + 1) (by omega)
      obtain ⟨v2, hv2⟩ := ob3.cell ((rs.length + q) * 4 + 2) (by omega)
      obtain ⟨v3, hv3⟩ := ob3.cell ((rs.length + q) * 4 + 3) (by omega)
      have f0 := (ob3 ((rs.length + q) * 4) (by omega)).2
      have f1 := (ob3 ((rs.length + q) * 4 + 1) (by omega)).2
      have f2 := (ob3 ((rs.length + q) * 4 + 2) (by omega)).2
      have f3 := (ob3 ((rs.length + q) * 4 + 3) (by omega)).2
      have ls := HSN.out w3 lv3 ob3
      have obs := ob3.sets (o := (rs.length + q) * 4) (Wr.cells (⟨xk, xn, xv, xl⟩ : Wr)) (by show (rs.length + q) * 4 + 4 ≤ _; omega)
      have hBs := below_sets (o := (rs.length + q) * 4) hB3 (Nat.le_refl _) (Wr.cells (⟨xk, xn, xv, xl⟩ : Wr))
      have gls : w.heap.size < (w3.setCells w.heap.size ((rs.length + q) * 4) (Wr.cells (⟨xk, xn, xv, xl⟩ : Wr))).heap.size := Nat.lt_of_lt_of_le gl3 (below_sets (B := 0) (Below.refl 0 w3) (Nat.zero_le _) _).size
      have J3 : Hid (OwnM w.heap.size ((rs.length + 5) * 4) (((((w3.setCell ⟨w.heap.size, (rs.length + q) * 4, none⟩ (.int .i64 xk)).setCell ⟨w.heap.size, (rs.length + q) * 4 + 1, none⟩ (.string xn)).setCell ⟨w.heap.size, (rs.length + q) * 4 + 2, none⟩ (.string xv)).setCell ⟨w.heap.size, (rs.length + q) * 4 + 3, none⟩ (.int .i64 xl))) ∧ LvM 4 Wr.cells (rs ++ List.replicate (q + 1) (⟨xk, xn, xv, xl⟩ : Wr)) w.heap.size (((((w3.setCell ⟨w.heap.size, (rs.length + q) * 4, none⟩ (.int .i64 xk)).setCell ⟨w.heap.size, (rs.length + q) * 4 + 1, none⟩ (.string xn)).setCell ⟨w.heap.size, (rs.length + q) * 4 + 2, none⟩ (.string xv)).setCell ⟨w.heap.size, (rs.length + q) * 4 + 3, none⟩ (.int .i64 xl))) ∧ Below w.heap.size w (((((w3.setCell ⟨w.heap.size, (rs.length + q) * 4, none⟩ (.int .i64 xk)).setCell ⟨w.heap.size, (rs.length + q) * 4 + 1, none⟩ (.string xn)).setCell ⟨w.heap.size, (rs.length + q) * 4 + 2, none⟩ (.string xv)).setCell ⟨w.heap.size, (rs.length + q) * 4 + 3, none⟩ (.int .i64 xl))) ∧ w.heap.size < (((((w3.setCell ⟨w.heap.size, (rs.length + q) * 4, none⟩ (.int .i64 xk)).setCell ⟨w.heap.size, (rs.length + q) * 4 + 1, none⟩ (.string xn)).setCell ⟨w.heap.size, (rs.length + q) * 4 + 2, none⟩ (.string xv)).setCell ⟨w.heap.size, (rs.length + q) * 4 + 3, none⟩ (.int .i64 xl))).heap.size) :=
        ⟨obs, ls, hBs, gls⟩
      have y1 : (rs.length : Int) + (q : Int) < (rs.length : Int) + 5 := by omega
      have y0 : (0 : Int) ≤ (rs.length : Int) + (q : Int) := by omega
      have yn : ((rs.length : Int) + (q : Int)).toNat = rs.length + q := by omega
      clear ob3 lv3 hB3 ls obs hBs gls I hb3 hc5 HSN
      go_wp2
      exact ⟨⟨q + 1, by omega, by rw [show ((rs.length + (q + 1) : Nat) : Int) = (rs.length : Int) + q + 1 from by omega], J3.out⟩, by simp [intOf]; omega⟩
    · have h5 : q = 5 := by omega
      subst h5
      have hB := I.out.2.2.1
      have hc5 : ((rs.length + 5 : Nat) : Int) = (rs.length : Int) + 5 := by omega
      rw [hc5]
      go_wp2
      go_ret
      exact ⟨_, rfl, Nat.le_refl _, I.out.2.2.2, I.out.1, I.out.2.1, I.out.2.2.1⟩
end Go.Proofs.YtfdhmeojkagokaaGreatDoor
