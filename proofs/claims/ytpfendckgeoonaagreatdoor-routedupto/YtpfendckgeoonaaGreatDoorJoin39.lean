/- Texts that follow one another, joined. -/
import Derived.Test.YtpfendckgeoonaaGreatDoorJoin38
/- Plain mathematics of the law Routed: what is found matches; a method that has the path leads; who is sent elsewhere is led there. -/
namespace Go.Proofs.YtpfendckgeoonaaGreatDoor
open Go.RowKit

theorem findG_hit (m l : List UInt8) : ∀ (es : List Ent) (k : Nat), (findG m l es k).2.2 = 0 → ∃ j, ∃ h : j < es.length, (findG m l es k).1 = k + j ∧ matchB es[j].ps (l.drop 1) true [] = some (findG m l es k).2.1
  | [], k, h => absurd h (by simp [findG])
  | e :: r, k, h => by
    rw [findG] at h ⊢
    by_cases hm : e.m.data.toList = m
    · rw [if_pos hm] at h ⊢
      cases hh : matchB e.ps (l.drop 1) true [] with
      | some fs => exact ⟨0, by simp, by simp, by simpa using hh⟩
      | none =>
        simp only [hh] at h ⊢
        obtain ⟨j, hj, h1, h2⟩ := findG_hit m l r (k + 1) h
        exact ⟨j + 1, by simpa using hj, by rw [h1]; omega, by simpa using h2⟩
    · rw [if_neg hm] at h ⊢
      obtain ⟨j, hj, h1, h2⟩ := findG_hit m l r (k + 1) h
      exact ⟨j + 1, by simpa using hj, by rw [h1]; omega, by simpa using h2⟩
theorem findG_some (m l : List UInt8) : ∀ (es : List Ent) (k : Nat) (e : Ent), e ∈ es → e.m.data.toList = m → (matchB e.ps (l.drop 1) true []).isSome = true → (findG m l es k).2.2 = 0
  | [], k, e, he, _, _ => absurd he (by simp)
  | d :: r, k, e, he, hm, hs => by
    rw [findG]
    by_cases hd : d.m.data.toList = m
    · rw [if_pos hd]
      cases hh : matchB d.ps (l.drop 1) true [] with
      | some fs => rfl
      | none =>
        simp only
        rcases List.mem_cons.1 he with rfl | he
        · rw [hh] at hs; cases hs
        · exact findG_some m l r (k + 1) e he hm hs
    · rw [if_neg hd]
      rcases List.mem_cons.1 he with rfl | he
      · exact absurd hm hd
      · exact findG_some m l r (k + 1) e he hm hs
theorem leadG_hit {m l : List UInt8} {es : List Ent} (h : (leadG m l es).2.2 = 0) : ∃ j, ∃ hj : j < es.length, (leadG m l es).1 = j ∧ matchB es[j].ps (l.drop 1) true [] = some (leadG m l es).2.1 := by
  unfold leadG at h ⊢
  split at h
  · rename_i hc
    rw [if_pos hc]
    obtain ⟨j, hj, h1, h2⟩ := findG_hit _ _ _ _ h
    exact ⟨j, hj, by omega, h2⟩
  · rename_i hc
    rw [if_neg hc]
    obtain ⟨j, hj, h1, h2⟩ := findG_hit _ _ _ _ h
    exact ⟨j, hj, by omega, h2⟩
theorem leadG_find {m l : List UInt8} {es : List Ent} (h : (findG m l es 0).2.2 = 0) : (leadG m l es).2.2 = 0 := by
  unfold leadG
  rw [if_neg (fun c => c.1 h)]; exact h
theorem rts_pat : ∀ (rs : List Rt) (es : List Ent) (k : Nat), (rtsE rs es k).2 = 0 → ∀ r ∈ rs, ∃ p, patternOf r.p.data.toList = some p
  | [], _, _, _, r, hr => absurd hr (by simp)
  | r :: rs, es, k, h, q, hq => by
    rw [rtsE] at h
    by_cases h0 : rtE es r = 0
    · rw [if_pos h0] at h
      rcases List.mem_cons.1 hq with rfl | hq
      · obtain ⟨-, p, hp, -⟩ := rtE_in (.inl h0)
        exact ⟨p, hp⟩
      · exact rts_pat rs _ _ h q hq
    · rw [if_neg h0] at h; exact absurd h h0
theorem bare_get {es : List Ent} {rs : List Rt} (he : es.map Ent.bare = rs.map rtBare) (j : Nat) (hj : j < es.length) : ∃ h : j < rs.length, es[j].m = rs[j].m ∧ es[j].ps = (patternOf rs[j].p.data.toList).getD [] := by
  have hl : es.length = rs.length := by have := congrArg List.length he; simpa using this
  refine ⟨by omega, ?_⟩
  have h1 : (es.map Ent.bare)[j]? = (rs.map rtBare)[j]? := by rw [he]
  rw [List.getElem?_map, List.getElem?_map, List.getElem?_eq_getElem hj, List.getElem?_eq_getElem (by omega)] at h1
  simp only [Option.map_some, Option.some.injEq, Ent.bare, rtBare, Ent.mk.injEq] at h1
  exact ⟨h1.1, h1.2.1⟩
theorem match_same {es : List Ent} {rs : List Rt} (he : es.map Ent.bare = rs.map rtBare) (hr : (rtsE rs [] 0).2 = 0) {j : Nat} {l : List UInt8} {fs : List Prm} (hj : j < es.length) (hp : Pm.isPath l = true) (hm : matchB es[j].ps (l.drop 1) true [] = some fs) : ∃ h : j < rs.length, matchS rs[j].p.data.toList l = (0, fs) := by
  obtain ⟨h1, -, h3⟩ := bare_get he j hj
  obtain ⟨p, hp1⟩ := rts_pat rs [] 0 hr rs[j] (List.getElem_mem h1)
  rw [hp1] at h3
  simp only [Option.getD_some] at h3
  refine ⟨h1, ?_⟩
  unfold matchS
  rw [hp1]
  simp only
  rw [if_pos hp, ← h3, hm]
theorem methS_mem {l x : List UInt8} {es : List Ent} (h : x ∈ methS l es) : ∃ e ∈ es, e.m.data.toList = x ∧ (matchB e.ps (l.drop 1) true []).isSome = true := by
  unfold methS srt at h
  rw [List.mem_mergeSort, List.mem_map] at h
  obtain ⟨b, hb, rfl⟩ := h
  unfold methG at hb
  rw [List.mem_map] at hb
  obtain ⟨e, he, rfl⟩ := hb
  obtain ⟨h1, h2⟩ := List.mem_filter.1 he
  exact ⟨e, h1, rfl, h2⟩
theorem es_meth {es : List Ent} {rs : List Rt} (he : es.map Ent.bare = rs.map rtBare) (hr : (rtsE rs [] 0).2 = 0) {e : Ent} (h : e ∈ es) : Pm.isMethod e.m.data.toList = true := by
  obtain ⟨j, hj, rfl⟩ := List.getElem_of_mem h
  obtain ⟨h1, h2, -⟩ := bare_get he j hj
  rw [h2]
  exact rts_meth rs [] 0 hr _ (List.getElem_mem h1)
theorem meth_led {es : List Ent} {rs : List Rt} (he : es.map Ent.bare = rs.map rtBare) (hr : (rtsE rs [] 0).2 = 0) {t x : List UInt8} (ht : Pm.isTarget t = true) (h : x ∈ methS (Pm.ahead 63 t) es) : (dspG x t es).st = 200 ∧ (dspG x t es).e = 0 := by
  obtain ⟨e, h1, h2, h3⟩ := methS_mem h
  have hm : Pm.isMethod x = true := by rw [← h2]; exact es_meth he hr h1
  have hl := leadG_find (findG_some x (Pm.ahead 63 t) es 0 e h1 h2 h3)
  unfold dspG
  rw [if_neg (by rw [hm, ht]; simp), if_pos hl]
  exact ⟨rfl, rfl⟩
theorem other_mem {l : List UInt8} {c : UInt8} (h : c ∈ otherL l) : c ∈ l ∨ c = 47 := by
  unfold otherL at h
  split at h
  · exact .inl (List.mem_of_mem_take h)
  · rcases List.mem_append.1 h with h | h
    · exact .inl h
    · exact .inr (by simpa using h)
theorem ahead_no {l : List UInt8} : ∀ c ∈ Pm.ahead 63 l, c ≠ 63 := fun c hc => by
  unfold Pm.ahead at hc
  induction l with
  | nil => simp at hc
  | cons a r ih =>
    by_cases ha : a = 63
    · subst ha; simp at hc
    · rw [List.takeWhile_cons_of_pos (by simpa using ha)] at hc
      rcases List.mem_cons.1 hc with rfl | hc
      · exact ha
      · exact ih hc
theorem ahead_behind_nil (l : List UInt8) : Pm.ahead 63 (Pm.behind 63 l) = [] := by
  unfold Pm.ahead Pm.behind
  induction l with
  | nil => rfl
  | cons a r ih =>
    by_cases ha : a = 63
    · subst ha; simp
    · rw [List.dropWhile_cons_of_pos (by simpa using ha)]; exact ih
theorem ahead_apq {a b : List UInt8} (h : ∀ c ∈ a, c ≠ 63) : Pm.ahead 63 (a ++ b) = a ++ Pm.ahead 63 b := by
  unfold Pm.ahead
  induction a with
  | nil => rfl
  | cons x r ih =>
    rw [List.cons_append, List.takeWhile_cons_of_pos (by simpa using h x (by simp)), ih (fun c hc => h c (by simp [hc]))]; rfl
theorem moved_target {t : List UInt8} (h : Pm.isTarget t = true) (h1 : Pm.ahead 63 t ≠ [47]) : Pm.ahead 63 (otherL (Pm.ahead 63 t) ++ Pm.behind 63 t) = otherL (Pm.ahead 63 t) ∧ Pm.isTarget (otherL (Pm.ahead 63 t) ++ Pm.behind 63 t) = true := by
  have e : Pm.ahead 63 (otherL (Pm.ahead 63 t) ++ Pm.behind 63 t) = otherL (Pm.ahead 63 t) := by
    rw [ahead_apq, ahead_behind_nil, List.append_nil]
    intro c hc
    rcases other_mem hc with hc | rfl
    · exact ahead_no c hc
    · decide
  refine ⟨e, ?_⟩
  rw [Pm.isTarget_path, Bool.and_eq_true] at h ⊢
  rw [e]
  refine ⟨(other_path h.1 h1).1, ?_⟩
  have h2 := h.2
  unfold Pm.allP at h2 ⊢
  rw [List.all_eq_true] at h2 ⊢
  intro c hc
  have hab := Pm.ahead_behind 63 t
  rcases List.mem_append.1 hc with hc | hc
  · rcases other_mem hc with hc | rfl
    · exact h2 c (by rw [← hab]; exact List.mem_append.2 (.inl hc))
    · decide
  · exact h2 c (by rw [← hab]; exact List.mem_append.2 (.inr hc))
theorem moved_led {m t : List UInt8} {es : List Ent} (hm : Pm.isMethod m = true) (ht : Pm.isTarget t = true) (ho : (otG m (Pm.ahead 63 t) es).2 = true) : (dspG m ((otG m (Pm.ahead 63 t) es).1 ++ Pm.behind 63 t) es).st = 200 ∧ (dspG m ((otG m (Pm.ahead 63 t) es).1 ++ Pm.behind 63 t) es).e = 0 := by
  unfold otG at ho ⊢
  by_cases h1 : Pm.ahead 63 t = [47]
  · rw [if_pos h1] at ho; cases ho
  · rw [if_neg h1] at ho ⊢
    have hl := of_decide_eq_true ho
    obtain ⟨e1, e2⟩ := moved_target ht h1
    unfold dspG
    simp only [e1]
    rw [if_neg (by rw [hm, e2]; simp), if_pos hl]
    exact ⟨rfl, rfl⟩
theorem target_path {t : List UInt8} (h : Pm.isTarget t = true) : Pm.isPath (Pm.ahead 63 t) = true := by
  rw [Pm.isTarget_path, Bool.and_eq_true] at h; exact h.1
theorem path_ne {l : List UInt8} (h : Pm.isPath l = true) : l ≠ [] := fun e => by subst e; revert h; decide
/- the path beside is led to just if the other one is -/
theorem beside_led {m l : List UInt8} {es : List Ent} (hp : Pm.isPath l = true) : (0 ≤ (rouG m (besG l) es).1) ↔ (otG m l es).2 = true := by
  unfold besG otG
  by_cases h1 : l = [47]
  · rw [if_pos (.inr h1), if_pos h1]
    have e : rouG m [] es = (-1, []) := if_neg (fun h => absurd h.1 (by decide))
    rw [e]; simp
  · rw [if_neg (fun h => h.elim (path_ne hp) h1), if_neg h1]
    have h2 := (other_path hp h1).1
    unfold rouG
    by_cases h3 : (leadG m (otherL l) es).2.2 = 0
    · rw [if_pos ⟨h2, h3⟩]; simp [h3]
    · rw [if_neg (fun h => h3 h.2)]; simp [h3]
theorem alw_run {l : List UInt8} {es : List Ent} {rs : List Rt} (he : es.map Ent.bare = rs.map rtBare) (hr : (rtsE rs [] 0).2 = 0) : alwRun (methS l es) [] false false = Lib.join (alwG l es) [44, 32] := by
  rw [run_alw (methS l es) (srt_srtd _) (fun x hx => by
    obtain ⟨e, h1, h2, -⟩ := methS_mem hx
    have := es_meth he hr h1
    rw [h2] at this
    intro hx0
    subst hx0
    revert this; decide)]
  rfl
theorem alw_nil {l : List UInt8} {es : List Ent} : alwG l es = [] ↔ methS l es = [] := by
  unfold alwG
  constructor
  · intro h
    split at h
    · have := congrArg List.length h
      rw [srt_len, List.length_append] at this
      simp at this
    · exact h
  · intro h
    rw [h, if_neg (by simp)]
theorem mov_plain (m : List UInt8) : (movG m = 301 ∧ (m = gtL ∨ m = hdL)) ∨ (movG m = 308 ∧ ¬ (m = gtL ∨ m = hdL)) := by
  unfold movG
  by_cases h : m = gtL ∨ m = hdL
  · rw [if_pos h]; exact .inl ⟨rfl, h⟩
  · rw [if_neg h]; exact .inr ⟨rfl, h⟩
theorem rou_yes {m l : List UInt8} {es : List Ent} (hp : Pm.isPath l = true) (h : (leadG m l es).2.2 = 0) : rouG m l es = (((leadG m l es).1 : Int), (leadG m l es).2.1) := if_pos ⟨hp, h⟩
theorem rou_no {m l : List UInt8} {es : List Ent} (h : (leadG m l es).2.2 ≠ 0) : rouG m l es = (-1, []) := if_neg (fun c => h c.2)
end Go.Proofs.YtpfendckgeoonaaGreatDoor

/- 'right', whatever the configuration; a configuration's lists stay where its own cells are written. -/
namespace Go.Proofs.YtpfendckgeoonaaGreatDoor
open Go.RowKit

theorem MuAt.setC2 {α : Type} {sz : Nat} {f : α → List Value} {l : List α} {a : Option Addr} {w : World} {g : Nat} {hd bd : Int} {vr vw : Value} (h : MuAt sz f l a w) (hn : ∀ b o, l ≠ [] → a = some ⟨b, o, none⟩ → b ≠ g) : MuAt sz f l a (Proofs.YtpfendckgeoonaaGreatDoor.setC g hd bd vr vw w) := fun i hi => by
  obtain ⟨b, o, h1, h2, h3⟩ := h i hi
  refine ⟨b, o, h1, by unfold Proofs.YtpfendckgeoonaaGreatDoor.setC; simp; exact h2, fun j v hv => ?_⟩
  rw [cell_setC (hn b o (fun e => by subst e; simp at hi) h1)]
  exact h3 j v hv
theorem MuAt.low {α : Type} {sz : Nat} {f : α → List Value} {l : List α} {a : Option Addr} {w : World} (h : MuAt sz f l a w) : ∀ b o, l ≠ [] → a = some ⟨b, o, none⟩ → b ≠ w.heap.size := fun b o hl ha => by
  obtain ⟨b', o', h1, h2, -⟩ := h 0 (List.length_pos_iff.2 hl)
  rw [ha] at h1
  simp only [Option.some.injEq, Addr.mk.injEq] at h1
  omega
def RgPost (g0 : Nat) (x : Ending) (w' : World) : Prop := ∃ (hd bd : Int) (rs : List Rt) (ws : List Wr) (ar : Option Addr) (cr : Nat) (aw : Option Addr) (cw : Nat), x = .returned (.agg #[.int .i64 hd, .int .i64 bd, .slice ar rs.length cr, .slice aw ws.length cw]) ∧ MuAt 6 Rt.cells rs ar w' ∧ MuAt 4 Wr.cells ws aw w' ∧ (∀ r ∈ rs, RtOk r) ∧ (∀ x ∈ ws, x.n.size ≤ 281474976710656 ∧ x.v.size ≤ 281474976710656) ∧ (cfgE hd bd rs ws).2 = 0 ∧ (∀ b o, rs ≠ [] → ar = some ⟨b, o, none⟩ → b ≠ g0) ∧ (∀ b o, ws ≠ [] → aw = some ⟨b, o, none⟩ → b ≠ g0)
theorem small_right : (cfgE 200 50 smallR []).2 = 0 := by kernel_rfl
theorem right_any (hd bd : Int) (rs : List Rt) (ws : List Wr) (ar : Option Addr) (cr : Nat) (aw : Option Addr) (cw : Nat) (mx : Int) (w W : World) (hb : Below w.heap.size w W) (hl : w.heap.size < W.heap.size) (hR : MuAt 6 Rt.cells rs ar w) (hW : MuAt 4 Wr.cells ws aw w) (hro : ∀ r ∈ rs, RtOk r) (hwo : ∀ x ∈ ws, x.n.size ≤ 281474976710656 ∧ x.v.size ≤ 281474976710656) (hm : w.cell? ⟨0, 0, none⟩ = some (.int .i64 mx)) :
    Calls Tryz.prog 5 #[.agg #[.int .i64 hd, .int .i64 bd, .slice ar rs.length cr, .slice aw ws.length cw]] W fun x w' => RgPost w.heap.size x w' ∧ Below W.heap.size W w' := by
  by_cases hE : (cfgE hd bd rs ws).2 = 0
  · refine (right_yes hd bd rs ws ar cr aw cw mx W (hR.below hb) (hW.below hb) hro hwo (cell_later hb hm) hE).mono ?_
    rintro x w' ⟨rfl, hb'⟩
    exact ⟨⟨hd, bd, rs, ws, ar, cr, aw, cw, rfl, (hR.below hb).below hb', (hW.below hb).below hb', hro, hwo, hE, hR.low, hW.low⟩, hb'⟩
  · refine (right_no hd bd rs ws ar cr aw cw mx W (hR.below hb) (hW.below hb) hro hwo (cell_later hb hm) hE).mono ?_
    rintro x w' ⟨⟨g, hg, rfl, hmu⟩, hb'⟩
    refine ⟨⟨200, 50, smallR, [], some ⟨g, 0, none⟩, 3, none, 0, rfl, hmu, fun i hi => absurd hi (by simp), small_ok, fun x hx => absurd hx (by simp), small_right, fun b o _ e => ?_, fun b o h _ => absurd rfl h⟩, hb'⟩
    simp only [Option.some.injEq, Addr.mk.injEq] at e
    omega
theorem matchB_len2 : ∀ (ps : List (Int × ByteArray)) (l : List UInt8) (mr : Bool) (acc fs : List Prm), matchB ps l mr acc = some fs → fs.length ≤ acc.length + ps.length
  | [], l, mr, acc, fs, h => by
    rw [matchB] at h
    split at h
    · cases h
    · cases h; simp
  | p :: r, l, mr, acc, fs, h => by
    rw [matchB] at h
    split at h
    · cases h
    · split at h
      · have := matchB_len2 r _ _ _ _ h
        rw [List.length_cons]
        split at this
        · omega
        · simp at this; omega
      · cases h
theorem route_as (gt B : Nat) (es : List Ent) (v : Value) (m o : ByteArray) (L : List UInt8) (ho : o.data.toList = L) (w : World) (hT : TbAt gt 0 B es v w) (hs : L.length ≤ 140737488355328) :
    Calls Tryz.prog 9 #[.pointer (some ⟨gt, 0, none⟩), .string m, .string o] w (RoPost (rouG m.data.toList L es) w) := by
  subst ho
  have e : o.data.toList.length = o.size := by simp
  exact route_any gt B es v m o w hT (by omega)
theorem methods_as (gt B : Nat) (es : List Ent) (v : Value) (o : ByteArray) (L : List UInt8) (ho : o.data.toList = L) (w : World) (hT : TbAt gt 0 B es v w) (hp : Pm.isPath L = true) (hs : L.length ≤ 140737488355328) :
    Calls Tryz.prog 12 #[.pointer (some ⟨gt, 0, none⟩), .string o] w fun r w' => (∃ vv, r = .returned vv ∧ w'.ownsRow w.heap.size 9 1 vv (methS L es).length (encs (methS L es))) ∧ Below w.heap.size w w' := by
  subst ho
  have e : o.data.toList.length = o.size := by simp
  have h1 := List.length_pos_iff.2 (path_ne hp)
  exact pMethods_all gt B es v o w hT hp (by omega) (by omega)
theorem beside_as (o : ByteArray) (L : List UInt8) (ho : o.data.toList = L) (w : World) (hs : L.length ≤ 140737488355328) :
    Calls Tryz.prog 13 #[.string o] w fun x w' => (∃ b : ByteArray, x = .returned (.string b) ∧ b.data.toList = besG L) ∧ Below w.heap.size w w' := by
  subst ho
  have e : o.data.toList.length = o.size := by simp
  exact beside_any o w (by omega)
theorem match_as (s o : ByteArray) (L : List UInt8) (ho : o.data.toList = L) (mx : Int) (w : World) (hs : s.size ≤ 281474976710656) (ht : L.length ≤ 140737488355328) (hm : w.cell? ⟨0, 0, none⟩ = some (.int .i64 mx)) :
    Calls Tryz.prog 10 #[.string s, .string o] w fun r w' => MsPost (matchS s.data.toList L) w.heap.size r w' ∧ Below w.heap.size w w' := by
  subst ho
  have e : o.data.toList.length = o.size := by simp
  exact pMatch_any s o mx w hs (by omega) hm
theorem dsp_rest {m t : List UInt8} {es : List Ent} {rs : List Rt} (he : es.map Ent.bare = rs.map rtBare) (hr : (rtsE rs [] 0).2 = 0) (hm : Pm.isMethod m = true) (ht : Pm.isTarget t = true) (hl : (leadG m (Pm.ahead 63 t) es).2.2 ≠ 0) :
    ∃ (st : Int) (al lo : List UInt8), dspG m t es = ⟨st, 0, [], al, lo, 0⟩ ∧ (st == 200) = false ∧ ((0 ≤ (rouG m (besG (Pm.ahead 63 t)) es).1 ∧ st = movG m ∧ lo.length ≤ t.length + t.length + 2 ∧ ∃ ro ps al' lo', dspG m lo es = ⟨200, ro, ps, al', lo', 0⟩)
      ∨ ((rouG m (besG (Pm.ahead 63 t)) es).1 < 0 ∧ st = 405 ∧ methS (Pm.ahead 63 t) es ≠ [] ∧ al = alwRun (methS (Pm.ahead 63 t) es) [] false false)
      ∨ ((rouG m (besG (Pm.ahead 63 t)) es).1 < 0 ∧ st = 404 ∧ methS (Pm.ahead 63 t) es = [])) := by
  have hp := target_path ht
  have hb := beside_led (m := m) (es := es) hp
  have hd : dspG m t es = if (otG m (Pm.ahead 63 t) es).2 = true then ⟨movG m, 0, [], [], (otG m (Pm.ahead 63 t) es).1 ++ Pm.behind 63 t, 0⟩
      else if alwG (Pm.ahead 63 t) es ≠ [] then ⟨405, 0, [], Lib.join (alwG (Pm.ahead 63 t) es) [44, 32], [], 0⟩
      else ⟨404, 0, [], [], [], 0⟩ := by
    unfold dspG
    rw [if_neg (by rw [hm, ht]; simp), if_neg hl]
  rw [hd]
  by_cases q2 : (otG m (Pm.ahead 63 t) es).2 = true
  · rw [if_pos q2]
    refine ⟨_, _, _, rfl, ?_, .inl ⟨hb.2 q2, rfl, ?_, ?_⟩⟩
    · rcases mov_plain m with ⟨h, -⟩ | ⟨h, -⟩ <;> rw [h] <;> rfl
    · have h1 := otG_len m (Pm.ahead 63 t) es hp
      have h2 : (Pm.ahead 63 t).length ≤ t.length := (List.takeWhile_prefix _).length_le
      have h3 : (Pm.behind 63 t).length ≤ t.length := (List.dropWhile_suffix _).length_le
      rw [List.length_append]; omega
    · obtain ⟨k1, k2⟩ := moved_led hm ht q2
      generalize dspG m ((otG m (Pm.ahead 63 t) es).1 ++ Pm.behind 63 t) es = D at *
      obtain ⟨a, b, c, d, e, f⟩ := D
      simp only at k1 k2
      subst k1 k2
      exact ⟨_, _, _, _, rfl⟩
  · rw [if_neg q2]
    have hk : (rouG m (besG (Pm.ahead 63 t)) es).1 < 0 := Int.not_le.1 (fun h => q2 (hb.1 h))
    by_cases q3 : alwG (Pm.ahead 63 t) es ≠ []
    · rw [if_pos q3]
      exact ⟨_, _, _, rfl, rfl, .inr (.inl ⟨hk, rfl, fun h => q3 (alw_nil.2 h), (alw_run he hr).symm⟩)⟩
    · rw [if_neg q3]
      exact ⟨_, _, _, rfl, rfl, .inr (.inr ⟨hk, rfl, alw_nil.1 (Classical.not_not.1 q3)⟩)⟩
theorem bes_len (l : List UInt8) : (besG l).length ≤ l.length + 1 := by
  unfold besG otherL
  split
  · simp
  · split
    · rw [List.length_take]; omega
    · simp
end Go.Proofs.YtpfendckgeoonaaGreatDoor
