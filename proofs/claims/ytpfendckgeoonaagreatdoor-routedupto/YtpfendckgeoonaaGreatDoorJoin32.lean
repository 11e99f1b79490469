/- Texts that follow one another, joined. -/
import Derived.Test.YtpfendckgeoonaaGreatDoorJoin31
/- A site of any configuration; what rests on a table's methods and patterns alone; the list of methods is short. -/
namespace Go.Proofs.YtpfendckgeoonaaGreatDoor
open Go.RowKit

theorem new_any (hd bd : Int) (rs : List Rt) (ws : List Wr) (ar : Option Addr) (cr : Nat) (aw : Option Addr) (cw : Nat) (mx : Int) (w : World) (hR : MuAt 6 Rt.cells rs ar w) (hW : MuAt 4 Wr.cells ws aw w) (hro : ∀ r ∈ rs, RtOk r) (hwo : ∀ x ∈ ws, x.n.size ≤ 281474976710656 ∧ x.v.size ≤ 281474976710656) (hm : w.cell? ⟨0, 0, none⟩ = some (.int .i64 mx)) :
    Calls Tryz.prog 19 #[.agg #[.int .i64 hd, .int .i64 bd, .slice ar rs.length cr, .slice aw ws.length cw]] w (NwPost rs ws (cfgE hd bd rs ws) w) := by
  unfold cfgE
  cases h : decide (32 ≤ hd ∧ hd ≤ 500 ∧ 0 ≤ bd ∧ bd ≤ 200)
  · rw [if_pos rfl]
    exact (new_lim hd bd ar rs.length cr aw ws.length cw w h).mono fun x w' ⟨h1, h2⟩ => NwPost.err h1 (by simp) h2
  · rw [if_neg (by simp)]
    by_cases hf : 24 < rs.length ∨ 6 < ws.length
    · rw [if_pos hf]
      exact (new_full hd bd ar rs.length cr aw ws.length cw w h hf).mono fun x w' ⟨h1, h2⟩ => NwPost.err h1 (by simp) h2
    · rw [if_neg hf]
      exact new_main hd bd rs ws ar cr aw cw mx w h (by omega) (by omega) hR hW hro hwo hm
theorem methG_bare (l : List UInt8) (es : List Ent) : methG l (es.map Ent.bare) = methG l es := by
  unfold methG
  induction es with
  | nil => rfl
  | cons e r ih =>
    rw [List.map_cons, List.filter_cons, List.filter_cons]
    have : (matchB e.bare.ps (l.drop 1) true []).isSome = (matchB e.ps (l.drop 1) true []).isSome := rfl
    rw [this]
    split
    · rw [List.map_cons, List.map_cons, ih]; rfl
    · exact ih
theorem alwG_bare (l : List UInt8) (es : List Ent) : alwG l (es.map Ent.bare) = alwG l es := by
  unfold alwG methS; rw [methG_bare]
theorem otG_bare (m l : List UInt8) (es : List Ent) : otG m l (es.map Ent.bare) = otG m l es := by
  unfold otG; rw [leadG_bare]
theorem dspG_bare (m t : List UInt8) (es : List Ent) : dspG m t (es.map Ent.bare) = dspG m t es := by
  unfold dspG; rw [leadG_bare, otG_bare, alwG_bare]
theorem join_len (K : Nat) (sep : List UInt8) : ∀ (l : List (List UInt8)), (∀ x ∈ l, x.length ≤ K) → (Lib.join l sep).length ≤ l.length * (K + sep.length)
  | [], _ => by simp [Lib.join, List.intercalate]
  | [x], h => by
    have := h x (by simp)
    simp [Lib.join, List.intercalate]; omega
  | x :: y :: r, h => by
    have hx := h x (by simp)
    have ih := join_len K sep (y :: r) (fun z hz => h z (by simp [hz]))
    have e : Lib.join (x :: y :: r) sep = x ++ (sep ++ Lib.join (y :: r) sep) := by simp [Lib.join, List.intercalate, List.intersperse]
    rw [e]
    simp only [List.length_append, List.length_cons] at ih ⊢
    rw [Nat.succ_mul]
    omega
theorem alw_mem {l x : List UInt8} {es : List Ent} (h : x ∈ alwG l es) : x = hdL ∨ ∃ e ∈ es, x = e.m.data.toList := by
  have key : ∀ y, y ∈ methS l es → ∃ e ∈ es, y = e.m.data.toList := fun y hy => by
    unfold methS srt at hy
    rw [List.mem_mergeSort, List.mem_map] at hy
    obtain ⟨b, hb, rfl⟩ := hy
    unfold methG at hb
    rw [List.mem_map] at hb
    obtain ⟨e, he, rfl⟩ := hb
    exact ⟨e, (List.mem_filter.1 he).1, rfl⟩
  unfold alwG at h
  split at h
  · unfold srt at h
    rw [List.mem_mergeSort, List.mem_append] at h
    rcases h with h | h
    · exact .inr (key x h)
    · exact .inl (by simpa using h)
  · exact .inr (key x h)
theorem alw_join (l : List UInt8) (es : List Ent) (h : ∀ e ∈ es, e.m.size ≤ 1000) (hf : es.length ≤ 24) : (Lib.join (alwG l es) [44, 32]).length ≤ 100000 := by
  have h1 := join_len 1000 [44, 32] (alwG l es) (fun x hx => by
    rcases alw_mem hx with rfl | ⟨e, he, rfl⟩
    · decide
    · have := h e he
      have e2 : e.m.data.toList.length = e.m.size := by simp
      omega)
  have h2 := alwG_few l es
  have h3 : (alwG l es).length ≤ 25 := by omega
  have h4 : (alwG l es).length * (1000 + [44, 32].length) ≤ 25 * (1000 + [44, 32].length) := Nat.mul_le_mul_right _ h3
  simp at h4 h1
  omega
/- routes that are right have methods -/
theorem rts_meth : ∀ (rs : List Rt) (es : List Ent) (k : Nat), (rtsE rs es k).2 = 0 → ∀ r ∈ rs, Pm.isMethod r.m.data.toList = true
  | [], _, _, _, r, hr => absurd hr (by simp)
  | r :: rs, es, k, h, q, hq => by
    rw [rtsE] at h
    by_cases h0 : rtE es r = 0
    · rw [if_pos h0] at h
      rcases List.mem_cons.1 hq with rfl | hq
      · exact (rtE_in (.inl h0)).1
      · exact rts_meth rs _ _ h q hq
    · rw [if_neg h0] at h; exact absurd h h0
theorem cfg_ok {hd bd : Int} {rs : List Rt} {ws : List Wr} (h : (cfgE hd bd rs ws).2 = 0) : rs.length ≤ 24 ∧ ws.length ≤ 6 ∧ (rtsE rs [] 0).2 = 0 ∧ (wrsE ws 0).2 = 0 := by
  unfold cfgE at h
  by_cases h1 : decide (32 ≤ hd ∧ hd ≤ 500 ∧ 0 ≤ bd ∧ bd ≤ 200) = false
  · rw [if_pos h1] at h; simp at h
  · rw [if_neg h1] at h
    by_cases h2 : 24 < rs.length ∨ 6 < ws.length
    · rw [if_pos h2] at h; simp at h
    · rw [if_neg h2] at h
      by_cases h3 : (rtsE rs [] 0).2 = 0
      · rw [if_pos h3] at h; exact ⟨by omega, by omega, h3, h⟩
      · rw [if_neg h3] at h; exact absurd h h3
def pdG (hd bd : Int) (rs : List Rt) (ws : List Wr) (m t : List UInt8) : DsR :=
  if (cfgE hd bd rs ws).2 = 0 then dspG m t (rs.map rtBare) else ⟨0, 0, [], [], [], (cfgE hd bd rs ws).2⟩
end Go.Proofs.YtpfendckgeoonaaGreatDoor

/- The program's Dispatch, of any configuration, method and target. -/
namespace Go.Proofs.YtpfendckgeoonaaGreatDoor
open Go.RowKit

theorem dispatch_any (gs B : Nat) (es : List Ent) (v : Value) (m t : ByteArray) (w : World) (hT : TbAt gs 0 B es v w) (hm : m.size ≤ maxLen) (ht : t.size ≤ 140737488350000) (hj : (Lib.join (alwG (Pm.ahead 63 t.data.toList) es) [44, 32]).length ≤ 140737488355328) :
    Calls Tryz.prog 20 #[.pointer (some ⟨gs, 0, none⟩), .string m, .string t] w (DpPost (dspG m.data.toList t.data.toList es) w) := by
  by_cases h : Pm.isMethod m.data.toList = false ∨ Pm.isTarget t.data.toList = false
  · have e : dspG m.data.toList t.data.toList es = ⟨0, 0, [], [], [], 3⟩ := if_pos h
    rw [e]
    exact dispatch_bad _ m t w hm (by omega) h
  · have h1 : Pm.isMethod m.data.toList = true := by cases q : Pm.isMethod m.data.toList; exact absurd (.inl q) h; rfl
    have h2 : Pm.isTarget t.data.toList = true := by cases q : Pm.isTarget t.data.toList; exact absurd (.inr q) h; rfl
    exact dispatch_ok gs B es v m t w hT hm ht h1 h2 hj
/- a site that New has made, at a world where it stands -/
theorem site_join {gs B : Nat} {es : List Ent} {hs : List Hn} {ws : List Wr} {v vh vw : Value} {w : World} {rs : List Rt} (l : List UInt8) (hS : StI gs B es hs ws v vh vw w) (he : es.map Ent.bare = rs.map rtBare) (hr : (rtsE rs [] 0).2 = 0) : (Lib.join (alwG l es) [44, 32]).length ≤ 100000 := by
  refine alw_join l es (fun e hme => ?_) hS.tb.few
  have h1 : e.bare ∈ rs.map rtBare := by rw [← he]; exact List.mem_map.2 ⟨e, hme, rfl⟩
  obtain ⟨r, hr1, hr2⟩ := List.mem_map.1 h1
  have h3 : e.m = r.m := by have := congrArg Ent.m hr2; simpa [rtBare, Ent.bare] using this.symm
  rw [h3]
  exact meth_small (rts_meth rs [] 0 hr r hr1)
set_option maxRecDepth 100000 in
set_option maxHeartbeats 2000000 in
theorem pDispatch_any (hd bd : Int) (rs : List Rt) (ws : List Wr) (ar : Option Addr) (cr : Nat) (aw : Option Addr) (cw : Nat) (m t : ByteArray) (mx : Int) (w : World) (hR : MuAt 6 Rt.cells rs ar w) (hW : MuAt 4 Wr.cells ws aw w) (hro : ∀ r ∈ rs, RtOk r) (hwo : ∀ x ∈ ws, x.n.size ≤ 281474976710656 ∧ x.v.size ≤ 281474976710656) (hm : w.cell? ⟨0, 0, none⟩ = some (.int .i64 mx)) (hms : m.size ≤ maxLen) (hts : t.size ≤ 140737488350000) :
    Calls Tryz.prog 7 #[.agg #[.int .i64 hd, .int .i64 bd, .slice ar rs.length cr, .slice aw ws.length cw], .string m, .string t] w (DpPost (pdG hd bd rs ws m.data.toList t.data.toList) w) := by
  have HN := hid (fun W (hb : Below w.heap.size w W) => new_any hd bd rs ws ar cr aw cw mx W (hR.below hb) (hW.below hb) hro hwo (cell_later hb hm))
  have hA1 := (Below.refl w.heap.size w).alloc (Nat.le_refl _) (.cells #[.int .i64 hd, .int .i64 bd, .slice ar rs.length cr, .slice aw ws.length cw] 27)
  have hA := hA1.alloc hA1.size (.cells #[.int .i64 0, .int .i64 0, .slice none 0 0, .string ⟨#[]⟩, .string ⟨#[]⟩] 34)
  have z1 : (w.alloc (.cells #[.int .i64 hd, .int .i64 bd, .slice ar rs.length cr, .slice aw ws.length cw] 27)).heap.size = w.heap.size + 1 := by simp
  have hg1 := heap_alloc_new w (.cells #[.int .i64 hd, .int .i64 bd, .slice ar rs.length cr, .slice aw ws.length cw] 27)
  have h0 : FnB (w.heap.size + 1) 0 0 (.slice none 0 0) ⟨#[]⟩ ⟨#[]⟩ ((w.alloc (.cells #[.int .i64 hd, .int .i64 bd, .slice ar rs.length cr, .slice aw ws.length cw] 27)).alloc (.cells #[.int .i64 0, .int .i64 0, .slice none 0 0, .string ⟨#[]⟩, .string ⟨#[]⟩] 34)) := by
    rw [← z1]; exact heap_alloc_new _ _
  have hE : ∀ E, cfgE hd bd rs ws = E → pdG hd bd rs ws m.data.toList t.data.toList = if E.2 = 0 then dspG m.data.toList t.data.toList (rs.map rtBare) else ⟨0, 0, [], [], [], E.2⟩ := fun E h => by subst h; rfl
  have hok : (cfgE hd bd rs ws).2 = 0 → (rtsE rs [] 0).2 = 0 := fun h => (cfg_ok h).2.2.1
  generalize hC : cfgE hd bd rs ws = E at *
  have HP := hid (hE E rfl)
  generalize pdG hd bd rs ws m.data.toList t.data.toList = R at *
  clear hR hW hro hwo hm hE hA1
  go_enter Tryz.func7, Tryz.ntmps7
  go_wp2_with fail
  generalize (w.alloc (.cells #[.int .i64 hd, .int .i64 bd, .slice ar rs.length cr, .slice aw ws.length cw] 27)).alloc (.cells #[.int .i64 0, .int .i64 0, .slice none 0 0, .string ⟨#[]⟩, .string ⟨#[]⟩] 34) = w1 at *
  clear hg1 z1
  refine (HN.out _ hA).mono ?_
  rintro x w2 ⟨k1, k2, hb2⟩
  have hB2 := bel_of hA hb2
  have h2 := h0.below hb2
  by_cases q : E.2 = 0
  · obtain ⟨gs, es, v, vh, vw, rfl, hgs, hes, S⟩ := k2 q
    have hR := HP.out
    rw [if_pos q, ← hes, dspG_bare] at hR
    have hjn := site_join (Pm.ahead 63 t.data.toList) S hes (hok q)
    have HD := hid (dispatch_any gs gs es v m t w2 S.tb hms hts (by omega))
    rw [← hR] at HD
    have lg := S.tb.lt
    clear k1 k2 HP hR S hes h0 hjn hok HN
    go_wp2_with fail
    refine HD.out.mono ?_
    rintro x w3 ⟨⟨vv, ua, ul, rfl, hua, hul, ow⟩, hb3⟩
    have hB3 := bel_of hB2 hb3
    have h3 := h2.below hb3
    have hz : w.heap.size ≤ w2.heap.size := hB2.size
    have hno : vv.ownBlock ≠ some (w.heap.size + 1) := fun e => by have := own_ge ow _ e; have := h2.lt; omega
    have HO := hid (owns_base ow hz)
    obtain ⟨ax, cx, rfl⟩ := sl_of ow
    obtain ⟨c0, c1, c2, c3, c4⟩ := h3.cells
    have f0 := h3.free 0
    have f1 := h3.free 1
    have f2 := h3.free 2
    have f3 := h3.free 3
    have f4 := h3.free 4
    have l0 := h3.lt
    have H1 := hid (h3.set R.st R.ro (.slice ax R.ps.length cx) ua ul)
    obtain ⟨d0, d1, d2, d3, d4⟩ := H1.out.cells
    unfold setF at d0 d1 d2 d3 d4
    clear ow HD h2
    go_wp2
    refine bodyPost_ret (v := .tuple #[.agg #[.int .i64 R.st, .int .i64 R.ro, .slice ax R.ps.length cx, .string ua, .string ul], .int .i64 R.e]) (by simp [results, Tryz.results7, go_sem, d0, d1, d2, d3, d4]) rfl ?_
    exact ⟨⟨_, _, _, rfl, hua, hul, owns_setF HO.out hno⟩, below_setF hB3 (Nat.le_succ _)⟩
  · obtain rfl := k1 q
    have hR := HP.out
    rw [if_neg q] at hR
    subst hR
    obtain ⟨c0, c1, c2, c3, c4⟩ := h2.cells
    have f0 := h2.free 0
    have f1 := h2.free 1
    have f2 := h2.free 2
    have f3 := h2.free 3
    have f4 := h2.free 4
    have l0 := h2.lt
    have H1 := hid (h2.set 0 0 (.slice none 0 0) ⟨#[]⟩ ⟨#[]⟩)
    obtain ⟨d0, d1, d2, d3, d4⟩ := H1.out.cells
    unfold setF at d0 d1 d2 d3 d4
    clear k1 k2 HP h0 hok HN hC
    obtain ⟨en, ee⟩ := E
    simp only at q
    have hq : (ee != 0) = true := by simpa using q
    go_wp2_with fail
    refine bodyPost_ret (v := .tuple #[.agg #[.int .i64 0, .int .i64 0, .slice none 0 0, .string ⟨#[]⟩, .string ⟨#[]⟩], .int .i64 ee]) (by simp [results, Tryz.results7, go_sem, d0, d1, d2, d3, d4]) rfl ?_
    exact ⟨⟨_, _, _, rfl, rfl, rfl, World.ownsRow_nil _ _ _ _⟩, below_setF hB2 (Nat.le_succ _)⟩
end Go.Proofs.YtpfendckgeoonaaGreatDoor
