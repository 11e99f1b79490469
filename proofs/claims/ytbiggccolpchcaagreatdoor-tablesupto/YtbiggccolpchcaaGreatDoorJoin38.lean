/- Texts that follow one another, joined. -/
import Derived.Test.YtbiggccolpchcaaGreatDoorJoin37
/- A step of a script; lists of texts that are the same; a pattern is added to both tables. -/
namespace Go.Proofs.YtbiggccolpchcaaGreatDoor
open Go.RowKit Bn

structure OpV where
  k : Int
  on : Int
  a : Int
  s : ByteArray
  t : ByteArray
  za : Option Addr
  zn : Nat
  zc : Nat
  lh : Int
  lb : Int
  ch : Int
  cb : Int
  ra : Option Addr
  rn : Nat
  rc : Nat
  wa : Option Addr
  wn : Nat
  wc : Nat
  qm : ByteArray
  qt : ByteArray
  fa : Option Addr
  fn : Nat
  fc : Nat
  qb : ByteArray
  st : Int
  xa : Option Addr
  xn : Nat
  xc : Nat
  ab : ByteArray
  cl : Bool
abbrev OpV.cs (o : OpV) : Array Value := #[.int .i64 o.k, .int .i64 o.on, .int .i64 o.a, .string o.s, .string o.t, .slice o.za o.zn o.zc, .int .i64 o.lh, .int .i64 o.lb, .int .i64 o.ch, .int .i64 o.cb, .slice o.ra o.rn o.rc, .slice o.wa o.wn o.wc, .string o.qm, .string o.qt, .slice o.fa o.fn o.fc, .string o.qb, .int .i64 o.st, .slice o.xa o.xn o.xc, .string o.ab, .bool o.cl]
def TxAt (L : List (List UInt8)) (a : Option Addr) (w : World) : Prop := ∀ i (h : i < L.length), ∃ g, a = some ⟨g, 0, none⟩ ∧ g < w.heap.size ∧ w.cell? ⟨g, i, none⟩ = some (.string ⟨L[i].toArray⟩)
theorem TxAt.below {L : List (List UInt8)} {a : Option Addr} {w w' : World} (h : TxAt L a w) (hb : Below w.heap.size w w') : TxAt L a w' := fun i hi => by
  obtain ⟨g, e1, e2, e3⟩ := h i hi
  exact ⟨g, e1, Nat.lt_of_lt_of_le e2 hb.size, cell_later hb e3⟩
theorem tx_of {w : World} {B : Nat} {v : Value} {L : List (List UInt8)} (h : w.ownsRow B 9 1 v L.length (encs L)) : ∃ a c, v = .slice a L.length c ∧ TxAt L a w := by
  rcases own_strs h with ⟨rfl, rfl⟩ | ⟨g, cap, rfl, h1, h2, h3⟩
  · exact ⟨none, 0, rfl, fun i hi => absurd hi (by simp)⟩
  · exact ⟨_, cap, rfl, fun i hi => ⟨g, rfl, h1, h3 i hi⟩⟩
set_option maxHeartbeats 1000000 in
theorem sameTexts_any (L : List (List UInt8)) (a b : Option Addr) (ca cb : Nat) (w : World) (ha : TxAt L a w) (hb : TxAt L b w) (hl : L.length ≤ 1000000) :
    Calls Tryz.prog 43 #[.slice a L.length ca, .slice b L.length cb] w fun e w' => e = .returned (.bool true) ∧ Below w.heap.size w w' := by
  have HA := hid ha
  have HB := hid hb
  clear ha hb
  go_enter Tryz.func43, Tryz.ntmps43
  go_wp2_with fail
  go_loopw [5] (fun i wr => ∃ k : Nat, k ≤ L.length ∧ i = .int .i64 k ∧ Below w.heap.size w wr) (fun i _ => L.length - (intOf i).toNat)
  case atStart => exact ⟨0, Nat.zero_le _, rfl, Below.refl _ _⟩
  case round =>
    obtain ⟨k, hk, rfl, hbw⟩ := hrel
    by_cases hlt : k < L.length
    · obtain ⟨g, rfl, hg, c1⟩ := (HA.out.below hbw) k hlt
      obtain ⟨g2, rfl, hg2, c2⟩ := (HB.out.below hbw) k hlt
      generalize (ByteArray.mk (L[k]).toArray) = sv at *
      go_wp2_with fail
      go_quiet (fail)
      go_wp2
      exact ⟨⟨k + 1, by omega, by go_num, below_drewN hbw _⟩, by simp [intOf]; omega⟩
    · go_wp2
      go_ret
      exact ⟨rfl, hbw⟩
section
variable {O : Nat → Nat} {wb : Nat} {V : Nat → Value} {l : Nat → List Value} {vs : Value} {tb : List Pr} {n : Nat} {w0 w : World}
theorem Kept.of {gt : Nat} {v : Value} {w w' : World} (h : Below w.heap.size w w') : Kept gt v w w' := fun g hg _ _ => h.block g hg
theorem add_pair (h : WI O wb V l vs tb n w0 w) {i : Nat} (hi : i < tb.length) (m s : ByteArray) (hms : m.size ≤ 1048576) (hs : s.size ≤ 1048576) {mx : Int} (hm : w0.cell? ⟨0, 0, none⟩ = some (.int .i64 mx)) :
    Calls Tryz.prog 34 #[.pointer (some ⟨(tb[i]).gx, 0, none⟩), .string m, .string s] w fun r w1 => r = .returned (.tuple #[.int .i64 (adE m.data.toList s.data.toList (tb[i]).es).1, .int .i64 (adE m.data.toList s.data.toList (tb[i]).es).2]) ∧ Kept (tb[i]).gx (tb[i]).v w w1 ∧ w.heap.size ≤ w1.heap.size ∧
      Calls Tryz.prog 35 #[.pointer (some ⟨(tb[i]).gr, 0, none⟩), .string m, .string s] w1 fun r' w2 => r' = .returned (.tuple #[.int .i64 (adE m.data.toList s.data.toList (tb[i]).es).1, .int .i64 (adE m.data.toList s.data.toList (tb[i]).es).2]) ∧ (∃ O' tb', WI O' wb V l vs tb' n w0 w2 ∧ tb'.length = tb.length) ∧ ∀ b, b < w.heap.size → O b = 1 → w2.heap[b]? = w.heap[b]? := by
  obtain ⟨e1, e2, e3⟩ := h.tab i hi
  have hE : adE m.data.toList s.data.toList ((tb[i]).rs.map refB) = adE m.data.toList s.data.toList (tb[i]).es := by rw [← e1.eq, adE_bare]
  refine (pAdd_all (tb[i]).gx (tb[i]).gx (tb[i]).es (tb[i]).v m s mx w e1.tx (by unfold maxLen; omega) (by omega) (cell_later h.bel hm) (Nat.le_refl _) (Nat.le_of_lt e1.tx.lt)).mono ?_
  rintro r w1 ⟨rfl, q1, q2⟩
  by_cases h0 : (adE m.data.toList s.data.toList (tb[i]).es).2 = 0
  · obtain ⟨p, hp, A⟩ := q2 h0
    have hT := h.mid hi A.kp
    have hz := A.bl.size
    refine ⟨rfl, A.kp, hz, (rAdd_kept (tb[i]).gr (tb[i]).gr (tb[i]).rs (tb[i]).vr m s w1 hT (by unfold maxLen; omega) (by omega) (Nat.le_refl _) (Nat.le_of_lt hT.lt)).mono ?_⟩
    rintro r' w2 ⟨rfl, -, k2⟩
    rw [hE] at k2 ⊢
    obtain ⟨B2, K2, vr', T2, hv2⟩ := k2 h0
    refine ⟨rfl, h.add hi hp ?_ A B2 K2 T2 hv2, fun b hb h1 => ?_⟩
    rotate_left
    · rw [K2 b (by omega) (fun e => by have := e3 b (.inl e); omega) (fun e => by have := e3 b (.inr e); omega), A.kp b hb (fun e => by have := e2 b (.inl e); omega) (fun e => by have := e2 b (.inr (.inl e)); omega)]
    unfold adE at hE
    have hE2 := congrArg Prod.snd hE
    have h0' : (adE m.data.toList s.data.toList ((tb[i]).rs.map refB)).2 = 0 := by
      have : adE m.data.toList s.data.toList ((tb[i]).rs.map refB) = adE m.data.toList s.data.toList (tb[i]).es := by rw [← e1.eq, adE_bare]
      rw [this]; exact h0
    unfold adE at h0'
    split at h0'
    · exact absurd h0' (by decide)
    · rw [hp] at h0'
      simp only at h0'
      split at h0'
      · exact absurd h0' (by decide)
      · split at h0'
        · exact absurd h0' (by simp)
        · assumption
  · have hb1 := q1 h0
    have h1 := h.below hb1
    have hT := (h1.tab i hi).1.tr
    refine ⟨rfl, Kept.of hb1, hb1.size, (rAdd_kept (tb[i]).gr (tb[i]).gr (tb[i]).rs (tb[i]).vr m s w1 hT (by unfold maxLen; omega) (by omega) (Nat.le_refl _) (Nat.le_of_lt hT.lt)).mono ?_⟩
    rintro r' w2 ⟨rfl, k1, -⟩
    rw [hE] at k1 ⊢
    exact ⟨rfl, ⟨O, tb, h1.below (k1 h0), rfl⟩, fun b hb _ => (bel_of hb1 (k1 h0)).block b hb⟩
end
end Go.Proofs.YtbiggccolpchcaaGreatDoor

/- A call of a table, the program's and the reference's. -/
namespace Go.Proofs.YtbiggccolpchcaaGreatDoor
open Go.RowKit Bn

/- some world that a script has made -/
def WX (wb n k : Nat) (w0 w : World) : Prop := ∃ O V l vs tb, WI O wb V l vs tb n w0 w ∧ tb.length = k
abbrev shP (p : Pr) : Array Value := #[.pointer (some ⟨p.gx, 0, none⟩), .pointer (some ⟨p.gr, 0, none⟩)]
theorem two_box (w : World) (a b : Array Value) (t u : TypeId) : Below w.heap.size w ((w.alloc (.cells a t)).alloc (.cells b u)) ∧ ((w.alloc (.cells a t)).alloc (.cells b u)).heap[w.heap.size]? = some (.cells a t (0, 0)) ∧ ((w.alloc (.cells a t)).alloc (.cells b u)).heap[w.heap.size + 1]? = some (.cells b u (0, 0)) := by
  have h1 := (Below.refl w.heap.size w).alloc (Nat.le_refl _) (.cells a t)
  have b1 := heap_alloc_new w (.cells a t)
  have b2 := heap_alloc_new (w.alloc (.cells a t)) (.cells b u)
  have z1 : (w.alloc (.cells a t)).heap.size = w.heap.size + 1 := by simp
  rw [z1] at b2
  exact ⟨h1.alloc h1.size _, by rw [Below.heap_alloc _ _ _ (by rw [z1]; omega)]; exact b1, b2⟩
section
variable {O : Nat → Nat} {wb : Nat} {V : Nat → Value} {l : Nat → List Value} {vs : Value} {tb : List Pr} {n : Nat} {w0 w : World}
set_option maxRecDepth 100000 in
set_option maxHeartbeats 4000000 in
theorem tabled_add (h : WI O wb V l vs tb n w0 w) {i : Nat} (hi : i < tb.length) (o : OpV) (hk : o.k = 21) (hs : o.s.size ≤ 1048576) (ht : o.t.size ≤ 1048576) {mx : Int} (hm : w0.cell? ⟨0, 0, none⟩ = some (.int .i64 mx)) :
    Calls Tryz.prog 13 #[.pointer (some ⟨wb, 0, none⟩), .agg (shP tb[i]), .agg o.cs] w fun r w' => r = .returned (.bool true) ∧ (∃ O' V' l' tb', WI O' wb V' l' vs tb' (n + 1) w0 w' ∧ tb'.length = tb.length) ∧ ∀ b, b < w.heap.size → O b = 1 → w'.heap[b]? = w.heap[b]? := by
  obtain ⟨hA, b1, b2⟩ := two_box w (shP tb[i]) o.cs 59 51
  have hW := h.below hA
  have HA0 := hid hA
  have HAP := hid (add_pair hW hi o.s o.t hs ht hm)
  have g1 : (tb[i]).gx < w.heap.size := (h.tab i hi).1.tx.lt
  have g2 : ∀ r, (tb[i]).v.ownBlock = some r → r < w.heap.size := fun r hr => (owns_blkG (h.tab i hi).1.tx.row r hr).2
  generalize adE o.s.data.toList o.t.data.toList (tb[i]).es = R at *
  generalize tb[i] = p at *
  clear h hW hs ht hm
  go_enter Tryz.func13, Tryz.ntmps13
  go_upto_region 1 with fail
  generalize ((w.alloc (.cells (shP p) 59)).alloc (.cells o.cs 51)) = wB at *
  have c0 := (Lib.cell_of_heap b1 (j := 0)).trans (show _ = some (Value.pointer (some ⟨p.gx, 0, none⟩)) from rfl)
  have c1 := (Lib.cell_of_heap b1 (j := 1)).trans (show _ = some (Value.pointer (some ⟨p.gr, 0, none⟩)) from rfl)
  have d0 := (Lib.cell_of_heap b2 (j := 0)).trans (show _ = some (Value.int .i64 o.k) from rfl)
  have d3 := (Lib.cell_of_heap b2 (j := 3)).trans (show _ = some (Value.string o.s) from rfl)
  have d4 := (Lib.cell_of_heap b2 (j := 4)).trans (show _ = some (Value.string o.t) from rfl)
  have l1 := heap_lt b1
  have l2 := heap_lt b2
  rw [hk] at d0
  go_wp2_with fail
  refine HAP.out.mono ?_
  rintro r w1 ⟨rfl, kp, hz, H2⟩
  have f1 : w1.heap[w.heap.size]? = some (.cells (shP p) 59 (0, 0)) := by
    rw [kp _ l1 (by omega) (fun e => by have := g2 _ e; omega)]; exact b1
  have f2 : w1.heap[w.heap.size + 1]? = some (.cells o.cs 51 (0, 0)) := by
    rw [kp _ l2 (by omega) (fun e => by have := g2 _ e; omega)]; exact b2
  have HH := hid H2
  clear H2 HAP kp c0 c1 d0 d3 d4 b1 b2 l1 l2
  have c1 := (Lib.cell_of_heap f1 (j := 1)).trans (show _ = some (Value.pointer (some ⟨p.gr, 0, none⟩)) from rfl)
  have d3 := (Lib.cell_of_heap f2 (j := 3)).trans (show _ = some (Value.string o.s) from rfl)
  have d4 := (Lib.cell_of_heap f2 (j := 4)).trans (show _ = some (Value.string o.t) from rfl)
  have l1 := heap_lt f1
  have l2 := heap_lt f2
  clear f1 f2
  go_wp2_with fail
  refine HH.out.mono ?_
  rintro r w2 ⟨rfl, ⟨O', tb', h2, hl2⟩, hst⟩
  have HW2 := hid h2
  have HST : Hid (∀ b, b < w.heap.size → O b = 1 → w2.heap[b]? = w.heap[b]?) := fun b hb h1 => by rw [hst b (Nat.lt_of_lt_of_le hb HA0.out.size) h1]; exact HA0.out.block b hb
  clear h2 HH c1 d3 d4 l1 l2 hst
  go_wp2_with (go_at_call 36; refine (Bp.fnum_any _ _).mono ?_; rintro e w' ⟨rfl, hw'⟩; have hw2 := hw'.symm; subst hw2)
  all_goals
    go_ret
    exact ⟨ret_bool (by simp), ⟨O', V, l, tb', HW2.out.more (by omega), hl2⟩, HST.out⟩
set_option maxRecDepth 100000 in
set_option maxHeartbeats 4000000 in
theorem tabled_else (h : WI O wb V l vs tb n w0 w) {i : Nat} (hi : i < tb.length) (o : OpV) (h1 : o.k ≠ 21) (h2 : o.k ≠ 22) (h3 : o.k ≠ 23) :
    Calls Tryz.prog 13 #[.pointer (some ⟨wb, 0, none⟩), .agg (shP tb[i]), .agg o.cs] w fun r w' => r = .returned (.bool true) ∧ (∃ O' V' l' tb', WI O' wb V' l' vs tb' (n + 1) w0 w' ∧ tb'.length = tb.length) ∧ ∀ b, b < w.heap.size → O b = 1 → w'.heap[b]? = w.heap[b]? := by
  obtain ⟨hA, b1, b2⟩ := two_box w (shP tb[i]) o.cs 59 51
  have HW := hid ((h.below hA).more (Nat.le_succ n))
  have HA0 := hid hA
  generalize tb[i] = p at *
  clear h
  have e1 : (o.k == 21) = false := by simpa using h1
  have e2 : (o.k == 22) = false := by simpa using h2
  have e3 : (o.k == 23) = false := by simpa using h3
  clear h1 h2 h3
  go_enter Tryz.func13, Tryz.ntmps13
  go_upto_region 1 with fail
  generalize ((w.alloc (.cells (shP p) 59)).alloc (.cells o.cs 51)) = wB at *
  have d0 := (Lib.cell_of_heap b2 (j := 0)).trans (show _ = some (Value.int .i64 o.k) from rfl)
  have l2 := heap_lt b2
  go_wp2_with fail
  go_ret
  exact ⟨rfl, ⟨_, _, _, _, HW.out, rfl⟩, fun b hb _ => HA0.out.block b hb⟩
end
end Go.Proofs.YtbiggccolpchcaaGreatDoor

/- A call of a table: Find and Methods, the program's and the reference's; what came out is kept. -/
namespace Go.Proofs.YtbiggccolpchcaaGreatDoor
open Go.RowKit Bn

theorem find_few {B0 : Nat} {p : Pr} {w : World} (h : PrI B0 p w) (m l : List UInt8) : (findX m l p.es).2.1.length ≤ 1000 := by
  unfold findX
  split
  · refine Nat.le_trans (findG_len 64 m l p.es 0 (fun e he => ?_)) (by omega)
    have h1 : e.bare ∈ p.rs.map refB := by rw [← h.eq]; exact List.mem_map_of_mem he
    obtain ⟨q, hq, e2⟩ := List.mem_map.1 h1
    have h3 := pat_len ⟨q.1, q.2, ⟨0, 0, ⟨#[]⟩, ⟨#[]⟩⟩⟩
    have h4 : (refB q).ps.length ≤ 64 := h3
    rw [e2] at h4
    exact h4
  · simp
theorem findG_e (m l : List UInt8) : ∀ (es : List Ent) (k : Nat), (findG m l es k).2.2 ≠ 0 → (findG m l es k).2.1 = []
  | [], _, _ => rfl
  | e :: r, k, h => by
    rw [findG] at h ⊢
    split at h
    · rename_i h1
      rw [if_pos h1]
      cases hm : matchB e.ps (l.drop 1) true [] with
      | some fs => rw [hm] at h; exact absurd rfl h
      | none => rw [hm] at h; exact findG_e m l r (k + 1) h
    · rename_i h1
      rw [if_neg h1]
      exact findG_e m l r (k + 1) h
theorem findX_e (m l : List UInt8) (es : List Ent) (h : (findX m l es).2.2 ≠ 0) : (findX m l es).2.1 = [] := by
  unfold findX at h ⊢
  split at h
  · rename_i h1
    rw [if_pos h1]
    exact findG_e m l es 0 h
  · rename_i h1
    rw [if_neg h1]
theorem meth_few {B0 : Nat} {p : Pr} {w : World} (h : PrI B0 p w) (l : List UInt8) : (methX l p.es).length ≤ 1000 := by
  unfold methX
  split
  · have h1 := h.tx.few
    have h2 : (methS l p.es).length ≤ p.es.length := by
      rw [methS_len]; unfold methG; rw [List.length_map]; exact List.length_filter_le _ _
    omega
  · simp
section
variable {O : Nat → Nat} {wb : Nat} {V : Nat → Value} {l : Nat → List Value} {vs : Value} {tb : List Pr} {n : Nat} {w0 w : World}
/- what came out of the program is kept -/
theorem keepP_any {wA : World} (h : WI O wb V l vs tb n w0 wA) (hn : n ≤ 1000000) (hb : Below wA.heap.size wA w) (v : Value) (k : Nat) (xs : List Value) (hv : w.ownsRow wA.heap.size 129 2 v k xs) (hk : k ≤ 1000) :
    Calls Tryz.prog 40 #[.pointer (some ⟨wb, 0, none⟩), v] w fun x w' => x = .returned (.tuple #[]) ∧ (∃ O' V' l' tb', WI O' wb V' l' vs tb' (n + 1) w0 w' ∧ tb'.length = tb.length) ∧ ∀ b, b < wA.heap.size → O b = 1 → w'.heap[b]? = wA.heap[b]? := by
  have h2 := h.below hb
  have hlv := owns_blkG hv
  have hVl := owns_blkG (h.rw_ 2 (by omega)).1
  refine (keepParams_any wb w0.heap.size wA.heap.size (wlC V vs) 37 (l 2) (V 2) v k xs w h2.blk rfl (h2.rw_ 2 (by omega)).1 (by have := (h.few 2 (by omega)).1; omega) hv hk (fun e => ?_) (fun r hr e => ?_) (fun e => ?_) (Nat.le_trans h.bel.size hb.size) hb.size).mono ?_
  · have := (hlv wb e).1; have := h.lt; omega
  · have := (hlv r e).1; have := (hVl r hr).2; omega
  · have := (h.rw_ 2 (by omega)).2 wb e; rw [h.oW] at this; omega
  · rintro x w' ⟨rfl, K⟩
    obtain ⟨O', V', l', h3⟩ := h.keep (j := 2) hb (by omega) (fun r hr => (hlv r hr).1) K
    refine ⟨rfl, ⟨O', V', l', tb, h3, rfl⟩, fun b hbb h1 => ?_⟩
    rw [K.kx.2 b (Nat.lt_of_lt_of_le hbb hb.size) ?_, hb.block b hbb]
    simp only [List.cons_append, List.mem_cons, List.mem_append, Option.mem_toList, not_or]
    exact ⟨fun e => by rw [e, h.oW] at h1; omega, fun e => by have := (h.rw_ 2 (by omega)).2 b e; omega, fun e => by have := (hlv b e).1; omega⟩
theorem keepT_any {wA : World} (h : WI O wb V l vs tb n w0 wA) (hn : n ≤ 1000000) (hb : Below wA.heap.size wA w) (v : Value) (k : Nat) (xs : List Value) (hv : w.ownsRow wA.heap.size 9 1 v k xs) (hk : k ≤ 1000) :
    Calls Tryz.prog 44 #[.pointer (some ⟨wb, 0, none⟩), v] w fun x w' => x = .returned (.tuple #[]) ∧ (∃ O' V' l' tb', WI O' wb V' l' vs tb' (n + 1) w0 w' ∧ tb'.length = tb.length) ∧ ∀ b, b < wA.heap.size → O b = 1 → w'.heap[b]? = wA.heap[b]? := by
  have h2 := h.below hb
  have hlv := owns_blkG hv
  have hVl := owns_blkG (h.rw_ 1 (by omega)).1
  refine (keepTexts_any wb w0.heap.size wA.heap.size (wlC V vs) 37 (l 1) (V 1) v k xs w h2.blk rfl (h2.rw_ 1 (by omega)).1 (by have := (h.few 1 (by omega)).1; omega) hv hk (fun e => ?_) (fun r hr e => ?_) (fun e => ?_) (Nat.le_trans h.bel.size hb.size) hb.size).mono ?_
  · have := (hlv wb e).1; have := h.lt; omega
  · have := (hlv r e).1; have := (hVl r hr).2; omega
  · have := (h.rw_ 1 (by omega)).2 wb e; rw [h.oW] at this; omega
  · rintro x w' ⟨rfl, K⟩
    obtain ⟨O', V', l', h3⟩ := h.keep (j := 1) hb (by omega) (fun r hr => (hlv r hr).1) K
    refine ⟨rfl, ⟨O', V', l', tb, h3, rfl⟩, fun b hbb h1 => ?_⟩
    rw [K.kx.2 b (Nat.lt_of_lt_of_le hbb hb.size) ?_, hb.block b hbb]
    simp only [List.cons_append, List.mem_cons, List.mem_append, Option.mem_toList, not_or]
    exact ⟨fun e => by rw [e, h.oW] at h1; omega, fun e => by have := (h.rw_ 1 (by omega)).2 b e; omega, fun e => by have := (hlv b e).1; omega⟩
set_option maxRecDepth 100000 in
set_option maxHeartbeats 8000000 in
theorem tabled_find (h : WI O wb V l vs tb n w0 w) (hn : n ≤ 1000000) {i : Nat} (hi : i < tb.length) (o : OpV) (hk : o.k = 22) (ht : o.t.size ≤ 1048576) :
    Calls Tryz.prog 13 #[.pointer (some ⟨wb, 0, none⟩), .agg (shP tb[i]), .agg o.cs] w fun r w' => r = .returned (.bool true) ∧ (∃ O' V' l' tb', WI O' wb V' l' vs tb' (n + 1) w0 w' ∧ tb'.length = tb.length) ∧ ∀ b, b < w.heap.size → O b = 1 → w'.heap[b]? = w.heap[b]? := by
  obtain ⟨hA, b1, b2⟩ := two_box w (shP tb[i]) o.cs 59 51
  have hW := h.below hA
  have hP := (hW.tab i hi).1
  have HPF := hid (pFind_all (tb[i]).gx (tb[i]).gx (tb[i]).es (tb[i]).v o.s o.t _ hP.tx ht)
  have HRF := hid (fun W (hb : Below ((w.alloc (.cells (shP tb[i]) 59)).alloc (.cells o.cs 51)).heap.size ((w.alloc (.cells (shP tb[i]) 59)).alloc (.cells o.cs 51)) W) => rFind_all (tb[i]).gr (tb[i]).gr (tb[i]).rs (tb[i]).vr o.s o.t W ((hW.below hb).tab i hi).1.tr hP.sp ht)
  rw [← hP.eq, findX_bare] at HRF
  have hfew := find_few hP o.s.data.toList o.t.data.toList
  have hlt := hW.lt
  have HA0 := hid hA
  have HKP := hid (fun w1 v k xs (hb : Below ((w.alloc (.cells (shP tb[i]) 59)).alloc (.cells o.cs 51)).heap.size ((w.alloc (.cells (shP tb[i]) 59)).alloc (.cells o.cs 51)) w1) hv hk => keepP_any (w := w1) hW hn hb v k xs hv hk)
  have hee := findX_e o.s.data.toList o.t.data.toList (tb[i]).es
  generalize findX o.s.data.toList o.t.data.toList (tb[i]).es = R at *
  generalize tb[i] = p at *
  clear h hW hP ht hn
  go_enter Tryz.func13, Tryz.ntmps13
  go_upto_region 1 with fail
  generalize ((w.alloc (.cells (shP p) 59)).alloc (.cells o.cs 51)) = wB at *
  have c0 := (Lib.cell_of_heap b1 (j := 0)).trans (show _ = some (Value.pointer (some ⟨p.gx, 0, none⟩)) from rfl)
  have c1 := (Lib.cell_of_heap b1 (j := 1)).trans (show _ = some (Value.pointer (some ⟨p.gr, 0, none⟩)) from rfl)
  have d0 := (Lib.cell_of_heap b2 (j := 0)).trans (show _ = some (Value.int .i64 o.k) from rfl)
  have d3 := (Lib.cell_of_heap b2 (j := 3)).trans (show _ = some (Value.string o.s) from rfl)
  have d4 := (Lib.cell_of_heap b2 (j := 4)).trans (show _ = some (Value.string o.t) from rfl)
  have l1 := heap_lt b1
  have l2 := heap_lt b2
  rw [hk] at d0
  clear b1 b2
  go_wp2_with fail
  refine HPF.out.mono ?_
  rintro r w1 ⟨⟨vx, rfl, ox⟩, hb1⟩
  obtain ⟨ax, cx, rfl, fx⟩ := pr_at ox
  have c1' := cell_later hb1 c1
  have d3' := cell_later hb1 d3
  have d4' := cell_later hb1 d4
  have l1' : w.heap.size < w1.heap.size := Nat.lt_of_lt_of_le l1 hb1.size
  have l2' : w.heap.size + 1 < w1.heap.size := Nat.lt_of_lt_of_le l2 hb1.size
  have HOX := hid ox
  have HFX := hid fx
  have HB1 := hid hb1
  clear c0 c1 d0 d3 d4 l1 l2 ox fx hb1 HPF
  go_wp2_with fail
  refine (HRF.out w1 HB1.out).mono ?_
  rintro r w2 ⟨⟨vr, rfl, orr⟩, hb2⟩
  obtain ⟨ar, cr, rfl, fr⟩ := pr_at orr
  have hB2 := bel_of HB1.out hb2
  have HSF := hid (Bp.sameFields_any R.2.1 ax ar cx cr w2 (HFX.out.below hb2) fr (by omega))
  have HOX2 := hid (owns_below HOX.out hb2)
  have HB2 := hid hB2
  clear c1' d3' d4' l1' l2' orr fr hb2 hB2 HOX HFX HB1 HRF
  go_wp2_with fail
  refine HSF.out.mono ?_
  rintro r w3 ⟨rfl, hb3⟩
  have HB3 := hid (bel_of HB2.out hb3)
  have HOX3 := hid (owns_below HOX2.out hb3)
  have hlt3 : wb < w3.heap.size := Nat.lt_of_lt_of_le hlt HB3.out.size
  have hz0 : ((R.2.1.length : Int) == 0) = true ∨ ((R.2.2 == 0) = true ∧ ((R.2.1.length : Int) == 0) = false) := by
    by_cases q : R.2.1.length = 0
    · left; rw [q]; rfl
    · right
      refine ⟨?_, by simpa using q⟩
      by_cases q2 : R.2.2 = 0
      · rw [q2]; rfl
      · exact absurd (by rw [hee q2]; rfl) q
  clear hb3 HSF HOX2 HB2 hee
  rcases hz0 with hz | ⟨hz1, hz2⟩
  all_goals
    go_wp2_with (go_at_call 36; refine (Bp.fnum_any _ _).mono ?_; rintro e w' ⟨rfl, hw'⟩; have hw2 := hw'.symm; subst hw2)
    all_goals
      refine (HKP.out w3 _ _ _ HB3.out HOX3.out hfew).mono ?_
      rintro r w4 ⟨rfl, hX, hst⟩
      have HST : Hid (∀ b, b < w.heap.size → O b = 1 → w4.heap[b]? = w.heap[b]?) := fun b hb h1 => by rw [hst b (Nat.lt_of_lt_of_le hb HA0.out.size) h1]; exact HA0.out.block b hb
      clear hst
      go_wp2_with fail
      go_ret
      exact ⟨ret_bool (by simp), hX, HST.out⟩
set_option maxRecDepth 100000 in
set_option maxHeartbeats 8000000 in
theorem tabled_meth (h : WI O wb V l vs tb n w0 w) (hn : n ≤ 1000000) {i : Nat} (hi : i < tb.length) (o : OpV) (hk : o.k = 23) (ht : o.t.size ≤ 1048576) :
    Calls Tryz.prog 13 #[.pointer (some ⟨wb, 0, none⟩), .agg (shP tb[i]), .agg o.cs] w fun r w' => r = .returned (.bool true) ∧ (∃ O' V' l' tb', WI O' wb V' l' vs tb' (n + 1) w0 w' ∧ tb'.length = tb.length) ∧ ∀ b, b < w.heap.size → O b = 1 → w'.heap[b]? = w.heap[b]? := by
  obtain ⟨hA, b1, b2⟩ := two_box w (shP tb[i]) o.cs 59 51
  have hW := h.below hA
  have hP := (hW.tab i hi).1
  have HPF := hid (pMeth_all (tb[i]).gx (tb[i]).gx (tb[i]).es (tb[i]).v o.t _ hP.tx ht)
  have HRF := hid (fun W (hb : Below ((w.alloc (.cells (shP tb[i]) 59)).alloc (.cells o.cs 51)).heap.size ((w.alloc (.cells (shP tb[i]) 59)).alloc (.cells o.cs 51)) W) => rMeth_all (tb[i]).gr (tb[i]).gr (tb[i]).rs (tb[i]).vr o.t W ((hW.below hb).tab i hi).1.tr hP.sp ht)
  rw [← hP.eq, methX_bare] at HRF
  have hfew := meth_few hP o.t.data.toList
  have hlt := hW.lt
  have HA0 := hid hA
  have HKP := hid (fun w1 v k xs (hb : Below ((w.alloc (.cells (shP tb[i]) 59)).alloc (.cells o.cs 51)).heap.size ((w.alloc (.cells (shP tb[i]) 59)).alloc (.cells o.cs 51)) w1) hv hk => keepT_any (w := w1) hW hn hb v k xs hv hk)
  generalize methX o.t.data.toList (tb[i]).es = R at *
  generalize tb[i] = p at *
  clear h hW hP ht hn
  go_enter Tryz.func13, Tryz.ntmps13
  go_upto_region 1 with fail
  generalize ((w.alloc (.cells (shP p) 59)).alloc (.cells o.cs 51)) = wB at *
  have c0 := (Lib.cell_of_heap b1 (j := 0)).trans (show _ = some (Value.pointer (some ⟨p.gx, 0, none⟩)) from rfl)
  have c1 := (Lib.cell_of_heap b1 (j := 1)).trans (show _ = some (Value.pointer (some ⟨p.gr, 0, none⟩)) from rfl)
  have d0 := (Lib.cell_of_heap b2 (j := 0)).trans (show _ = some (Value.int .i64 o.k) from rfl)
  have d4 := (Lib.cell_of_heap b2 (j := 4)).trans (show _ = some (Value.string o.t) from rfl)
  have l1 := heap_lt b1
  have l2 := heap_lt b2
  rw [hk] at d0
  clear b1 b2
  go_wp2_with fail
  refine HPF.out.mono ?_
  rintro r w1 ⟨⟨vx, rfl, ox⟩, hb1⟩
  obtain ⟨ax, cx, rfl, fx⟩ := tx_of ox
  have c1' := cell_later hb1 c1
  have d4' := cell_later hb1 d4
  have l1' : w.heap.size < w1.heap.size := Nat.lt_of_lt_of_le l1 hb1.size
  have l2' : w.heap.size + 1 < w1.heap.size := Nat.lt_of_lt_of_le l2 hb1.size
  have HOX := hid ox
  have HFX := hid fx
  have HB1 := hid hb1
  clear c0 c1 d0 d4 l1 l2 ox fx hb1 HPF
  go_wp2_with fail
  refine (HRF.out w1 HB1.out).mono ?_
  rintro r w2 ⟨⟨vr, rfl, orr⟩, hb2⟩
  obtain ⟨ar, cr, rfl, fr⟩ := tx_of orr
  have hB2 := bel_of HB1.out hb2
  have HSF := hid (sameTexts_any R ax ar cx cr w2 (HFX.out.below hb2) fr (by omega))
  have HOX2 := hid (owns_below HOX.out hb2)
  have HB2 := hid hB2
  clear c1' d4' l1' l2' orr fr hb2 hB2 HOX HFX HB1 HRF
  go_wp2_with fail
  refine HSF.out.mono ?_
  rintro r w3 ⟨rfl, hb3⟩
  have HB3 := hid (bel_of HB2.out hb3)
  have HOX3 := hid (owns_below HOX2.out hb3)
  have hlt3 : wb < w3.heap.size := Nat.lt_of_lt_of_le hlt HB3.out.size
  clear hb3 HSF HOX2 HB2
  go_wp2_with fail
  refine (HKP.out w3 _ _ _ HB3.out HOX3.out hfew).mono ?_
  rintro r w4 ⟨rfl, hX, hst⟩
  have HST : Hid (∀ b, b < w.heap.size → O b = 1 → w4.heap[b]? = w.heap[b]?) := fun b hb h1 => by rw [hst b (Nat.lt_of_lt_of_le hb HA0.out.size) h1]; exact HA0.out.block b hb
  clear hst
  go_wp2_with fail
  go_ret
  exact ⟨rfl, hX, HST.out⟩
/- any call of a table -/
theorem tabled_any (h : WI O wb V l vs tb n w0 w) (hn : n ≤ 1000000) {i : Nat} (hi : i < tb.length) (o : OpV) (hs : o.s.size ≤ 1048576) (ht : o.t.size ≤ 1048576) {mx : Int} (hm : w0.cell? ⟨0, 0, none⟩ = some (.int .i64 mx)) :
    Calls Tryz.prog 13 #[.pointer (some ⟨wb, 0, none⟩), .agg (shP tb[i]), .agg o.cs] w fun r w' => r = .returned (.bool true) ∧ (∃ O' V' l' tb', WI O' wb V' l' vs tb' (n + 1) w0 w' ∧ tb'.length = tb.length) ∧ ∀ b, b < w.heap.size → O b = 1 → w'.heap[b]? = w.heap[b]? := by
  by_cases h1 : o.k = 21
  · exact tabled_add h hi o h1 hs ht hm
  by_cases h2 : o.k = 22
  · exact tabled_find h hn hi o h2 ht
  by_cases h3 : o.k = 23
  · exact tabled_meth h hn hi o h3 ht
  · exact tabled_else h hi o h1 h2 h3
end
end Go.Proofs.YtbiggccolpchcaaGreatDoor
