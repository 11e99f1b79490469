/- Texts that follow one another, joined. -/
import Derived.Test.YtbphabgjhoifbaaGreatDoorJoin12
/- The program's Dispatch, of any configuration, method and target. -/
namespace Go.Proofs.YtbphabgjhoifbaaGreatDoor
open Go.RowKit

theorem dispatch_any (gs B : Nat) (es : List Ent) (v : Value) (m t : ByteArray) (w : World) (hT : TbAt gs 0 B es v w) (hm : m.size ≤ maxLen) (ht : t.size ≤ 140737488350000) (hj : (Lib.join (alwG (Pm.ahead 63 t.data.toList) es) [44, 32]).length ≤ 140737488355328) :
    Calls Tryz.prog 56 #[.pointer (some ⟨gs, 0, none⟩), .string m, .string t] w (DpPost (dspG m.data.toList t.data.toList es) w) := by
  by_cases h : Pm.isMethod m.data.toList = false ∨ Pm.isTarget t.data.toList = false
  · have e : dspG m.data.toList t.data.toList es = ⟨0, 0, [], [], [], 3⟩ := if_pos h
    rw [e]
    exact dispatch_bad _ m t w hm (by omega) h
  · have h1 : Pm.isMethod m.data.toList = true := by cases q : Pm.isMethod m.data.toList; exact absurd (.inl q) h; rfl
    have h2 : Pm.isTarget t.data.toList = true := by cases q : Pm.isTarget t.data.toList; exact absurd (.inr q) h; rfl
    exact dispatch_ok gs B es v m t w hT hm ht h1 h2 hj
/- a site that New has made, at a world where it stands -/
theorem site_join {gs B : Nat} {es : List Ent} {hs : List Hn} {ws : List Wr} {v vh vw : Value} {w : World} {rs : List Rt} (l : List UInt8) (hS : StI gs B es hs ws v vh vw w) (he : es.map Ent.bare = rs.map rtBare) (hr : (rtsE rs [] 0).2 = 0) : (Lib.join (alwG l es) [44, 32]).length ≤ 100000 := by
  refine alw_join l es (fun e hme => ?_) hS.tb.few
  have h1 : e.bare ∈ rs.map rtBare := by rw [← he]; exact List.mem_map.2 ⟨e, hme, rfl⟩
  obtain ⟨r, hr1, hr2⟩ := List.mem_map.1 h1
  have h3 : e.m = r.m := by have := congrArg Ent.m hr2; simpa [rtBare, Ent.bare] using this.symm
  rw [h3]
  exact meth_small (rts_meth rs [] 0 hr r hr1)
end Go.Proofs.YtbphabgjhoifbaaGreatDoor

/- The program's Check. -/
namespace Go.Proofs.YtbphabgjhoifbaaGreatDoor
open Go.RowKit

theorem wrs_zero : ∀ (ws : List Wr) (k : Nat), (wrsE ws k).2 = 0 → (wrsE ws k).1 = 0
  | [], _, _ => rfl
  | x :: xs, k, h => by
    rw [wrsE] at h ⊢
    by_cases h0 : wareB x.k x.n.data.toList x.v.data.toList x.lim = true
    · rw [if_pos h0] at h ⊢; exact wrs_zero xs _ h
    · rw [if_neg h0] at h; simp at h
theorem cfg_zero {hd bd : Int} {rs : List Rt} {ws : List Wr} (h : (cfgE hd bd rs ws).2 = 0) : cfgE hd bd rs ws = (0, 0) := by
  obtain ⟨h1, h2, h3, h4⟩ := cfg_ok h
  have e : cfgE hd bd rs ws = wrsE ws 0 := by
    unfold cfgE at h ⊢
    by_cases k1 : decide (32 ≤ hd ∧ hd ≤ 500 ∧ 0 ≤ bd ∧ bd ≤ 200) = false
    · rw [if_pos k1] at h; simp at h
    · rw [if_neg k1, if_neg (by omega), if_pos h3]
  rw [e]
  exact Prod.ext (wrs_zero ws 0 h4) h4
set_option maxRecDepth 100000 in
set_option maxHeartbeats 1000000 in
theorem check_any (hd bd : Int) (rs : List Rt) (ws : List Wr) (ar : Option Addr) (cr : Nat) (aw : Option Addr) (cw : Nat) (mx : Int) (w : World) (hR : MuAt 6 Rt.cells rs ar w) (hW : MuAt 4 Wr.cells ws aw w) (hro : ∀ r ∈ rs, RtOk r) (hwo : ∀ x ∈ ws, x.n.size ≤ 281474976710656 ∧ x.v.size ≤ 281474976710656) (hm : w.cell? ⟨1, 0, none⟩ = some (.int .i64 mx)) :
    Calls Tryz.prog 19 #[.agg #[.int .i64 hd, .int .i64 bd, .slice ar rs.length cr, .slice aw ws.length cw]] w fun x w' => x = .returned (.tuple #[.int .i64 (cfgE hd bd rs ws).1, .int .i64 (cfgE hd bd rs ws).2]) ∧ Below w.heap.size w w' := by
  have HN := hid (fun W (hb : Below w.heap.size w W) => new_any hd bd rs ws ar cr aw cw mx W (hR.below hb) (hW.below hb) hro hwo (cell_later hb hm))
  have hA := (Below.refl w.heap.size w).alloc (Nat.le_refl _) (.cells #[.int .i64 hd, .int .i64 bd, .slice ar rs.length cr, .slice aw ws.length cw] 27)
  have hz : (cfgE hd bd rs ws).2 = 0 → cfgE hd bd rs ws = (0, 0) := cfg_zero
  generalize cfgE hd bd rs ws = E at *
  clear hR hW hro hwo hm
  go_enter Tryz.func19, Tryz.ntmps19
  go_wp2_with fail
  refine (HN.out _ hA).mono ?_
  rintro x w2 ⟨k1, k2, hb2⟩
  have hB2 := bel_of hA hb2
  by_cases q : E.2 = 0
  · obtain ⟨gs, es, v, vh, vw, rfl, -, -, -⟩ := k2 q
    have hE := hz q
    subst hE
    clear k1 k2 hz HN
    go_wp2
    refine bodyPost_ret (v := .tuple #[.int .i64 0, .int .i64 0]) (by simp [results, Tryz.results19, go_sem]) rfl ?_
    exact ⟨rfl, hB2⟩
  · obtain rfl := k1 q
    clear k1 k2 hz HN
    go_wp2
    refine bodyPost_ret (v := .tuple #[.int .i64 E.1, .int .i64 E.2]) (by simp [results, Tryz.results19, go_sem]) rfl ?_
    exact ⟨rfl, hB2⟩
end Go.Proofs.YtbphabgjhoifbaaGreatDoor

/- The statement's own small helpers: a path ahead of a question mark, the path beside. -/
namespace Go.Proofs.YtbphabgjhoifbaaGreatDoor
open Go.RowKit

theorem takes_ahead : ∀ (l : List UInt8) (k : Nat), k ≤ l.length → (∀ i, i < k → l[i]? ≠ some 63) → (k = l.length ∨ l[k]? = some 63) → l.take k = Pm.ahead 63 l
  | l, 0, _, _, h => by
    rcases h with h | h
    · have : l = [] := List.eq_nil_of_length_eq_zero h.symm
      subst this; rfl
    · cases l with
      | nil => simp at h
      | cons c r => simp at h; subst h; rfl
  | [], k + 1, hk, _, _ => by simp at hk
  | c :: r, k + 1, hk, h1, h2 => by
    have hc : c ≠ 63 := by have := h1 0 (by omega); simpa using this
    have ih := takes_ahead r k (by simpa using hk) (fun i hi => by have := h1 (i + 1) (by omega); simpa using this) (by simpa using h2)
    have hc' : (c != 63) = true := by simpa using hc
    rw [List.take_succ_cons, ih]
    unfold Pm.ahead
    rw [List.takeWhile_cons, if_pos hc']
def besG (l : List UInt8) : List UInt8 := if l = [] ∨ l = [47] then [] else otherL l
end Go.Proofs.YtbphabgjhoifbaaGreatDoor

/- The statement's own small configuration. -/
namespace Go.Proofs.YtbphabgjhoifbaaGreatDoor
open Go.RowKit

theorem flatMap_get {α : Type} {sz : Nat} {f : α → List Value} (hf : ∀ x, (f x).length = sz) : ∀ (l : List α) (i : Nat) (h : i < l.length) (j : Nat) (v : Value), (f l[i])[j]? = some v → (l.flatMap f)[i * sz + j]? = some v
  | [], i, h, _, _, _ => absurd h (by simp)
  | x :: r, 0, _, j, v, hv => by
    rw [List.flatMap_cons]
    simp only [Nat.zero_mul, Nat.zero_add]
    simp only [List.getElem_cons_zero] at hv
    obtain ⟨hj, rfl⟩ := List.getElem?_eq_some_iff.1 hv
    rw [List.getElem?_append_left hj]; exact hv
  | x :: r, i + 1, h, j, v, hv => by
    have ih := flatMap_get hf r i (by simpa using h) j v (by simpa using hv)
    rw [List.flatMap_cons, List.getElem?_append_right (by rw [hf x, Nat.succ_mul]; omega), hf x]
    rw [show (i + 1) * sz + j - sz = i * sz + j by rw [Nat.succ_mul]; omega]
    exact ih
theorem mu_of_block {α : Type} {sz : Nat} {f : α → List Value} (hf : ∀ x, (f x).length = sz) {l : List α} {g : Nat} {cur : Array Value} {e : TypeId} {w : World} (hb : w.heap[g]? = some (.cells cur e (0, 0))) (hc : cur.toList = l.flatMap f) : MuAt sz f l (some ⟨g, 0, none⟩) w := fun i hi => by
  refine ⟨g, 0, rfl, (Array.getElem?_eq_some_iff.1 hb).1, fun j v hv => ?_⟩
  have := flatMap_get hf l i hi j v hv
  rw [Lib.cell_of_heap hb, Nat.zero_add, ← Array.getElem?_toList, hc]
  exact this
theorem six_alloc (w : World) (o1 o2 o3 o4 o5 o6 : Obj) : Below w.heap.size w ((((((w.alloc o1).alloc o2).alloc o3).alloc o4).alloc o5).alloc o6) ∧ ((((((w.alloc o1).alloc o2).alloc o3).alloc o4).alloc o5).alloc o6).heap[w.heap.size + 1 + 1 + 1 + 1]? = some o5 := by
  have b1 := (Below.refl w.heap.size w).alloc (Nat.le_refl _) o1
  have b2 := b1.alloc b1.size o2
  have b3 := b2.alloc b2.size o3
  have b4 := b3.alloc b3.size o4
  have b5 := b4.alloc b4.size o5
  have b6 := b5.alloc b5.size o6
  refine ⟨b6, ?_⟩
  have hz : ((((w.alloc o1).alloc o2).alloc o3).alloc o4).heap.size = w.heap.size + 1 + 1 + 1 + 1 := by simp
  have hn := heap_alloc_new ((((w.alloc o1).alloc o2).alloc o3).alloc o4) o5
  rw [hz] at hn
  generalize hW : (((((w.alloc o1).alloc o2).alloc o3).alloc o4).alloc o5) = W at *
  have c := (Below.refl W.heap.size W).alloc (Nat.le_refl _) o6
  have hl : w.heap.size + 1 + 1 + 1 + 1 < W.heap.size := (Array.getElem?_eq_some_iff.1 hn).1
  rw [c.block _ hl]
  exact hn
def smallR : List Rt := [⟨⟨#[71, 69, 84]⟩, ⟨#[47, 104, 105, 47, 58, 110, 97, 109, 101]⟩, ⟨2, 200, ⟨#[]⟩, ⟨#[110, 97, 109, 101]⟩⟩⟩, ⟨⟨#[71, 69, 84]⟩, ⟨#[47, 117, 112]⟩, ⟨4, 200, ⟨#[]⟩, ⟨#[]⟩⟩⟩, ⟨⟨#[71, 69, 84]⟩, ⟨#[47, 108, 97, 98, 101, 108, 47, 42, 120]⟩, ⟨3, 204, ⟨#[88, 45, 73, 116]⟩, ⟨#[120]⟩⟩⟩]
set_option maxRecDepth 100000 in
set_option maxHeartbeats 1000000 in
theorem small_any (w : World) :
    Calls Tryz.prog 18 #[.bool false] w fun x w' => (∃ g, w.heap.size < g ∧ x = .returned (.agg #[.int .i64 200, .int .i64 50, .slice (some ⟨g, 0, none⟩) 3 3, .slice none 0 0]) ∧ MuAt 6 Rt.cells smallR (some ⟨g, 0, none⟩) w') ∧ Below w.heap.size w w' := by
  go_enter Tryz.func18, Tryz.ntmps18
  go_wp2
  refine bodyPost_ret (v := .agg #[.int .i64 200, .int .i64 50, .slice (some ⟨w.heap.size + 1 + 1 + 1 + 1, 0, none⟩) 3 3, .slice none 0 0]) (by simp [results, Tryz.results18, go_sem]) rfl ?_
  refine ⟨⟨w.heap.size + 1 + 1 + 1 + 1, by omega, rfl, ?_⟩, (six_alloc w _ _ _ _ _ _).1⟩
  refine mu_of_block (sz := 6) (f := Rt.cells) (l := smallR) (fun _ => rfl) (six_alloc w _ _ _ _ _ _).2 ?_
  rfl
end Go.Proofs.YtbphabgjhoifbaaGreatDoor

/- The statement's own 'right' and 'route'. -/
namespace Go.Proofs.YtbphabgjhoifbaaGreatDoor
open Go.RowKit

set_option maxRecDepth 100000 in
set_option maxHeartbeats 400000 in
theorem tFind_no (p : Value) (m s : ByteArray) (w : World) (hp : Pm.isPath s.data.toList = false) (hs : s.size ≤ 140737488355328) :
    Calls Tryz.prog 110 #[p, .string m, .string s] w fun r w' => r = .returned (.tuple #[.int .i64 0, .slice none 0 0, .int .i64 3]) ∧ Below w.heap.size w w' := by
  have HIP := hid (fun W => wIsPath_any s W hs)
  rw [hp] at HIP
  go_enter Tryz.func110, Tryz.ntmps110
  go_wp2_with fail
  refine (HIP.out _).mono ?_
  rintro e w1 ⟨rfl, hb1⟩
  go_wp2_with fail
  refine bodyPost_ret (v := .tuple #[.int .i64 0, .slice none 0 0, .int .i64 3]) (by simp [results, Tryz.results110, go_sem]) rfl ?_
  exact ⟨rfl, hb1⟩
/- which route it is: none, or its number and parameters -/
def rouG (m l : List UInt8) (es : List Ent) : Int × List Prm := if Pm.isPath l = true ∧ (leadG m l es).2.2 = 0 then ((leadG m l es).1, (leadG m l es).2.1) else (-1, [])
def RoPost (F : Int × List Prm) (w : World) (x : Ending) (w' : World) : Prop :=
  (∃ vv, x = .returned (.tuple #[.int .i64 F.1, vv]) ∧ w'.ownsRow w.heap.size 256 2 vv F.2.length (prCells F.2)) ∧ Below w.heap.size w w'
end Go.Proofs.YtbphabgjhoifbaaGreatDoor
