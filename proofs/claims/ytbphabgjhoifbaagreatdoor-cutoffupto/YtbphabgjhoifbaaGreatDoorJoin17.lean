/- Texts that follow one another, joined. -/
import Derived.Test.YtbphabgjhoifbaaGreatDoorJoin16
import Derived.Deep.AppendLies
import Derived.Defers
import Derived.Recover
/- What comes of a request, told as going inwards and outwards again: plain mathematics. -/
namespace Go.Proofs.YtbphabgjhoifbaaGreatDoor
open Go.RowKit

def blkG (x : Wr) (qf : List Prm) (qb : ByteArray) : Int :=
  if x.k = 1 ∧ x.v.data.toList ∉ (valsOf qf x.n.data.toList).map (fun b => b.data.toList) then 403 else if x.k = 2 ∧ x.lim < (qb.size : Int) then 413 else 0
def deepG (qf : List Prm) (qb : ByteArray) : List Wr → Nat × Int
  | [] => (0, 0)
  | x :: r => if blkG x qf qb = 0 then ((deepG qf qb r).1 + 1, (deepG qf qb r).2) else (0, blkG x qf qb)
def stepG (x : Wr) (qf : List Prm) (G : Option An) : Option An :=
  if x.k = 0 then G.map fun a => ⟨a.st, a.fs ++ [(x.n, x.v)], a.b⟩
  else if x.k = 3 then (match G with
    | none => some ⟨500, [], savedB⟩
    | some a => some a)
  else if x.k = 4 then G.map fun a => ⟨a.st, a.fs ++ (valsOf qf x.n.data.toList).map (fun v => (x.n, v)), a.b⟩
  else G
def aroG (qf : List Prm) (G : Option An) : List Wr → Option An
  | [] => G
  | x :: r => stepG x qf (aroG qf G r)
theorem ware_split (x : Wr) (qf : List Prm) (qb : ByteArray) (G : Option An) : wareG x qf qb G = if blkG x qf qb = 0 then stepG x qf G else some ⟨blkG x qf qb, [], ⟨#[]⟩⟩ := by
  by_cases h1 : x.k = 1
  · by_cases hm : x.v.data.toList ∈ (valsOf qf x.n.data.toList).map (fun b => b.data.toList)
    · have hb : blkG x qf qb = 0 := by
        unfold blkG; rw [if_neg (fun h => h.2 hm), if_neg (fun h => by omega)]
      rw [hb, if_pos rfl]
      unfold wareG stepG
      rw [if_neg (by omega), if_pos h1, if_pos hm, if_neg (by omega), if_neg (by omega), if_neg (by omega)]
    · have hb : blkG x qf qb = 403 := by unfold blkG; rw [if_pos ⟨h1, hm⟩]
      rw [hb, if_neg (by decide)]
      unfold wareG
      rw [if_neg (by omega), if_pos h1, if_neg hm]
  by_cases h2 : x.k = 2
  · by_cases hl : x.lim < (qb.size : Int)
    · have hb : blkG x qf qb = 413 := by unfold blkG; rw [if_neg (fun h => h1 h.1), if_pos ⟨h2, hl⟩]
      rw [hb, if_neg (by decide)]
      unfold wareG
      rw [if_neg (by omega), if_neg h1, if_pos h2, if_pos hl]
    · have hb : blkG x qf qb = 0 := by unfold blkG; rw [if_neg (fun h => h1 h.1), if_neg (fun h => hl h.2)]
      rw [hb, if_pos rfl]
      unfold wareG stepG
      rw [if_neg (by omega), if_neg h1, if_pos h2, if_neg hl, if_neg (by omega), if_neg (by omega), if_neg (by omega)]
  have hb : blkG x qf qb = 0 := by unfold blkG; rw [if_neg (fun h => h1 h.1), if_neg (fun h => h2 h.1)]
  rw [hb, if_pos rfl]
  unfold wareG stepG
  rw [if_neg h1, if_neg h2]
  cases G <;> rfl
theorem thr_deep (qf : List Prm) (qb : ByteArray) (h : Hn) (ps : List Prm) : ∀ ws : List Wr, thrG qf qb h ps ws = aroG qf (if (deepG qf qb ws).2 = 0 then handG h qb ps else some ⟨(deepG qf qb ws).2, [], ⟨#[]⟩⟩) (ws.take (deepG qf qb ws).1)
  | [] => by simp [thrG, aroG, deepG]
  | x :: r => by
    rw [thrG, ware_split, deepG]
    by_cases hb : blkG x qf qb = 0
    · rw [if_pos hb, if_pos hb]
      simp only [List.take_succ_cons, aroG]
      rw [← thr_deep qf qb h ps r]
    · rw [if_neg hb, if_neg hb]
      simp [aroG, hb]
theorem deep_le (qf : List Prm) (qb : ByteArray) : ∀ ws : List Wr, (deepG qf qb ws).1 ≤ ws.length
  | [] => by simp [deepG]
  | x :: r => by
    have := deep_le qf qb r
    rw [deepG]
    split
    · simp; omega
    · simp
/- the whole answer -/
structure Rp where
  st : Int
  fs : List Prm
  b : ByteArray
  cl : Bool
  e : Int
def finG (sh : Bool) : Option An → Rp
  | none => ⟨500, [], ⟨#[]⟩, true, 0⟩
  | some a => if a.fs.any (fun p => endG p.2) = true then ⟨500, [], ⟨#[]⟩, sh, 0⟩ else ⟨a.st, a.fs, a.b, sh, 0⟩
def hdOf (rs : List Rt) (k : Nat) : Hn := match rs[k]? with
  | some r => r.h
  | none => ⟨0, 0, ⟨#[]⟩, ⟨#[]⟩⟩
def toG (R : DsR) (rs : List Rt) (ws : List Wr) (qf : List Prm) (qb : ByteArray) : Option An :=
  if R.st = 200 then thrG qf qb (hdOf rs R.ro) R.ps ws else some (restG R.st ⟨R.al.toArray⟩ ⟨R.lo.toArray⟩)
def repD (R : DsR) (rs : List Rt) (ws : List Wr) (qf : List Prm) (qb : ByteArray) : Rp :=
  if R.e = 0 then finG (askG qf) (toG R rs ws qf qb) else ⟨0, [], ⟨#[]⟩, false, R.e⟩
def RyPost (R : Rp) (w : World) (x : Ending) (w' : World) : Prop :=
  (∃ vv, x = .returned (.tuple #[.agg #[.int .i64 R.st, vv, .string R.b, .bool R.cl], .int .i64 R.e]) ∧ w'.ownsRow w.heap.size 133 2 vv R.fs.length (prCells R.fs)) ∧ Below w.heap.size w w'
end Go.Proofs.YtbphabgjhoifbaaGreatDoor

/- Where a request leads: its texts end no line. -/
namespace Go.Proofs.YtbphabgjhoifbaaGreatDoor
open Go.RowKit

def enL (l : List UInt8) : Bool := l.any fun x => x == 13 || x == 10 || x == 0
theorem enL_app (a b : List UInt8) : enL (a ++ b) = (enL a || enL b) := by simp [enL]
theorem enL_of {l : List UInt8} (h : ∀ x ∈ l, 32 ≤ x.toNat) : enL l = false := by
  unfold enL
  rw [List.any_eq_false]
  intro x hx he
  have h1 := h x hx
  simp only [Bool.or_eq_true, beq_iff_eq] at he
  rcases he with (rfl | rfl) | rfl <;> simp at h1
theorem endG_L (v : ByteArray) : endG v = enL v.data.toList := rfl
theorem findG_lt (m l : List UInt8) : ∀ (es : List Ent) (k : Nat), (findG m l es k).2.2 = 0 → (findG m l es k).1 < k + es.length
  | [], k, h => by simp [findG] at h
  | e :: r, k, h => by
    rw [findG] at h ⊢
    by_cases he : e.m.data.toList = m
    · rw [if_pos he] at h ⊢
      cases hm : matchB e.ps (l.drop 1) true [] with
      | some fs => simp
      | none =>
        rw [hm] at h
        have := findG_lt m l r (k + 1) h
        simp only [List.length_cons]; omega
    · rw [if_neg he] at h ⊢
      have := findG_lt m l r (k + 1) h
      simp only [List.length_cons]; omega
theorem leadG_lt {m l : List UInt8} {es : List Ent} (h : (leadG m l es).2.2 = 0) : (leadG m l es).1 < es.length := by
  unfold leadG at h ⊢
  by_cases hc : (findG m l es 0).2.2 ≠ 0 ∧ m = hdL
  · rw [if_pos hc] at h ⊢; have := findG_lt gtL l es 0 h; omega
  · rw [if_neg hc] at h ⊢; have := findG_lt m l es 0 h; omega
theorem tok_vis (c : UInt8) (h : Pm.tokB c = true) : 32 ≤ c.toNat := by
  have := Pm.all256 (p := fun c => !Pm.tokB c || decide (32 ≤ c.toNat)) (by decide +kernel) c
  rw [h] at this
  simpa using this
theorem meth_end {m : List UInt8} (h : Pm.isMethod m = true) : m ≠ [] ∧ ∀ x ∈ m, 32 ≤ x.toNat := by
  unfold Pm.isMethod Pm.isTok at h
  simp only [Bool.and_eq_true] at h
  refine ⟨fun e => by rw [e] at h; simp at h, fun x hx => tok_vis x ?_⟩
  exact List.all_eq_true.1 h.2.2 x hx
theorem join_vis (sep : List UInt8) (hs : ∀ x ∈ sep, 32 ≤ x.toNat) : ∀ l : List (List UInt8), (∀ m ∈ l, ∀ x ∈ m, 32 ≤ x.toNat) → ∀ x ∈ Lib.join l sep, 32 ≤ x.toNat
  | [], _, x, hx => by simp [Lib.join, List.intercalate] at hx
  | [y], h, x, hx => h y (by simp) x (by simpa [Lib.join, List.intercalate] using hx)
  | y :: z :: r, h, x, hx => by
    have e : Lib.join (y :: z :: r) sep = y ++ (sep ++ Lib.join (z :: r) sep) := by simp [Lib.join, List.intercalate, List.intersperse]
    rw [e] at hx
    rcases List.mem_append.1 hx with hx | hx
    · exact h y (by simp) x hx
    · rcases List.mem_append.1 hx with hx | hx
      · exact hs x hx
      · exact join_vis sep hs (z :: r) (fun m hm => h m (by simp [hm])) x hx
theorem join_ne (sep : List UInt8) : ∀ l : List (List UInt8), l ≠ [] → (∀ m ∈ l, m ≠ []) → Lib.join l sep ≠ []
  | [], h, _ => absurd rfl h
  | y :: r, _, h => by
    rw [Lib.join_cons]
    intro e
    exact h y (by simp) (List.append_eq_nil_iff.1 e).1
theorem other_vis {l : List UInt8} (h : ∀ x ∈ l, 32 ≤ x.toNat) : ∀ x ∈ otherL l, 32 ≤ x.toNat := by
  intro x hx
  unfold otherL at hx
  split at hx
  · exact h x (List.mem_of_mem_take hx)
  · rcases List.mem_append.1 hx with hx | hx
    · exact h x hx
    · simp at hx; subst hx; decide
structure DsOk (R : DsR) (n : Nat) : Prop where
  ro : R.st = 200 → R.ro < n
  lo : R.st = 301 ∨ R.st = 308 → R.lo ≠ [] ∧ enL R.lo = false ∧ R.al = []
  al : R.st = 405 → R.al ≠ [] ∧ enL R.al = false ∧ R.lo = []
  no : ¬ (R.st = 301 ∨ R.st = 308) → R.st ≠ 405 → R.lo = [] ∧ R.al = []
theorem dsp_ok (m t : List UInt8) (es : List Ent) (hm : ∀ e ∈ es, Pm.isMethod e.m.data.toList = true) (h : (dspG m t es).e = 0) : DsOk (dspG m t es) es.length := by
  unfold dspG at h ⊢
  by_cases hb : Pm.isMethod m = false ∨ Pm.isTarget t = false
  · rw [if_pos hb] at h; simp at h
  rw [if_neg hb]
  have ht : Pm.isTarget t = true := by cases q : Pm.isTarget t; exact absurd (.inr q) hb; rfl
  rw [Pm.isTarget_path, Bool.and_eq_true] at ht
  have hv : ∀ x ∈ t, 32 ≤ x.toNat := fun x hx => by
    have := List.all_eq_true.1 ht.2 x hx
    unfold Pm.tgtB at this
    simp only [Bool.and_eq_true, decide_eq_true_eq] at this
    omega
  have hva : ∀ x ∈ Pm.ahead 63 t, 32 ≤ x.toNat := fun x hx => hv x (List.takeWhile_subset _ hx)
  have hvb : ∀ x ∈ Pm.behind 63 t, 32 ≤ x.toNat := fun x hx => hv x ((List.dropWhile_sublist _).subset hx)
  by_cases h1 : (leadG m (Pm.ahead 63 t) es).2.2 = 0
  · rw [if_pos h1]
    exact ⟨fun _ => leadG_lt h1, fun q => by simp at q, fun q => by simp at q, fun _ _ => ⟨rfl, rfl⟩⟩
  rw [if_neg h1]
  by_cases h2 : (otG m (Pm.ahead 63 t) es).2 = true
  · rw [if_pos h2]
    have hne : Pm.ahead 63 t ≠ [47] := fun e => by unfold otG at h2; rw [if_pos e] at h2; simp at h2
    have hp := other_path ht.1 hne
    have e1 : (otG m (Pm.ahead 63 t) es).1 = otherL (Pm.ahead 63 t) := by unfold otG; rw [if_neg hne]
    have hmv : movG m = 301 ∨ movG m = 308 := by unfold movG; split <;> simp
    refine ⟨fun q => ?_, fun _ => ⟨?_, ?_, rfl⟩, fun q => ?_, fun q _ => absurd hmv q⟩
    · have q' : movG m = 200 := q
      rcases hmv with h | h <;> rw [h] at q' <;> simp at q'
    · intro e
      have e2 := (List.append_eq_nil_iff.1 e).1
      rw [e1] at e2
      have := hp.2.1
      rw [e2] at this
      simp at this
    · show enL (_ ++ _) = false
      rw [e1, enL_app, enL_of (other_vis hva), enL_of hvb]; rfl
    · have q' : movG m = 405 := q
      rcases hmv with h | h <;> rw [h] at q' <;> simp at q'
  rw [if_neg h2]
  by_cases h3 : alwG (Pm.ahead 63 t) es ≠ []
  · rw [if_pos h3]
    have hmm : ∀ x ∈ alwG (Pm.ahead 63 t) es, x ≠ [] ∧ ∀ y ∈ x, 32 ≤ y.toNat := fun x hx => by
      rcases alw_mem hx with rfl | ⟨e, he, rfl⟩
      · exact ⟨by decide, by decide⟩
      · exact meth_end (hm e he)
    refine ⟨fun q => by simp at q, fun q => by simp at q, fun _ => ⟨join_ne _ _ h3 (fun x hx => (hmm x hx).1), ?_, rfl⟩, fun _ q => absurd rfl q⟩
    exact enL_of (join_vis _ (by decide) _ (fun x hx => (hmm x hx).2))
  · rw [if_neg h3]
    exact ⟨fun q => by simp at q, fun q => by simp at q, fun q => by simp at q, fun _ _ => ⟨rfl, rfl⟩⟩
theorem pd_ok (hd bd : Int) (rs : List Rt) (ws : List Wr) (m t : List UInt8) (h : (pdG hd bd rs ws m t).e = 0) : DsOk (pdG hd bd rs ws m t) rs.length := by
  unfold pdG at h ⊢
  by_cases hc : (cfgE hd bd rs ws).2 = 0
  · rw [if_pos hc] at h ⊢
    have := dsp_ok m t (rs.map rtBare) (fun e he => by
      obtain ⟨r, hr, rfl⟩ := List.mem_map.1 he
      exact rts_meth rs [] 0 (cfg_ok hc).2.2.1 r hr) h
    simpa using this
  · rw [if_neg hc] at h; exact absurd h hc
end Go.Proofs.YtbphabgjhoifbaaGreatDoor

/- Fields more. -/
namespace Go.Proofs.YtbphabgjhoifbaaGreatDoor
open Go.RowKit

theorem infoFd : (Tryz.prog.info? 133).map (fun i => (i.zero, i.size, i.bytes)) = some (some (.agg #[.string ⟨#[]⟩, .string ⟨#[]⟩]), 2, 32) := by kernel_rfl
theorem AnB.set1 {g : Nat} {st : Int} {vv : Value} {b : ByteArray} {cl : Bool} {w : World} (h : AnB g st vv b cl w) (v' : Value) : AnB g st v' b cl (w.setCell ⟨g, 1, none⟩ v') := by
  unfold AnB at *
  rw [heap_setCell_same _ g 1 _ _ _ h]; rfl
theorem AnB.keep {g : Nat} {st : Int} {vv : Value} {b : ByteArray} {cl : Bool} {w w' : World} (h : AnB g st vv b cl w) (hk : w'.heap[g]? = w.heap[g]?) : AnB g st vv b cl w' := by
  unfold AnB at *; rw [hk]; exact h
theorem StAt.keep {l : List ByteArray} {a : Option Addr} {w w' : World} (h : StAt l a w) (hz : w.heap.size ≤ w'.heap.size) (hk : ∀ g, a = some ⟨g, 0, none⟩ → w'.heap[g]? = w.heap[g]?) : StAt l a w' := fun i hi => by
  obtain ⟨g, h1, h2, h3⟩ := h i hi
  exact ⟨g, h1, Nat.lt_of_lt_of_le h2 hz, by rw [World.cell?_of_block (hk g h1)]; exact h3⟩
structure WfI (st : Int) (b n : ByteArray) (cl : Bool) (fs : List Prm) (vals : List ByteArray) (va : Option Addr) (B : Nat) (w : World) (k : Nat) (vk : Value) (wr : World) : Prop where
  a : AnB w.heap.size st vk b cl wr
  r : AnB (w.heap.size + 1) 0 (.slice none 0 0) ⟨#[]⟩ false wr
  o : wr.ownsRow B 133 2 vk (fs ++ (vals.take k).map (fun v => (n, v))).length (prCells (fs ++ (vals.take k).map (fun v => (n, v))))
  n1 : vk.ownBlock ≠ some w.heap.size
  n2 : vk.ownBlock ≠ some (w.heap.size + 1)
  nv : ∀ g, va = some ⟨g, 0, none⟩ → vk.ownBlock ≠ some g
  s : StAt vals va wr
  bl : Below B w wr
theorem WfI.next {st : Int} {b n : ByteArray} {cl : Bool} {fs : List Prm} {vals : List ByteArray} {va : Option Addr} {B : Nat} {w : World} {k : Nat} {vk : Value} {wr w4 : World} {gg cap N : Nat} {x : ByteArray} (h : WfI st b n cl fs vals va B w k vk wr) (hk : k < vals.length) (hx : vals[k] = x) (hlv : ∀ g, va = some ⟨g, 0, none⟩ → g < w.heap.size) (hB : B ≤ w.heap.size) {E : Obj}
    (hN : N = (fs ++ (vals.take k).map (fun v => (n, v))).length) (hgrow : (wr.alloc E).grownBy w4 vk.ownBlock)
    (hown : w4.ownsRow B 133 2 (.slice (some ⟨gg, 0, none⟩) (N + 1) cap) (N + 1) (prCells (fs ++ (vals.take k).map (fun v => (n, v))) ++ [.string n, .string x])) (hat : vk.ownBlock = some gg ∨ gg = wr.heap.size + 1) :
    WfI st b n cl fs vals va B w (k + 1) (.slice (some ⟨gg, 0, none⟩) (N + 1) cap) (w4.setCell ⟨w.heap.size, 1, none⟩ (.slice (some ⟨gg, 0, none⟩) (N + 1) cap)) ∧ w4.cell? ⟨w.heap.size, 1, none⟩ = some vk ∧ w4.frozen? ⟨w.heap.size, 1, none⟩ = false ∧ w.heap.size < w4.heap.size := by
  have hb3 : Below wr.heap.size wr (wr.alloc E) := (Below.refl _ _).alloc (Nat.le_refl _) E
  have la := h.a.lt
  have lr := h.r.lt
  have z2 := hb3.size
  have z3 := hgrow.size
  have zz : (wr.alloc E).heap.size = wr.heap.size + 1 := by simp
  have blk : ∀ g, g < wr.heap.size → vk.ownBlock ≠ some g → w4.heap[g]? = wr.heap[g]? := fun g hg hn => by
    rw [hgrow.block g (by omega) (fun e => hn e.symm), hb3.block g hg]
  have a4 := h.a.keep (blk _ la h.n1)
  have r4 := h.r.keep (blk _ lr h.n2)
  have hne : gg ≠ w.heap.size := by
    rcases hat with e | e
    · intro e2; rw [e2] at e; exact h.n1 e
    · omega
  have oth : ∀ g, g ≠ w.heap.size → (w4.setCell ⟨w.heap.size, 1, none⟩ (.slice (some ⟨gg, 0, none⟩) (N + 1) cap)).heap[g]? = w4.heap[g]? := fun g hg => heap_setCell_other w4 ⟨w.heap.size, 1, none⟩ g _ hg
  have e : fs ++ (vals.take (k + 1)).map (fun v => (n, v)) = (fs ++ (vals.take k).map (fun v => (n, v))) ++ [(n, x)] := by
    rw [List.take_succ_eq_append_getElem hk, List.map_append, hx, List.append_assoc]; rfl
  refine ⟨⟨a4.set1 _, r4.keep (oth _ (by omega)), ?_, by simp [Value.ownBlock, hne], ?_, ?_, ?_, ?_⟩, a4.cells.2.1, a4.free 1, a4.lt⟩
  · rw [e, List.length_append, prCells_snoc, ← hN]
    exact owns_not hown (by simp [Value.ownBlock, hne]) 1 _
  · rcases hat with q | q
    · have := h.n2; rw [q] at this; simpa [Value.ownBlock] using this
    · simp [Value.ownBlock]; omega
  · intro g hg
    rcases hat with q | q
    · have := h.nv g hg; rw [q] at this; simpa [Value.ownBlock] using this
    · have := hlv g hg
      simp [Value.ownBlock]; omega
  · refine h.s.keep (by simp; omega) (fun g hg => ?_)
    have hl := hlv g hg
    rw [oth g (by omega), blk g (by omega) (h.nv g hg)]
  · exact ((h.bl.trans (hb3.mono (by have := h.bl.size; omega))).grown hgrow (by have := h.bl.size; omega) (fun r hr => own_ge h.o r hr)).setCell hB _
set_option maxRecDepth 100000 in
set_option maxHeartbeats 4000000 in
theorem withFields_any (st : Int) (fs : List Prm) (vv : Value) (b n : ByteArray) (cl : Bool) (vals : List ByteArray) (va : Option Addr) (vc B : Nat) (w : World) (ho : w.ownsRow B 133 2 vv fs.length (prCells fs)) (hB : B ≤ w.heap.size) (hv : StAt vals va w) (hlv : ∀ g, va = some ⟨g, 0, none⟩ → g < w.heap.size) (hvb : ∀ g, va = some ⟨g, 0, none⟩ → vv.ownBlock ≠ some g) (hl : fs.length + vals.length ≤ 100000000) :
    Calls Tryz.prog 150 #[.agg #[.int .i64 st, vv, .string b, .bool cl], .string n, .slice va vals.length vc] w fun x w' => (∃ vv', x = .returned (.agg #[.int .i64 st, vv', .string b, .bool cl]) ∧ w'.ownsRow B 133 2 vv' (fs ++ vals.map (fun v => (n, v))).length (prCells (fs ++ vals.map (fun v => (n, v))))) ∧ Below B w w' := by
  obtain ⟨i0, hi, hz0, hz1, hz2⟩ := info_parts infoFd
  have hA1 := (Below.refl w.heap.size w).alloc (Nat.le_refl _) (.cells #[.int .i64 st, vv, .string b, .bool cl] 64)
  have hA := hA1.alloc hA1.size (.cells #[.int .i64 0, .slice none 0 0, .string ⟨#[]⟩, .bool false] 64)
  have z1 : (w.alloc (.cells #[.int .i64 st, vv, .string b, .bool cl] 64)).heap.size = w.heap.size + 1 := by simp
  have g0 : AnB w.heap.size st vv b cl (w.alloc (.cells #[.int .i64 st, vv, .string b, .bool cl] 64)) := heap_alloc_new w _
  have g1 := g0.below ((Below.refl _ _).alloc (Nat.le_refl _) (.cells #[.int .i64 0, .slice none 0 0, .string ⟨#[]⟩, .bool false] 64))
  have h0 : AnB (w.heap.size + 1) 0 (.slice none 0 0) ⟨#[]⟩ false ((w.alloc (.cells #[.int .i64 st, vv, .string b, .bool cl] 64)).alloc (.cells #[.int .i64 0, .slice none 0 0, .string ⟨#[]⟩, .bool false] 64)) := by
    rw [← z1]; exact heap_alloc_new _ _
  have I0 : Hid (WfI st b n cl fs vals va B w 0 vv ((w.alloc (.cells #[.int .i64 st, vv, .string b, .bool cl] 64)).alloc (.cells #[.int .i64 0, .slice none 0 0, .string ⟨#[]⟩, .bool false] 64))) :=
    ⟨g1, h0, by simpa using owns_below ho hA, fun e => by have := (own_ltw ho _ e); omega, fun e => by have := (own_ltw ho _ e); omega, hvb, hv.below hA, hA.mono hB⟩
  have HLV := hid hlv
  clear g0 g1 h0 z1 ho hv hvb hA1 hlv
  obtain ⟨av, cv, hvv⟩ : ∃ a c, vv = .slice a fs.length c := by
    have := I0.out.o
    simp only [List.take_zero, List.map_nil, List.append_nil] at this
    exact sl_of this
  subst hvv
  go_enter Tryz.func150, Tryz.ntmps150
  go_wp2_with fail
  generalize (w.alloc (.cells #[.int .i64 st, .slice av fs.length cv, .string b, .bool cl] 64)).alloc (.cells #[.int .i64 0, .slice none 0 0, .string ⟨#[]⟩, .bool false] 64) = w1 at *
  go_loopw [11] (fun i wr => ∃ (k : Nat) (vk : Value), k ≤ vals.length ∧ i = .int .i64 k ∧ Hid (WfI st b n cl fs vals va B w k vk wr)) (fun i _ => vals.length - (intOf i).toNat)
  case atStart => exact ⟨0, _, Nat.zero_le _, rfl, I0⟩
  case round =>
    clear I0
    obtain ⟨k, vk, hk, rfl, I⟩ := hrel
    have la := I.out.a.lt
    obtain ⟨x0, x1, x2, x3⟩ := I.out.a.cells
    by_cases hlt : k < vals.length
    · obtain ⟨g, rfl, hg, hc⟩ := I.out.s k hlt
      obtain ⟨xv, hxv⟩ : ∃ xv, vals[k] = xv := ⟨_, rfl⟩
      rw [hxv] at hc
      have HN := hid (fun N gg cap w4 E hN hgrow hown hat => I.out.next (x := xv) (N := N) (gg := gg) (cap := cap) (w4 := w4) (E := E) hlt hxv HLV.out hB hN hgrow hown hat)
      have ow := I.out.o
      have hlen : (fs ++ (vals.take k).map (fun v => (n, v))).length = fs.length + k := by simp; omega
      generalize hFS : fs ++ (vals.take k).map (fun v => (n, v)) = FS at *
      have hfz : FS.length ≤ 100000000 := by omega
      obtain ⟨ak, ck, rfl⟩ := sl_of ow
      have hbz := I.out.bl.size
      have hBr : B ≤ wr.heap.size := by omega
      clear I hxv hlen
      go_wp2_with (at_builtin; refine wpList_append_lies _ rfl _ _ 56 rfl B 133 i0 _ 2 32 Tryz.underlying56 hi hz0 hz1 hz2 rfl (by omega) (.slice ak FS.length ck) FS.length (prCells FS) rfl (ow.alloc _) ⟨wr.heap.size, 0, none⟩ 1 1 [.string n, .string xv] rfl rfl (World.news_of_block (cs := #[.string n, .string xv]) (t := 133) (fr := (0, 0)) (heap_alloc_new wr _)) (by simp [Value.oneCell']) (by omega) (by unfold maxLen; omega) (by omega) (by simp; omega) _ rfl ?_)
      intro gg cap wn hown hgrow hat hltn
      obtain ⟨r1, r2, r3, r4⟩ := HN.out _ gg cap wn _ rfl hgrow hown (hat.imp_right (fun h => by rw [h]; all_goals simp))
      have HR1 := hid r1
      clear r1 hown hgrow HN ow
      go_wp2_with fail
      exact ⟨⟨k + 1, _, by omega, by go_num, HR1⟩, by simp [intOf]; omega⟩
    · have hne : ¬ (k : Int) < (vals.length : Int) := by omega
      have hkk : vals.take k = vals := List.take_of_length_le (by omega)
      have ow := I.out.o
      rw [hkk] at ow
      obtain ⟨ak, ck, rfl⟩ := sl_of ow
      have hr := I.out.r
      obtain ⟨c0, c1, c2, c3⟩ := hr.cells
      have f0 := hr.free 0
      have f1 := hr.free 1
      have f2 := hr.free 2
      have f3 := hr.free 3
      have l1 := hr.lt
      have HF : Hid ((setA (w.heap.size + 1) st (.slice ak (fs ++ vals.map (fun v => (n, v))).length ck) b cl wr).ownsRow B 133 2 (.slice ak (fs ++ vals.map (fun v => (n, v))).length ck) (fs ++ vals.map (fun v => (n, v))).length (prCells (fs ++ vals.map (fun v => (n, v)))) ∧ Below B w (setA (w.heap.size + 1) st (.slice ak (fs ++ vals.map (fun v => (n, v))).length ck) b cl wr)) := ⟨owns_setA ow I.out.n2, below_setA I.out.bl (by omega)⟩
      obtain ⟨d0, d1, d2, d3⟩ := (hr.set st (.slice ak (fs ++ vals.map (fun v => (n, v))).length ck) b cl).cells
      unfold setA at d0 d1 d2 d3
      generalize hF2 : (fs ++ vals.map (fun v => (n, v))) = FS at *
      have HF2 := hid hF2
      clear hF2
      clear I ow hr
      go_wp2_with fail
      refine bodyPost_ret (v := .agg #[.int .i64 st, .slice ak FS.length ck, .string b, .bool cl]) (by simp [results, Tryz.results150, go_sem, d0, d1, d2, d3]) rfl ?_
      refine ⟨⟨_, rfl, ?_⟩, HF.out.2⟩
      have h := HF.out.1
      have e := HF2.out
      first
        | exact h
        | (subst e; simp only [List.length_append, List.length_map] at h ⊢; exact h)
end Go.Proofs.YtbphabgjhoifbaaGreatDoor

/- What gives up inside a Save is answered for. -/
namespace Go.Proofs.YtbphabgjhoifbaaGreatDoor
open Go.RowKit

def saveG (G : Option An) : Option An := match G with
  | none => some ⟨500, [], savedB⟩
  | some a => some a
set_option maxRecDepth 100000 in
set_option maxHeartbeats 1000000 in
theorem saveC_panicking (g : Nat) (st : Int) (vv : Value) (b : ByteArray) (cl : Bool) (u : TypeId) (pv : Value) (older : List PanicEntry) (w : World) (h : AnB g st vv b cl w) :
    CallsD Tryz.prog 198 #[.pointer (some ⟨g, 0, none⟩)] (.panicking ({ v := .iface u pv, recovered := false } :: older)) w fun e u' w' =>
      e = .returned (.tuple #[]) ∧ u' = .panicking ({ v := .iface u pv, recovered := true } :: older) ∧ w' = setA g 500 (.slice none 0 0) savedB false w := by
  obtain ⟨c0, c1, c2, c3⟩ := h.cells
  have f0 := h.free 0
  have f1 := h.free 1
  have f2 := h.free 2
  have f3 := h.free 3
  have hs : setA g 500 (.slice none 0 0) savedB false w = (((w.setCell ⟨g, 0, none⟩ (.int .i64 500)).setCell ⟨g, 1, none⟩ (.slice none 0 0)).setCell ⟨g, 2, none⟩ (.string ⟨#[115, 97, 118, 101, 100]⟩)).setCell ⟨g, 3, none⟩ (.bool false) := rfl
  rw [hs]
  refine callsD_of_wpS Tryz.func198 rfl fun c₀ cs hu => ?_
  apply wpS_seq
  apply wpS_region
  simp [wpOpsS, go_sem, recoverD, hu, Tryz.ntmps198, Exit.thenS]
  refine wpS_cond (t := true) (by simp [Act.eval, Array.replicate]) ?_
  simp only [if_true]
  refine wpS_of_wp ?_
  simp [Array.replicate]
  clear hs
  go_wp2
  simp [bodyPostS, results, Tryz.results198]
set_option maxRecDepth 100000 in
set_option maxHeartbeats 1000000 in
theorem saveC_idle (p : Addr) (w : World) :
    CallsD Tryz.prog 198 #[.pointer (some p)] .returning w fun e u' w' => e = .returned (.tuple #[]) ∧ u' = .returning ∧ w' = w := by
  refine callsD_of_wpS Tryz.func198 rfl fun c₀ cs hu => ?_
  apply wpS_seq
  apply wpS_region
  simp [wpOpsS, go_sem, recoverD, hu, Tryz.ntmps198, Exit.thenS]
  refine wpS_cond (t := false) (by simp [Act.eval, Array.replicate]) ?_
  simp only [Bool.false_eq_true, if_false]
  refine wpS_of_wp (wp_skip ?_)
  cases c₀
  simp_all [bodyPostS, results, Tryz.results198]
set_option maxRecDepth 100000 in
set_option maxHeartbeats 2000000 in
theorem save_any (p1 p2 : Addr) (G : Option An) (w : World) (HIN : ∀ W, Below w.heap.size w W → Calls Tryz.prog 118 #[.pointer (some p1), .pointer (some p2)] W (ThPost G W)) :
    Calls Tryz.prog 151 #[.func (.func 118) #[] #[.pointer (some p1), .pointer (some p2)]] w (ThPost (saveG G) w) := by
  have hmf : ∀ (fn : Fn) (first cap : Array Value) (w : World), (Instr.makeFunc fn first cap).run Tryz.prog w = .ok (.func fn first cap) w := fun _ _ _ _ => rfl
  have hA := (Below.refl w.heap.size w).alloc (Nat.le_refl _) (.cells #[.int .i64 0, .slice none 0 0, .string ⟨#[]⟩, .bool false] 64)
  have A0 : AnB w.heap.size 0 (.slice none 0 0) ⟨#[]⟩ false (w.alloc (.cells #[.int .i64 0, .slice none 0 0, .string ⟨#[]⟩, .bool false] 64)) := heap_alloc_new w _
  have HI := hid HIN
  clear HIN
  go_enter_defers Tryz.func151, Tryz.ntmps151
  go_wp2_with fail
  generalize w.alloc (.cells #[.int .i64 0, .slice none 0 0, .string ⟨#[]⟩, .bool false] 64) = w1 at *
  refine (HI.out _ hA).mono ?_
  cases G with
  | none =>
    rintro x w2 ⟨rfl, hb2⟩
    have A2 := A0.below hb2
    have hB2 := bel_of hA hb2
    have A3 := A2.set 500 (.slice none 0 0) savedB false
    obtain ⟨d0, d1, d2, d3⟩ := A3.cells
    refine leaves_cons (f := 198) (args := #[.pointer (some ⟨w.heap.size, 0, none⟩)]) (by simp) (by simp [go_sem]) ?_
    refine (saveC_panicking w.heap.size 0 _ _ _ _ _ [] w2 A2).mono ?_
    rintro e u' w'' ⟨rfl, rfl, rfl⟩
    simp [Leaves, settle, results, Tryz.results151, go_sem, d0, d1, d2, d3]
    exact ⟨⟨_, rfl, World.ownsRow_nil _ _ _ _⟩, below_setA hB2 (Nat.le_refl _)⟩
  | some a =>
    rintro x w2 ⟨⟨vv, rfl, ow⟩, hb2⟩
    have A2 := A0.below hb2
    have hB2 := bel_of hA hb2
    have l0 := A0.lt
    have hno : vv.ownBlock ≠ some w.heap.size := fun e => by have := own_ge ow _ e; omega
    have HO := hid (owns_base ow hA.size)
    obtain ⟨ax, cx, rfl⟩ := sl_of ow
    obtain ⟨c0, c1, c2, c3⟩ := A2.cells
    have f0 := A2.free 0
    have f1 := A2.free 1
    have f2 := A2.free 2
    have f3 := A2.free 3
    have l2 := A2.lt
    obtain ⟨d0, d1, d2, d3⟩ := (A2.set a.st (.slice ax a.fs.length cx) a.b false).cells
    have HF : Hid ((setA w.heap.size a.st (.slice ax a.fs.length cx) a.b false w2).ownsRow w.heap.size 133 2 (.slice ax a.fs.length cx) a.fs.length (prCells a.fs) ∧ Below w.heap.size w (setA w.heap.size a.st (.slice ax a.fs.length cx) a.b false w2)) := ⟨owns_setA HO.out hno, below_setA hB2 (Nat.le_refl _)⟩
    unfold setA at d0 d1 d2 d3
    clear ow HO A0 HI
    go_wp2_with fail
    refine leaves_cons (f := 198) (args := #[.pointer (some ⟨w.heap.size, 0, none⟩)]) (by simp) (by simp [go_sem]) ?_
    refine (saveC_idle ⟨w.heap.size, 0, none⟩ _).mono ?_
    rintro e u' w'' ⟨rfl, rfl, rfl⟩
    simp [Leaves, settle, results, Tryz.results151, go_sem, d0, d1, d2, d3]
    exact ⟨⟨_, rfl, HF.out.1⟩, HF.out.2⟩
end Go.Proofs.YtbphabgjhoifbaaGreatDoor

/- A ware around what is inside. -/
namespace Go.Proofs.YtbphabgjhoifbaaGreatDoor
open Go.RowKit

def WrBk (g : Nat) (x : Wr) (w : World) : Prop := w.heap[g]? = some (.cells #[.int .i64 x.k, .string x.n, .string x.v, .int .i64 x.lim] 83 (0, 0))
theorem WrBk.cells {g : Nat} {x : Wr} {w : World} (h : WrBk g x w) : w.cell? ⟨g, 0, none⟩ = some (.int .i64 x.k) ∧ w.cell? ⟨g, 1, none⟩ = some (.string x.n) ∧ w.cell? ⟨g, 2, none⟩ = some (.string x.v) ∧ w.cell? ⟨g, 3, none⟩ = some (.int .i64 x.lim) := by
  refine ⟨?_, ?_, ?_, ?_⟩ <;> (rw [Lib.cell_of_heap h]; rfl)
theorem WrBk.lt {g : Nat} {x : Wr} {w : World} (h : WrBk g x w) : g < w.heap.size := block_lt_of_cell h.cells.1
theorem WrBk.below {g : Nat} {x : Wr} {w w' : World} (h : WrBk g x w) (hb : Below w.heap.size w w') : WrBk g x w' := by
  have := hb.block g h.lt; unfold WrBk at *; rw [this]; exact h
theorem contains_st (l : List ByteArray) (a : Option Addr) (c : Nat) (x : ByteArray) (w : World) (h : StAt l a w) (hl : l.length ≤ 1000000) :
    Calls Tryz.prog 113 #[.slice a l.length c, .string x] w fun e w' => e = .returned (.bool (decide (x.data.toList ∈ l.map fun b => b.data.toList))) ∧ w' = w := by
  by_cases hz : l = []
  · subst hz
    exact (Tryz.slices_Contains_string_empty a c x w).mono fun e w' ⟨h1, h2⟩ => ⟨by rw [h1]; simp, h2⟩
  · obtain ⟨g, rfl, -, -⟩ := h 0 (List.length_pos_iff.2 hz)
    refine (Tryz.slices_Contains_string g 0 l.length c l x w (by simp) (by omega) (fun j hj => ?_)).mono fun e w' ⟨h1, h2⟩ => ⟨?_, h2⟩
    · obtain ⟨g', e, -, hc⟩ := h j hj
      simp only [Option.some.injEq, Addr.mk.injEq, and_true] at e
      subst e
      rw [Nat.zero_add, hc]
      simp [List.getD, hj]
    · rw [h1, List.take_of_length_le (by simp)]
      have key : Lib.containsS l x = decide (x.data.toList ∈ l.map fun b => b.data.toList) := by
        rw [Bool.eq_iff_iff, Lib.containsS_iff, decide_eq_true_iff, List.mem_map]
        constructor
        · intro h; exact ⟨x, h, rfl⟩
        · rintro ⟨b, hb, e⟩
          have : b = x := by
            cases b; cases x
            simp only at e
            rw [Array.toList_inj.1 e]
          rw [← this]; exact hb
      rw [key]
theorem around_mem (r : Rn) (x : Wr) (w : World) : Below w.heap.size w (((w.alloc (.cells r.vals 166)).alloc (.cells #[.int .i64 x.k, .string x.n, .string x.v, .int .i64 x.lim] 83)).alloc (.cells #[.int .i64 0, .slice none 0 0, .string ⟨#[]⟩, .bool false] 64)) ∧ RnB w.heap.size r (((w.alloc (.cells r.vals 166)).alloc (.cells #[.int .i64 x.k, .string x.n, .string x.v, .int .i64 x.lim] 83)).alloc (.cells #[.int .i64 0, .slice none 0 0, .string ⟨#[]⟩, .bool false] 64)) ∧ WrBk (w.heap.size + 1) x (((w.alloc (.cells r.vals 166)).alloc (.cells #[.int .i64 x.k, .string x.n, .string x.v, .int .i64 x.lim] 83)).alloc (.cells #[.int .i64 0, .slice none 0 0, .string ⟨#[]⟩, .bool false] 64)) ∧ AnB (w.heap.size + 1 + 1) 0 (.slice none 0 0) ⟨#[]⟩ false (((w.alloc (.cells r.vals 166)).alloc (.cells #[.int .i64 x.k, .string x.n, .string x.v, .int .i64 x.lim] 83)).alloc (.cells #[.int .i64 0, .slice none 0 0, .string ⟨#[]⟩, .bool false] 64)) := by
  have hA1 := (Below.refl w.heap.size w).alloc (Nat.le_refl _) (.cells r.vals 166)
  have hA2 := hA1.alloc hA1.size (.cells #[.int .i64 x.k, .string x.n, .string x.v, .int .i64 x.lim] 83)
  have hA := hA2.alloc hA2.size (.cells #[.int .i64 0, .slice none 0 0, .string ⟨#[]⟩, .bool false] 64)
  have z1 : (w.alloc (.cells r.vals 166)).heap.size = w.heap.size + 1 := by simp
  have z2 : ((w.alloc (.cells r.vals 166)).alloc (.cells #[.int .i64 x.k, .string x.n, .string x.v, .int .i64 x.lim] 83)).heap.size = w.heap.size + 1 + 1 := by simp
  have b1 : Below (w.alloc (.cells r.vals 166)).heap.size (w.alloc (.cells r.vals 166)) ((w.alloc (.cells r.vals 166)).alloc (.cells #[.int .i64 x.k, .string x.n, .string x.v, .int .i64 x.lim] 83)) := (Below.refl _ _).alloc (Nat.le_refl _) _
  have b2 : Below ((w.alloc (.cells r.vals 166)).alloc (.cells #[.int .i64 x.k, .string x.n, .string x.v, .int .i64 x.lim] 83)).heap.size ((w.alloc (.cells r.vals 166)).alloc (.cells #[.int .i64 x.k, .string x.n, .string x.v, .int .i64 x.lim] 83)) (((w.alloc (.cells r.vals 166)).alloc (.cells #[.int .i64 x.k, .string x.n, .string x.v, .int .i64 x.lim] 83)).alloc (.cells #[.int .i64 0, .slice none 0 0, .string ⟨#[]⟩, .bool false] 64)) := (Below.refl _ _).alloc (Nat.le_refl _) _
  have R0 : RnB w.heap.size r (w.alloc (.cells r.vals 166)) := heap_alloc_new w _
  have X0 : WrBk (w.heap.size + 1) x ((w.alloc (.cells r.vals 166)).alloc (.cells #[.int .i64 x.k, .string x.n, .string x.v, .int .i64 x.lim] 83)) := by
    have h := heap_alloc_new (w.alloc (.cells r.vals 166)) (.cells #[.int .i64 x.k, .string x.n, .string x.v, .int .i64 x.lim] 83)
    rw [z1] at h; exact h
  have A0 : AnB (w.heap.size + 1 + 1) 0 (.slice none 0 0) ⟨#[]⟩ false (((w.alloc (.cells r.vals 166)).alloc (.cells #[.int .i64 x.k, .string x.n, .string x.v, .int .i64 x.lim] 83)).alloc (.cells #[.int .i64 0, .slice none 0 0, .string ⟨#[]⟩, .bool false] 64)) := by
    have h := heap_alloc_new ((w.alloc (.cells r.vals 166)).alloc (.cells #[.int .i64 x.k, .string x.n, .string x.v, .int .i64 x.lim] 83)) (.cells #[.int .i64 0, .slice none 0 0, .string ⟨#[]⟩, .bool false] 64)
    rw [z2] at h; exact h
  exact ⟨hA, (R0.below b1).below b2, X0.below b2, A0⟩
/- the end: inside, and out -/
set_option maxRecDepth 100000 in
set_option maxHeartbeats 4000000 in
theorem around_plain (r : Rn) (x : Wr) (p1 p2 : Addr) (G : Option An) (w : World) (hk : x.k = 2 ∨ x.k = 3 ∨ (x.k ≠ 0 ∧ x.k ≠ 1 ∧ x.k ≠ 2 ∧ x.k ≠ 3 ∧ x.k ≠ 4)) (HIN : ∀ W, Below w.heap.size w W → Calls Tryz.prog 118 #[.pointer (some p1), .pointer (some p2)] W (ThPost G W)) :
    Calls Tryz.prog 117 #[.agg r.vals, .agg #[.int .i64 x.k, .string x.n, .string x.v, .int .i64 x.lim], .func (.func 118) #[] #[.pointer (some p1), .pointer (some p2)]] w (ThPost (wareG x r.fs r.qb G) w) := by
  obtain ⟨hA, R1, X1, A1⟩ := around_mem r x w
  have HI := hid HIN
  have hG : wareG x r.fs r.qb G = if x.k = 0 then G.map fun a => ⟨a.st, a.fs ++ [(x.n, x.v)], a.b⟩
    else if x.k = 1 then (if x.v.data.toList ∈ (valsOf r.fs x.n.data.toList).map (fun b => b.data.toList) then G else some ⟨403, [], ⟨#[]⟩⟩)
    else if x.k = 2 then (if x.lim < (r.qb.size : Int) then some ⟨413, [], ⟨#[]⟩⟩ else G)
    else if x.k = 3 then saveG G
    else if x.k = 4 then G.map fun a => ⟨a.st, a.fs ++ (valsOf r.fs x.n.data.toList).map (fun v => (x.n, v)), a.b⟩
    else G := by unfold wareG saveG; rfl
  generalize wareG x r.fs r.qb G = GG at *
  have HG := hid hG
  obtain ⟨r0, r1, r2, r3, r4, r5, r6, r7, r8⟩ := R1.cells
  obtain ⟨x0, x1, x2, x3⟩ := X1.cells
  have lr := R1.lt
  have lx := X1.lt
  clear HIN hG R1 X1
  obtain ⟨qm, qt, qb, fs, fa, fc, ps, pa, pc, ⟨hk', hst, ht, hn⟩⟩ := r
  obtain ⟨xk, xn, xv, xl⟩ := x
  simp only [Rn.vals] at *
  go_enter Tryz.func117, Tryz.ntmps117
  go_upto_region 1 with fail
  generalize ((w.alloc (.cells #[.string qm, .string qt, .slice fa fs.length fc, .string qb, .slice pa ps.length pc, .int .i64 hk', .int .i64 hst, .string ht, .string hn] 166)).alloc (.cells #[.int .i64 xk, .string xn, .string xv, .int .i64 xl] 83)).alloc (.cells #[.int .i64 0, .slice none 0 0, .string ⟨#[]⟩, .bool false] 64) = w1 at *
  have HEND := hid (HI.out w1 hA)
  have HSAVE := hid (save_any p1 p2 G w1 (fun W hW => HI.out W (bel_of hA hW)))
  have la := A1.lt
  rcases hk with rfl | rfl | ⟨n0, n1, n2, n3, n4⟩
  · have hg := HG.out
    simp at hg
    by_cases hl : xl < (qb.size : Int)
    · rw [if_pos hl] at hg
      subst hg
      obtain ⟨c0, c1, c2, c3⟩ := A1.cells
      have f0 := A1.free 0
      have f1 := A1.free 1
      have f2 := A1.free 2
      have f3 := A1.free 3
      obtain ⟨d0, d1, d2, d3⟩ := (A1.set 413 (.slice none 0 0) ⟨#[]⟩ false).cells
      unfold setA at d0 d1 d2 d3
      clear HG HEND HSAVE HI
      go_wp2_with fail
      refine bodyPost_ret (v := .agg #[.int .i64 413, .slice none 0 0, .string ⟨#[]⟩, .bool false]) (by simp [results, Tryz.results117, go_sem, d0, d1, d2, d3]) rfl ?_
      exact ⟨⟨_, rfl, World.ownsRow_nil _ _ _ _⟩, below_setA hA (by omega)⟩
    · rw [if_neg hl] at hg
      subst hg
      clear HG HSAVE HI
      go_wp2_with fail
      refine HEND.out.mono ?_
      cases GG with
      | none =>
        rintro x w2 ⟨rfl, hb2⟩
        exact ⟨rfl, rfl, bel_of hA hb2⟩
      | some a =>
        rintro x w2 ⟨⟨vv, rfl, ow⟩, hb2⟩
        have A2 := A1.below hb2
        have hB2 := bel_of hA hb2
        have hno : vv.ownBlock ≠ some (w.heap.size + 1 + 1) := fun e => by have := own_ge ow _ e; omega
        have HO := hid (owns_base ow hA.size)
        obtain ⟨ax, cx, rfl⟩ := sl_of ow
        obtain ⟨c0, c1, c2, c3⟩ := A2.cells
        have f0 := A2.free 0
        have f1 := A2.free 1
        have f2 := A2.free 2
        have f3 := A2.free 3
        have l2 := A2.lt
        obtain ⟨d0, d1, d2, d3⟩ := (A2.set a.st (.slice ax a.fs.length cx) a.b false).cells
        have HF : Hid ((setA (w.heap.size + 1 + 1) a.st (.slice ax a.fs.length cx) a.b false w2).ownsRow w.heap.size 133 2 (.slice ax a.fs.length cx) a.fs.length (prCells a.fs) ∧ Below w.heap.size w (setA (w.heap.size + 1 + 1) a.st (.slice ax a.fs.length cx) a.b false w2)) := ⟨owns_setA HO.out hno, below_setA hB2 (by omega)⟩
        unfold setA at d0 d1 d2 d3
        clear ow HO A1
        go_wp2_with fail
        refine bodyPost_ret (v := .agg #[.int .i64 a.st, .slice ax a.fs.length cx, .string a.b, .bool false]) (by simp [results, Tryz.results117, go_sem, d0, d1, d2, d3]) rfl ?_
        exact ⟨⟨_, rfl, HF.out.1⟩, HF.out.2⟩
  · have hg := HG.out
    simp at hg
    subst hg
    clear HG HEND HI
    go_wp2_with fail
    refine HSAVE.out.mono ?_
    generalize saveG G = G at *
    cases G with
    | none =>
      rintro x w2 ⟨rfl, hb2⟩
      exact ⟨rfl, rfl, bel_of hA hb2⟩
    | some a =>
      rintro x w2 ⟨⟨vv, rfl, ow⟩, hb2⟩
      have A2 := A1.below hb2
      have hB2 := bel_of hA hb2
      have hno : vv.ownBlock ≠ some (w.heap.size + 1 + 1) := fun e => by have := own_ge ow _ e; omega
      have HO := hid (owns_base ow hA.size)
      obtain ⟨ax, cx, rfl⟩ := sl_of ow
      obtain ⟨c0, c1, c2, c3⟩ := A2.cells
      have f0 := A2.free 0
      have f1 := A2.free 1
      have f2 := A2.free 2
      have f3 := A2.free 3
      have l2 := A2.lt
      obtain ⟨d0, d1, d2, d3⟩ := (A2.set a.st (.slice ax a.fs.length cx) a.b false).cells
      have HF : Hid ((setA (w.heap.size + 1 + 1) a.st (.slice ax a.fs.length cx) a.b false w2).ownsRow w.heap.size 133 2 (.slice ax a.fs.length cx) a.fs.length (prCells a.fs) ∧ Below w.heap.size w (setA (w.heap.size + 1 + 1) a.st (.slice ax a.fs.length cx) a.b false w2)) := ⟨owns_setA HO.out hno, below_setA hB2 (by omega)⟩
      unfold setA at d0 d1 d2 d3
      clear ow HO A1
      go_wp2_with fail
      refine bodyPost_ret (v := .agg #[.int .i64 a.st, .slice ax a.fs.length cx, .string a.b, .bool false]) (by simp [results, Tryz.results117, go_sem, d0, d1, d2, d3]) rfl ?_
      exact ⟨⟨_, rfl, HF.out.1⟩, HF.out.2⟩
  · have hg := HG.out
    rw [if_neg n0, if_neg n1, if_neg n2, if_neg n3, if_neg n4] at hg
    subst hg
    have m0 : (xk == 0) = false := by simpa using n0
    have m1 : (xk == 1) = false := by simpa using n1
    have m2 : (xk == 2) = false := by simpa using n2
    have m3 : (xk == 3) = false := by simpa using n3
    have m4 : (xk == 4) = false := by simpa using n4
    clear HG HSAVE HI n0 n1 n2 n3 n4
    go_wp2_with fail
    refine HEND.out.mono ?_
    cases GG with
    | none =>
      rintro x w2 ⟨rfl, hb2⟩
      exact ⟨rfl, rfl, bel_of hA hb2⟩
    | some a =>
      rintro x w2 ⟨⟨vv, rfl, ow⟩, hb2⟩
      have A2 := A1.below hb2
      have hB2 := bel_of hA hb2
      have hno : vv.ownBlock ≠ some (w.heap.size + 1 + 1) := fun e => by have := own_ge ow _ e; omega
      have HO := hid (owns_base ow hA.size)
      obtain ⟨ax, cx, rfl⟩ := sl_of ow
      obtain ⟨c0, c1, c2, c3⟩ := A2.cells
      have f0 := A2.free 0
      have f1 := A2.free 1
      have f2 := A2.free 2
      have f3 := A2.free 3
      have l2 := A2.lt
      obtain ⟨d0, d1, d2, d3⟩ := (A2.set a.st (.slice ax a.fs.length cx) a.b false).cells
      have HF : Hid ((setA (w.heap.size + 1 + 1) a.st (.slice ax a.fs.length cx) a.b false w2).ownsRow w.heap.size 133 2 (.slice ax a.fs.length cx) a.fs.length (prCells a.fs) ∧ Below w.heap.size w (setA (w.heap.size + 1 + 1) a.st (.slice ax a.fs.length cx) a.b false w2)) := ⟨owns_setA HO.out hno, below_setA hB2 (by omega)⟩
      unfold setA at d0 d1 d2 d3
      clear ow HO A1
      go_wp2_with fail
      refine bodyPost_ret (v := .agg #[.int .i64 a.st, .slice ax a.fs.length cx, .string a.b, .bool false]) (by simp [results, Tryz.results117, go_sem, d0, d1, d2, d3]) rfl ?_
      exact ⟨⟨_, rfl, HF.out.1⟩, HF.out.2⟩
end Go.Proofs.YtbphabgjhoifbaaGreatDoor
