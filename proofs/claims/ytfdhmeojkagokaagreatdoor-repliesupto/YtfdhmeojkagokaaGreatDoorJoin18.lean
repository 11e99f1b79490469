/- Texts that follow one another, joined. -/
import Derived.Test.YtfdhmeojkagokaaGreatDoorJoin16
import Derived.Test.YtfdhmeojkagokaaGreatDoorJoin17
import Derived.Test.YtfdhmeojkagokaaGreatDoorJoin00
import Derived.Lib.ItoaNum
/- A field that ends its line, out of strings.ContainsAny. -/
namespace Go.Proofs.YtfdhmeojkagokaaGreatDoor
open Go.RowKit

def endG (v : ByteArray) : Bool := v.data.toList.any fun x => x == 13 || x == 10 || x == 0
set_option maxHeartbeats 2000000 in
theorem ends_of (n v : ByteArray) (w : World) (HCA : ∀ W, Below w.heap.size w W → Calls Tryz.prog 68 #[.string v, .string ⟨#[13, 10, 0]⟩] W fun e w' => e = .returned (.bool (endG v)) ∧ Below W.heap.size W w') :
    Calls Tryz.prog 42 #[.agg #[.string n, .string v]] w fun e w' => e = .returned (.bool (endG v)) ∧ Below w.heap.size w w' := by
  have hA := (Below.refl w.heap.size w).alloc (Nat.le_refl _) (.cells #[.string n, .string v] 70)
  have HC := hid (HCA _ hA)
  generalize endG v = E at *
  clear HCA
  go_enter Tryz.func42, Tryz.ntmps42
  go_wp2_with (go_at_call 68; refine HC.out.mono ?_; rintro e w1 ⟨rfl, hb1⟩)
  go_ret
  exact ⟨rfl, bel_of hA hb1⟩
end Go.Proofs.YtfdhmeojkagokaaGreatDoor

/- What comes of a request, told as going inwards and outwards again: plain mathematics. -/
namespace Go.Proofs.YtfdhmeojkagokaaGreatDoor
open Go.RowKit

def blkG (x : Wr) (qf : List Prm) (qb : ByteArray) : Int :=
  if x.k = 1 ∧ x.v.data.toList ∉ (valsOf qf x.n.data.toList).map (fun b => b.data.toList) then 403 else if x.k = 2 ∧ x.lim < (qb.size : Int) then 413 else 0
def deepG (qf : List Prm) (qb : ByteArray) : List Wr → Nat × Int
  | [] => (0, 0)
  | x :: r => if blkG x qf qb = 0 then ((deepG qf qb r).1 + 1, (deepG qf qb r).2) else (0, blkG x qf qb)
def stepG (x : Wr) (qf : List Prm) (G : Option An) : Option An :=
  if x.k = 0 then G.map fun a => ⟨a.st, a.fs ++ [(x.n, x.v)], a.b⟩
  else if x.k = 3 then (match G with
    | none => some ⟨500, [], savedB⟩
    | some a => some a)
  else if x.k = 4 then G.map fun a => ⟨a.st, a.fs ++ (valsOf qf x.n.data.toList).map (fun v => (x.n, v)), a.b⟩
  else G
def aroG (qf : List Prm) (G : Option An) : List Wr → Option An
  | [] => G
  | x :: r => stepG x qf (aroG qf G r)
theorem ware_split (x : Wr) (qf : List Prm) (qb : ByteArray) (G : Option An) : wareG x qf qb G = if blkG x qf qb = 0 then stepG x qf G else some ⟨blkG x qf qb, [], ⟨#[]⟩⟩ := by
  by_cases h1 : x.k = 1
  · by_cases hm : x.v.data.toList ∈ (valsOf qf x.n.data.toList).map (fun b => b.data.toList)
    · have hb : blkG x qf qb = 0 := by
        unfold blkG; rw [if_neg (fun h => h.2 hm), if_neg (fun h => by omega)]
      rw [hb, if_pos rfl]
      unfold wareG stepG
      rw [if_neg (by omega), if_pos h1, if_pos hm, if_neg (by omega), if_neg (by omega), if_neg (by omega)]
    · have hb : blkG x qf qb = 403 := by unfold blkG; rw [if_pos ⟨h1, hm⟩]
      rw [hb, if_neg (by decide)]
      unfold wareG
      rw [if_neg (by omega), if_pos h1, if_neg hm]
  by_cases h2 : x.k = 2
  · by_cases hl : x.lim < (qb.size : Int)
    · have hb : blkG x qf qb = 413 := by unfold blkG; rw [if_neg (fun h => h1 h.1), if_pos ⟨h2, hl⟩]
      rw [hb, if_neg (by decide)]
      unfold wareG
      rw [if_neg (by omega), if_neg h1, if_pos h2, if_pos hl]
    · have hb : blkG x qf qb = 0 := by unfold blkG; rw [if_neg (fun h => h1 h.1), if_neg (fun h => hl h.2)]
      rw [hb, if_pos rfl]
      unfold wareG stepG
      rw [if_neg (by omega), if_neg h1, if_pos h2, if_neg hl, if_neg (by omega), if_neg (by omega), if_neg (by omega)]
  have hb : blkG x qf qb = 0 := by unfold blkG; rw [if_neg (fun h => h1 h.1), if_neg (fun h => h2 h.1)]
  rw [hb, if_pos rfl]
  unfold wareG stepG
  rw [if_neg h1, if_neg h2]
  cases G <;> rfl
theorem thr_deep (qf : List Prm) (qb : ByteArray) (h : Hn) (ps : List Prm) : ∀ ws : List Wr, thrG qf qb h ps ws = aroG qf (if (deepG qf qb ws).2 = 0 then handG h qb ps else some ⟨(deepG qf qb ws).2, [], ⟨#[]⟩⟩) (ws.take (deepG qf qb ws).1)
  | [] => by simp [thrG, aroG, deepG]
  | x :: r => by
    rw [thrG, ware_split, deepG]
    by_cases hb : blkG x qf qb = 0
    · rw [if_pos hb, if_pos hb]
      simp only [List.take_succ_cons, aroG]
      rw [← thr_deep qf qb h ps r]
    · rw [if_neg hb, if_neg hb]
      simp [aroG, hb]
theorem deep_le (qf : List Prm) (qb : ByteArray) : ∀ ws : List Wr, (deepG qf qb ws).1 ≤ ws.length
  | [] => by simp [deepG]
  | x :: r => by
    have := deep_le qf qb r
    rw [deepG]
    split
    · simp; omega
    · simp
/- the whole answer -/
structure Rp where
  st : Int
  fs : List Prm
  b : ByteArray
  cl : Bool
  e : Int
def finG (sh : Bool) : Option An → Rp
  | none => ⟨500, [], ⟨#[]⟩, true, 0⟩
  | some a => if a.fs.any (fun p => endG p.2) = true then ⟨500, [], ⟨#[]⟩, sh, 0⟩ else ⟨a.st, a.fs, a.b, sh, 0⟩
def hdOf (rs : List Rt) (k : Nat) : Hn := match rs[k]? with
  | some r => r.h
  | none => ⟨0, 0, ⟨#[]⟩, ⟨#[]⟩⟩
def toG (R : DsR) (rs : List Rt) (ws : List Wr) (qf : List Prm) (qb : ByteArray) : Option An :=
  if R.st = 200 then thrG qf qb (hdOf rs R.ro) R.ps ws else some (restG R.st ⟨R.al.toArray⟩ ⟨R.lo.toArray⟩)
def repD (R : DsR) (rs : List Rt) (ws : List Wr) (qf : List Prm) (qb : ByteArray) : Rp :=
  if R.e = 0 then finG (askG qf) (toG R rs ws qf qb) else ⟨0, [], ⟨#[]⟩, false, R.e⟩
def RyPost (R : Rp) (w : World) (x : Ending) (w' : World) : Prop :=
  (∃ vv, x = .returned (.tuple #[.agg #[.int .i64 R.st, vv, .string R.b, .bool R.cl], .int .i64 R.e]) ∧ w'.ownsRow w.heap.size 70 2 vv R.fs.length (prCells R.fs)) ∧ Below w.heap.size w w'
end Go.Proofs.YtfdhmeojkagokaaGreatDoor

/- Where a request leads: its texts end no line. -/
namespace Go.Proofs.YtfdhmeojkagokaaGreatDoor
open Go.RowKit

def enL (l : List UInt8) : Bool := l.any fun x => x == 13 || x == 10 || x == 0
theorem enL_app (a b : List UInt8) : enL (a ++ b) = (enL a || enL b) := by simp [enL]
theorem enL_of {l : List UInt8} (h : ∀ x ∈ l, 32 ≤ x.toNat) : enL l = false := by
  unfold enL
  rw [List.any_eq_false]
  intro x hx he
  have h1 := h x hx
  simp only [Bool.or_eq_true, beq_iff_eq] at he
  rcases he with (rfl | rfl) | rfl <;> simp at h1
theorem endG_L (v : ByteArray) : endG v = enL v.data.toList := rfl
theorem findG_lt (m l : List UInt8) : ∀ (es : List Ent) (k : Nat), (findG m l es k).2.2 = 0 → (findG m l es k).1 < k + es.length
  | [], k, h => by simp [findG] at h
  | e :: r, k, h => by
    rw [findG] at h ⊢
    by_cases he : e.m.data.toList = m
    · rw [if_pos he] at h ⊢
      cases hm : matchB e.ps (l.drop 1) true [] with
      | some fs => simp
      | none =>
        rw [hm] at h
        have := findG_lt m l r (k + 1) h
        simp only [List.length_cons]; omega
    · rw [if_neg he] at h ⊢
      have := findG_lt m l r (k + 1) h
      simp only [List.length_cons]; omega
theorem leadG_lt {m l : List UInt8} {es : List Ent} (h : (leadG m l es).2.2 = 0) : (leadG m l es).1 < es.length := by
  unfold leadG at h ⊢
  by_cases hc : (findG m l es 0).2.2 ≠ 0 ∧ m = hdL
  · rw [if_pos hc] at h ⊢; have := findG_lt gtL l es 0 h; omega
  · rw [if_neg hc] at h ⊢; have := findG_lt m l es 0 h; omega
theorem tok_vis (c : UInt8) (h : Pm.tokB c = true) : 32 ≤ c.toNat := by
  have := Pm.all256 (p := fun c => !Pm.tokB c || decide (32 ≤ c.toNat)) (by decide +kernel) c
  rw [h] at this
  simpa using this
theorem meth_end {m : List UInt8} (h : Pm.isMethod m = true) : m ≠ [] ∧ ∀ x ∈ m, 32 ≤ x.toNat := by
  unfold Pm.isMethod Pm.isTok at h
  simp only [Bool.and_eq_true] at h
  refine ⟨fun e => by rw [e] at h; simp at h, fun x hx => tok_vis x ?_⟩
  exact List.all_eq_true.1 h.2.2 x hx
theorem join_vis (sep : List UInt8) (hs : ∀ x ∈ sep, 32 ≤ x.toNat) : ∀ l : List (List UInt8), (∀ m ∈ l, ∀ x ∈ m, 32 ≤ x.toNat) → ∀ x ∈ Lib.join l sep, 32 ≤ x.toNat
  | [], _, x, hx => by simp [Lib.join, List.intercalate] at hx
  | [y], h, x, hx => h y (by simp) x (by simpa [Lib.join, List.intercalate] using hx)
  | y :: z :: r, h, x, hx => by
    have e : Lib.join (y :: z :: r) sep = y ++ (sep ++ Lib.join (z :: r) sep) := by simp [Lib.join, List.intercalate, List.intersperse]
    rw [e] at hx
    rcases List.mem_append.1 hx with hx | hx
    · exact h y (by simp) x hx
    · rcases List.mem_append.1 hx with hx | hx
      · exact hs x hx
      · exact join_vis sep hs (z :: r) (fun m hm => h m (by simp [hm])) x hx
theorem join_ne (sep : List UInt8) : ∀ l : List (List UInt8), l ≠ [] → (∀ m ∈ l, m ≠ []) → Lib.join l sep ≠ []
  | [], h, _ => absurd rfl h
  | y :: r, _, h => by
    rw [Lib.join_cons]
    intro e
    exact h y (by simp) (List.append_eq_nil_iff.1 e).1
theorem other_vis {l : List UInt8} (h : ∀ x ∈ l, 32 ≤ x.toNat) : ∀ x ∈ otherL l, 32 ≤ x.toNat := by
  intro x hx
  unfold otherL at hx
  split at hx
  · exact h x (List.mem_of_mem_take hx)
  · rcases List.mem_append.1 hx with hx | hx
    · exact h x hx
    · simp at hx; subst hx; decide
structure DsOk (R : DsR) (n : Nat) : Prop where
  ro : R.st = 200 → R.ro < n
  lo : R.st = 301 ∨ R.st = 308 → R.lo ≠ [] ∧ enL R.lo = false ∧ R.al = []
  al : R.st = 405 → R.al ≠ [] ∧ enL R.al = false ∧ R.lo = []
  no : ¬ (R.st = 301 ∨ R.st = 308) → R.st ≠ 405 → R.lo = [] ∧ R.al = []
theorem dsp_ok (m t : List UInt8) (es : List Ent) (hm : ∀ e ∈ es, Pm.isMethod e.m.data.toList = true) (h : (dspG m t es).e = 0) : DsOk (dspG m t es) es.length := by
  unfold dspG at h ⊢
  by_cases hb : Pm.isMethod m = false ∨ Pm.isTarget t = false
  · rw [if_pos hb] at h; simp at h
  rw [if_neg hb]
  have ht : Pm.isTarget t = true := by cases q : Pm.isTarget t; exact absurd (.inr q) hb; rfl
  rw [Pm.isTarget_path, Bool.and_eq_true] at ht
  have hv : ∀ x ∈ t, 32 ≤ x.toNat := fun x hx => by
    have := List.all_eq_true.1 ht.2 x hx
    unfold Pm.tgtB at this
    simp only [Bool.and_eq_true, decide_eq_true_eq] at this
    omega
  have hva : ∀ x ∈ Pm.ahead 63 t, 32 ≤ x.toNat := fun x hx => hv x (List.takeWhile_subset _ hx)
  have hvb : ∀ x ∈ Pm.behind 63 t, 32 ≤ x.toNat := fun x hx => hv x ((List.dropWhile_sublist _).subset hx)
  by_cases h1 : (leadG m (Pm.ahead 63 t) es).2.2 = 0
  · rw [if_pos h1]
    exact ⟨fun _ => leadG_lt h1, fun q => by simp at q, fun q => by simp at q, fun _ _ => ⟨rfl, rfl⟩⟩
  rw [if_neg h1]
  by_cases h2 : (otG m (Pm.ahead 63 t) es).2 = true
  · rw [if_pos h2]
    have hne : Pm.ahead 63 t ≠ [47] := fun e => by unfold otG at h2; rw [if_pos e] at h2; simp at h2
    have hp := other_path ht.1 hne
    have e1 : (otG m (Pm.ahead 63 t) es).1 = otherL (Pm.ahead 63 t) := by unfold otG; rw [if_neg hne]
    have hmv : movG m = 301 ∨ movG m = 308 := by unfold movG; split <;> simp
    refine ⟨fun q => ?_, fun _ => ⟨?_, ?_, rfl⟩, fun q => ?_, fun q _ => absurd hmv q⟩
    · have q' : movG m = 200 := q
      rcases hmv with h | h <;> rw [h] at q' <;> simp at q'
    · intro e
      have e2 := (List.append_eq_nil_iff.1 e).1
      rw [e1] at e2
      have := hp.2.1
      rw [e2] at this
      simp at this
    · show enL (_ ++ _) = false
      rw [e1, enL_app, enL_of (other_vis hva), enL_of hvb]; rfl
    · have q' : movG m = 405 := q
      rcases hmv with h | h <;> rw [h] at q' <;> simp at q'
  rw [if_neg h2]
  by_cases h3 : alwG (Pm.ahead 63 t) es ≠ []
  · rw [if_pos h3]
    have hmm : ∀ x ∈ alwG (Pm.ahead 63 t) es, x ≠ [] ∧ ∀ y ∈ x, 32 ≤ y.toNat := fun x hx => by
      rcases alw_mem hx with rfl | ⟨e, he, rfl⟩
      · exact ⟨by decide, by decide⟩
      · exact meth_end (hm e he)
    refine ⟨fun q => by simp at q, fun q => by simp at q, fun _ => ⟨join_ne _ _ h3 (fun x hx => (hmm x hx).1), ?_, rfl⟩, fun _ q => absurd rfl q⟩
    exact enL_of (join_vis _ (by decide) _ (fun x hx => (hmm x hx).2))
  · rw [if_neg h3]
    exact ⟨fun q => by simp at q, fun q => by simp at q, fun q => by simp at q, fun _ _ => ⟨rfl, rfl⟩⟩
theorem pd_ok (hd bd : Int) (rs : List Rt) (ws : List Wr) (m t : List UInt8) (h : (pdG hd bd rs ws m t).e = 0) : DsOk (pdG hd bd rs ws m t) rs.length := by
  unfold pdG at h ⊢
  by_cases hc : (cfgE hd bd rs ws).2 = 0
  · rw [if_pos hc] at h ⊢
    have := dsp_ok m t (rs.map rtBare) (fun e he => by
      obtain ⟨r, hr, rfl⟩ := List.mem_map.1 he
      exact rts_meth rs [] 0 (cfg_ok hc).2.2.1 r hr) h
    simpa using this
  · rw [if_neg hc] at h; exact absurd h hc
end Go.Proofs.YtfdhmeojkagokaaGreatDoor

/- Plain mathematics: a number in digits to a base, as the reference tells it; base ten is the library's. -/
namespace Go.Proofs.YtfdhmeojkagokaaGreatDoor

def digC (d : Nat) : UInt8 := if d < 10 then UInt8.ofNat (48 + d) else UInt8.ofNat (87 + d)
def natTF (b : Nat) : Nat → Nat → List UInt8
  | 0, u => [digC u]
  | k + 1, u => if u < b ∨ b < 2 then [digC u] else natTF b k (u / b) ++ [digC (u % b)]
def natT (b u : Nat) : List UInt8 := natTF b u u
theorem natTF_up (b : Nat) : ∀ (k u j : Nat), u ≤ k → k ≤ j → natTF b j u = natTF b k u
  | 0, u, j, h, _ => by
    cases j with
    | zero => rfl
    | succ j =>
      unfold natTF
      split
      · rfl
      · exfalso; omega
  | k + 1, u, j, h, h2 => by
    cases j with
    | zero => exfalso; omega
    | succ j =>
      unfold natTF
      split
      · rfl
      · have hd : u / b < u := Nat.div_lt_self (by omega) (by omega)
        rw [natTF_up b k (u / b) j (by omega) (by omega)]
theorem natT_small {b u : Nat} (h : u < b) : natT b u = [digC u] := by
  unfold natT
  cases u with
  | zero => rfl
  | succ u => unfold natTF; rw [if_pos (Or.inl h)]
theorem natT_big {b u : Nat} (hb : 2 ≤ b) (h : ¬ u < b) : natT b u = natT b (u / b) ++ [digC (u % b)] := by
  unfold natT
  cases u with
  | zero => exfalso; omega
  | succ u =>
    have hd : (u + 1) / b < u + 1 := Nat.div_lt_self (by omega) (by omega)
    rw [natTF, if_neg (by omega), natTF_up b ((u + 1) / b) ((u + 1) / b) u (by omega) (by omega)]
def numT (b : Nat) (n : Int) : List UInt8 := if n < 0 then 45 :: natT b n.natAbs else natT b n.toNat
theorem natT_len {b : Nat} (hb : 2 ≤ b) : ∀ (k u : Nat), u < 2 ^ (k + 1) → (natT b u).length ≤ k + 1
  | 0, u, h => by rw [natT_small (by simp at h; omega)]; simp
  | k + 1, u, h => by
    by_cases hu : u < b
    · rw [natT_small hu]; simp
    · rw [natT_big hb hu, List.length_append]
      have h1 : u / b < 2 ^ (k + 1) := by
        rw [Nat.div_lt_iff_lt_mul (by omega)]
        rw [Nat.pow_succ] at h
        exact Nat.lt_of_lt_of_le h (Nat.mul_le_mul_left _ hb)
      have := natT_len hb k (u / b) h1
      simp; omega
theorem natT_le {b u : Nat} (hb : 2 ≤ b) (h : u ≤ 9223372036854775808) : (natT b u).length ≤ 64 := natT_len hb 63 u (by omega)
end Go.Proofs.YtfdhmeojkagokaaGreatDoor
