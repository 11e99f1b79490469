/- Texts that follow one another, joined. -/
import Derived.Test.YtbphabgjhoifbaaGreatDoorJoin24
import Derived.Test.YtbphabgjhoifbaaGreatDoorJoin23
import Derived.Test.YtbphabgjhoifbaaGreatDoorJoin13
import Derived.Test.YtbphabgjhoifbaaGreatDoorJoin21
import Derived.Test.YtbphabgjhoifbaaGreatDoorJoin00
import Derived.Lib.ItoaNum
import Derived.Test.YtbphabgjhoifbaaGreatDoorJoin03
/- The reference's Has and Match; nothing old in memory turns. -/
namespace Go.Proofs.YtbphabgjhoifbaaGreatDoor
open Go.RowKit

theorem restLast_of : ∀ (l : List (List UInt8)), (∀ i (hi : i < l.length), Pm.pieceK l[i] = 2 → i + 1 = l.length) → restLast l := by
  intro l
  induction l with
  | nil => intro _; trivial
  | cons a l ih =>
    intro h
    refine ⟨fun h2 => ?_, ih (fun i hi hk => ?_)⟩
    · have := h 0 (by simp) h2
      have : l.length = 0 := by simpa using this.symm
      exact List.eq_nil_of_length_eq_zero this
    · have := h (i + 1) (by simpa using hi) (by simpa using hk)
      simpa using this
theorem good_pieces {s : List UInt8} {ts : List ByteArray} (ht : ts.map (·.data.toList) = pcs s) (h : ∀ i (h : i < ts.length), okP ts ts[i] i = true) : pieces (pcs s) := by
  rw [← ht]
  constructor
  · apply restLast_of
    intro i hi hk
    rw [List.getElem_map] at hk
    rw [List.length_map] at hi ⊢
    exact good_rest h i hi hk
  · intro t htm hk
    obtain ⟨b, hb, rfl⟩ := List.mem_map.mp htm
    obtain ⟨i, hi, rfl⟩ := List.getElem_of_mem hb
    exact good_fix h i hi hk
theorem pcs_ne {s : List UInt8} (h : Lib.hasPrefix s [47] = true) : pcs s ≠ [] := by
  have hne : s ≠ [] := by rintro rfl; simp [Lib.hasPrefix] at h
  rw [pcs_step hne]; simp
theorem join_pcs (s : List UInt8) : (joinL (pcs s)).length ≤ s.length := by
  unfold pcs
  split
  · simp [joinL]
  · rw [join_split _ _ (Nat.le_refl _), List.length_drop]; omega

end Go.Proofs.YtbphabgjhoifbaaGreatDoor

/- Small configurations; how many parameters a request can have. -/
namespace Go.Proofs.YtbphabgjhoifbaaGreatDoor
open Go.RowKit

structure RtSm (r : Rt) : Prop where
  m : r.m.size ≤ 1048576
  p : r.p.size ≤ 1048576
  t : r.h.t.size ≤ 1048576
  n : r.h.n.size ≤ 1048576
theorem RtSm.ok {r : Rt} (h : RtSm r) : RtOk r := ⟨by have := h.m; omega, by have := h.p; omega, by have := h.t; omega, by have := h.n; omega⟩
theorem matchB_len5 : ∀ (ps : List (Int × ByteArray)) (l : List UInt8) (mr : Bool) (acc fs : List Prm), matchB ps l mr acc = some fs → fs.length ≤ acc.length + ps.length
  | [], l, mr, acc, fs, h => by
    rw [matchB] at h
    split at h
    · cases h
    · cases h; simp
  | p :: r, l, mr, acc, fs, h => by
    rw [matchB] at h
    split at h
    · cases h
    · split at h
      · have := matchB_len5 r _ _ _ _ h
        rw [List.length_cons]
        split at this
        · omega
        · simp at this; omega
      · cases h
theorem pat_good5 {s : List UInt8} {p : List (Int × ByteArray)} (h : patternOf s = some p) : p = (pcs s).map pcB ∧ pieces (pcs s) ∧ pcs s ≠ [] ∧ s.length ≤ 64 := by
  have ht : ((pcs s).map fun x => (⟨x.toArray⟩ : ByteArray)).map (·.data.toList) = pcs s := by rw [List.map_map]; simp [Function.comp_def]
  by_cases hg : GoodP s ((pcs s).map fun x => (⟨x.toArray⟩ : ByteArray))
  · have h2 := patternOf_good ht hg
    rw [h] at h2
    obtain ⟨g1, g2, g3⟩ := hg
    exact ⟨Option.some.inj h2, good_pieces ht g3, pcs_ne g2, g1⟩
  · rw [patternOf_bad ht hg] at h; cases h
theorem findG_len (K : Nat) (m l : List UInt8) : ∀ (es : List Ent) (k : Nat), (∀ e ∈ es, e.ps.length ≤ K) → (findG m l es k).2.1.length ≤ K
  | [], _, _ => by simp [findG]
  | e :: r, k, h => by
    have ih := findG_len K m l r (k + 1) (fun x hx => h x (by simp [hx]))
    rw [findG]
    split
    · split
      · rename_i fs hfs
        have h1 := matchB_len5 _ _ _ _ _ hfs
        have h2 := h e (by simp)
        simp at h1 ⊢; omega
      · exact ih
    · exact ih
theorem pat_len (r : Rt) : (rtBare r).ps.length ≤ 64 := by
  unfold rtBare
  cases hp : patternOf r.p.data.toList with
  | none => simp
  | some p =>
    obtain ⟨h1, -, -, h4⟩ := pat_good5 hp
    have h5 := (pcs_le _ r.p.data.toList (Nat.le_refl _)).1
    simp only [Option.getD_some]
    rw [h1, List.length_map]; omega
theorem pd_len (hd bd : Int) (rs : List Rt) (ws : List Wr) (m t : List UInt8) : (pdG hd bd rs ws m t).ps.length ≤ 1000 ∧ ((pdG hd bd rs ws m t).e ≠ 0 → (pdG hd bd rs ws m t).ps = []) := by
  have hz : ∀ l, (leadG m l (rs.map rtBare)).2.1.length ≤ 64 := fun l => by
    have hh : ∀ e ∈ rs.map rtBare, e.ps.length ≤ 64 := fun e he => by
      obtain ⟨r, _, rfl⟩ := List.mem_map.1 he
      exact pat_len r
    unfold leadG
    split
    · exact findG_len 64 _ _ _ _ hh
    · exact findG_len 64 _ _ _ _ hh
  unfold pdG
  split
  · unfold dspG
    split
    · simp
    · split
      · have := hz (Pm.ahead 63 t)
        exact ⟨by simp only; omega, fun h => absurd rfl h⟩
      · split
        · simp
        · split <;> simp
  · simp
end Go.Proofs.YtbphabgjhoifbaaGreatDoor

/- A site's Reply, of any request. -/
namespace Go.Proofs.YtbphabgjhoifbaaGreatDoor
open Go.RowKit

theorem siteReply_any (gs : Nat) (hd bd : Int) (rs : List Rt) (ws : List Wr) (es : List Ent) (v vh vw : Value) (qm qt qb : ByteArray) (fs : List Prm) (fa : Option Addr) (fc : Nat) (w : World) (S : StI gs gs es (rs.map Rt.h) ws v vh vw w) (hes : es.map Ent.bare = rs.map rtBare) (hE : (cfgE hd bd rs ws).2 = 0)
    (hro : ∀ r ∈ rs, RtSm r) (hwo : ∀ x ∈ ws, x.n.size ≤ 1048576 ∧ x.v.size ≤ 1048576) (hf : FlAt fs fa w) (hl : fs.length ≤ 1000000) (hz1 : ∀ i (h : i < fs.length), fs[i].1.size ≤ maxLen) (hz2 : ∀ p ∈ fs, p.2.size ≤ 2000000) (hms : qm.size ≤ maxLen) (hts : qt.size ≤ 2000000) (hqb : qb.size ≤ 2000000) :
    Calls Tryz.prog 37 #[.pointer (some ⟨gs, 0, none⟩), .agg #[.string qm, .string qt, .slice fa fs.length fc, .string qb]] w (RyPost (repD (pdG hd bd rs ws qm.data.toList qt.data.toList) rs ws fs qb) w) := by
  have hpd : pdG hd bd rs ws qm.data.toList qt.data.toList = dspG qm.data.toList qt.data.toList es := by
    unfold pdG; rw [if_pos hE, ← hes, dspG_bare]
  obtain ⟨c1, c2, c3, c4⟩ := cfg_ok hE
  have hjn := site_join (Pm.ahead 63 qt.data.toList) S hes c3
  have hlen := (pd_len hd bd rs ws qm.data.toList qt.data.toList).1
  have hok := pd_ok hd bd rs ws qm.data.toList qt.data.toList
  have hqtl : qt.data.toList.length = qt.size := by simp
  have hps := dsp_small 4000000 qm.data.toList qt.data.toList es (by omega)
  have hdl := dsp_len qm.data.toList qt.data.toList es
  rw [hpd] at hlen hok ⊢
  unfold repD
  refine siteReply_of gs qm qt qb fa fs.length fc (dspG qm.data.toList qt.data.toList es) (toG (dspG qm.data.toList qt.data.toList es) rs ws fs qb) (askG fs) w ?_ ?_ ?_ ?_ ?_
  · intro a ha
    have := to_small (K := 4000000) (by omega) (fun p hp => by have := hz2 p hp; omega) (by omega) hps (fun x hx => by have := hwo x hx; omega) (fun r hr => by have := (hro r hr).t; omega) (by omega) (by omega) c2 hl ha
    refine ⟨this.2, by have := this.1.1; omega, fun i hi => ?_⟩
    have h2 := this.1.2 _ (List.getElem_mem hi)
    exact ⟨by omega, by omega⟩
  · intro W hW
    exact dispatch_any gs gs es v qm qt W (S.below hW).tb hms (by omega) (by omega)
  · intro W pa pc ua ul hW hua hul ho he
    exact answer_site gs es rs ws v vh vw qm qt qb fs fa fc _ W (S.below hW) pa pc ua ul hua hul (fl_own ho) (hok he) (by omega) (hf.below hW) hl hz1 c2
  · intro n x W hx
    exact ends_any n x W hx
  · intro W hW
    refine asks_any qm qt qb fs fa fc W (hf.below hW) hl hz1 (fun x hx => ?_)
    obtain ⟨p, hp, rfl⟩ := vals_in hx
    have := hz2 p hp
    unfold maxLen; omega
end Go.Proofs.YtbphabgjhoifbaaGreatDoor

/- Plain mathematics: a number in digits to a base, as the reference tells it; base ten is the library's. -/
namespace Go.Proofs.YtbphabgjhoifbaaGreatDoor

def digC (d : Nat) : UInt8 := if d < 10 then UInt8.ofNat (48 + d) else UInt8.ofNat (87 + d)
def natTF (b : Nat) : Nat → Nat → List UInt8
  | 0, u => [digC u]
  | k + 1, u => if u < b ∨ b < 2 then [digC u] else natTF b k (u / b) ++ [digC (u % b)]
def natT (b u : Nat) : List UInt8 := natTF b u u
theorem natTF_up (b : Nat) : ∀ (k u j : Nat), u ≤ k → k ≤ j → natTF b j u = natTF b k u
  | 0, u, j, h, _ => by
    cases j with
    | zero => rfl
    | succ j =>
      unfold natTF
      split
      · rfl
      · exfalso; omega
  | k + 1, u, j, h, h2 => by
    cases j with
    | zero => exfalso; omega
    | succ j =>
      unfold natTF
      split
      · rfl
      · have hd : u / b < u := Nat.div_lt_self (by omega) (by omega)
        rw [natTF_up b k (u / b) j (by omega) (by omega)]
theorem natT_small {b u : Nat} (h : u < b) : natT b u = [digC u] := by
  unfold natT
  cases u with
  | zero => rfl
  | succ u => unfold natTF; rw [if_pos (Or.inl h)]
theorem natT_big {b u : Nat} (hb : 2 ≤ b) (h : ¬ u < b) : natT b u = natT b (u / b) ++ [digC (u % b)] := by
  unfold natT
  cases u with
  | zero => exfalso; omega
  | succ u =>
    have hd : (u + 1) / b < u + 1 := Nat.div_lt_self (by omega) (by omega)
    rw [natTF, if_neg (by omega), natTF_up b ((u + 1) / b) ((u + 1) / b) u (by omega) (by omega)]
def numT (b : Nat) (n : Int) : List UInt8 := if n < 0 then 45 :: natT b n.natAbs else natT b n.toNat
theorem natT_ten (u : Nat) : natT 10 u = Lib.decDigits u := by
  induction u using Nat.strongRecOn with
  | _ u ih =>
    by_cases h : u < 10
    · rw [natT_small h, Lib.decDigits, dif_pos h]; unfold digC; rw [if_pos h]
    · rw [natT_big (by omega) h, Lib.decDigits, dif_neg h, ih (u / 10) (by omega)]
      unfold digC; rw [if_pos (by omega)]
theorem numT_ten (n : Int) : numT 10 n = Lib.itoa n := by
  unfold numT Lib.itoa; rw [natT_ten, natT_ten]
theorem natT_len {b : Nat} (hb : 2 ≤ b) : ∀ (k u : Nat), u < 2 ^ (k + 1) → (natT b u).length ≤ k + 1
  | 0, u, h => by rw [natT_small (by simp at h; omega)]; simp
  | k + 1, u, h => by
    by_cases hu : u < b
    · rw [natT_small hu]; simp
    · rw [natT_big hb hu, List.length_append]
      have h1 : u / b < 2 ^ (k + 1) := by
        rw [Nat.div_lt_iff_lt_mul (by omega)]
        rw [Nat.pow_succ] at h
        exact Nat.lt_of_lt_of_le h (Nat.mul_le_mul_left _ hb)
      have := natT_len hb k (u / b) h1
      simp; omega
theorem natT_le {b u : Nat} (hb : 2 ≤ b) (h : u ≤ 9223372036854775808) : (natT b u).length ≤ 64 := natT_len hb 63 u (by omega)
theorem numT_le {b : Nat} {n : Int} (hb : 2 ≤ b) (h0 : -9223372036854775808 ≤ n) (h1 : n ≤ 9223372036854775807) : (numT b n).length ≤ 65 := by
  unfold numT
  split
  · have := natT_le (b := b) (u := n.natAbs) hb (by omega); simp; omega
  · have := natT_le (b := b) (u := n.toNat) hb (by omega); omega
end Go.Proofs.YtbphabgjhoifbaaGreatDoor

/- The reference's Number, at bases ten and sixteen; nothing old in memory turns. -/
namespace Go.Proofs.YtbphabgjhoifbaaGreatDoor
open Go.RowKit

def hexD : ByteArray := ⟨#[48, 49, 50, 51, 52, 53, 54, 55, 56, 57, 97, 98, 99, 100, 101, 102]⟩
theorem wrap64_nat {x : Nat} (h : x ≤ 9223372036854775807) : wrap64 (x : Int) = (x : Int) := by
  unfold wrap64; omega
theorem hexD_at : ∀ k : Nat, k < 16 → (hexD.extract k (k + 1)) = ⟨#[digC k]⟩ := by decide
theorem ret_strL {a : ByteArray} {l : List UInt8} (h : a.data.toList = l) : Ending.returned (.string a) = .returned (.string ⟨l.toArray⟩) := by
  congr 2; apply ByteArray.ext; rw [← h]
theorem numT_step (u : Nat) (h : 1 ≤ u) : numT 10 (-((10 * u + 8 : Nat) : Int)) = numT 10 (-(u : Int)) ++ [56] := by
  unfold numT
  rw [if_pos (by omega), if_pos (by omega), Int.natAbs_neg, Int.natAbs_neg, Int.natAbs_natCast, Int.natAbs_natCast, natT_big (b := 10) (u := 10 * u + 8) (by omega) (by omega), show (10 * u + 8) / 10 = u from by omega, show (10 * u + 8) % 10 = 8 from by omega]
  rfl
theorem numT_min (n m : Int) (hn : n = -9223372036854775808) (hm : m = -922337203685477580) : numT 10 n = numT 10 m ++ [56] := by
  have := numT_step 922337203685477580 (by omega)
  rw [show (-((10 * 922337203685477580 + 8 : Nat) : Int)) = n from by omega, show (-((922337203685477580 : Nat) : Int)) = m from by omega] at this
  exact this
end Go.Proofs.YtbphabgjhoifbaaGreatDoor
