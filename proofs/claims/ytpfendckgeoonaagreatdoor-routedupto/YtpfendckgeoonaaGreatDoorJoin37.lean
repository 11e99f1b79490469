/- Texts that follow one another, joined. -/
import Derived.Test.YtpfendckgeoonaaGreatDoorJoin36
/- The statement's own 'sameParams', of the same parameters (as in SnF, which other seats have). -/
namespace Go.Proofs.YtpfendckgeoonaaGreatDoor
open Go.RowKit

def PrAt (fs : List Prm) (a : Option Addr) (w : World) : Prop :=
  ∀ i (h : i < fs.length), ∃ g, a = some ⟨g, 0, none⟩ ∧ g < w.heap.size ∧ w.cell? ⟨g, i * 2, none⟩ = some (.string fs[i].1) ∧ w.cell? ⟨g, i * 2 + 1, none⟩ = some (.string fs[i].2)
theorem PrAt.below {fs : List Prm} {a : Option Addr} {w w' : World} (h : PrAt fs a w) (hb : Below w.heap.size w w') : PrAt fs a w' := fun i hi => by
  obtain ⟨g, h1, h2, h3, h4⟩ := h i hi
  exact ⟨g, h1, Nat.lt_of_lt_of_le h2 hb.size, cell_later hb h3, cell_later hb h4⟩
theorem prCells_get : ∀ (es : List Prm) (i : Nat) (h : i < es.length), (prCells es)[i * 2]? = some (.string es[i].1) ∧ (prCells es)[i * 2 + 1]? = some (.string es[i].2)
  | [], i, h => absurd h (by simp)
  | f :: fs, 0, h => by simp [prCells]
  | f :: fs, i + 1, h => by
    have := prCells_get fs i (by simpa using h)
    have e : prCells (f :: fs) = (.string f.1) :: (.string f.2) :: prCells fs := by simp [prCells]
    rw [e, show (i + 1) * 2 = i * 2 + 1 + 1 from by omega, List.getElem?_cons_succ, List.getElem?_cons_succ, show i * 2 + 1 + 1 + 1 = (i * 2 + 1) + 1 + 1 from by omega, List.getElem?_cons_succ, List.getElem?_cons_succ]
    exact this
theorem pr_of_owns {w : World} {B : Nat} {e : TypeId} {v : Value} {es : List Prm} (h : w.ownsRow B e 2 v es.length (prCells es)) : ∃ a cap, v = .slice a es.length cap ∧ PrAt es a w := by
  obtain ⟨h1, h2⟩ := h
  rcases h2 with ⟨h2, h3⟩ | ⟨g, cap, cur, hv, hB, hg, hc, hm, hsz, ht⟩
  · refine ⟨none, 0, ?_, fun i hi => ?_⟩
    · rw [h3]; exact h2
    · omega
  · refine ⟨some ⟨g, 0, none⟩, cap, hv, fun i hi => ⟨g, rfl, ?_, ?_, ?_⟩⟩
    · rcases Nat.lt_or_ge g w.heap.size with h' | h'
      · exact h'
      · simp [Array.getElem?_eq_none h'] at hg
    all_goals
      obtain ⟨m1, m2⟩ := prCells_get es i hi
      rw [← ht, List.getElem?_take] at m1 m2
      rw [Lib.cell_of_heap hg]
    · split at m1
      · simpa using m1
      · cases m1
    · split at m2
      · simpa using m2
      · cases m2
set_option maxRecDepth 100000 in
set_option maxHeartbeats 1000000 in
theorem sameParams_walk (fs : List Prm) (a b : Option Addr) (ca cb : Nat) (w : World) (h1 : PrAt fs a w) (h2 : PrAt fs b w) (hl : fs.length ≤ 1000000) :
    Calls Tryz.prog 11 #[.slice a fs.length ca, .slice b fs.length cb] w fun e w' => e = .returned (.bool true) ∧ Below w.heap.size w w' := by
  have H1 := hid h1
  have H2 := hid h2
  clear h1 h2
  go_enter Tryz.func11, Tryz.ntmps11
  go_wp2
  go_loopw [5] (fun i wr => ∃ k : Nat, k ≤ fs.length ∧ i = .int .i64 k ∧ Below w.heap.size w wr) (fun i _ => fs.length - (intOf i).toNat)
  case atStart => exact ⟨0, Nat.zero_le _, rfl, Below.refl _ _⟩
  case round =>
    obtain ⟨k, hk, rfl, hbw⟩ := hrel
    by_cases hlt : k < fs.length
    · obtain ⟨ga, rfl, hg1, hc1, hc2⟩ := (H1.out.below hbw) k hlt
      obtain ⟨gb, rfl, hg2, hc3, hc4⟩ := (H2.out.below hbw) k hlt
      generalize fs[k].1 = nm at *
      generalize fs[k].2 = vl at *
      go_wp2_with fail
      go_quiet (fail)
      go_wp2
      exact ⟨⟨k + 1, by omega, by go_num, below_drewN hbw _⟩, by simp [intOf]; omega⟩
    · go_wp2
      go_ret
      exact ⟨rfl, hbw⟩
end Go.Proofs.YtpfendckgeoonaaGreatDoor

/- The statement's own 'allowed', as plain mathematics. -/
namespace Go.Proofs.YtpfendckgeoonaaGreatDoor
open Go.RowKit

def sepL : List UInt8 := [44, 32]
def seph : List UInt8 := [44, 32, 72, 69, 65, 68]
/- the loop, from an element on -/
def alwRun : List (List UInt8) → List UInt8 → Bool → Bool → List UInt8
  | [], s, g, h => if g = true ∧ h = false then s ++ seph else s
  | x :: r, s, g, h =>
    let b : Bool := g && (!h && decide (hdL < x))
    let s1 := if b = true then s ++ seph else s
    let s2 := (if s1 ≠ [] then s1 ++ sepL else s1) ++ x
    alwRun r s2 (g || decide (x = gtL)) ((h || b) || decide (x = hdL))
theorem run_h : ∀ (r : List (List UInt8)) (s : List UInt8) (g : Bool), s ≠ [] → alwRun r s g true = s ++ Lib.joinTail sepL r
  | [], s, g, _ => by simp [alwRun, Lib.joinTail]
  | x :: r, s, g, hs => by
    rw [alwRun]
    simp only [Bool.not_true, Bool.false_and, Bool.and_false, Bool.false_eq_true, if_false, if_pos hs, Bool.or_false, Bool.true_or]
    rw [run_h r _ _ (by simp [hs])]
    simp [Lib.joinTail]
theorem run_noget : ∀ (r : List (List UInt8)) (s : List UInt8) (h : Bool), s ≠ [] → gtL ∉ r → alwRun r s false h = s ++ Lib.joinTail sepL r
  | [], s, h, _, _ => by simp [alwRun, Lib.joinTail]
  | x :: r, s, h, hs, hg => by
    have hx : x ≠ gtL := fun e => hg (by simp [e])
    rw [alwRun]
    simp only [Bool.false_and, Bool.false_eq_true, if_false, if_pos hs, Bool.false_or, decide_eq_false hx]
    rw [run_noget r _ _ (by simp [hs]) (fun e => hg (by simp [e]))]
    simp [Lib.joinTail]
/- where HEAD stands already, behind what is not above it -/
theorem run_has : ∀ (r : List (List UInt8)) (s : List UInt8) (g : Bool), s ≠ [] → hdL ∈ r → r.Pairwise (fun x y => ¬ y < x) → alwRun r s g false = s ++ Lib.joinTail sepL r
  | [], _, _, _, h, _ => absurd h (by simp)
  | x :: r, s, g, hs, hm, hp => by
    have hx : ¬ hdL < x := by
      rcases List.mem_cons.1 hm with e | e
      · rw [e]; exact List.lt_irrefl _
      · exact (List.pairwise_cons.1 hp).1 hdL e
    rw [alwRun]
    simp only [decide_eq_false hx, Bool.and_false, Bool.false_eq_true, if_false, if_pos hs, Bool.or_false, Bool.false_or]
    by_cases e : x = hdL
    · rw [decide_eq_true e, run_h r _ _ (by simp [hs])]
      simp [Lib.joinTail]
    · rw [decide_eq_false e, run_has r _ _ (by simp [hs]) ((List.mem_cons.1 hm).resolve_left (fun q => e q.symm)) (List.pairwise_cons.1 hp).2]
      simp [Lib.joinTail]
/- HEAD laid in ahead of the first that is above it -/
def insH : List (List UInt8) → List (List UInt8)
  | [] => [hdL]
  | x :: r => if hdL < x then hdL :: x :: r else x :: insH r
theorem run_ins : ∀ (r : List (List UInt8)) (s : List UInt8), s ≠ [] → hdL ∉ r → alwRun r s true false = s ++ Lib.joinTail sepL (insH r)
  | [], s, _, _ => by simp [alwRun, insH, Lib.joinTail, seph, sepL, hdL]
  | x :: r, s, hs, hm => by
    have e : x ≠ hdL := fun q => hm (by simp [q])
    rw [alwRun, insH]
    by_cases hx : hdL < x
    · simp only [decide_eq_true hx, Bool.not_false, Bool.and_self, if_true, Bool.or_true, Bool.true_or, if_pos hx]
      rw [if_pos (by simp [hs]), run_h r _ _ (by simp [hs])]
      simp [Lib.joinTail, seph, sepL, hdL]
    · simp only [decide_eq_false hx, Bool.and_false, Bool.false_eq_true, if_false, if_pos hs, Bool.or_false, Bool.true_or, decide_eq_false e, if_neg hx]
      rw [run_ins r _ (by simp [hs]) (fun q => hm (by simp [q]))]
      simp [Lib.joinTail]
end Go.Proofs.YtpfendckgeoonaaGreatDoor
