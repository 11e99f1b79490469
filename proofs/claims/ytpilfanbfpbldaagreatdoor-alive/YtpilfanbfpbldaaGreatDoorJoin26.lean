/- Texts that follow one another, joined. -/
import Derived.Test.YtpilfanbfpbldaaGreatDoorJoin22
import Derived.Test.YtpilfanbfpbldaaGreatDoorJoin23
import Derived.Test.YtpilfanbfpbldaaGreatDoorJoin24
import Derived.Test.YtpilfanbfpbldaaGreatDoorJoin25
import Derived.Test.YtpilfanbfpbldaaGreatDoorJoin05
import Derived.Test.YtpilfanbfpbldaaGreatDoorJoin02
import Derived.Test.YtpilfanbfpbldaaGreatDoorJoin12
import Derived.Test.YtpilfanbfpbldaaGreatDoorJoin07
/- A site's answer, and how great it can be. -/
namespace Go.Proofs.YtpilfanbfpbldaaGreatDoor
open Go.RowKit

theorem fm_get {α : Type} {sz : Nat} {f : α → List Value} (hf : ∀ x, (f x).length = sz) : ∀ (l : List α) (i : Nat) (h : i < l.length) (j : Nat) (v : Value), (f l[i])[j]? = some v → (l.flatMap f)[i * sz + j]? = some v
  | [], i, h, _, _, _ => absurd h (by simp)
  | x :: r, 0, _, j, v, hv => by
    rw [List.flatMap_cons]
    simp only [Nat.zero_mul, Nat.zero_add]
    simp only [List.getElem_cons_zero] at hv
    obtain ⟨hj, rfl⟩ := List.getElem?_eq_some_iff.1 hv
    rw [List.getElem?_append_left hj]; simp
  | x :: r, i + 1, h, j, v, hv => by
    have ih := fm_get hf r i (by simpa using h) j v (by simpa using hv)
    rw [List.flatMap_cons, List.getElem?_append_right (by rw [hf x, Nat.succ_mul]; omega), hf x]
    rw [show (i + 1) * sz + j - sz = i * sz + j by rw [Nat.succ_mul]; omega]
    exact ih
theorem own_cells {α : Type} {sz : Nat} {f : α → List Value} (hf : ∀ x, (f x).length = sz) {l : List α} {B : Nat} {e : TypeId} {v : Value} {w : World} (h : w.ownsRow B e sz v l.length (l.flatMap f)) : (v = .slice none 0 0 ∧ l = []) ∨ ∃ g cap, v = .slice (some ⟨g, 0, none⟩) l.length cap ∧ g < w.heap.size ∧ l.length ≤ cap ∧ ∀ i (h : i < l.length) (j : Nat) (u : Value), (f l[i])[j]? = some u → w.cell? ⟨g, i * sz + j, none⟩ = some u := by
  rcases h.2 with ⟨h1, h2⟩ | ⟨g, cap, cur, hv, hB, hg, hc, hm, hz, ht⟩
  · exact .inl ⟨h1, List.eq_nil_of_length_eq_zero h2⟩
  · refine .inr ⟨g, cap, hv, (Array.getElem?_eq_some_iff.1 hg).1, hc, fun i hi j u hu => ?_⟩
    have h3 := fm_get hf l i hi j u hu
    rw [← ht, List.getElem?_take] at h3
    split at h3
    · rw [Lib.cell_of_heap hg]; simpa using h3
    · cases h3
theorem own_mu {α : Type} {sz : Nat} {f : α → List Value} (hf : ∀ x, (f x).length = sz) {l : List α} {B : Nat} {e : TypeId} {v : Value} {w : World} (h : w.ownsRow B e sz v l.length (l.flatMap f)) : ∃ a c, v = .slice a l.length c ∧ MuAt sz f l a w ∧ l.length ≤ c := by
  rcases own_cells hf h with ⟨h1, rfl⟩ | ⟨g, cap, hv, hg, hc, hcell⟩
  · exact ⟨none, 0, h1, fun i hi => absurd hi (by simp), Nat.le_refl _⟩
  · exact ⟨_, cap, hv, fun i hi => ⟨g, 0, rfl, hg, fun j u hu => by rw [Nat.zero_add]; exact hcell i hi j u hu⟩, hc⟩
theorem ba_of {u : ByteArray} {l : List UInt8} (h : u.data.toList = l) : u = ⟨l.toArray⟩ := by
  apply ByteArray.ext; simp [← h]
theorem answer_site (gs : Nat) (es : List Ent) (rs : List Rt) (ws : List Wr) (v vh vw : Value) (qm qt qb : ByteArray) (fs : List Prm) (fa : Option Addr) (fc : Nat) (R : DsR) (W : World) (S : StI gs gs es (rs.map Rt.h) ws v vh vw W) (pa : Option Addr) (pc : Nat) (ua ul : ByteArray) (hua : ua.data.toList = R.al) (hul : ul.data.toList = R.lo) (hps : FlAt R.ps pa W) (hok : DsOk R rs.length) (hnp : R.ps.length ≤ 1000000) (hf : FlAt fs fa W) (hl : fs.length ≤ 1000000) (hz : ∀ i (h : i < fs.length), fs[i].1.size ≤ maxLen) (hwl : ws.length ≤ 6) :
    Calls Tryz.prog 60 #[.pointer (some ⟨gs, 0, none⟩), .agg #[.string qm, .string qt, .slice fa fs.length fc, .string qb], .agg #[.int .i64 R.st, .int .i64 R.ro, .slice pa R.ps.length pc, .string ua, .string ul]] W (ThPost (toG R rs ws fs qb) W) := by
  by_cases h2 : R.st = 200
  · have e : toG R rs ws fs qb = thrG fs qb (hdOf rs R.ro) R.ps ws := if_pos h2
    have hro := hok.ro h2
    rw [e, h2]
    obtain ⟨aw, cw, hvw, mw, hcw⟩ := own_mu (f := Wr.cells) (fun _ => rfl) S.wr
    rcases own_cells (f := Hn.cells) (fun _ => rfl) S.hr with ⟨-, h0⟩ | ⟨gh, ch, hvh, hgh, hch, hcell⟩
    · rw [List.map_eq_nil_iff.1 h0] at hro; simp at hro
    have hlen : R.ro < (rs.map Rt.h).length := by simpa using hro
    have hhd : hdOf rs R.ro = (rs.map Rt.h)[R.ro]'hlen := by
      unfold hdOf; rw [List.getElem?_eq_getElem hro]; simp
    have hc := hcell R.ro hlen
    rw [← hhd] at hc
    have s1 : W.cell? ⟨gs, 1, none⟩ = some vh := by rw [Lib.cell_of_heap S.blk]; rfl
    have s2 : W.cell? ⟨gs, 2, none⟩ = some vw := by rw [Lib.cell_of_heap S.blk]; rfl
    rw [hvh] at s1
    rw [hvw] at s2
    have hb1 : 1 + ws.length * (fs.length + 1) ≤ 50000000 := by
      have : ws.length * (fs.length + 1) ≤ 6 * (fs.length + 1) := Nat.mul_le_mul_right _ hwl
      omega
    exact answer_found gs gh (rs.map Rt.h).length ch aw ws.length cw ⟨qm, qt, qb, fs, fa, fc, R.ps, pa, pc, hdOf rs R.ro⟩ R.ro ua ul _ W hlen s1 s2 (hc 0 _ rfl) (hc 1 _ rfl) (hc 2 _ rfl) (hc 3 _ rfl)
      (fun W' hb => through_any ⟨qm, qt, qb, fs, fa, fc, R.ps, pa, pc, hdOf rs R.ro⟩ ws aw cw W' (mw.below hb) hcw (by omega) hb1 ⟨hf.below hb, hps.below hb, hl, hnp, hz⟩)
  · have e : toG R rs ws fs qb = some (restG R.st ua ul) := by
      unfold toG; rw [if_neg h2, ba_of hua, ba_of hul]
    rw [e]
    exact answer_rest _ qm qt qb fa fs.length fc R.st R.ro pa R.ps.length pc ua ul W h2
theorem other_le (l : List UInt8) : (otherL l).length ≤ l.length + 1 := by
  unfold otherL
  split
  · rw [List.length_take]; omega
  · simp
theorem dsp_len (m t : List UInt8) (es : List Ent) : (dspG m t es).lo.length ≤ t.length + 1 ∧ (dspG m t es).al.length ≤ (Lib.join (alwG (Pm.ahead 63 t) es) [44, 32]).length := by
  have hab := congrArg List.length (Pm.ahead_behind 63 t)
  rw [List.length_append] at hab
  have ho := other_le (Pm.ahead 63 t)
  unfold dspG
  split
  · simp
  split
  · simp
  split
  · refine ⟨?_, by simp⟩
    simp only [List.length_append]
    unfold otG
    split
    · simp; omega
    · simp only; omega
  · split
    · simp
    · simp
theorem rest_small {K : Nat} {st : Int} {al lo : ByteArray} (h8 : 8 ≤ K) (h1 : al.size ≤ K) (h2 : lo.size ≤ K) : SmA K (restG st al lo) ∧ (restG st al lo).fs.length ≤ 1 := by
  unfold restG
  split
  · refine ⟨⟨Nat.zero_le _, fun p hp => ?_⟩, by simp⟩
    simp only [List.mem_singleton] at hp
    subst hp
    exact ⟨h8, h2⟩
  split
  · refine ⟨⟨Nat.zero_le _, fun p hp => ?_⟩, by simp⟩
    simp only [List.mem_singleton] at hp
    subst hp
    exact ⟨Nat.le_trans (show allowB.size ≤ 8 by decide) h8, h1⟩
  · exact ⟨none_small K _, by simp⟩
theorem to_small {K : Nat} {R : DsR} {rs : List Rt} {ws : List Wr} {qf : List Prm} {qb : ByteArray} (h8 : 8 ≤ K) (hf : ∀ p ∈ qf, p.2.size ≤ K) (hq : qb.size ≤ K) (hp : ∀ p ∈ R.ps, p.2.size ≤ K) (hw : ∀ x ∈ ws, x.n.size ≤ K ∧ x.v.size ≤ K) (hr : ∀ r ∈ rs, r.h.t.size ≤ K) (ha : R.al.length ≤ K) (hlo : R.lo.length ≤ K) (hwl : ws.length ≤ 6) (hfl : qf.length ≤ 1000000) {a : An} (e : toG R rs ws qf qb = some a) : SmA K a ∧ a.fs.length ≤ 50000000 := by
  unfold toG at e
  split at e
  · have ht : (hdOf rs R.ro).t.size ≤ K := by
      unfold hdOf
      cases h : rs[R.ro]? with
      | none => exact Nat.zero_le _
      | some r => exact hr r (List.mem_of_getElem? h)
    have h2 := thrG_le qf qb (hdOf rs R.ro) R.ps ws a e
    have : ws.length * (qf.length + 1) ≤ 6 * (qf.length + 1) := Nat.mul_le_mul_right _ hwl
    exact ⟨thr_small (by omega) hf ht hq hp ws a hw e, by omega⟩
  · cases e
    have := rest_small (K := K) (st := R.st) (al := ⟨R.al.toArray⟩) (lo := ⟨R.lo.toArray⟩) h8 (by show R.al.toArray.size ≤ K; simpa using ha) (by show R.lo.toArray.size ≤ K; simpa using hlo)
    exact ⟨this.1, by omega⟩
theorem ends_any (n v : ByteArray) (w : World) (hv : v.size ≤ 4000000000) :
    Calls Tryz.prog 62 #[.agg #[.string n, .string v]] w fun e w' => e = .returned (.bool (endG v)) ∧ Below w.heap.size w w' :=
  ends_of n v w (fun W _ => containsAny_all v W (by omega))
end Go.Proofs.YtpilfanbfpbldaaGreatDoor

/- The reference's small forms: methods, paths, targets, values, names that are alike: each call answers what the plain mathematics says; nothing old in memory turns. -/
namespace Go.Proofs.YtpilfanbfpbldaaGreatDoor
open Go.RowKit

end Go.Proofs.YtpilfanbfpbldaaGreatDoor

/- The reference's pieces: whether one is fixed or a rest, and its name; nothing old in memory turns. -/
namespace Go.Proofs.YtpilfanbfpbldaaGreatDoor
open Go.RowKit

def nameOf (s : ByteArray) : ByteArray := if Pm.pieceK s.data.toList = 0 then ⟨#[]⟩ else s.extract 1 s.size

end Go.Proofs.YtpilfanbfpbldaaGreatDoor

/- The reference's values of the fields that are named alike, in new memory; nothing old in memory turns. -/
namespace Go.Proofs.YtpilfanbfpbldaaGreatDoor
open Go.RowKit

end Go.Proofs.YtpilfanbfpbldaaGreatDoor
