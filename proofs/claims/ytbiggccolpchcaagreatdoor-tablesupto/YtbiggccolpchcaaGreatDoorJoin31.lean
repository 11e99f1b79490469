/- Texts that follow one another, joined. -/
import Derived.Test.YtbiggccolpchcaaGreatDoorJoin30
import Derived.Test.YtbiggccolpchcaaGreatDoorJoin15
import Derived.Test.YtbiggccolpchcaaGreatDoorJoin17
/- The program's Add at its face, of any method and any pattern. -/
namespace Go.Proofs.YtbiggccolpchcaaGreatDoor
open Go.RowKit

/- what Add leaves behind -/
def PaQ (gt B : Nat) (es : List Ent) (v : Value) (m s : ByteArray) (w w' : World) : Prop :=
  ((adE m.data.toList s.data.toList es).2 ≠ 0 → Below w.heap.size w w') ∧ ((adE m.data.toList s.data.toList es).2 = 0 → ∃ p, patternOf s.data.toList = some p ∧ Added gt 0 B es v m p w w')
theorem tAdd_all (gt B : Nat) (es : List Ent) (v : Value) (m s : ByteArray) (mx : Int) (w : World) (hT : TbAt gt 0 B es v w) (hms : m.size ≤ maxLen) (hs : s.size ≤ 281474976710656) (hm : w.cell? ⟨0, 0, none⟩ = some (.int .i64 mx)) (hB : B ≤ gt) (hBw : B ≤ w.heap.size) :
    Calls Tryz.prog 102 #[.pointer (some ⟨gt, 0, none⟩), .string m, .string s] w fun r w' => r = .returned (.tuple #[.int .i64 (adE m.data.toList s.data.toList es).1, .int .i64 (adE m.data.toList s.data.toList es).2]) ∧ PaQ gt B es v m s w w' := by
  have err : ∀ (a b : Int), adE m.data.toList s.data.toList es = (a, b) → b ≠ 0 → Calls Tryz.prog 102 #[.pointer (some ⟨gt, 0, none⟩), .string m, .string s] w (fun r w' => r = .returned (.tuple #[.int .i64 a, .int .i64 b]) ∧ Below w.heap.size w w') → Calls Tryz.prog 102 #[.pointer (some ⟨gt, 0, none⟩), .string m, .string s] w fun r w' => r = .returned (.tuple #[.int .i64 (adE m.data.toList s.data.toList es).1, .int .i64 (adE m.data.toList s.data.toList es).2]) ∧ PaQ gt B es v m s w w' := fun a b he hb H => H.mono (by
    rintro r w' ⟨rfl, hw⟩
    unfold PaQ
    rw [he]
    exact ⟨rfl, fun _ => hw, fun h => absurd h hb⟩)
  cases hmm : Pm.isMethod m.data.toList with
  | false => exact err 0 1 (by unfold adE; rw [if_pos hmm]) (by decide) (tAdd_arg _ m s w hmm hms)
  | true =>
    have e0 : ¬ Pm.isMethod m.data.toList = false := by rw [hmm]; decide
    cases hp : patternOf s.data.toList with
    | none => exact err 0 8 (by unfold adE; rw [if_neg e0, hp]) (by decide) (tAdd_pat _ m s mx w hmm hms hp hs hm)
    | some p =>
      have hm1 := meth_small hmm
      have hs1 := pat_small hp
      by_cases h24 : 24 ≤ es.length
      · exact err 0 10 (by unfold adE; rw [if_neg e0, hp]; simp only [if_pos h24]) (by decide) (tAdd_no gt 0 B es v m s p mx w hT hmm hm1 hp (by omega) hm 0 10 (.inl ⟨h24, rfl, rfl⟩))
      · cases hh : hitG m.data.toList p es 0 with
        | some j => exact err j 9 (by unfold adE; rw [if_neg e0, hp]; simp only [if_neg h24, hh]) (by decide) (tAdd_no gt 0 B es v m s p mx w hT hmm hm1 hp (by omega) hm j 9 (.inr ⟨by omega, j, hh, rfl, rfl⟩))
        | none =>
          have he : adE m.data.toList s.data.toList es = (((es.length : Nat) : Int), (0 : Int)) := by unfold adE; rw [if_neg e0, hp]; simp only [if_neg h24, hh]
          refine (tAdd_yes gt 0 B es v m s p mx w hT hmm hm1 hp (patternOf_length hp) (by omega) hm hB hBw (by omega) hh).mono ?_
          rintro r w' ⟨rfl, hA⟩
          unfold PaQ
          rw [he]
          exact ⟨rfl, fun h => absurd rfl h, fun _ => ⟨p, hp, hA⟩⟩
set_option maxHeartbeats 400000 in
theorem pAdd_of (gt : Nat) (a b : Int) (m s : ByteArray) (Q : World → Prop) (w : World) (H : Calls Tryz.prog 102 #[.pointer (some ⟨gt, 0, none⟩), .string m, .string s] w fun r w' => r = .returned (.tuple #[.int .i64 a, .int .i64 b]) ∧ Q w') :
    Calls Tryz.prog 34 #[.pointer (some ⟨gt, 0, none⟩), .string m, .string s] w fun r w' => r = .returned (.tuple #[.int .i64 a, .int .i64 b]) ∧ Q w' := by
  have HF := hid H
  clear H
  go_enter Tryz.func34, Tryz.ntmps34
  go_wp2_with fail
  refine HF.out.mono ?_
  rintro e w1 ⟨rfl, hb1⟩
  have HB := hid hb1
  clear HF hb1
  go_wp2
  go_ret2
  exact ⟨rfl, HB.out⟩
theorem pAdd_all (gt B : Nat) (es : List Ent) (v : Value) (m s : ByteArray) (mx : Int) (w : World) (hT : TbAt gt 0 B es v w) (hms : m.size ≤ maxLen) (hs : s.size ≤ 281474976710656) (hm : w.cell? ⟨0, 0, none⟩ = some (.int .i64 mx)) (hB : B ≤ gt) (hBw : B ≤ w.heap.size) :
    Calls Tryz.prog 34 #[.pointer (some ⟨gt, 0, none⟩), .string m, .string s] w fun r w' => r = .returned (.tuple #[.int .i64 (adE m.data.toList s.data.toList es).1, .int .i64 (adE m.data.toList s.data.toList es).2]) ∧ PaQ gt B es v m s w w' :=
  pAdd_of gt _ _ m s _ w (tAdd_all gt B es v m s mx w hT hms hs hm hB hBw)
end Go.Proofs.YtbiggccolpchcaaGreatDoor

/- The reference's Find: the last one is the first one, for there is one at most. -/
namespace Go.Proofs.YtbiggccolpchcaaGreatDoor
open Go.RowKit

def hitAt (m l : List UInt8) (e : Prm) : Option (List Prm) := if e.1.data.toList = m then matchB (refB e).ps (l.drop 1) true [] else none
/- patterns of one method have no path in common -/
def Sp (es : List Prm) : Prop := ∀ i j (hi : i < es.length) (hj : j < es.length), i < j → es[i].1.data.toList = es[j].1.data.toList → ovl (refB es[i]).ps (refB es[j]).ps = false
theorem findG_at (m l : List UInt8) : ∀ (es : List Prm) (k j : Nat) (hj : j < es.length) (fs : List Prm), hitAt m l es[j] = some fs → (∀ i (hi : i < es.length), i < j → hitAt m l es[i] = none) → findG m l (es.map refB) k = (k + j, fs, 0)
  | [], k, j, hj, fs, h, h2 => absurd hj (by simp)
  | e :: r, k, 0, hj, fs, h, h2 => by
    rw [List.map_cons, findG]
    simp only [List.getElem_cons_zero] at h
    unfold hitAt at h
    split at h
    · rename_i hm
      have : (refB e).m.data.toList = m := hm
      rw [if_pos this, h]; rfl
    · cases h
  | e :: r, k, j + 1, hj, fs, h, h2 => by
    have h0 := h2 0 (by simp) (by omega)
    simp only [List.getElem_cons_zero] at h0
    have ih := findG_at m l r (k + 1) j (by simpa using hj) fs (by simpa using h) (fun i hi hij => by have := h2 (i + 1) (by simpa using hi) (by omega); simpa using this)
    rw [List.map_cons, findG]
    unfold hitAt at h0
    have e1 : (refB e).m = e.1 := rfl
    rw [e1]
    split at h0
    · rename_i hm
      rw [if_pos hm, h0, ih]
      simp only [Prod.mk.injEq, and_true]; omega
    · rename_i hm
      rw [if_neg hm, ih]
      simp only [Prod.mk.injEq, and_true]; omega
theorem findG_no (m l : List UInt8) : ∀ (es : List Prm) (k : Nat), (∀ i (hi : i < es.length), hitAt m l es[i] = none) → findG m l (es.map refB) k = (0, [], 11)
  | [], k, h => rfl
  | e :: r, k, h => by
    have h0 := h 0 (by simp)
    simp only [List.getElem_cons_zero] at h0
    have ih := findG_no m l r (k + 1) (fun i hi => by have := h (i + 1) (by simpa using hi); simpa using this)
    rw [List.map_cons, findG]
    unfold hitAt at h0
    have e1 : (refB e).m = e.1 := rfl
    rw [e1]
    split at h0
    · rename_i hm
      rw [if_pos hm, h0, ih]
    · rename_i hm
      rw [if_neg hm, ih]
theorem sp_one {es : List Prm} (hp : ∀ e ∈ es, (patternOf e.2.data.toList).isSome = true) (hs : Sp es) {m l : List UInt8} (hl : Pm.isPath l = true) {i j : Nat} (hi : i < es.length) (hj : j < es.length) (hij : i < j) {fs : List Prm} (h : hitAt m l es[j] = some fs) : hitAt m l es[i] = none := by
  cases h1 : hitAt m l es[i] with
  | none => rfl
  | some gs =>
    exfalso
    unfold hitAt at h h1
    split at h
    · split at h1
      · rename_i m1 m2
        obtain ⟨pi, hpi⟩ := Option.isSome_iff_exists.1 (hp _ (List.getElem_mem hi))
        obtain ⟨pj, hpj⟩ := Option.isSome_iff_exists.1 (hp _ (List.getElem_mem hj))
        have hov := hs i j hi hj hij (by rw [m1, m2])
        have ei : (refB es[i]).ps = pi := by unfold refB; rw [hpi]; rfl
        have ej : (refB es[j]).ps = pj := by unfold refB; rw [hpj]; rfl
        rw [ei] at h1 hov
        rw [ej] at h hov
        obtain ⟨rfl, a2, a3, a4⟩ := pat_good hpi
        obtain ⟨rfl, b2, b3, b4⟩ := pat_good hpj
        rw [match_hs a2.1 hl] at h1
        rw [match_hs b2.1 hl] at h
        have := one_has (A := pcs es[i].2.data.toList) (B := pcs es[j].2.data.toList) hl (by rw [h1]; rfl) (by rw [h]; rfl)
        rw [this] at hov
        cases hov
      · cases h1
    · cases h
def RfPost (F : Nat × List Prm × Int) (w : World) (x : Ending) (w' : World) : Prop :=
  (∃ vv, x = .returned (.tuple #[.int .i64 F.1, vv, .int .i64 F.2.2]) ∧ w'.ownsRow w.heap.size 129 2 vv F.2.1.length (prCells F.2.1)) ∧ Below w.heap.size w w'
set_option maxRecDepth 100000 in
set_option maxHeartbeats 4000000 in
theorem rFind_any (gt B : Nat) (es : List Prm) (v : Value) (m s : ByteArray) (w : World) (hT : TrAt gt B es v w) (hsp : Sp es) (hp : Pm.isPath s.data.toList = true) (hs : s.size ≤ 4398046511104) :
    Calls Tryz.prog 38 #[.pointer (some ⟨gt, 0, none⟩), .string m, .string s] w (RfPost (findG m.data.toList s.data.toList (es.map refB) 0) w) := by
  have HIP := hid (fun W => rIsPath_any s W (by unfold maxLen; omega))
  rw [hp] at HIP
  have lt0 := hT.lt
  have cel := hT.cel
  have hfw := hT.few
  have HT := hid hT
  obtain ⟨av, cv, rfl, hen⟩ := pr_at hT.row
  have HE := hid hen
  have HHA := hid (fun (u : ByteArray) (pe : List (Int × ByteArray)) W (hu : patternOf u.data.toList = some pe) => rHas2 u s pe W hu hp hs)
  have HYES := hid (fun j (hj : j < es.length) fs (h : hitAt m.data.toList s.data.toList es[j] = some fs) => findG_at m.data.toList s.data.toList es 0 j hj fs h (fun i hi hij => sp_one hT.pat hsp hp hi hj hij h))
  have HNO := hid (fun h => findG_no m.data.toList s.data.toList es 0 h)
  generalize findG m.data.toList s.data.toList (es.map refB) 0 = FF at *
  clear hT hen hsp
  go_enter Tryz.func38, Tryz.ntmps38
  go_wp2_with fail
  refine (HIP.out _).mono ?_
  rintro e w1 ⟨rfl, hB1⟩
  have cel1 := cell_later hB1 cel
  have lt1 : gt < w1.heap.size := Nat.lt_of_lt_of_le lt0 hB1.size
  clear HIP cel
  go_wp2_with fail
  go_loopw [10] (fun i wr => ∃ k : Nat, k ≤ es.length ∧ i = .int .i64 ((k : Int) - 1) ∧ Hid (∀ j (hj : j < es.length), k ≤ j → hitAt m.data.toList s.data.toList es[j] = none) ∧ Below w.heap.size w wr) (fun i _ => (intOf i + 1).toNat)
  case atStart => exact ⟨es.length, Nat.le_refl _, rfl, fun j hj h => absurd hj (by omega), hB1⟩
  case round =>
    obtain ⟨k, hk, rfl, HK, hbw⟩ := hrel
    have Tr := HT.out.below hbw
    have cel3 := Tr.cel
    have lt3 := Tr.lt
    cases k with
    | zero =>
      have hn := HNO.out (fun i hi => HK.out i hi (Nat.zero_le _))
      have HN := hid hn
      have hz : ((0 : Nat) : Int) - 1 = -1 := rfl
      rw [hz]
      clear HK Tr hn HYES HNO
      go_wp2_with fail
      refine bodyPost_ret (v := .tuple #[.int .i64 0, .slice none 0 0, .int .i64 11]) (by simp [results, Tryz.results38, go_sem]) rfl ?_
      rw [HN.out]
      exact ⟨⟨_, rfl, World.ownsRow_nil _ _ _ _⟩, hbw⟩
    | succ q =>
      have hlt : q < es.length := by omega
      have hz : ((q + 1 : Nat) : Int) - 1 = (q : Int) := by omega
      rw [hz]
      have hq0 : (0 : Int) ≤ (q : Int) := by omega
      obtain ⟨g, rfl, hg, hc1, hc2⟩ := (HE.out.below hbw) q hlt
      obtain ⟨pe, hpe⟩ := Option.isSome_iff_exists.1 (HT.out.pat _ (List.getElem_mem hlt))
      have hps : (refB es[q]).ps = pe := by unfold refB; rw [hpe]; rfl
      have hha : hitAt m.data.toList s.data.toList es[q] = if es[q].1.data.toList = m.data.toList then matchB pe (s.data.toList.drop 1) true [] else none := by unfold hitAt; rw [hps]
      have HY := hid (HYES.out q hlt)
      have HNX : Hid (hitAt m.data.toList s.data.toList es[q] = none → ∀ j (hj : j < es.length), q ≤ j → hitAt m.data.toList s.data.toList es[j] = none) := fun h j hj hq => by
        rcases Nat.eq_or_lt_of_le hq with e | e
        · subst e; exact h
        · exact HK.out j hj e
      have HC := hid (HHA.out es[q].2 pe)
      rw [hha] at HY HNX
      clear hha hps Tr
      generalize es[q] = en at *
      obtain ⟨em, ep⟩ := en
      simp only at hc1 hc2 hpe HY HNX HC
      generalize matchB pe (s.data.toList.drop 1) true [] = MB at *
      have hbe := bne_lists em m
      have HPE := hid hpe
      clear hpe HYES HNO HK
      go_wp2_with fail
      refine (HC.out _ HPE.out).mono ?_
      rintro e w3 ⟨hr3, hb3⟩
      have hB3 := bel_of hbw hb3
      have cel4 := cell_later hb3 cel3
      have lt4 : gt < w3.heap.size := Nat.lt_of_lt_of_le lt3 hb3.size
      have hc4 := cell_later hb3 hc1
      have hg4 : g < w3.heap.size := Nat.lt_of_lt_of_le hg hb3.size
      have hms2 : (intOf (Value.int .i64 ((q : Int) - 1)) + 1).toNat < (intOf (Value.int .i64 (q : Int)) + 1).toNat := by simp [intOf]
      clear HC
      cases MB with
      | none =>
        obtain rfl := hr3
        have HN := hid (HNX.out (by split <;> rfl))
        clear HNX HY
        go_wp2_with fail
        exact ⟨⟨q, by omega, rfl, HN, hB3⟩, hms2⟩
      | some fs =>
        obtain ⟨vv, rfl, ow⟩ := hr3
        by_cases hme : em.data.toList = m.data.toList
        · have hy := HY.out fs (if_pos hme)
          have HYY := hid hy
          rw [decide_eq_true hme] at hbe
          have HO := hid (owns_base ow (show w.heap.size ≤ wr.heap.size from hbw.size))
          clear ow HY HNX hy
          go_wp2_with fail
          refine bodyPost_ret (v := .tuple #[.int .i64 q, vv, .int .i64 0]) (by simp [results, Tryz.results38, go_sem]) rfl ?_
          rw [HYY.out]
          exact ⟨⟨_, by simp, HO.out⟩, hB3⟩
        · have HN := hid (HNX.out (if_neg hme))
          rw [decide_eq_false hme] at hbe
          clear ow HY HNX
          go_wp2_with fail
          exact ⟨⟨q, by omega, rfl, HN, hB3⟩, hms2⟩
end Go.Proofs.YtbiggccolpchcaaGreatDoor

/- The reference's 'sorted': a text laid at its place. -/
namespace Go.Proofs.YtbiggccolpchcaaGreatDoor
open Go.RowKit

def insG (s : List UInt8) : List (List UInt8) → List (List UInt8)
  | [] => [s]
  | x :: r => if s < x then s :: x :: r else x :: insG s r
theorem insG_done {s : List UInt8} : ∀ (A B : List (List UInt8)), (∃ x ∈ A, s < x) → insG s (A ++ B) = insG s A ++ B
  | [], B, h => by obtain ⟨x, hx, _⟩ := h; simp at hx
  | a :: A, B, h => by
    rw [List.cons_append, insG, insG]
    by_cases ha : s < a
    · rw [if_pos ha, if_pos ha]; rfl
    · rw [if_neg ha, if_neg ha]
      obtain ⟨x, hx, hs⟩ := h
      rcases List.mem_cons.1 hx with rfl | hx
      · exact absurd hs ha
      · rw [insG_done A B ⟨x, hx, hs⟩]; rfl
theorem insG_not {s : List UInt8} : ∀ (A B : List (List UInt8)), (∀ x ∈ A, ¬ s < x) → insG s (A ++ B) = A ++ insG s B
  | [], B, h => rfl
  | a :: A, B, h => by
    rw [List.cons_append, insG, if_neg (h a (by simp)), insG_not A B (fun x hx => h x (by simp [hx]))]; rfl
theorem insG_perm (s : List UInt8) : ∀ (r : List (List UInt8)), (insG s r).Perm (r ++ [s])
  | [] => .refl _
  | x :: r => by
    rw [insG]
    split
    · exact (List.perm_append_comm (l₁ := [s]) (l₂ := x :: r))
    · exact (insG_perm s r).cons x
theorem insG_srtd (s : List UInt8) : ∀ (r : List (List UInt8)), r.Pairwise (fun x y => ¬ y < x) → (insG s r).Pairwise (fun x y => ¬ y < x)
  | [], _ => by simp [insG]
  | x :: r, hp => by
    obtain ⟨h1, h2⟩ := List.pairwise_cons.1 hp
    rw [insG]
    split
    · rename_i hx
      refine List.pairwise_cons.2 ⟨fun y hy hlt => ?_, hp⟩
      rcases List.mem_cons.1 hy with e | e
      · rw [e] at hlt; exact List.lt_irrefl _ (List.lt_trans hx hlt)
      · exact h1 y e (List.lt_trans hlt hx)
    · rename_i hx
      refine List.pairwise_cons.2 ⟨fun y hy hlt => ?_, insG_srtd s r h2⟩
      have hm := (insG_perm s r).mem_iff.1 hy
      rcases List.mem_append.1 hm with e | e
      · exact h1 y e hlt
      · have : y = s := by simpa using e
        rw [this] at hlt; exact hx hlt
theorem srt_pw (l : List (List UInt8)) : (srt l).Pairwise (fun x y => ¬ y < x) := by
  have := List.pairwise_mergeSort (le := fun x y : List UInt8 => decide (x ≤ y)) (fun a b c h1 h2 => by
    rw [decide_eq_true_iff] at *; exact List.le_trans h1 h2) (fun a b => by
    rw [Bool.or_eq_true, decide_eq_true_iff, decide_eq_true_iff]; exact List.le_total a b) l
  exact this.imp (fun h => List.not_lt.2 (of_decide_eq_true h))
theorem srt_uniq {l m : List (List UInt8)} (h : m.Pairwise (fun x y => ¬ y < x)) (hp : m.Perm l) : srt l = m := by
  refine List.Perm.eq_of_pairwise (le := fun x y => ¬ y < x) (fun a b _ _ h1 h2 => ?_) (srt_pw l) h ((List.mergeSort_perm l _).trans hp.symm)
  exact List.le_antisymm (List.not_lt.1 h1) (List.not_lt.1 h2)
theorem srt_ins (l : List (List UInt8)) (s : List UInt8) : insG s (srt l) = srt (l ++ [s]) :=
  (srt_uniq (insG_srtd s _ (srt_pw l)) ((insG_perm s _).trans ((List.mergeSort_perm l _).append_right [s]))).symm
/- what 'sorted' tells -/
def sortedL (L : List (List UInt8)) (s : List UInt8) : List (List UInt8) := if s ∈ L then L else insG s L
def SoI (L : List (List UInt8)) (s : List UInt8) (k : Nat) (b : Bool) (out : List (List UInt8)) : Prop :=
  s ∉ L.take k ∧ (b = true → (∃ x ∈ L.take k, s < x) ∧ out = insG s (L.take k)) ∧ (b = false → (∀ x ∈ L.take k, ¬ s < x) ∧ out = L.take k)
theorem take_sn {L : List (List UInt8)} {k : Nat} (h : k < L.length) : L.take (k + 1) = L.take k ++ [L[k]] := List.take_succ_eq_append_getElem h
theorem SoI.mem {L : List (List UInt8)} {s : List UInt8} {k : Nat} {b : Bool} {out : List (List UInt8)} (h : SoI L s k b out) (hk : k < L.length) (hn : L[k] ≠ s) : s ∉ L.take (k + 1) := by
  rw [take_sn hk, List.mem_append]
  rintro (q | q)
  · exact h.1 q
  · have e : s = L[k] := by simpa using q
    exact hn e.symm
theorem SoI.on {L : List (List UInt8)} {s : List UInt8} {k : Nat} {out : List (List UInt8)} (h : SoI L s k true out) (hk : k < L.length) (hn : L[k] ≠ s) : SoI L s (k + 1) true (out ++ [L[k]]) := by
  obtain ⟨⟨x, hx, hs⟩, e⟩ := h.2.1 rfl
  refine ⟨h.mem hk hn, fun _ => ⟨⟨x, by rw [take_sn hk]; exact List.mem_append.2 (.inl hx), hs⟩, ?_⟩, fun q => by cases q⟩
  rw [take_sn hk, insG_done _ _ ⟨x, hx, hs⟩, e]
theorem SoI.now {L : List (List UInt8)} {s : List UInt8} {k : Nat} {out : List (List UInt8)} (h : SoI L s k false out) (hk : k < L.length) (hn : L[k] ≠ s) (hl : s < L[k]) : SoI L s (k + 1) true ((out ++ [s]) ++ [L[k]]) := by
  obtain ⟨ha, e⟩ := h.2.2 rfl
  refine ⟨h.mem hk hn, fun _ => ⟨⟨L[k], by rw [take_sn hk]; exact List.mem_append.2 (.inr (by simp)), hl⟩, ?_⟩, fun q => by cases q⟩
  rw [take_sn hk, insG_not _ _ ha, e, insG, if_pos hl]; simp
theorem SoI.not {L : List (List UInt8)} {s : List UInt8} {k : Nat} {out : List (List UInt8)} (h : SoI L s k false out) (hk : k < L.length) (hn : L[k] ≠ s) (hl : ¬ s < L[k]) : SoI L s (k + 1) false (out ++ [L[k]]) := by
  obtain ⟨ha, e⟩ := h.2.2 rfl
  refine ⟨h.mem hk hn, (fun q => by cases q), fun _ => ⟨fun x hx => ?_, by rw [take_sn hk, e]⟩⟩
  rw [take_sn hk, List.mem_append] at hx
  rcases hx with hx | hx
  · exact ha x hx
  · have : x = L[k] := by simpa using hx
    rw [this]; exact hl
theorem SoI.fin {L : List (List UInt8)} {s : List UInt8} {k : Nat} {b : Bool} {out : List (List UInt8)} (h : SoI L s k b out) (hk : L.length ≤ k) : sortedL L s = if b = true then out else out ++ [s] := by
  have hL : L.take k = L := List.take_of_length_le hk
  unfold sortedL
  obtain ⟨h1, h2, h3⟩ := h
  rw [hL] at h1 h2 h3
  rw [if_neg h1]
  cases b
  · obtain ⟨q1, q2⟩ := h3 rfl
    have := insG_not L [] q1
    rw [List.append_nil] at this
    simp [this, q2, insG]
  · rw [if_pos rfl, (h2 rfl).2]
theorem encs_snoc (l : List (List UInt8)) (b : ByteArray) : encs (l ++ [b.data.toList]) = encs l ++ [.string b] := by
  unfold encs; rw [List.map_append]; rfl
theorem info9s : (Tryz.prog.info? 9).map (fun i => (i.zero, i.size, i.bytes)) = some (some (.string ⟨#[]⟩), 1, 16) := by kernel_rfl
set_option maxRecDepth 100000 in
set_option maxHeartbeats 4000000 in
theorem rsorted_any (v : Value) (L : List (List UInt8)) (s : ByteArray) (B : Nat) (w : World) (h : w.ownsRow B 9 1 v L.length (encs L)) (hB : B ≤ w.heap.size) (hl : L.length ≤ 100) :
    Calls Tryz.prog 110 #[v, .string s] w fun x w' => (∃ vv, x = .returned vv ∧ w'.ownsRow B 9 1 vv (sortedL L s.data.toList).length (encs (sortedL L s.data.toList))) ∧ Below w.heap.size w w' := by
  obtain ⟨i0, hi, hz0, hz1, hz2⟩ := info_parts info9s
  obtain ⟨a, c, rfl⟩ := sl_of h
  have HO := hid h
  clear h
  go_enter Tryz.func110, Tryz.ntmps110
  go_wp2
  go_loopw [5, 6, 7] (fun o d i wr => ∃ (k : Nat) (b : Bool) (out : List (List UInt8)), k ≤ L.length ∧ i = .int .i64 k ∧ d = .bool b ∧ out.length ≤ 2 * k + 1 ∧ wr.ownsRow w.heap.size 9 1 o out.length (encs out) ∧ Hid (SoI L s.data.toList k b out) ∧ Below w.heap.size w wr) (fun _ _ i _ => L.length - (intOf i).toNat)
  case atStart => exact ⟨0, false, [], Nat.zero_le _, rfl, rfl, by simp, World.ownsRow_nil _ _ _ _, ⟨by simp, (fun q => by cases q), fun _ => ⟨fun x hx => absurd hx (by simp), rfl⟩⟩, Below.refl _ _⟩
  case round =>
    obtain ⟨k, b, out, hk, rfl, rfl, hol, ow, HK, hbw⟩ := hrel
    by_cases hlt : k < L.length
    · rcases own_strs HO.out with ⟨-, hl0⟩ | ⟨g, cap, hv, hg0, hc, hce⟩
      · rw [hl0] at hlt; simp at hlt
      · have hck0 := hce k hlt
        cases hv
        have hbx : (⟨L[k].toArray⟩ : ByteArray).data.toList = L[k] := by simp
        have HMEM : Hid (L[k] = s.data.toList → sortedL L s.data.toList = L) := fun e => if_pos (by rw [← e]; exact List.getElem_mem hlt)
        have HON := hid (fun (e : b = true) hn => SoI.on (k := k) (by rw [← e]; exact HK.out) hlt hn)
        have HNOW := hid (fun (e : b = false) hn hl => SoI.now (k := k) (by rw [← e]; exact HK.out) hlt hn hl)
        have HNOT := hid (fun (e : b = false) hn hl => SoI.not (k := k) (by rw [← e]; exact HK.out) hlt hn hl)
        generalize L[k] = x at *
        generalize (⟨x.toArray⟩ : ByteArray) = bx at *
        subst hbx
        have hck := cell_later hbw hck0
        have hzw := hbw.size
        have hg : g < wr.heap.size := Nat.lt_of_lt_of_le hg0 hbw.size
        have hbe := bne_lists bx s
        have hbl0 : Op.bytesLess bx.toList s.toList = decide (bx.data.toList < s.data.toList) := by rw [bytesLess_eq, ByteArray.toList_eq, ByteArray.toList_eq]
        have HCK := hid hck0
        clear hce HK hck0
        by_cases he : bx.data.toList = s.data.toList
        · have HR := hid (HMEM.out he)
          rw [decide_eq_true he] at hbe
          clear HMEM HON HNOW HNOT
          go_wp2_with fail
          go_ret
          rw [HR.out]
          exact ⟨⟨_, rfl, owns_below HO.out hbw⟩, hbw⟩
        · rw [decide_eq_false he] at hbe
          clear HMEM
          have hms : L.length - (intOf (Value.int .i64 ((k : Int) + 1))).toNat < L.length - (intOf (Value.int .i64 (k : Int))).toNat := by simp [intOf]; omega
          cases b
          · by_cases hlx : s.data.toList < bx.data.toList
            · have HN := hid (HNOW.out rfl he hlx)
              have hbl : Op.bytesLess bx.toList s.toList = false := by rw [hbl0]; exact decide_eq_false (fun q => List.lt_irrefl _ (List.lt_trans q hlx))
              clear HON HNOW HNOT hbl0
              go_wp2_with (at_builtin; refine wpList_append_own _ rfl _ _ 99 rfl w.heap.size 9 i0 (.string ⟨#[]⟩) 1 16 Tryz.underlying99 hi hz0 hz1 hz2 rfl (by decide) _ _ _ rfl (ow.alloc _) ⟨wr.heap.size, 0, none⟩ 1 1 [.string s] rfl rfl (World.news_of_block (cs := #[.string s]) (t := 9) (fr := (0, 0)) (heap_alloc_new wr _)) (by simp [Value.oneCell']) (by unfold maxLen; omega) (by omega) (by simp; omega) ?_)
              intro v1 w3 hown3 hgrow _
              have hb3 : Below w.heap.size w w3 := (hbw.alloc hbw.size _).grown hgrow (by simp; omega) (own_ge ow)
              have hck3 := cell_later hb3 HCK.out
              have hg3 : g < w3.heap.size := Nat.lt_of_lt_of_le hg0 hb3.size
              have hz3 := hb3.size
              clear hgrow ow hck hg
              go_wp2_with (at_builtin; refine wpList_append_own _ rfl _ _ 99 rfl w.heap.size 9 i0 (.string ⟨#[]⟩) 1 16 Tryz.underlying99 hi hz0 hz1 hz2 rfl (by decide) _ _ _ rfl (hown3.alloc _) ⟨w3.heap.size, 0, none⟩ 1 1 [.string bx] rfl rfl (World.news_of_block (cs := #[.string bx]) (t := 9) (fr := (0, 0)) (heap_alloc_new w3 _)) (by simp [Value.oneCell']) (by unfold maxLen; omega) (by omega) (by simp; omega) ?_)
              intro v2 w4 hown4 hgrow _
              have hb4 : Below w.heap.size w w4 := (hb3.alloc hb3.size _).grown hgrow (by simp; omega) (own_ge hown3)
              clear hgrow hown3
              go_wp2_with fail
              refine ⟨⟨k + 1, true, out ++ [s.data.toList] ++ [bx.data.toList], by omega, by go_num, rfl, by simp; omega, ?_, HN, hb4⟩, hms⟩
              rw [encs_snoc, encs_snoc]
              simpa using hown4
            · have hlt2 : bx.data.toList < s.data.toList := Classical.byContradiction (fun z => he (List.le_antisymm (List.not_lt.1 hlx) (List.not_lt.1 z)))
              have HN := hid (HNOT.out rfl he hlx)
              have hbl : Op.bytesLess bx.toList s.toList = true := by rw [hbl0]; exact decide_eq_true hlt2
              clear HON HNOW HNOT hbl0
              go_wp2_with (at_builtin; refine wpList_append_own _ rfl _ _ 99 rfl w.heap.size 9 i0 (.string ⟨#[]⟩) 1 16 Tryz.underlying99 hi hz0 hz1 hz2 rfl (by decide) _ _ _ rfl (ow.alloc _) ⟨wr.heap.size, 0, none⟩ 1 1 [.string bx] rfl rfl (World.news_of_block (cs := #[.string bx]) (t := 9) (fr := (0, 0)) (heap_alloc_new wr _)) (by simp [Value.oneCell']) (by unfold maxLen; omega) (by omega) (by simp; omega) ?_)
              intro v1 w3 hown3 hgrow _
              have hb3 : Below w.heap.size w w3 := (hbw.alloc hbw.size _).grown hgrow (by simp; omega) (own_ge ow)
              clear hgrow ow
              go_wp2_with fail
              refine ⟨⟨k + 1, false, out ++ [bx.data.toList], by omega, by go_num, rfl, by simp; omega, ?_, HN, hb3⟩, hms⟩
              rw [encs_snoc]
              simpa using hown3
          · have HN := hid (HON.out rfl he)
            clear HON HNOW HNOT hbl0
            go_wp2_with (at_builtin; refine wpList_append_own _ rfl _ _ 99 rfl w.heap.size 9 i0 (.string ⟨#[]⟩) 1 16 Tryz.underlying99 hi hz0 hz1 hz2 rfl (by decide) _ _ _ rfl (ow.alloc _) ⟨wr.heap.size, 0, none⟩ 1 1 [.string bx] rfl rfl (World.news_of_block (cs := #[.string bx]) (t := 9) (fr := (0, 0)) (heap_alloc_new wr _)) (by simp [Value.oneCell']) (by unfold maxLen; omega) (by omega) (by simp; omega) ?_)
            intro v1 w3 hown3 hgrow _
            have hb3 : Below w.heap.size w w3 := (hbw.alloc hbw.size _).grown hgrow (by simp; omega) (own_ge ow)
            clear hgrow ow
            go_wp2_with fail
            refine ⟨⟨k + 1, true, out ++ [bx.data.toList], by omega, by go_num, rfl, by simp; omega, ?_, HN, hb3⟩, hms⟩
            rw [encs_snoc]
            simpa using hown3
    · have hke : ¬ (k : Int) < (L.length : Int) := by omega
      have hf := HK.out.fin (by omega)
      have HF := hid hf
      have hzw := hbw.size
      clear HK hf
      cases b
      · simp only [Bool.false_eq_true, if_false] at HF
        go_wp2_with (at_builtin; refine wpList_append_own _ rfl _ _ 99 rfl w.heap.size 9 i0 (.string ⟨#[]⟩) 1 16 Tryz.underlying99 hi hz0 hz1 hz2 rfl (by decide) _ _ _ rfl (ow.alloc _) ⟨wr.heap.size, 0, none⟩ 1 1 [.string s] rfl rfl (World.news_of_block (cs := #[.string s]) (t := 9) (fr := (0, 0)) (heap_alloc_new wr _)) (by simp [Value.oneCell']) (by unfold maxLen; omega) (by omega) (by simp; omega) ?_)
        intro v1 w3 hown3 hgrow _
        have hb3 : Below w.heap.size w w3 := (hbw.alloc hbw.size _).grown hgrow (by simp; omega) (own_ge ow)
        have HO3 := hid (owns_base hown3 hB)
        clear hgrow ow hown3
        go_wp2_with fail
        go_ret
        rw [HF.out]
        refine ⟨⟨_, rfl, ?_⟩, hb3⟩
        rw [encs_snoc]
        simpa using HO3.out
      · simp only [if_true] at HF
        have HO3 := hid (owns_base ow hB)
        clear ow
        go_wp2_with fail
        go_ret
        rw [HF.out]
        exact ⟨⟨_, rfl, HO3.out⟩, hbw⟩
end Go.Proofs.YtbiggccolpchcaaGreatDoor
