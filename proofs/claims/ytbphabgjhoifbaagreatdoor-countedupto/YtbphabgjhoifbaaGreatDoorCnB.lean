/- Counted, plain mathematics: an answer as lines, and what its lengths tell. -/
import Derived.Test.YtbphabgjhoifbaaGreatDoorCnA
import Derived.Test.YtbphabgjhoifbaaGreatDoorCnE
namespace Go.Proofs.YtbphabgjhoifbaaGreatDoor
open Go.RowKit

def hdrs (R : Rp) : List Hf := R.fs.map (fun p => (p.1.data.toList, p.2.data.toList)) ++ ((cLen, natT 10 R.b.data.toList.length) :: if R.cl = true then [(cCon, cClose)] else [])
def preS (st : Int) : List UInt8 := [72, 84, 84, 80, 47, 49, 46, 49, 32] ++ numT 10 st ++ 32 :: (Pm.reasonB st).data.toList
def bodL (m b : List UInt8) : List UInt8 := if m = cHead then [] else b
theorem rend_lines (m : List UInt8) (R : Rp) : rendL m R.st R.fs R.b.data.toList R.cl = preS R.st ++ 13 :: 10 :: (hdNv (hdrs R) ++ 13 :: 10 :: bodL m R.b.data.toList) := by
  have e : hdNv (hdrs R) = fldsL R.fs ++ (fldL cLen (numT 10 R.b.data.toList.length) ++ if R.cl = true then fldL cCon cClose else []) := by
    unfold hdNv hdrs fldsL
    rw [List.flatMap_append, List.flatMap_map, List.flatMap_cons, num_ten]
    congr 2
    split <;> simp
  rw [e]
  unfold rendL preL endL preS bodL
  simp only [List.append_assoc, List.cons_append, List.nil_append]
theorem hdr_ok {R : Rp} (h : AnsK R) (hb : R.b.data.toList.length ≤ 999999999) : ∀ p ∈ hdrs R, HdOk p := fun p hp => by
  obtain ⟨t1, t2, t3, t4⟩ := ten_read R.b.data.toList.length
  unfold hdrs at hp
  rcases List.mem_append.1 hp with hp | hp
  · obtain ⟨q, hq, rfl⟩ := List.mem_map.1 hp
    have := h.nm q hq
    exact ⟨this.n, this.c, this.r, h.vl q hq, fun e => absurd e this.d⟩
  rcases List.mem_cons.1 hp with rfl | hp
  · exact ⟨show cLen ≠ [] by decide, show (58 : UInt8) ∉ cLen by decide, show (13 : UInt8) ∉ cLen by decide, t4, fun _ => ⟨t1, t3, ten_nine _ hb⟩⟩
  · split at hp
    · rw [List.mem_singleton] at hp; subst hp
      exact ⟨by decide, by decide, by decide, by decide, fun e => absurd e (by decide)⟩
    · simp at hp
theorem hdr_run {R : Rp} (h : AnsK R) : runH (-1) (hdrs R) = some (R.b.data.toList.length : Int) := by
  unfold hdrs
  rw [run_past _ _ _ (fun p hp => by obtain ⟨q, hq, rfl⟩ := List.mem_map.1 hp; exact (h.nm q hq).d)]
  rw [runH, if_pos rfl, if_neg (by decide), (ten_read _).2.1]
  split
  · rw [runH, if_neg (by decide)]; rfl
  · rfl
theorem look_cr : ∀ (l : List (Int × List UInt8)) (n : Int), (∀ x ∈ l, (13 : UInt8) ∉ x.2) → (13 : UInt8) ∉ Pm.look l n
  | [], _, _ => by simp [Pm.look]
  | (c, t) :: r, n, h => by
    rw [Pm.look]
    split
    · exact h (c, t) (by simp)
    · exact look_cr r n (fun x hx => h x (by simp [hx]))
theorem reason_cr (n : Int) : (13 : UInt8) ∉ (Pm.reasonB n).data.toList := look_cr Pm.codes n (by decide)
theorem pre_cr (st : Int) (h0 : 200 ≤ st) (h1 : st ≤ 599) : (13 : UInt8) ∉ preS st := by
  obtain ⟨n, rfl⟩ : ∃ n : Nat, st = n := ⟨st.toNat, by omega⟩
  unfold preS
  rw [num_ten]
  intro q
  rcases List.mem_append.1 q with q | q
  · rcases List.mem_append.1 q with q | q
    · revert q; decide
    · exact (ten_read n).2.2.2 q
  · rcases List.mem_cons.1 q with q | q
    · exact absurd q (by decide)
    · exact reason_cr _ q
/- the answers one by one -/
def ansL (C : Cf) : Nat → List UInt8 → List (List UInt8 × Rp)
  | 0, _ => []
  | k + 1, l => if (frameG l C.hd C.bd).1 = 0 then
      ((frameG l C.hd C.bd).2.1, ansS C (frameG l C.hd C.bd)) :: (if (ansS C (frameG l C.hd C.bd)).cl = true then [] else ansL C k (l.drop (frameG l C.hd C.bd).2.2.2.2.2))
    else []
def anT (p : List UInt8 × Rp) : List UInt8 := rendL p.1 p.2.st p.2.fs p.2.b.data.toList p.2.cl
def noR (st : Int) : Rp := ⟨st, [], ⟨#[]⟩, true, 0⟩
theorem no_k (e : Int) : AnsK (noR (refSt e)) := by
  refine ⟨?_, ?_, fun p hp => by simp [noR] at hp, fun p hp => by simp [noR] at hp⟩
  · show 200 ≤ refSt e
    unfold refSt; repeat' split
    all_goals omega
  · show refSt e ≤ 599
    unfold refSt; repeat' split
    all_goals omega
theorem spk_ans (C : Cf) : ∀ (k : Nat) (l out : List UInt8) (ms : List ByteArray), ∃ T : List UInt8, (spk C k l out ms).out = out ++ (ansL C k l).flatMap anT ++ T ∧ (spk C k l out ms).ms = ms ++ (ansL C k l).map (fun p => ⟨p.1.toArray⟩) ∧ (((spk C k l out ms).rf = false ∧ T = []) ∨ ((spk C k l out ms).rf = true ∧ ∃ e, T = anT ([], noR (refSt e))))
  | 0, l, out, ms => ⟨[], by simp [spk, ansL], by simp [spk, ansL], .inl ⟨rfl, rfl⟩⟩
  | k + 1, l, out, ms => by
    rw [spk, ansL]
    by_cases h2 : (frameG l C.hd C.bd).1 = 2
    · rw [if_pos h2, if_neg (by rw [h2]; decide)]
      exact ⟨[], by simp, by simp, .inl ⟨rfl, rfl⟩⟩
    rw [if_neg h2]
    by_cases h0 : (frameG l C.hd C.bd).1 = 0
    · rw [if_pos h0, if_pos h0]
      by_cases hc : (ansS C (frameG l C.hd C.bd)).cl = true
      · rw [if_pos hc, if_pos hc]
        exact ⟨[], by simp [anT, textS], by simp, .inl ⟨rfl, rfl⟩⟩
      · rw [if_neg hc, if_neg hc]
        obtain ⟨T, i1, i2, i3⟩ := spk_ans C k (l.drop (frameG l C.hd C.bd).2.2.2.2.2) (out ++ textS C (frameG l C.hd C.bd)) (ms ++ [⟨(frameG l C.hd C.bd).2.1.toArray⟩])
        refine ⟨T, ?_, ?_, i3⟩
        · rw [i1, List.flatMap_cons]
          simp only [List.append_assoc]
          rfl
        · rw [i2]; simp
    · rw [if_neg h0, if_neg h0]
      exact ⟨anT ([], noR (refSt (frameG l C.hd C.bd).1)), by simp [anT, noR], by simp, .inr ⟨rfl, _, rfl⟩⟩
theorem ansL_ok {C : Cf} (ok : CfOk C) : ∀ (k : Nat) (l : List UInt8), l.length ≤ 2000000 → ∀ p ∈ ansL C k l, AnsK p.2 ∧ p.2.b.data.toList.length ≤ 33000000
  | 0, _, _, p, hp => by simp [ansL] at hp
  | k + 1, l, hl, p, hp => by
    rw [ansL] at hp
    split at hp
    · rename_i h0
      rcases List.mem_cons.1 hp with rfl | hp
      · have hz := (ansC_small ok l hl h0).1.z
        refine ⟨ans_k ok.E l h0, ?_⟩
        have : (ansS C (frameG l C.hd C.bd)).b.data.toList.length = (ansS C (frameG l C.hd C.bd)).b.size := by simp
        simp only
        omega
      · split at hp
        · simp at hp
        · exact ansL_ok ok k _ (by rw [List.length_drop]; omega) p hp
    · simp at hp
end Go.Proofs.YtbphabgjhoifbaaGreatDoor
