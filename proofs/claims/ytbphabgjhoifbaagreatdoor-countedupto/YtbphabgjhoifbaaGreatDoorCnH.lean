/- Counted: each answer that goes out is read to its end; the methods in memory. -/
import Derived.Test.YtbphabgjhoifbaaGreatDoorCnB
import Derived.Test.YtbphabgjhoifbaaGreatDoorCnD
namespace Go.Proofs.YtbphabgjhoifbaaGreatDoor
open Go.RowKit

theorem pre_list (n : Nat) : preS (n : Int) = [72, 84, 84, 80, 47, 49, 46, 49, 32] ++ (natT 10 n ++ 32 :: (Pm.reasonB (n : Int)).data.toList) := by
  unfold preS; rw [num_ten, List.append_assoc]
theorem pf_of (n : Nat) (h0 : 200 ≤ n) (h1 : n ≤ 599) : PfAt ⟨(preS (n : Int)).toArray⟩ (natT 10 n) := by
  obtain ⟨t1, t2, -, -⟩ := ten_read n
  have hd := ten_three n (by omega) (by omega)
  have hp := pre_list n
  generalize (Pm.reasonB (n : Int)).data.toList = R at hp
  generalize preS (n : Int) = P at *
  generalize natT 10 n = D at *
  subst hp
  have hz : (ByteArray.mk ([72, 84, 84, 80, 47, 49, 46, 49, 32] ++ (D ++ 32 :: R)).toArray).size = 13 + R.length := by
    show ([72, 84, 84, 80, 47, 49, 46, 49, 32] ++ (D ++ 32 :: R)).toArray.size = _
    simp; omega
  have hl : (ByteArray.mk ([72, 84, 84, 80, 47, 49, 46, 49, 32] ++ (D ++ 32 :: R)).toArray).data.toList = [72, 84, 84, 80, 47, 49, 46, 49, 32] ++ (D ++ 32 :: R) := by simp
  refine ⟨by omega, ?_, fun hm => ?_, ?_, t1, hd, by rw [t2]; omega⟩
  · apply ByteArray.ext
    rw [ByteArray.data_extract]
    apply Array.ext'
    rw [Array.toList_extract, hl]
    rfl
  · have e := ba_get _ 12 hm
    rw [hl, List.getElem?_append_right (by simp), List.getElem?_append_right (by simp; omega), hd] at e
    have e2 : (32 : UInt8) = (ByteArray.mk ([72, 84, 84, 80, 47, 49, 46, 49, 32] ++ (D ++ 32 :: R)).toArray)[12] := Option.some.inj e
    rw [← e2]; rfl
  · apply ByteArray.ext
    rw [ByteArray.data_extract]
    apply Array.ext'
    rw [Array.toList_extract, hl]
    show ((D ++ 32 :: R).take 3) = D
    rw [← hd, List.take_left]
theorem anEnd_any (s : ByteArray) (p : List UInt8 × Rp) (A X : List UInt8) (w : World) (hk : AnsK p.2) (hb : p.2.b.data.toList.length ≤ 33000000) (h : s.data.toList = A ++ (anT p ++ X)) (hz : s.size ≤ 140737488355328) :
    Calls Tryz.prog 15 #[.string s, .int .i64 A.length, .string ⟨p.1.toArray⟩] w fun e w' => e = .returned (.int .i64 ((A.length + (anT p).length : Nat) : Int)) ∧ w' = w := by
  obtain ⟨n, hn⟩ : ∃ n : Nat, p.2.st = n := ⟨p.2.st.toNat, by have := hk.s0; omega⟩
  have h0 := hk.s0
  have h1 := hk.s1
  have hT : anT p = preS p.2.st ++ 13 :: 10 :: (hdNv (hdrs p.2) ++ 13 :: 10 :: bodL p.1 p.2.b.data.toList) := rend_lines p.1 p.2
  have hs : s.data.toList = A ++ (preS p.2.st ++ 13 :: 10 :: (hdNv (hdrs p.2) ++ 13 :: 10 :: (bodL p.1 p.2.b.data.toList ++ X))) := by
    rw [h, hT]; simp only [List.append_assoc, List.cons_append]
  have hsl : s.data.toList.length = s.size := by simp
  have hlen := congrArg List.length h
  rw [hsl, List.length_append, List.length_append] at hlen
  have hm : (ByteArray.mk p.1.toArray).data.toList = p.1 := by simp
  refine (answerAt_any s ⟨p.1.toArray⟩ A (preS p.2.st) (natT 10 n) (bodL p.1 p.2.b.data.toList ++ X) (hdrs p.2) p.2.b.data.toList.length w hs (pre_cr _ h0 h1) (by rw [hn]; exact pf_of n (by omega) (by omega)) (hdr_ok hk (by omega)) (hdr_run hk) ?_ hz).mono ?_
  · rw [hm]
    by_cases q : p.1 = cHead
    · exact .inl q
    · right; unfold bodL; rw [if_neg q, List.length_append]; omega
  · rintro e w' ⟨rfl, rfl⟩
    refine ⟨ret_i ?_, rfl⟩
    rw [hm]
    by_cases q : p.1 = cHead
    · rw [if_pos q]
      unfold bodL
      rw [if_pos q, List.nil_append]
      omega
    · rw [if_neg q]
      unfold bodL
      rw [if_neg q, List.length_append]
      omega
theorem ms_at {w : World} {B : Nat} {va : Option Addr} {vc : Nat} {ms : List ByteArray} (h : w.ownsRow B 9 1 (.slice va ms.length vc) ms.length (ms.map Value.string)) : ∀ i (hi : i < ms.length), ∃ g, va = some ⟨g, 0, none⟩ ∧ g < w.heap.size ∧ w.cell? ⟨g, i, none⟩ = some (.string ms[i]) := by
  intro i hi
  obtain ⟨h1, h2⟩ := h
  rcases h2 with ⟨_, h0⟩ | ⟨g, cap, cur, hv, hB, hg, _, _, _, hc⟩
  · omega
  · simp only [Value.slice.injEq] at hv
    refine ⟨g, hv.1, heap_lt hg, ?_⟩
    rw [Lib.cell_of_heap hg]
    have h3 : (cur.toList.take (ms.length * 1))[i]? = some (.string ms[i]) := by rw [hc]; simp [hi]
    rw [List.getElem?_take_of_lt (by omega)] at h3
    simpa using h3
theorem flatM_take {α β : Type} (f : α → List β) (l : List α) (k : Nat) (h : k < l.length) : l.flatMap f = (l.take k).flatMap f ++ (f l[k] ++ (l.drop (k + 1)).flatMap f) := by
  have e : l = l.take k ++ (l[k] :: l.drop (k + 1)) := by rw [← List.drop_eq_getElem_cons h, List.take_append_drop]
  conv => lhs; rw [e]
  rw [List.flatMap_append, List.flatMap_cons]
theorem flatM_snoc {α β : Type} (f : α → List β) (l : List α) (k : Nat) (h : k < l.length) : ((l.take (k + 1)).flatMap f).length = ((l.take k).flatMap f).length + (f l[k]).length := by
  rw [List.take_succ_eq_append_getElem h, List.flatMap_append, List.length_append]
  simp
end Go.Proofs.YtbphabgjhoifbaaGreatDoor
