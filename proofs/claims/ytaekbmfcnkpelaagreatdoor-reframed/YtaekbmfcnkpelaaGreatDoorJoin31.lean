/- Texts that follow one another, joined. -/
import Derived.Test.YtaekbmfcnkpelaaGreatDoorJoin29
import Derived.Test.YtaekbmfcnkpelaaGreatDoorJoin30
import Derived.Test.YtaekbmfcnkpelaaGreatDoorJoin24
/- Plain mathematics: what Reframed and Spoilt say of a fit request that is told. -/
namespace Go.Proofs.YtaekbmfcnkpelaaGreatDoor

def sM (m : ByteArray) : ByteArray := ⟨(fitM m.data.toList).toArray⟩
def sT (t : ByteArray) : ByteArray := ⟨(fitT t.data.toList).toArray⟩
def sB (b : ByteArray) : ByteArray := ⟨(b.data.toList.take 200).toArray⟩
def sS (m t : ByteArray) (fs : List Pr2) (b : ByteArray) (how : Int) (zs : List Int) : ByteArray := ⟨(printL (fitM m.data.toList) (fitT t.data.toList) (fitFs fs) (b.data.toList.take 200) how (zlOf how zs (sB b).size)).toArray⟩
theorem sB_len (b : ByteArray) : (b.data.toList.take 200).length = (sB b).size ∧ (sB b).size ≤ 200 := by
  have h : (sB b).data.toList.length = (sB b).size := by simp
  have e : (sB b).data.toList = b.data.toList.take 200 := rfl
  rw [e] at h
  refine ⟨h, ?_⟩
  rw [← h, List.length_take]; omega
theorem sS_how (b : ByteArray) (how : Int) (zs : List Int) (hh : how = 0 ∨ how = 1) : howOk how (zlOf how zs (sB b).size) ((b.data.toList.take 200).length : Nat) = true := by
  rw [(sB_len b).1]; exact zl_ok hh zs _
theorem sS_frame (m t : ByteArray) (fs : List Pr2) (b : ByteArray) (how : Int) (zs : List Int) (r : List UInt8) (hh : how = 0 ∨ how = 1) :
    frameS ((sS m t fs b how zs).data.toList ++ r) 500 200 = (0, fitM m.data.toList, fitT t.data.toList, (fitFs fs).map toL ++ [lastL how (sB b).size], b.data.toList.take 200, (sS m t fs b how zs).data.toList.length) := by
  have h := fit_framed m.data.toList t.data.toList fs (b.data.toList.take 200) how (zlOf how zs (sB b).size) r hh (sS_how b how zs hh) (by rw [(sB_len b).1]; exact (sB_len b).2)
  rw [(sB_len b).1] at h
  exact h
theorem lns_small (m t : ByteArray) (fs : List Pr2) (b : ByteArray) (how : Int) (hh : how = 0 ∨ how = 1) : Told (fitM m.data.toList) (fitT t.data.toList) (fitFs fs) (b.data.toList.take 200) how :=
  fit_told m.data.toList t.data.toList fs (b.data.toList.take 200) how hh (by rw [(sB_len b).1]; exact (sB_len b).2)
theorem zl_all {how : Int} (hh : how = 0 ∨ how = 1) (zs : List Int) (n : Nat) (hn : n ≤ 200) : (∀ s ∈ zlOf how zs n, 1 ≤ s ∧ s ≤ 9223372036854775807) ∧ (zlOf how zs n).length ≤ 200 := by
  rcases hh with rfl | rfl
  · exact ⟨fun s hs => by simp [zlOf] at hs, by simp [zlOf]⟩
  · have e : zlOf 1 zs n = sizedL zs n := rfl
    rw [e]
    obtain ⟨h1, h2⟩ := (sizesOk_iff (sizedL zs n) n (by omega)).1 (sized_ok zs n (by omega))
    have h3 := sized_len zs n (by omega)
    refine ⟨fun s hs => ⟨h1 s hs, ?_⟩, by omega⟩
    have hm : s ≤ (sizedL zs n).sum := by
      generalize sizedL zs n = L at *
      clear h2 h3 e
      induction L with
      | nil => cases hs
      | cons x l ih =>
        have hp := sum_pos l (fun y hy => h1 y (by simp [hy]))
        rw [List.sum_cons]
        rcases List.mem_cons.mp hs with rfl | hs
        · omega
        · have := ih (fun y hy => h1 y (by simp [hy])) hs
          have := h1 x (by simp)
          omega
    omega
theorem sS_len (m t : ByteArray) (fs : List Pr2) (b : ByteArray) (how : Int) (zs : List Int) (hh : how = 0 ∨ how = 1) : (sS m t fs b how zs).size ≤ 100000 ∧ 0 < (sS m t fs b how zs).size := by
  have h := lns_small m t fs b how hh
  have h1 := h.ln
  have e := printL_parts (fitM m.data.toList) (fitT t.data.toList) (fitFs fs) (b.data.toList.take 200) how (zlOf how zs (sB b).size)
  have hz : (sS m t fs b how zs).data.toList.length = (sS m t fs b how zs).size := by simp
  have e2 : (sS m t fs b how zs).data.toList = printL (fitM m.data.toList) (fitT t.data.toList) (fitFs fs) (b.data.toList.take 200) how (zlOf how zs (sB b).size) := rfl
  rw [← hz, e2, e]
  obtain ⟨z1, z2⟩ := zl_all hh zs (sB b).size (sB_len b).2
  have h3 := chL_len (zlOf how zs (sB b).size) (b.data.toList.take 200) z1
  have h4 := sB_len b
  have h5 : (bodyT how (zlOf how zs (sB b).size) (b.data.toList.take 200)).length ≤ 69 * 200 + 200 + 5 := by
    unfold bodyT; split <;> omega
  have h6 : Pm.http11.length ≤ 20 := by decide
  simp only [List.length_append, List.length_cons, List.length_nil]
  omega
theorem sS_split (m t : ByteArray) (fs : List Pr2) (b : ByteArray) (how : Int) (zs : List Int) (hh : how = 0 ∨ how = 1) :
    ∃ x r : List UInt8, (sS m t fs b how zs).data.toList = x ++ 10 :: r ∧ (∀ c ∈ x, c ≠ 10) ∧ ∀ (way : Nat) (tail : List UInt8), way < 8 → frameS (spoilO x r how (sB b).size way ++ tail) 500 200 = frameBad (spoilE how (sB b).size way) := by
  have h := lns_small m t fs b how hh
  have e := printL_parts (fitM m.data.toList) (fitT t.data.toList) (fitFs fs) (b.data.toList.take 200) how (zlOf how zs (sB b).size)
  have e2 : (sS m t fs b how zs).data.toList = printL (fitM m.data.toList) (fitT t.data.toList) (fitFs fs) (b.data.toList.take 200) how (zlOf how zs (sB b).size) := rfl
  obtain ⟨p1, p2, _⟩ := h.parts
  refine ⟨fitM m.data.toList ++ [32] ++ fitT t.data.toList ++ [32] ++ Pm.http11 ++ [13], _, by rw [e2, e]; simp only [List.append_assoc, List.cons_append, List.nil_append]; rfl, ?_, ?_⟩
  · intro c hc
    simp only [List.mem_append, List.mem_singleton] at hc
    rcases hc with ((((hc | rfl) | hc) | rfl) | hc) | rfl
    · exact (method_told p1 c hc).2
    · decide
    · exact (target_told p2 c hc).2
    · decide
    · have : ∀ c ∈ Pm.http11, c ≠ 10 := by decide
      exact this c hc
    · decide
  · intro way tail hw
    by_cases h7 : way < 7
    · have h2 := spoilt_way h (zlOf how zs (sB b).size) tail way
      rw [(sB_len b).1] at h2
      unfold spoilO spoilE
      rw [if_pos h7, if_pos h7, ← h2]
      congr 2
      unfold afterL
      simp only [List.append_assoc, List.cons_append, List.nil_append]
    · unfold spoilO spoilE
      rw [if_neg h7, if_neg h7, List.append_assoc]
      exact spoilt_version _
end Go.Proofs.YtaekbmfcnkpelaaGreatDoor

/- What a reader makes of a body, told in one piece or in chunks, as the plain mathematics says it; and what a framing without error tells. -/
namespace Go.Proofs.YtaekbmfcnkpelaaGreatDoor
open Go.RowKit

theorem oneN_nonneg (l : List (List UInt8)) : 0 ≤ Pm.oneN l := by
  unfold Pm.oneN
  split
  · rename_i h
    unfold Pm.onePre
    cases l with
    | nil => simp
    | cons x r =>
      have h2 := List.all_eq_true.1 h x (by simp)
      simp only [Pm.numOk, Bool.and_eq_true, decide_eq_true_eq] at h2
      exact (Pm.numv_bd 10 x (by omega) (by omega) h2.1.2 (by omega)).1
  · exact Int.le_refl _
theorem framOf_len {fs : List (ByteArray × ByteArray)} {bd : Int} (h : (framOf fs bd).1 = 0) : 0 ≤ (framOf fs bd).2.2 ∧ (framOf fs bd).2.2 ≤ bd := by
  unfold framOf framS at h ⊢
  split at h <;> rename_i h1
  · simp at h
  rw [if_neg h1]
  split at h <;> rename_i h2
  · simp at h
  rw [if_neg h2]
  split at h <;> rename_i h3
  · simp at h
  rw [if_neg h3]
  split at h <;> rename_i h4
  · simp at h
  rw [if_neg h4]
  split at h <;> rename_i h5
  · simp at h
  rw [if_neg h5]
  exact ⟨oneN_nonneg _, by simpa using h5⟩

theorem bytes_body (b : Nat) (hd bd : Int) (hd' : Nat) (s : ByteArray) (k n : Nat) (w : World) (hr : RdAt b hd bd s k w) (hs : s.size ≤ maxLen) (hk : k ≤ s.size) (hn2 : n ≤ 281474976710656) :
    Calls Tryz.prog 29 #[.pointer (some ⟨b, 0, none⟩), .int .i64 n] w fun r w' =>
      r = .returned (.tuple #[.string ⟨(bodyS (s.data.toList.drop k) hd' bd false n).2.1.toArray⟩, .int .i64 (bodyS (s.data.toList.drop k) hd' bd false n).1]) ∧
      (∃ k', RdAt b hd bd s k' w' ∧ ((bodyS (s.data.toList.drop k) hd' bd false n).1 = 0 → k' = k + (bodyS (s.data.toList.drop k) hd' bd false n).2.2)) ∧ Kp b w w' := by
  have hl : (s.data.toList.drop k).length = s.size - k := by simp
  unfold bodyS
  rw [if_neg (by simp), hl]
  by_cases h : s.size - k < n
  · rw [if_pos h]
    refine (bytes_short b hd bd s k n w hr hs hk h (by omega)).mono ?_
    rintro e w' ⟨rfl, h1, h2⟩
    exact ⟨rfl, ⟨k, h1, fun h => by simp at h⟩, h2⟩
  · rw [if_neg h]
    refine (bytes_full b hd bd s k n w hr hs hk (by omega) hn2).mono ?_
    rintro e w' ⟨rfl, h1, h2⟩
    refine ⟨?_, ⟨k + n, h1, fun _ => rfl⟩, h2⟩
    have : s.extract k (k + n) = ⟨((s.data.toList.drop k).take n).toArray⟩ := by
      apply ByteArray.ext
      apply Array.ext'
      rw [Lib.extract_data]
      simp
    rw [this]

theorem chunks_body (b : Nat) (hd : Nat) (bd : Int) (s : ByteArray) (k n : Nat) (w : World) (hr : RdAt b hd bd s k w) (hs : s.size ≤ 1152921504606846976) (hk : k ≤ s.size) (hh : hd ≤ 500) (hb0 : 0 ≤ bd) (hb1 : bd ≤ 200) :
    Calls Tryz.prog 28 #[.pointer (some ⟨b, 0, none⟩)] w fun r w' =>
      r = .returned (.tuple #[.string ⟨(bodyS (s.data.toList.drop k) hd bd true n).2.1.toArray⟩, .int .i64 (bodyS (s.data.toList.drop k) hd bd true n).1]) ∧
      (∃ k', RdAt b hd bd s k' w' ∧ ((bodyS (s.data.toList.drop k) hd bd true n).1 = 0 → k' = k + (bodyS (s.data.toList.drop k) hd bd true n).2.2)) ∧ Kp b w w' := by
  have hl : (s.data.toList.drop k).length = s.size - k := by simp
  unfold bodyS
  rw [if_pos rfl, hl]
  exact chunks_any b hd bd s k w hr hs hk hh hb0 hb1

end Go.Proofs.YtaekbmfcnkpelaaGreatDoor
