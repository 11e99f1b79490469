/- Texts that follow one another, joined. -/
import Derived.Test.YthfpiahhbflfpaaDoorJoin15
import Derived.Test.YthfpiahhbflfpaaDoorJoin03
import Derived.Test.YthfpiahhbflfpaaDoorJoin31
/- Plain mathematics: the lines of a request that was told, and its head, read again. -/
namespace Go.Proofs.YthfpiahhbflfpaaDoor

theorem clean_ahead {c : UInt8} : ∀ {a r : List UInt8}, (∀ x ∈ a, x ≠ c) → Pm.ahead c (a ++ c :: r) = a ∧ Pm.behind c (a ++ c :: r) = c :: r
  | [], r, _ => by simp [Pm.ahead, Pm.behind]
  | x :: a, r, h => by
    have hx := h x (by simp)
    have ih := clean_ahead (a := a) (r := r) (fun y hy => h y (by simp [hy]))
    have h1 : Pm.ahead c (x :: (a ++ c :: r)) = x :: Pm.ahead c (a ++ c :: r) := by simp [Pm.ahead, hx]
    have h2 : Pm.behind c (x :: (a ++ c :: r)) = Pm.behind c (a ++ c :: r) := by simp [Pm.behind, hx]
    rw [List.cons_append, h1, h2, ih.1, ih.2]; exact ⟨rfl, rfl⟩
theorem clean_none {c : UInt8} : ∀ {a : List UInt8}, (∀ x ∈ a, x ≠ c) → Pm.ahead c a = a ∧ Pm.behind c a = []
  | [], _ => by simp [Pm.ahead, Pm.behind]
  | x :: a, h => by
    have hx := h x (by simp)
    have ih := clean_none (a := a) (fun y hy => h y (by simp [hy]))
    have h1 : Pm.ahead c (x :: a) = x :: Pm.ahead c a := by simp [Pm.ahead, hx]
    have h2 : Pm.behind c (x :: a) = Pm.behind c a := by simp [Pm.behind, hx]
    rw [h1, h2, ih.1, ih.2]; exact ⟨rfl, rfl⟩
theorem suffix_cr (x : List UInt8) : Lib.hasSuffix (x ++ [13]) [13] = true := by
  unfold Lib.hasSuffix; rw [List.isSuffixOf_iff_suffix]; exact ⟨x, rfl⟩
theorem lineS_line (x r : List UInt8) (lim : Nat) (long : Int) (hx : ∀ c ∈ x, c ≠ 10) (hl : x.length + 2 ≤ lim) : Pm.lineS (x ++ [13, 10] ++ r) lim long = (0, x, x.length + 2) := by
  have h1 : (x ++ [13, 10] ++ r).take lim = (x ++ [13]) ++ 10 :: r.take (lim - (x.length + 2)) := by
    rw [List.take_append, List.take_of_length_le (by simp; omega)]
    simp
  obtain ⟨ha, hb⟩ := clean_ahead (c := 10) (a := x ++ [13]) (r := r.take (lim - (x.length + 2))) (fun y hy => by
    rcases List.mem_append.mp hy with h | h
    · exact hx y h
    · simp at h; subst h; decide)
  rw [Pm.lineS_cr (r := r.take (lim - (x.length + 2))) (by rw [h1]; exact hb) (by rw [h1, ha]; exact suffix_cr x), h1, ha]
  unfold Lib.trimSuffix
  rw [if_pos (suffix_cr x)]
  simp
theorem firstS_line (m t : List UInt8) (hm : Pm.isMethod m = true) (ht : Pm.isTarget t = true) (h1 : ∀ c ∈ m, c ≠ 32) (h2 : ∀ c ∈ t, c ≠ 32) (hv : Pm.isVersion Pm.http11 = true) (h3 : ∀ c ∈ Pm.http11, c ≠ 32) : Pm.firstS (m ++ [32] ++ t ++ [32] ++ Pm.http11) = (0, m, t) := by
  have e : m ++ [32] ++ t ++ [32] ++ Pm.http11 = m ++ 32 :: (t ++ 32 :: Pm.http11) := by simp
  obtain ⟨a1, b1⟩ := clean_ahead (c := 32) (a := m) (r := t ++ 32 :: Pm.http11) h1
  obtain ⟨a2, b2⟩ := clean_ahead (c := 32) (a := t) (r := Pm.http11) h2
  obtain ⟨_, b3⟩ := clean_none (c := 32) h3
  unfold Pm.firstS
  rw [e, Pm.split_some b1, a1, Pm.split_some b2, a2, Pm.split_none b3]
  simp [hm, ht, hv]
theorem trimR_of {v cs : List UInt8} (h : Lib.trimS v cs = v) : Lib.trimRightS v cs = v ∧ Lib.trimLeftS v cs = v := by
  have h1 : (Lib.trimLeftS (Lib.trimRightS v cs) cs).length ≤ (Lib.trimRightS v cs).length := (List.dropWhile_sublist _).length_le
  have h2 : (v.reverse.dropWhile (cs.contains ·)).length ≤ v.reverse.length := (List.dropWhile_sublist _).length_le
  have h3 : (Lib.trimRightS v cs).length = (v.reverse.dropWhile (cs.contains ·)).length := by unfold Lib.trimRightS; simp
  have h4 : (Lib.trimLeftS (Lib.trimRightS v cs) cs).length = v.length := congrArg List.length h
  have h5 : v.reverse.dropWhile (cs.contains ·) = v.reverse := (List.dropWhile_suffix _).eq_of_length (by rw [List.length_reverse] at h2 ⊢; omega)
  have h6 : Lib.trimRightS v cs = v := by unfold Lib.trimRightS; rw [h5, List.reverse_reverse]
  refine ⟨h6, ?_⟩
  have h7 := h
  unfold Lib.trimS at h7
  rw [h6] at h7; exact h7
theorem trim_sp {v : List UInt8} (h : Lib.trimS v Pm.blanks = v) : Lib.trimS (32 :: v) Pm.blanks = v := by
  obtain ⟨h1, h2⟩ := trimR_of h
  cases hv : v with
  | nil => decide
  | cons c r =>
    have hne : v.reverse ≠ [] := by rw [hv]; simp
    have h3 : v.reverse.dropWhile (Pm.blanks.contains ·) = v.reverse := by
      unfold Lib.trimRightS at h1
      rw [← List.reverse_reverse (v.reverse.dropWhile _), h1]
    have h4 : (v.reverse ++ [32]).dropWhile (Pm.blanks.contains ·) = v.reverse ++ [32] := by
      rw [List.dropWhile_append, h3, if_neg]
      intro he
      cases hr : v.reverse with
      | nil => exact hne hr
      | cons => rw [hr] at he; simp at he
    have h5 : Lib.trimRightS (32 :: v) Pm.blanks = 32 :: v := by
      unfold Lib.trimRightS; rw [List.reverse_cons, h4]; simp
    rw [← hv]
    unfold Lib.trimS
    rw [h5]
    unfold Lib.trimLeftS at h2 ⊢
    rw [List.dropWhile_cons_of_pos (by decide)]
    exact h2
theorem fieldS_line (n v : List UInt8) (hf : Pm.isField n v = true) (hn : ∀ c ∈ n, c ≠ 58) (hv : Lib.trimS v Pm.blanks = v) : Pm.fieldS (n ++ [58, 32] ++ v) = some (n, v) := by
  have e : n ++ [58, 32] ++ v = n ++ 58 :: (32 :: v) := by simp
  obtain ⟨a1, b1⟩ := clean_ahead (c := 58) (a := n) (r := 32 :: v) hn
  unfold Pm.fieldS
  rw [e, a1, b1, List.drop_succ_cons, List.drop_zero, trim_sp hv, hf]
  rfl
def lnF (f : Pm.Fld) : List UInt8 := f.1 ++ [58, 32] ++ f.2
def lnsF (fs : List Pm.Fld) : List UInt8 := fs.flatMap fun f => lnF f ++ [13, 10]
theorem headS_fields (fs : List Pm.Fld) (r : List UInt8) : ∀ (fuel lim : Nat) (m t : List UInt8) (acc : List Pm.Fld) (u : Nat), (∀ f ∈ fs, Pm.fieldS (lnF f) = some f ∧ ∀ c ∈ lnF f, c ≠ 10) → fs.length + 1 ≤ fuel → (lnsF fs).length + 2 ≤ lim →
    Pm.headS fuel false (lnsF fs ++ [13, 10] ++ r) lim m t acc u = (0, m, t, acc ++ fs, u + (lnsF fs).length + 2) := by
  induction fs with
  | nil =>
    intro fuel lim m t acc u _ h2 h3
    obtain ⟨fuel, rfl⟩ : ∃ k, fuel = k + 1 := ⟨fuel - 1, by simp at h2; omega⟩
    have hl := lineS_line [] r lim 5 (fun _ h => by cases h) (by simpa [lnsF] using h3)
    rw [List.nil_append] at hl
    rw [headS_succ, show lnsF [] ++ [13, 10] ++ r = [13, 10] ++ r from rfl, hl]
    simp [lnsF]
  | cons f fs ih =>
    intro fuel lim m t acc u h1 h2 h3
    obtain ⟨fuel, rfl⟩ : ∃ k, fuel = k + 1 := ⟨fuel - 1, by simp at h2; omega⟩
    obtain ⟨k1, k2⟩ := h1 f (by simp)
    have e : lnsF (f :: fs) = lnF f ++ [13, 10] ++ lnsF fs := by simp [lnsF]
    have el : (lnsF (f :: fs)).length = (lnF f).length + 2 + (lnsF fs).length := by rw [e]; simp; omega
    have e2 : lnsF (f :: fs) ++ [13, 10] ++ r = lnF f ++ [13, 10] ++ (lnsF fs ++ [13, 10] ++ r) := by rw [e]; simp
    have hl := lineS_line (lnF f) (lnsF fs ++ [13, 10] ++ r) lim 5 k2 (by omega)
    have hne : lnF f ≠ [] := by unfold lnF; simp
    have hd : (lnF f ++ [13, 10] ++ (lnsF fs ++ [13, 10] ++ r)).drop ((lnF f).length + 2) = lnsF fs ++ [13, 10] ++ r := List.drop_left' (by simp)
    rw [headS_succ, e2, hl]
    simp only [ne_eq, not_true_eq_false, if_false, Bool.false_eq_true, hne, k1]
    rw [hd, ih fuel _ m t (acc ++ [f]) _ (fun g hg => h1 g (by simp [hg])) (by simp at h2; omega) (by omega)]
    simp only [List.append_assoc, List.singleton_append, Prod.mk.injEq, true_and]
    omega
theorem headS_told (m t : List UInt8) (fs : List Pm.Fld) (r : List UInt8) (lim : Nat) (hm : Pm.isMethod m = true) (ht : Pm.isTarget t = true) (h1 : ∀ c ∈ m, c ≠ 32 ∧ c ≠ 10) (h2 : ∀ c ∈ t, c ≠ 32 ∧ c ≠ 10) (hf : ∀ f ∈ fs, Pm.fieldS (lnF f) = some f ∧ ∀ c ∈ lnF f, c ≠ 10) (hl : m.length + t.length + 12 + (lnsF fs).length + 2 ≤ lim) (fuel : Nat) (hfu : fs.length + 2 ≤ fuel) :
    Pm.headS fuel true (m ++ [32] ++ t ++ [32] ++ Pm.http11 ++ [13, 10] ++ (lnsF fs ++ [13, 10] ++ r)) lim [] [] [] 0 = (0, m, t, fs, m.length + t.length + 12 + (lnsF fs).length + 2) := by
  obtain ⟨fuel, rfl⟩ : ∃ k, fuel = k + 1 := ⟨fuel - 1, by omega⟩
  have hz : (m ++ [32] ++ t ++ [32] ++ Pm.http11).length = m.length + t.length + 10 := by simp [Pm.http11]; omega
  have hfs := firstS_line m t hm ht (fun c hc => (h1 c hc).1) (fun c hc => (h2 c hc).1) (by decide) (by decide)
  have hx : ∀ c ∈ m ++ [32] ++ t ++ [32] ++ Pm.http11, c ≠ 10 := by
    intro c hc
    simp only [List.mem_append, List.mem_singleton] at hc
    rcases hc with (((h | h) | h) | h) | h
    · exact (h1 c h).2
    · rw [h]; decide
    · exact (h2 c h).2
    · rw [h]; decide
    · revert c; decide
  have hln := lineS_line (m ++ [32] ++ t ++ [32] ++ Pm.http11) (lnsF fs ++ [13, 10] ++ r) lim 5 hx (by omega)
  have hd : (m ++ [32] ++ t ++ [32] ++ Pm.http11 ++ [13, 10] ++ (lnsF fs ++ [13, 10] ++ r)).drop ((m ++ [32] ++ t ++ [32] ++ Pm.http11).length + 2) = lnsF fs ++ [13, 10] ++ r := List.drop_left' (by simp; omega)
  rw [headS_succ, hln]
  simp only [ne_eq, not_true_eq_false, if_false, if_true, hfs]
  rw [hd, headS_fields fs r fuel _ m t [] _ hf (by omega) (by omega)]
  simp only [List.nil_append, Prod.mk.injEq, true_and]
  omega
end Go.Proofs.YthfpiahhbflfpaaDoor

/- Plain mathematics: numbers and chunks that were told, read again. -/
namespace Go.Proofs.YthfpiahhbflfpaaDoor

theorem dval_digC : ∀ d : Nat, d < 16 → Pm.dval (digC d) = d := by decide
theorem natT_read (b : Nat) (hb : 2 ≤ b) (hb2 : b ≤ 16) (u : Nat) : Pm.digsB b (natT b u) = true ∧ Pm.numv b (natT b u) = u ∧ 1 ≤ (natT b u).length := by
  induction u using Nat.strongRecOn with
  | _ u ih =>
    by_cases h : u < b
    · rw [natT_small h]
      have := dval_digC u (by omega)
      refine ⟨?_, ?_, by simp⟩
      · simp [Pm.digsB, this]; omega
      · simp [Pm.numv, this]
    · rw [natT_big hb h]
      obtain ⟨h1, h2, h3⟩ := ih (u / b) (Nat.div_lt_self (by omega) (by omega))
      have hm : u % b < b := Nat.mod_lt _ (by omega)
      have hd := dval_digC (u % b) (by omega)
      refine ⟨?_, ?_, by simp⟩
      · unfold Pm.digsB at h1 ⊢
        rw [List.all_append, h1]
        simp [hd]; omega
      · unfold Pm.numv at h2 ⊢
        rw [List.foldl_append, h2]
        simp only [List.foldl_cons, List.foldl_nil, hd]
        rw [← Int.natCast_mul, ← Int.natCast_add]
        congr 1
        have := Nat.div_add_mod u b
        rw [Nat.mul_comm]; exact this
theorem natT_num (b : Nat) (hb : 2 ≤ b) (hb2 : b ≤ 16) (u : Nat) (hu : u < 256) (most : Int) (hm : 8 ≤ most) : Pm.numOk b most (natT b u) = true ∧ Pm.numN b most (natT b u) = u ∧ Pm.numE b most (natT b u) = 0 := by
  obtain ⟨h1, h2, h3⟩ := natT_read b hb hb2 u
  have h4 := natT_len hb 7 u (by omega)
  have h5 : Pm.numOk b most (natT b u) = true := by
    unfold Pm.numOk
    rw [h1, decide_eq_true h3, decide_eq_true (show ((natT b u).length : Int) ≤ most by omega)]; rfl
  refine ⟨h5, ?_, ?_⟩
  · unfold Pm.numN; rw [if_pos h5, h2]
  · unfold Pm.numE; rw [if_pos h5]
theorem digC_ne : ∀ d : Nat, d < 16 → digC d ≠ 10 := by decide
theorem natT_ne (b : Nat) (hb : 2 ≤ b) (hb2 : b ≤ 16) (u : Nat) : ∀ c ∈ natT b u, c ≠ 10 := by
  induction u using Nat.strongRecOn with
  | _ u ih =>
    by_cases h : u < b
    · rw [natT_small h]; intro c hc
      simp at hc; rw [hc]; exact digC_ne u (by omega)
    · rw [natT_big hb h]
      have hm : u % b < b := Nat.mod_lt _ (by omega)
      intro c hc
      rcases List.mem_append.mp hc with hc | hc
      · exact ih (u / b) (Nat.div_lt_self (by omega) (by omega)) c hc
      · simp at hc; rw [hc]; exact digC_ne _ (by omega)
theorem size_told (u : Nat) (hu : u < 256) (r : List UInt8) : sizeE (natT 16 u ++ [13, 10] ++ r) = 0 ∧ sizeN (natT 16 u ++ [13, 10] ++ r) = u ∧ (Pm.lineS (natT 16 u ++ [13, 10] ++ r) 10 3).2.2 = (natT 16 u).length + 2 := by
  have h4 := natT_len (b := 16) (by omega) 7 u (by omega)
  have hl := lineS_line (natT 16 u) r 10 3 (natT_ne 16 (by omega) (by omega) u) (by omega)
  obtain ⟨_, h2, h3⟩ := natT_num 16 (by omega) (by omega) u hu 8 (by omega)
  unfold sizeE sizeN
  rw [hl]
  refine ⟨?_, ?_, rfl⟩
  · simp only [if_true]; exact if_pos h3
  · simp only [if_true]; exact h2
theorem chunk_told (x r : List UInt8) (room : Int) (hr : (x.length : Int) ≤ room) : chunkS (x ++ [13, 10] ++ r) x.length room = (0, x, x.length + 2) := by
  have h1 : (x ++ [13, 10] ++ r).take (x.length + 2) = x ++ [13, 10] := List.take_left' (by simp)
  have h2 : Lib.hasSuffix (x ++ [13, 10]) [13, 10] = true := by
    unfold Lib.hasSuffix; rw [List.isSuffixOf_iff_suffix]; exact ⟨x, rfl⟩
  unfold chunkS
  rw [if_neg (by omega), if_neg (by simp), h1, if_pos h2]
  unfold Lib.trimSuffix
  rw [if_pos h2]; simp
theorem chunks_told (hd : Nat) (hh : 2 ≤ hd) (r : List UInt8) : ∀ (zs : List Int) (b acc : List UInt8) (u fuel : Nat) (bd : Int), sizesOk zs b.length = true → (acc.length : Int) + b.length ≤ bd → bd ≤ 200 → zs.length + 1 ≤ fuel →
    chunksS fuel (chL zs b ++ r) hd bd acc u = (0, acc ++ b, u + (chL zs b).length)
  | [], b, acc, u, fuel, bd, hs, _, _, hf => by
    obtain ⟨fuel, rfl⟩ : ∃ k, fuel = k + 1 := ⟨fuel - 1, by simp at hf; omega⟩
    have hb : b = [] := by
      simp only [sizesOk, beq_iff_eq] at hs
      exact List.eq_nil_of_length_eq_zero (by omega)
    subst hb
    have e : chL [] [] ++ r = natT 16 0 ++ [13, 10] ++ ([13, 10] ++ r) := by
      rw [natT_small (by omega)]; rfl
    have e1 : (natT 16 0).length = 1 := by rw [natT_small (by omega)]; rfl
    obtain ⟨h1, h2, h3⟩ := size_told 0 (by omega) ([13, 10] ++ r)
    have hdr : (natT 16 0 ++ [13, 10] ++ ([13, 10] ++ r)).drop ((natT 16 0).length + 2) = [13, 10] ++ r := List.drop_left' (by simp)
    have hl := lineS_line [] r hd 5 (fun _ h => by cases h) (by simpa using hh)
    rw [List.nil_append] at hl
    have ht : Pm.trailS (hd + 1) ([13, 10] ++ r) hd 0 = (0, 2) := by
      rw [Pm.trailS_succ, hl]; simp
    rw [chunksS_succ, e, h1, h2, h3, hdr, ht]
    simp only [ne_eq, not_true_eq_false, if_false, Int.natCast_zero, Int.lt_irrefl, List.append_nil, e1]
    rfl
  | z :: zs, b, acc, u, fuel, bd, hs, hb, hb2, hf => by
    obtain ⟨fuel, rfl⟩ : ∃ k, fuel = k + 1 := ⟨fuel - 1, by simp at hf; omega⟩
    rw [sizesOk] at hs
    split at hs
    · cases hs
    rename_i hz
    obtain ⟨n, rfl⟩ : ∃ n : Nat, z = (n : Int) := ⟨z.toNat, by omega⟩
    have hn1 : 1 ≤ n ∧ n ≤ b.length := by omega
    have hnt : numT 16 (n : Int) = natT 16 n := by unfold numT; rw [if_neg (by omega)]; rfl
    have hx : (b.take n).length = n := by rw [List.length_take]; omega
    have e : chL ((n : Int) :: zs) b ++ r = natT 16 n ++ [13, 10] ++ (b.take n ++ [13, 10] ++ (chL zs (b.drop n) ++ r)) := by
      rw [chL, hnt]; simp
    have el : (chL ((n : Int) :: zs) b).length = (natT 16 n).length + 2 + (n + 2) + (chL zs (b.drop n)).length := by
      rw [chL, hnt]; simp [hx]; omega
    obtain ⟨h1, h2, h3⟩ := size_told n (by omega) (b.take n ++ [13, 10] ++ (chL zs (b.drop n) ++ r))
    have hdr : (natT 16 n ++ [13, 10] ++ (b.take n ++ [13, 10] ++ (chL zs (b.drop n) ++ r))).drop ((natT 16 n).length + 2) = b.take n ++ [13, 10] ++ (chL zs (b.drop n) ++ r) := List.drop_left' (by simp)
    have hck := chunk_told (b.take n) (chL zs (b.drop n) ++ r) (bd - acc.length) (by omega)
    rw [hx] at hck
    have hdr2 : (natT 16 n ++ [13, 10] ++ (b.take n ++ [13, 10] ++ (chL zs (b.drop n) ++ r))).drop ((natT 16 n).length + 2 + (n + 2)) = chL zs (b.drop n) ++ r := by
      rw [← List.drop_drop, hdr]; exact List.drop_left' (by simp [hx])
    have ih := chunks_told hd hh r zs (b.drop n) (acc ++ b.take n) (u + ((natT 16 n).length + 2) + (n + 2)) fuel bd (by rw [List.length_drop, show ((b.length - n : Nat) : Int) = (b.length : Int) - (n : Int) from by omega]; exact hs) (by rw [List.length_append, hx, List.length_drop]; omega) hb2 (by simp at hf; omega)
    rw [chunksS_succ, e, h1, h2, h3, hdr, Int.toNat_natCast, hck]
    simp only [ne_eq, not_true_eq_false, if_false]
    rw [if_pos (by omega), hdr2, ih, el, List.append_assoc, List.take_append_drop]
    simp only [Prod.mk.injEq, true_and]
    omega
end Go.Proofs.YthfpiahhbflfpaaDoor

/- Plain mathematics: a request that was told is framed as itself, just so far, whatever comes behind; of each beginning that is shorter bytes are missing. -/
namespace Go.Proofs.YthfpiahhbflfpaaDoor

theorem tokB_ne {c : UInt8} (h : Pm.tokB c = true) : c ≠ 58 ∧ c ≠ 10 ∧ c ≠ 32 := by
  refine ⟨?_, ?_, ?_⟩ <;> (intro e; rw [e] at h; exact absurd h (by decide))
theorem valB_ne {c : UInt8} (h : Pm.valB c = true) : c ≠ 10 := by
  intro e; rw [e] at h; exact absurd h (by decide)
theorem tgtB_ne {c : UInt8} (h : Pm.tgtB c = true) : c ≠ 32 ∧ c ≠ 10 := by
  refine ⟨?_, ?_⟩ <;> (intro e; rw [e] at h; exact absurd h (by decide))
theorem field_told {n v : List UInt8} (h : Pm.isField n v = true) : Pm.fieldS (lnF (n, v)) = some (n, v) ∧ ∀ c ∈ lnF (n, v), c ≠ 10 := by
  have h' := h
  simp only [Pm.isField, Pm.isTok, Pm.allTok, Pm.isValue, Pm.allP, Bool.and_eq_true, List.all_eq_true, beq_iff_eq] at h'
  obtain ⟨⟨_, h2⟩, h3, h4⟩ := h'
  refine ⟨fieldS_line n v h (fun c hc => (tokB_ne (h2 c hc)).1) h4, ?_⟩
  intro c hc
  simp only [lnF, List.mem_append] at hc
  rcases hc with (hc | hc) | hc
  · exact (tokB_ne (h2 c hc)).2.1
  · revert c; decide
  · exact valB_ne (h3 c hc)
theorem method_told {m : List UInt8} (h : Pm.isMethod m = true) : ∀ c ∈ m, c ≠ 32 ∧ c ≠ 10 := by
  simp only [Pm.isMethod, Pm.isTok, Pm.allTok, Bool.and_eq_true, List.all_eq_true] at h
  intro c hc
  have := tokB_ne (h.2.2 c hc)
  exact ⟨this.2.2, this.2.1⟩
theorem target_told {t : List UInt8} (h : Pm.isTarget t = true) : ∀ c ∈ t, c ≠ 32 ∧ c ≠ 10 := by
  simp only [Pm.isTarget, Pm.allP, Bool.and_eq_true, List.all_eq_true] at h
  intro c hc
  exact tgtB_ne (h.2.1 c hc)
def toL (f : Pr2) : Pm.Fld := (f.1.data.toList, f.2.data.toList)
theorem fldsL_lns (fs : List Pr2) : fldsL fs = lnsF (fs.map toL) := by
  unfold fldsL lnsF
  rw [List.flatMap_map]; rfl
theorem fldsOf_toL (fs : List Pr2) : fldsOf (fs.map toL) = fs := by
  unfold fldsOf
  rw [List.map_map]
  conv => rhs; rw [← List.map_id fs]
  apply List.map_congr_left
  rintro ⟨⟨⟨a⟩⟩, ⟨⟨b⟩⟩⟩ _
  rfl
theorem vals_snoc (fs : List Pr2) (f : Pr2) (n : List UInt8) : valsOf (fs ++ [f]) n = valsOf fs n ++ (if Pm.alike f.1.data.toList n = true then [f.2] else []) := by
  unfold valsOf
  rw [List.filter_append, List.map_append]
  congr 1
  by_cases h : Pm.alike f.1.data.toList n = true
  · simp [h]
  · simp [h]
def lastL (how : Int) (n : Nat) : Pm.Fld := if how = 0 then (cLen, natT 10 n) else (cCod, cChu)
def lastB (how : Int) (n : Nat) : Pr2 := (⟨(lastL how n).1.toArray⟩, ⟨(lastL how n).2.toArray⟩)
theorem last_toL (how : Int) (n : Nat) : toL (lastB how n) = lastL how n := rfl
def bodyT (how : Int) (zs : List Int) (b : List UInt8) : List UInt8 := if how = 0 then b else chL zs b
theorem numT_nat (b n : Nat) : numT b (n : Int) = natT b n := by unfold numT; rw [if_neg (by omega)]; rfl
theorem printL_parts (m t : List UInt8) (fs : List Pr2) (b : List UInt8) (how : Int) (zs : List Int) :
    printL m t fs b how zs = m ++ [32] ++ t ++ [32] ++ Pm.http11 ++ [13, 10] ++ (lnsF (fs.map toL ++ [lastL how b.length]) ++ [13, 10] ++ bodyT how zs b) := by
  have e : lnsF (fs.map toL ++ [lastL how b.length]) = fldsL fs ++ (lnF (lastL how b.length) ++ [13, 10]) := by
    rw [fldsL_lns]; unfold lnsF; rw [List.flatMap_append]; simp
  rw [e]
  unfold printL lastL bodyT lineL Pm.http11
  by_cases h : how = 0
  · rw [if_pos h, if_pos h, if_pos h, numT_nat]; simp [lnF, fldL, List.append_assoc]
  · rw [if_neg h, if_neg h, if_neg h]; simp [lnF, fldL, List.append_assoc]
theorem dig_tok : ∀ d : Nat, d < 10 → Pm.valB (digC d) = true ∧ Pm.blanks.contains (digC d) = false := by decide
theorem natT_all (u : Nat) : ∀ c ∈ natT 10 u, Pm.valB c = true ∧ Pm.blanks.contains c = false := by
  induction u using Nat.strongRecOn with
  | _ u ih =>
    by_cases h : u < 10
    · rw [natT_small h]; intro c hc
      simp only [List.mem_singleton] at hc; rw [hc]; exact dig_tok u h
    · rw [natT_big (by omega) h]
      intro c hc
      rcases List.mem_append.mp hc with hc | hc
      · exact ih (u / 10) (by omega) c hc
      · simp only [List.mem_singleton] at hc; rw [hc]; exact dig_tok _ (by omega)
theorem drop_none {p : UInt8 → Bool} {l : List UInt8} (h : ∀ c ∈ l, p c = false) : l.dropWhile p = l := by
  cases l with
  | nil => rfl
  | cons a r => rw [List.dropWhile_cons_of_neg (by rw [h a (by simp)]; simp)]
theorem trim_none {v : List UInt8} (h : ∀ c ∈ v, Pm.blanks.contains c = false) : Lib.trimS v Pm.blanks = v := by
  unfold Lib.trimS Lib.trimRightS Lib.trimLeftS
  rw [drop_none (l := v.reverse) (fun c hc => h c (List.mem_reverse.mp hc)), List.reverse_reverse, drop_none h]
theorem last_field (how : Int) (n : Nat) : Pm.isField (lastL how n).1 (lastL how n).2 = true := by
  unfold lastL
  split
  · unfold Pm.isField Pm.isValue
    have h1 : Pm.isTok cLen = true := by decide
    have h2 : Pm.allP Pm.valB (natT 10 n) = true := List.all_eq_true.mpr fun c hc => (natT_all n c hc).1
    rw [h1, h2, trim_none (fun c hc => (natT_all n c hc).2)]
    simp
  · decide
theorem chL_ge : ∀ (zs : List Int) (b : List UInt8), zs.length ≤ (chL zs b).length
  | [], _ => by simp
  | z :: zs, b => by
    have := chL_ge zs (b.drop z.toNat)
    rw [chL]; simp only [List.length_append, List.length_cons, List.length_nil]; omega
theorem frame_told (m t : List UInt8) (fs : List Pr2) (b : List UInt8) (how : Int) (zs : List Int) (r : List UInt8) (hp : pOk m t fs = true) (hh : how = 0 ∨ how = 1) (hz : howOk how zs b.length = true) (hb : b.length ≤ 200)
    (hl : m.length + t.length + 12 + (lnsF (fs.map toL ++ [lastL how b.length])).length + 2 ≤ 500) (hn : fs.length ≤ 100) :
    frameS (printL m t fs b how zs ++ r) 500 200 = (0, m, t, fs.map toL ++ [lastL how b.length], b, (printL m t fs b how zs).length) := by
  have hp' := hp
  unfold pOk at hp'
  rw [all_okF] at hp'
  simp only [Bool.and_eq_true, decide_eq_true_eq, List.all_eq_true] at hp'
  obtain ⟨hm, ht, ⟨hfs, hvl, hvc⟩, hvh⟩ := hp'
  have hvl' : valsOf fs nLength = [] := List.eq_nil_of_length_eq_zero hvl
  have hvc' : valsOf fs nCoding = [] := List.eq_nil_of_length_eq_zero hvc
  have hf : ∀ f ∈ fs.map toL ++ [lastL how b.length], Pm.fieldS (lnF f) = some f ∧ ∀ c ∈ lnF f, c ≠ 10 := by
    intro f hf
    rcases List.mem_append.mp hf with h | h
    · obtain ⟨g, hg, rfl⟩ := List.mem_map.mp h
      exact field_told (hfs g hg)
    · simp only [List.mem_singleton] at h; subst h
      exact field_told (last_field how b.length)
  have hfl : (fs.map toL ++ [lastL how b.length]).length = fs.length + 1 := by simp
  have hhead := headS_told m t (fs.map toL ++ [lastL how b.length]) (bodyT how zs b ++ r) 500 hm ht (method_told hm) (target_told ht) hf hl 501 (by omega)
  have e : printL m t fs b how zs ++ r = m ++ [32] ++ t ++ [32] ++ Pm.http11 ++ [13, 10] ++ (lnsF (fs.map toL ++ [lastL how b.length]) ++ [13, 10] ++ (bodyT how zs b ++ r)) := by
    rw [printL_parts]; simp only [List.append_assoc]
  have el : (printL m t fs b how zs).length = m.length + t.length + 12 + (lnsF (fs.map toL ++ [lastL how b.length])).length + 2 + (bodyT how zs b).length := by
    rw [printL_parts]; simp only [List.length_append, List.length_cons, List.length_nil, Pm.http11]; omega
  have hdr : (printL m t fs b how zs ++ r).drop (m.length + t.length + 12 + (lnsF (fs.map toL ++ [lastL how b.length])).length + 2) = bodyT how zs b ++ r := by
    rw [e, ← List.append_assoc]
    exact List.drop_left' (by simp only [List.length_append, List.length_cons, List.length_nil, Pm.http11]; omega)
  have hfo : fldsOf (fs.map toL ++ [lastL how b.length]) = fs ++ [lastB how b.length] := by
    rw [← last_toL, show fs.map toL ++ [toL (lastB how b.length)] = (fs ++ [lastB how b.length]).map toL by simp, fldsOf_toL]
  have hfr : framOf (fs ++ [lastB how b.length]) 200 = (0, decide (how = 1), if how = 0 then (b.length : Int) else 0) := by
    have d1 : (lastB how b.length).1.data.toList = (lastL how b.length).1 := rfl
    have d2 : (lastB how b.length).2.data.toList = (lastL how b.length).2 := rfl
    unfold framOf
    rw [vals_snoc, vals_snoc, vals_snoc, hvl', hvc', d1]
    rcases hh with h | h
    · subst h
      have k1 : (lastL 0 b.length).1 = cLen := rfl
      have k2 : (lastB 0 b.length).2.data.toList = natT 10 b.length := rfl
      have a1 : Pm.alike cLen nHost = false := by decide
      have a2 : Pm.alike cLen nLength = true := by decide
      have a3 : Pm.alike cLen nCoding = false := by decide
      obtain ⟨o1, _, _⟩ := natT_num 10 (by omega) (by omega) b.length (by omega) 9 (by omega)
      have o4 := (natT_read 10 (by omega) (by omega) b.length).2.1
      have ok : Pm.oneOk [natT 10 b.length] = true := by
        unfold Pm.oneOk
        simp only [List.all_cons, List.all_nil, Bool.and_true, Pm.onePre, beq_self_eq_true]
        exact o1
      rw [k1, a1, a2, a3]
      simp only [Bool.false_eq_true, if_false, if_true, List.append_nil, List.nil_append]
      unfold framS datas
      simp only [List.map_cons, List.map_nil, k2]
      have on : Pm.oneN [natT 10 b.length] = b.length := by
        unfold Pm.oneN; rw [if_pos ok]; exact o4
      have oe : Pm.oneE [natT 10 b.length] = 0 := by unfold Pm.oneE; rw [if_pos ok]
      rw [if_neg (by omega), if_neg (by simp), if_neg (by rw [oe]; simp), if_neg (by simp), on, if_neg (by omega)]
      rfl
    · subst h
      have k1 : (lastL 1 b.length).1 = cCod := rfl
      have k2 : (lastB 1 b.length).2.data.toList = cChu := rfl
      have a1 : Pm.alike cCod nHost = false := by decide
      have a2 : Pm.alike cCod nLength = false := by decide
      have a3 : Pm.alike cCod nCoding = true := by decide
      have a4 : Pm.alike cChu nChunked = true := by decide
      rw [k1, a1, a2, a3]
      simp only [Bool.false_eq_true, if_false, if_true, List.append_nil, List.nil_append]
      unfold framS datas
      simp only [List.map_cons, List.map_nil, k2]
      have on : Pm.oneN [] = 0 := by decide
      have oe : Pm.oneE [] = 0 := by decide
      rw [if_neg (by omega), if_neg (by simp), if_neg (by rw [oe]; simp), if_neg (by simp [a4]), on, if_neg (by omega)]
      rfl
  have hbd : bodyS (bodyT how zs b ++ r) 500 200 (decide (how = 1)) (if how = 0 then (b.length : Int) else 0).toNat = (0, b, (bodyT how zs b).length) := by
    unfold bodyS
    rcases hh with h | h
    · subst h
      simp only [bodyT, if_true, Int.toNat_natCast]
      rw [if_neg (by decide), if_neg (by simp), List.take_left' rfl]
    · subst h
      have hs : sizesOk zs b.length = true := by
        unfold howOk at hz; rw [if_neg (by omega), if_pos rfl] at hz; exact hz
      have hlen : zs.length + 1 ≤ (bodyT 1 zs b ++ r).length + 1 := by
        have := chL_ge zs b
        simp only [bodyT, List.length_append]
        rw [if_neg (by omega)]; omega
      rw [if_pos (by decide)]
      have := chunks_told 500 (by omega) r zs b [] 0 ((bodyT 1 zs b ++ r).length + 1) 200 hs (by simp; omega) (by omega) hlen
      rw [show bodyT 1 zs b = chL zs b from by unfold bodyT; rw [if_neg (by omega)]] at this ⊢
      rw [this]; simp
  unfold frameS
  simp only
  rw [e, hhead]
  simp only [ne_eq, not_true_eq_false, if_false]
  rw [← e, hdr, hfo, hfr]
  simp only [not_true_eq_false, if_false]
  rw [hbd, el]
  simp
theorem frame_cut (l : List UInt8) (hd : Nat) (bd : Int) (c : Nat) (hc : c < l.length) (hn : (frameS l hd bd).2.2.2.2.2 = l.length) : frameS (l.take c) hd bd = frameBad 2 := by
  by_cases h2 : (frameS (l.take c) hd bd).1 = 2
  · rw [frameS_bad _ _ _ (by rw [h2]; decide), h2]
  · have h3 := frameS_app (l.take c) (l.drop c) hd bd h2
    rw [List.take_append_drop] at h3
    have h4 := (frameS_say (l.take c) hd bd).2.2.2
    rw [← h3, hn, List.length_take] at h4
    omega
end Go.Proofs.YthfpiahhbflfpaaDoor

/- Plain mathematics: a request that was told, spoilt behind its first line, is refused, with the error that says why. -/
namespace Go.Proofs.YthfpiahhbflfpaaDoor

theorem head_first (m t : List UInt8) (l : List UInt8) (lim fuel : Nat) (hm : Pm.isMethod m = true) (ht : Pm.isTarget t = true) (hl : m.length + t.length + 12 ≤ lim) :
    Pm.headS (fuel + 1) true (m ++ [32] ++ t ++ [32] ++ Pm.http11 ++ [13, 10] ++ l) lim [] [] [] 0 = Pm.headS fuel false l (lim - (m.length + t.length + 12)) m t [] (m.length + t.length + 12) := by
  have hz : (m ++ [32] ++ t ++ [32] ++ Pm.http11).length = m.length + t.length + 10 := by simp [Pm.http11]; omega
  have h1 := method_told hm
  have h2 := target_told ht
  have hfs := firstS_line m t hm ht (fun c hc => (h1 c hc).1) (fun c hc => (h2 c hc).1) (by decide) (by decide)
  have hx : ∀ c ∈ m ++ [32] ++ t ++ [32] ++ Pm.http11, c ≠ 10 := by
    intro c hc
    simp only [List.mem_append, List.mem_singleton] at hc
    rcases hc with (((h | h) | h) | h) | h
    · exact (h1 c h).2
    · rw [h]; decide
    · exact (h2 c h).2
    · rw [h]; decide
    · revert c; decide
  have hln := lineS_line (m ++ [32] ++ t ++ [32] ++ Pm.http11) l lim 5 hx (by omega)
  have hd : (m ++ [32] ++ t ++ [32] ++ Pm.http11 ++ [13, 10] ++ l).drop ((m ++ [32] ++ t ++ [32] ++ Pm.http11).length + 2) = l := List.drop_left' (by simp; omega)
  rw [headS_succ, hln]
  simp only [ne_eq, not_true_eq_false, if_false, if_true, hfs]
  rw [hd, hz, show m.length + t.length + 10 + 2 = m.length + t.length + 12 from rfl, Nat.zero_add]
theorem head_line (x l : List UInt8) (g : Pm.Fld) (lim fuel : Nat) (m t : List UInt8) (acc : List Pm.Fld) (u : Nat) (hx : ∀ c ∈ x, c ≠ 10) (hg : Pm.fieldS x = some g) (hne : x ≠ []) (hl : x.length + 2 ≤ lim) :
    Pm.headS (fuel + 1) false (x ++ [13, 10] ++ l) lim m t acc u = Pm.headS fuel false l (lim - (x.length + 2)) m t (acc ++ [g]) (u + (x.length + 2)) := by
  have hln := lineS_line x l lim 5 hx hl
  have hd : (x ++ [13, 10] ++ l).drop (x.length + 2) = l := List.drop_left' (by simp)
  rw [headS_succ, hln]
  simp only [ne_eq, not_true_eq_false, if_false, Bool.false_eq_true, hne, hg]
  rw [hd]
theorem head_bad (x l : List UInt8) (lim fuel : Nat) (m t : List UInt8) (acc : List Pm.Fld) (u : Nat) (hx : ∀ c ∈ x, c ≠ 10) (hg : Pm.fieldS x = none) (hne : x ≠ []) (hl : x.length + 2 ≤ lim) :
    Pm.headS (fuel + 1) false (x ++ [13, 10] ++ l) lim m t acc u = Pm.headBad 3 := by
  have hln := lineS_line x l lim 5 hx hl
  rw [headS_succ, hln]
  simp only [ne_eq, not_true_eq_false, if_false, Bool.false_eq_true, hne, hg]
theorem head_lf (x l : List UInt8) (lim fuel : Nat) (m t : List UInt8) (acc : List Pm.Fld) (u : Nat) (hx : ∀ c ∈ x, c ≠ 10) (hs : Lib.hasSuffix x [13] = false) (hl : x.length + 1 ≤ lim) :
    Pm.headS (fuel + 1) false (x ++ [10] ++ l) lim m t acc u = Pm.headBad 3 := by
  have h1 : (x ++ [10] ++ l).take lim = x ++ 10 :: l.take (lim - (x.length + 1)) := by
    rw [List.take_append, List.take_of_length_le (by simp; omega)]
    simp
  obtain ⟨ha, hb⟩ := clean_ahead (c := 10) (a := x) (r := l.take (lim - (x.length + 1))) hx
  have hln : Pm.lineS (x ++ [10] ++ l) lim 5 = (3, [], 0) := Pm.lineS_no (r := l.take (lim - (x.length + 1))) (by rw [h1]; exact hb) (by rw [h1, ha]; exact hs)
  rw [headS_succ, hln]
  rfl
/- a told request's bytes with some laid behind its first line -/
def afterL (m t : List UInt8) (x : List UInt8) (fs : List Pr2) (b : List UInt8) (how : Int) (zs : List Int) : List UInt8 :=
  m ++ [32] ++ t ++ [32] ++ Pm.http11 ++ [13, 10] ++ (x ++ (lnsF (fs.map toL ++ [lastL how b.length]) ++ [13, 10] ++ bodyT how zs b))
theorem spoil_head (m t x l : List UInt8) (e : Int) (hm : Pm.isMethod m = true) (ht : Pm.isTarget t = true) (hl : m.length + t.length + 12 ≤ 500) (he : e ≠ 0)
    (h : Pm.headS 500 false (x ++ l) (500 - (m.length + t.length + 12)) m t [] (m.length + t.length + 12) = Pm.headBad e) :
    frameS (m ++ [32] ++ t ++ [32] ++ Pm.http11 ++ [13, 10] ++ (x ++ l)) 500 200 = frameBad e := by
  unfold frameS
  simp only
  rw [head_first m t (x ++ l) 500 500 hm ht hl, h]
  exact if_pos he
/- with a field more, ahead of the others: what the framing says of them all -/
theorem spoil_field (m t x l : List UInt8) (g : Pm.Fld) (fs : List Pm.Fld) (e : Int) (hm : Pm.isMethod m = true) (ht : Pm.isTarget t = true) (he : e ≠ 0)
    (hx : ∀ c ∈ x, c ≠ 10) (hg : Pm.fieldS x = some g) (hne : x ≠ []) (hf : ∀ f ∈ fs, Pm.fieldS (lnF f) = some f ∧ ∀ c ∈ lnF f, c ≠ 10)
    (hl : m.length + t.length + 12 + (x.length + 2) + (lnsF fs).length + 2 ≤ 500) (hn : fs.length ≤ 100) (hfr : (framOf (fldsOf (g :: fs)) 200).1 = e) :
    frameS (m ++ [32] ++ t ++ [32] ++ Pm.http11 ++ [13, 10] ++ (x ++ [13, 10] ++ (lnsF fs ++ [13, 10] ++ l))) 500 200 = frameBad e := by
  unfold frameS
  simp only
  rw [head_first m t _ 500 500 hm ht (by omega), head_line x _ g _ 499 m t [] _ hx hg hne (by omega), headS_fields fs l 499 _ m t _ _ hf (by omega) (by omega)]
  simp only [ne_eq, not_true_eq_false, if_false, List.nil_append, List.singleton_append]
  rw [if_pos (by rw [hfr]; exact he), hfr]
theorem vals_cons (f : Pr2) (fs : List Pr2) (n : List UInt8) : valsOf (f :: fs) n = (if Pm.alike f.1.data.toList n = true then [f.2] else []) ++ valsOf fs n := by
  unfold valsOf
  by_cases h : Pm.alike f.1.data.toList n = true
  · simp [h]
  · simp [h]
/- what a told request's fields hold -/
structure Told (m t : List UInt8) (fs : List Pr2) (b : List UInt8) (how : Int) : Prop where
  ok : pOk m t fs = true
  hw : how = 0 ∨ how = 1
  bd : b.length ≤ 200
  ln : m.length + t.length + 12 + 60 + (lnsF (fs.map toL ++ [lastL how b.length])).length + 2 ≤ 500
  nf : fs.length ≤ 90
theorem Told.parts {m t : List UInt8} {fs : List Pr2} {b : List UInt8} {how : Int} (h : Told m t fs b how) : Pm.isMethod m = true ∧ Pm.isTarget t = true ∧ (valsOf fs nHost).length = 1 ∧ valsOf fs nLength = [] ∧ valsOf fs nCoding = [] ∧ ∀ f ∈ fs.map toL ++ [lastL how b.length], Pm.fieldS (lnF f) = some f ∧ ∀ c ∈ lnF f, c ≠ 10 := by
  have hp' := h.ok
  unfold pOk at hp'
  rw [all_okF] at hp'
  simp only [Bool.and_eq_true, decide_eq_true_eq, List.all_eq_true] at hp'
  obtain ⟨hm, ht, ⟨hfs, hvl, hvc⟩, hvh⟩ := hp'
  refine ⟨hm, ht, hvh, List.eq_nil_of_length_eq_zero hvl, List.eq_nil_of_length_eq_zero hvc, ?_⟩
  intro f hf
  rcases List.mem_append.mp hf with h' | h'
  · obtain ⟨g, hg, rfl⟩ := List.mem_map.mp h'
    exact field_told (hfs g hg)
  · simp only [List.mem_singleton] at h'; subst h'
    exact field_told (last_field how b.length)
theorem Told.fram {m t : List UInt8} {fs : List Pr2} {b : List UInt8} {how : Int} (h : Told m t fs b how) (g : Pm.Fld) :
    framOf (fldsOf (g :: (fs.map toL ++ [lastL how b.length]))) 200 = framS ((if Pm.alike g.1 nHost = true then 1 else 0) + 1) ((if Pm.alike g.1 nLength = true then [g.2] else []) ++ (if how = 0 then [natT 10 b.length] else [])) ((if Pm.alike g.1 nCoding = true then [g.2] else []) ++ (if how = 0 then [] else [cChu])) 200 := by
  obtain ⟨_, _, h1, h2, h3, _⟩ := h.parts
  have e : fldsOf (g :: (fs.map toL ++ [lastL how b.length])) = (⟨g.1.toArray⟩, ⟨g.2.toArray⟩) :: (fs ++ [lastB how b.length]) := by
    have := fldsOf_toL (fs ++ [lastB how b.length])
    rw [List.map_append] at this
    rw [← this]; rfl
  have d1 : (lastB how b.length).1.data.toList = (lastL how b.length).1 := rfl
  have d2 : (lastB how b.length).2.data.toList = (lastL how b.length).2 := rfl
  have a1 : Pm.alike cLen nHost = false ∧ Pm.alike cLen nLength = true ∧ Pm.alike cLen nCoding = false ∧ Pm.alike cCod nHost = false ∧ Pm.alike cCod nLength = false ∧ Pm.alike cCod nCoding = true := by decide
  obtain ⟨a1, a2, a3, a4, a5, a6⟩ := a1
  unfold framOf
  rw [e, vals_cons, vals_cons, vals_cons, vals_snoc, vals_snoc, vals_snoc, h2, h3, d1]
  simp only
  rcases h.hw with hh | hh
  · subst hh
    have k1 : (lastL 0 b.length).1 = cLen := rfl
    have k2 : (lastB 0 b.length).2.data.toList = natT 10 b.length := rfl
    rw [k1, a1, a2, a3]
    congr 1
    · by_cases q : Pm.alike g.1 nHost = true
      · simp [q, h1]
      · simp [q, h1]
    · by_cases q : Pm.alike g.1 nLength = true
      · simp [q, datas, k2]
      · simp [q, datas, k2]
    · by_cases q : Pm.alike g.1 nCoding = true
      · simp [q, datas]
      · simp [q, datas]
  · subst hh
    have k1 : (lastL 1 b.length).1 = cCod := rfl
    have k2 : (lastB 1 b.length).2.data.toList = cChu := rfl
    rw [k1, a4, a5, a6]
    congr 1
    · by_cases q : Pm.alike g.1 nHost = true
      · simp [q, h1]
      · simp [q, h1]
    · by_cases q : Pm.alike g.1 nLength = true
      · simp [q, datas]
      · simp [q, datas]
    · by_cases q : Pm.alike g.1 nCoding = true
      · simp [q, datas, k2]
      · simp [q, datas, k2]
theorem Told.field {m t : List UInt8} {fs : List Pr2} {b : List UInt8} {how : Int} (h : Told m t fs b how) (zs : List Int) (r x : List UInt8) (g : Pm.Fld) (e : Int) (he : e ≠ 0) (hx : ∀ c ∈ x, c ≠ 10) (hg : Pm.fieldS x = some g) (hne : x ≠ []) (hl : x.length ≤ 50)
    (hfr : (framS ((if Pm.alike g.1 nHost = true then 1 else 0) + 1) ((if Pm.alike g.1 nLength = true then [g.2] else []) ++ (if how = 0 then [natT 10 b.length] else [])) ((if Pm.alike g.1 nCoding = true then [g.2] else []) ++ (if how = 0 then [] else [cChu])) 200).1 = e) :
    frameS (afterL m t (x ++ [13, 10]) fs b how zs ++ r) 500 200 = frameBad e := by
  obtain ⟨hm, ht, _, _, _, hf⟩ := h.parts
  have hl2 := h.ln
  have hn2 := h.nf
  have := spoil_field m t x (bodyT how zs b ++ r) g (fs.map toL ++ [lastL how b.length]) e hm ht he hx hg hne hf (by omega) (by simp; omega) (by rw [h.fram]; exact hfr)
  unfold afterL
  simpa only [List.append_assoc] using this
theorem Told.head {m t : List UInt8} {fs : List Pr2} {b : List UInt8} {how : Int} (h : Told m t fs b how) (zs : List Int) (r x : List UInt8)
    (hx : ∀ (l : List UInt8) (lim fuel u : Nat), 50 ≤ lim → Pm.headS (fuel + 1) false (x ++ l) lim m t [] u = Pm.headBad 3) : frameS (afterL m t x fs b how zs ++ r) 500 200 = frameBad 3 := by
  obtain ⟨hm, ht, _, _, _, _⟩ := h.parts
  have hl2 := h.ln
  have := spoil_head m t x (lnsF (fs.map toL ++ [lastL how b.length]) ++ [13, 10] ++ bodyT how zs b ++ r) 3 hm ht (by omega) (by decide) (hx _ _ 499 _ (by omega))
  unfold afterL
  simpa only [List.append_assoc] using this
end Go.Proofs.YthfpiahhbflfpaaDoor

/- Plain mathematics: the eight ways to spoil a told request, and what is said to each. -/
namespace Go.Proofs.YthfpiahhbflfpaaDoor

def gLine (n : Nat) : List UInt8 := [99, 111, 110, 116, 101, 110, 116, 45, 108, 101, 110, 103, 116, 104, 58, 32, 32] ++ natT 10 (n + 1) ++ [32]
def zLine : List UInt8 := [116, 114, 97, 110, 115, 102, 101, 114, 45, 101, 110, 99, 111, 100, 105, 110, 103, 58, 32, 103, 122, 105, 112]
/- the bytes that are laid behind the first line, and the error: ways 0 to 6 -/
def spoilX (how : Int) (n : Nat) : Nat → List UInt8 × Int
  | 0 => if how = 0 then (lnF (cCod, cChu) ++ [13, 10], 3) else (lnF (cLen, [48]) ++ [13, 10], 3)
  | 1 => if how = 0 then (gLine n ++ [13, 10], 3) else (zLine ++ [13, 10], 6)
  | 2 => ([88, 58, 32, 121, 10], 3)
  | 3 => ([88, 32, 58, 32, 121] ++ [13, 10], 3)
  | 4 => ([72, 111, 115, 116, 58, 32, 97, 46, 98] ++ [13, 10], 3)
  | 5 => ([32, 88, 58, 32, 121] ++ [13, 10], 3)
  | _ => ([88, 58, 32, 97, 13, 98] ++ [13, 10], 3)
theorem nat_blank (n : Nat) : ∀ c ∈ natT 10 n, Pm.blanks.contains c = false := fun c hc => (natT_all n c hc).2
theorem gLine_field (n : Nat) : Pm.fieldS (gLine n) = some ([99, 111, 110, 116, 101, 110, 116, 45, 108, 101, 110, 103, 116, 104], natT 10 (n + 1)) := by
  have e : gLine n = [99, 111, 110, 116, 101, 110, 116, 45, 108, 101, 110, 103, 116, 104] ++ 58 :: (32 :: 32 :: (natT 10 (n + 1) ++ [32])) := by unfold gLine; simp
  obtain ⟨a1, b1⟩ := clean_ahead (c := 58) (a := [99, 111, 110, 116, 101, 110, 116, 45, 108, 101, 110, 103, 116, 104]) (r := 32 :: 32 :: (natT 10 (n + 1) ++ [32])) (by decide)
  have ht : Lib.trimS (32 :: 32 :: (natT 10 (n + 1) ++ [32])) Pm.blanks = natT 10 (n + 1) := by
    have hne : (natT 10 (n + 1)).reverse ≠ [] := by
      have := (natT_read 10 (by omega) (by omega) (n + 1)).2.2
      intro h; rw [List.reverse_eq_nil_iff] at h; rw [h] at this; simp at this
    have d1 : (natT 10 (n + 1)).reverse.dropWhile (Pm.blanks.contains ·) = (natT 10 (n + 1)).reverse := drop_none (fun c hc => nat_blank _ c (List.mem_reverse.mp hc))
    unfold Lib.trimS Lib.trimRightS Lib.trimLeftS
    have r1 : (32 :: 32 :: (natT 10 (n + 1) ++ [32])).reverse = 32 :: ((natT 10 (n + 1)).reverse ++ [32, 32]) := by simp
    rw [r1, List.dropWhile_cons_of_pos (by decide), List.dropWhile_append, d1, if_neg (by
      intro he
      cases hr : (natT 10 (n + 1)).reverse with
      | nil => exact hne hr
      | cons => rw [hr] at he; simp at he)]
    have r2 : ((natT 10 (n + 1)).reverse ++ [32, 32]).reverse = 32 :: 32 :: natT 10 (n + 1) := by simp
    rw [r2, List.dropWhile_cons_of_pos (by decide), List.dropWhile_cons_of_pos (by decide), drop_none (nat_blank _)]
  have hf : Pm.isField [99, 111, 110, 116, 101, 110, 116, 45, 108, 101, 110, 103, 116, 104] (natT 10 (n + 1)) = true := by
    unfold Pm.isField Pm.isValue
    have h1 : Pm.isTok [99, 111, 110, 116, 101, 110, 116, 45, 108, 101, 110, 103, 116, 104] = true := by decide
    have h2 : Pm.allP Pm.valB (natT 10 (n + 1)) = true := List.all_eq_true.mpr fun c hc => (natT_all (n + 1) c hc).1
    rw [h1, h2, trim_none (nat_blank _)]; simp
  unfold Pm.fieldS
  rw [e, a1, b1, List.drop_succ_cons, List.drop_zero, ht, hf]
  rfl
theorem spoilt_way {m t : List UInt8} {fs : List Pr2} {b : List UInt8} {how : Int} (h : Told m t fs b how) (zs : List Int) (r : List UInt8) (way : Nat) :
    frameS (afterL m t (spoilX how b.length way).1 fs b how zs ++ r) 500 200 = frameBad (spoilX how b.length way).2 := by
  have hb := h.bd
  have A : Pm.alike cCod nHost = false ∧ Pm.alike cCod nLength = false ∧ Pm.alike cCod nCoding = true ∧ Pm.alike cLen nHost = false ∧ Pm.alike cLen nLength = true ∧ Pm.alike cLen nCoding = false := by decide
  obtain ⟨q1, q2, q3, q4, q5, q6⟩ := A
  match way with
  | 0 =>
    rcases h.hw with hh | hh
    · subst hh
      refine h.field zs r (lnF (cCod, cChu)) (cCod, cChu) 3 (by decide) (by decide) (by decide) (by decide) (by decide) ?_
      simp [framS, q1, q2, q3]
    · subst hh
      refine h.field zs r (lnF (cLen, [48])) (cLen, [48]) 3 (by decide) (by decide) (by decide) (by decide) (by decide) ?_
      simp [framS, q4, q5, q6]
  | 1 =>
    rcases h.hw with hh | hh
    · subst hh
      have hlen := natT_len (b := 10) (by omega) 7 (b.length + 1) (by omega)
      refine h.field zs r (gLine b.length) _ 3 (by decide) ?_ (gLine_field b.length) (by unfold gLine; simp) (by unfold gLine; simp; omega) ?_
      · intro c hc
        unfold gLine at hc
        rcases List.mem_append.mp hc with hc | hc
        · rcases List.mem_append.mp hc with hc | hc
          · exact (show ∀ c ∈ ([99, 111, 110, 116, 101, 110, 116, 45, 108, 101, 110, 103, 116, 104, 58, 32, 32] : List UInt8), c ≠ 10 by decide) c hc
          · exact natT_ne 10 (by omega) (by omega) _ c hc
        · simp only [List.mem_singleton] at hc; rw [hc]; decide
      · have o1 := (natT_read 10 (by omega) (by omega) b.length).2.1
        have o2 := (natT_read 10 (by omega) (by omega) (b.length + 1)).2.1
        have w1 : Pm.alike [99, 111, 110, 116, 101, 110, 116, 45, 108, 101, 110, 103, 116, 104] nHost = false ∧ Pm.alike [99, 111, 110, 116, 101, 110, 116, 45, 108, 101, 110, 103, 116, 104] nLength = true ∧ Pm.alike [99, 111, 110, 116, 101, 110, 116, 45, 108, 101, 110, 103, 116, 104] nCoding = false := by decide
        obtain ⟨w1, w2, w3⟩ := w1
        have oe : Pm.oneE [natT 10 (b.length + 1), natT 10 b.length] = 3 := by
          unfold Pm.oneE Pm.oneOk Pm.onePre
          rw [if_neg]
          simp only [List.all_cons, List.all_nil, Bool.and_true, Bool.and_eq_true, beq_iff_eq, not_and]
          intro _ _ h3
          have h4 : Pm.numv 10 (natT 10 b.length) = (b.length : Int) := o1
          have h5 : Pm.numv 10 (natT 10 (b.length + 1)) = ((b.length + 1 : Nat) : Int) := o2
          rw [h4, h5] at h3; omega
        simp [framS, w1, w2, w3, oe]
    · subst hh
      refine h.field zs r zLine (zLine.take 17, [103, 122, 105, 112]) 6 (by decide) (by decide) (by decide) (by decide) (by decide) ?_
      have w1 : Pm.alike (zLine.take 17) nHost = false ∧ Pm.alike (zLine.take 17) nLength = false ∧ Pm.alike (zLine.take 17) nCoding = true ∧ Pm.oneE [] = 0 := by decide
      obtain ⟨w1, w2, w3, w4⟩ := w1
      simp [framS, w1, w2, w3, w4]
  | 2 =>
    refine h.head zs r _ (fun l lim fuel u hl => ?_)
    exact head_lf [88, 58, 32, 121] l lim fuel m t [] u (by decide) (by decide) (by simp; omega)
  | 3 =>
    refine h.head zs r _ (fun l lim fuel u hl => ?_)
    exact head_bad [88, 32, 58, 32, 121] l lim fuel m t [] u (by decide) (by decide) (by decide) (by simp; omega)
  | 4 =>
    refine h.field zs r [72, 111, 115, 116, 58, 32, 97, 46, 98] (nHost, [97, 46, 98]) 3 (by decide) (by decide) (by decide) (by decide) (by decide) ?_
    have w1 : Pm.alike nHost nHost = true := by decide
    simp [framS, w1]
  | 5 =>
    refine h.head zs r _ (fun l lim fuel u hl => ?_)
    exact head_bad [32, 88, 58, 32, 121] l lim fuel m t [] u (by decide) (by decide) (by decide) (by simp; omega)
  | _ + 6 =>
    refine h.head zs r _ (fun l lim fuel u hl => ?_)
    exact head_bad [88, 58, 32, 97, 13, 98] l lim fuel m t [] u (by decide) (by decide) (by decide) (by simp; omega)
/- way 7: a first line of another version ahead of it all -/
theorem spoilt_version (s : List UInt8) : frameS ([77, 32, 47, 32, 72, 84, 84, 80, 47, 49, 46, 48, 13, 10] ++ s) 500 200 = frameBad 7 := by
  have hln := lineS_line [77, 32, 47, 32, 72, 84, 84, 80, 47, 49, 46, 48] s 500 5 (by decide) (by decide)
  have hf : Pm.firstS [77, 32, 47, 32, 72, 84, 84, 80, 47, 49, 46, 48] = (7, [], []) := by decide
  have hh : Pm.headS 501 true ([77, 32, 47, 32, 72, 84, 84, 80, 47, 49, 46, 48] ++ [13, 10] ++ s) 500 [] [] [] 0 = Pm.headBad 7 := by
    rw [headS_succ, hln]
    simp only [ne_eq, not_true_eq_false, if_false, if_true, hf]
    rfl
  unfold frameS
  simp only
  rw [show [77, 32, 47, 32, 72, 84, 84, 80, 47, 49, 46, 48, 13, 10] ++ s = [77, 32, 47, 32, 72, 84, 84, 80, 47, 49, 46, 48] ++ [13, 10] ++ s by simp, hh]
  rfl
end Go.Proofs.YthfpiahhbflfpaaDoor

/- Plain mathematics: a request that may be told, out of any (porterkeep's fit), and sizes that make up a number (its sized). -/
namespace Go.Proofs.YthfpiahhbflfpaaDoor

def greatsL : List UInt8 := [65, 66, 67, 68, 69, 70, 71, 72, 73, 74, 75, 76, 77, 78, 79, 80, 81, 82, 83, 84, 85, 86, 87, 88, 89, 90]
def commonL : List UInt8 := [97, 98, 99, 100, 101, 102, 103, 104, 105, 106, 107, 108, 109, 110, 111, 112, 113, 114, 115, 116, 117, 118, 119, 120, 121, 122, 48, 49, 50, 51, 52, 53, 54, 55, 56, 57, 47, 46, 45, 95, 126, 63, 61, 38]
def shownL : List UInt8 := [32, 33, 34, 35, 36, 37, 38, 39, 40, 41, 42, 43, 44, 45, 46, 47, 48, 49, 50, 51, 52, 53, 54, 55, 56, 57, 58, 59, 60, 61, 62, 63, 64, 65, 66, 67, 68, 69, 70, 71, 72, 73, 74, 75, 76, 77, 78, 79, 80, 81, 82, 83, 84, 85, 86, 87, 88, 89, 90, 91, 93, 94, 95, 97, 98, 99, 100, 101, 102, 103, 104, 105, 106, 107, 108, 109, 110, 111, 112, 113, 114, 115, 116, 117, 118, 119, 120, 121, 122, 123, 124, 125, 126, 9, 233]
def drawnL (s ab : List UInt8) (n : Nat) : List UInt8 := (s.take n).map fun c => ab.getD (c.toNat % ab.length) 0
theorem drawn_in {s ab : List UInt8} {n : Nat} (h : ab ≠ []) : ∀ c ∈ drawnL s ab n, c ∈ ab := by
  intro c hc
  obtain ⟨x, _, rfl⟩ := List.mem_map.mp hc
  have hl : 0 < ab.length := List.length_pos_iff.mpr h
  have hm := Nat.mod_lt x.toNat hl
  rw [List.getD_eq_getElem?_getD, List.getElem?_eq_getElem hm]
  exact List.getElem_mem hm
theorem drawn_len (s ab : List UInt8) (n : Nat) : (drawnL s ab n).length ≤ n := by
  unfold drawnL; rw [List.length_map, List.length_take]; omega
theorem drawn_all {s ab : List UInt8} {n : Nat} {p : UInt8 → Bool} (h : ab ≠ []) (hp : ab.all p = true) : (drawnL s ab n).all p = true :=
  List.all_eq_true.mpr fun c hc => List.all_eq_true.mp hp c (drawn_in h c hc)
def fitM (s : List UInt8) : List UInt8 := 77 :: drawnL s greatsL 7
def fitT (s : List UInt8) : List UInt8 := 47 :: drawnL s commonL 40
def fitN (s : List UInt8) : List UInt8 := [88, 45] ++ drawnL s greatsL 8
def bareL (s : List UInt8) : List UInt8 := ((s.dropWhile (Pm.blanks.contains ·)).reverse.dropWhile (Pm.blanks.contains ·)).reverse
def fitV (s : List UInt8) : List UInt8 := bareL (drawnL s shownL 30)
theorem fitM_ok (s : List UInt8) : Pm.isMethod (fitM s) = true := by
  have h1 := drawn_len s greatsL 7
  have h2 : (drawnL s greatsL 7).all Pm.tokB = true := drawn_all (by decide) (by decide)
  have h3 : (77 :: drawnL s greatsL 7).all Pm.tokB = true := by rw [List.all_cons, h2]; decide
  unfold Pm.isMethod Pm.isTok Pm.allTok fitM
  rw [decide_eq_true (by simp; omega), h3]; rfl
theorem unesc_free : ∀ (l : List UInt8), (∀ c ∈ l, c ≠ 37) → Pm.unesc l = some l
  | [], _ => rfl
  | c :: l, h => by
    rw [Pm.unesc_plain c l (h c (by simp)), unesc_free l (fun x hx => h x (by simp [hx]))]; rfl
theorem fitT_ok (s : List UInt8) : Pm.isTarget (fitT s) = true := by
  have h2 : (drawnL s commonL 40).all Pm.tgtB = true := drawn_all (by decide) (by decide)
  have h3 : (fitT s).all Pm.tgtB = true := by unfold fitT; rw [List.all_cons, h2]; decide
  have h4 : (drawnL s commonL 40).all (fun c => c != 37) = true := drawn_all (by decide) (by decide)
  have h5 : ∀ c ∈ Pm.ahead 63 (fitT s), c ≠ 37 := by
    intro c hc
    have hm : c ∈ fitT s := by
      have := Pm.ahead_behind 63 (fitT s)
      rw [← this]; exact List.mem_append_left _ hc
    unfold fitT at hm
    rcases List.mem_cons.mp hm with rfl | hm
    · decide
    · have := List.all_eq_true.mp h4 c hm
      simpa using this
  unfold Pm.isTarget Pm.allP
  rw [h3, unesc_free _ h5]
  unfold fitT Lib.hasPrefix
  simp
theorem dropWhile_head {p : UInt8 → Bool} : ∀ (l : List UInt8), (l.dropWhile p).dropWhile p = l.dropWhile p
  | [] => rfl
  | c :: l => by
    by_cases h : p c = true
    · rw [List.dropWhile_cons_of_pos h]; exact dropWhile_head l
    · rw [List.dropWhile_cons_of_neg h, List.dropWhile_cons_of_neg h]
theorem bare_trim (s : List UInt8) : Lib.trimS (bareL s) Pm.blanks = bareL s := by
  unfold Lib.trimS Lib.trimRightS Lib.trimLeftS
  have h1 : (bareL s).reverse.dropWhile (Pm.blanks.contains ·) = (bareL s).reverse := by
    unfold bareL; rw [List.reverse_reverse]; exact dropWhile_head _
  rw [h1, List.reverse_reverse]
  cases hb : bareL s with
  | nil => rfl
  | cons a l =>
    have h2 : ∃ k, s.dropWhile (Pm.blanks.contains ·) = bareL s ++ k := by
      unfold bareL
      obtain ⟨k, hk⟩ := List.dropWhile_suffix (Pm.blanks.contains ·) (l := (s.dropWhile (Pm.blanks.contains ·)).reverse)
      refine ⟨k.reverse, ?_⟩
      rw [← List.reverse_append, hk, List.reverse_reverse]
    obtain ⟨k, hk⟩ := h2
    have h3 := dropWhile_head (p := (Pm.blanks.contains ·)) s
    rw [hk, hb, List.cons_append] at h3
    by_cases ha : Pm.blanks.contains a = true
    · rw [List.dropWhile_cons_of_pos ha] at h3
      have h4 : ((l ++ k).dropWhile (Pm.blanks.contains ·)).length ≤ (l ++ k).length := (List.dropWhile_sublist _).length_le
      rw [h3] at h4; simp at h4; omega
    · rw [List.dropWhile_cons_of_neg ha]
theorem bare_in (s : List UInt8) : ∀ c ∈ bareL s, c ∈ s := by
  intro c hc
  unfold bareL at hc
  have h1 := (List.dropWhile_sublist _).subset (List.mem_reverse.mp hc)
  exact (List.dropWhile_sublist _).subset (List.mem_reverse.mp h1)
theorem bare_len (s : List UInt8) : (bareL s).length ≤ s.length := by
  unfold bareL
  rw [List.length_reverse]
  have h1 := (List.dropWhile_sublist (Pm.blanks.contains ·) (l := (s.dropWhile (Pm.blanks.contains ·)).reverse)).length_le
  have h2 := (List.dropWhile_sublist (Pm.blanks.contains ·) (l := s)).length_le
  rw [List.length_reverse] at h1
  omega
theorem fit_field (n v : List UInt8) : Pm.isField (fitN n) (fitV v) = true := by
  have h2 : (drawnL n greatsL 8).all Pm.tokB = true := drawn_all (by decide) (by decide)
  have h3 : (fitN n).all Pm.tokB = true := by unfold fitN; rw [List.all_append, h2]; decide
  have h4 : (drawnL v shownL 30).all Pm.valB = true := drawn_all (by decide) (by decide)
  have h5 : (fitV v).all Pm.valB = true := List.all_eq_true.mpr fun c hc => List.all_eq_true.mp h4 c (bare_in _ c hc)
  unfold Pm.isField Pm.isTok Pm.allTok Pm.isValue Pm.allP
  rw [h3, h5]
  unfold fitV
  rw [bare_trim]
  simp [fitN]
theorem fit_alike (n : List UInt8) : Pm.alike (fitN n) nHost = false ∧ Pm.alike (fitN n) nLength = false ∧ Pm.alike (fitN n) nCoding = false := by
  have e : fitN n = 88 :: 45 :: drawnL n greatsL 8 := rfl
  refine ⟨?_, ?_, ?_⟩ <;> (rw [e]; unfold Pm.alike; rw [List.map_cons]; rw [beq_eq_false_iff_ne]; intro h; exact absurd (congrArg (·.head?) h) (by simp; decide))
/- sizes -/
def pickN (c : Int) (n : Int) : Int := (if c < 0 then -(c + 1) else c) % n
def sizedL : List Int → Int → List Int
  | [], n => if 0 < n then [n] else []
  | z :: l, n => if 0 < n then (pickN z n + 1) :: sizedL l (n - (pickN z n + 1)) else []
theorem pick_bd (c n : Int) (h : 0 < n) : 0 ≤ pickN c n ∧ pickN c n < n := ⟨Int.emod_nonneg _ (by omega), Int.emod_lt_of_pos _ h⟩
theorem sized_ok : ∀ (l : List Int) (n : Int), 0 ≤ n → sizesOk (sizedL l n) n = true
  | [], n, h => by
    rw [sizedL]
    by_cases h1 : 0 < n
    · rw [if_pos h1, sizesOk, if_neg (by omega), sizesOk]; simp
    · rw [if_neg h1, sizesOk]; simp; omega
  | z :: l, n, h => by
    rw [sizedL]
    by_cases h1 : 0 < n
    · have := pick_bd z n h1
      rw [if_pos h1, sizesOk, if_neg (by omega)]
      exact sized_ok l _ (by omega)
    · rw [if_neg h1, sizesOk]; simp; omega
end Go.Proofs.YthfpiahhbflfpaaDoor

/- Plain mathematics: what fit makes may be told, and is within the widest limits. -/
namespace Go.Proofs.YthfpiahhbflfpaaDoor

def fitF (f : Pr2) : Pr2 := (⟨(fitN f.1.data.toList).toArray⟩, ⟨(fitV f.2.data.toList).toArray⟩)
def hostF : Pr2 := (⟨#[104, 79, 83, 116]⟩, ⟨#[97, 46, 98]⟩)
def fitFs (fs : List Pr2) : List Pr2 := (fs.take 3).map fitF ++ [hostF]
theorem fitF_ok (f : Pr2) : okF (fitF f) = true := by
  have h1 := fit_field f.1.data.toList f.2.data.toList
  obtain ⟨_, h2, h3⟩ := fit_alike f.1.data.toList
  have e1 : (fitF f).1.data.toList = fitN f.1.data.toList := rfl
  have e2 : (fitF f).2.data.toList = fitV f.2.data.toList := rfl
  unfold okF
  rw [e1, e2, h1, h2, h3]; rfl
theorem fit_hosts (l : List Pr2) : valsOf (l.map fitF) nHost = [] := by
  induction l with
  | nil => rfl
  | cons f l ih =>
    have e1 : (fitF f).1.data.toList = fitN f.1.data.toList := rfl
    rw [List.map_cons, vals_cons, e1, (fit_alike f.1.data.toList).1, ih]; rfl
theorem fit_pOk (m t : List UInt8) (fs : List Pr2) : pOk (fitM m) (fitT t) (fitFs fs) = true := by
  have h1 : (fitFs fs).all okF = true := by
    unfold fitFs
    rw [List.all_append, List.all_map]
    have : (fs.take 3).all (okF ∘ fitF) = true := List.all_eq_true.mpr fun f _ => fitF_ok f
    rw [this]; decide
  have h2 : (valsOf (fitFs fs) nHost).length = 1 := by
    unfold fitFs
    rw [vals_snoc, fit_hosts]; decide
  unfold pOk
  rw [fitM_ok, fitT_ok, h1, h2]; rfl
theorem lns_len : ∀ (l : List Pr2), (lnsF ((l.map fitF).map toL)).length ≤ 44 * l.length
  | [] => by simp [lnsF]
  | f :: l => by
    have ih := lns_len l
    have e : lnsF (((f :: l).map fitF).map toL) = (lnF (toL (fitF f)) ++ [13, 10]) ++ lnsF ((l.map fitF).map toL) := by simp [lnsF]
    have h1 : (lnF (toL (fitF f))).length ≤ 42 := by
      have a1 := drawn_len f.1.data.toList greatsL 8
      have a2 := drawn_len f.2.data.toList shownL 30
      have a3 := bare_len (drawnL f.2.data.toList shownL 30)
      have e3 : toL (fitF f) = (fitN f.1.data.toList, fitV f.2.data.toList) := rfl
      rw [e3]
      unfold lnF fitN fitV
      simp only [List.length_append, List.length_cons, List.length_nil]
      omega
    rw [e, List.length_append, List.length_append]
    simp only [List.length_cons, List.length_nil]
    omega
theorem last_len (how : Int) (n : Nat) (h : n < 256) : (lnF (lastL how n)).length ≤ 26 := by
  have h4 := natT_len (b := 10) (by omega) 7 n (by omega)
  unfold lastL
  split
  · unfold lnF; simp [cLen]; omega
  · decide
theorem fit_told (m t : List UInt8) (fs : List Pr2) (b : List UInt8) (how : Int) (hh : how = 0 ∨ how = 1) (hb : b.length ≤ 200) : Told (fitM m) (fitT t) (fitFs fs) b how := by
  have h1 := drawn_len m greatsL 7
  have h2 := drawn_len t commonL 40
  have h3 := lns_len (fs.take 3)
  have h4 : (fs.take 3).length ≤ 3 := by rw [List.length_take]; omega
  have h5 := last_len how b.length (by omega)
  have e : lnsF ((fitFs fs).map toL ++ [lastL how b.length]) = lnsF (((fs.take 3).map fitF).map toL) ++ (lnF (toL hostF) ++ [13, 10]) ++ (lnF (lastL how b.length) ++ [13, 10]) := by
    unfold fitFs lnsF
    rw [List.map_append, List.flatMap_append, List.flatMap_append]; simp
  have e2 : (lnF (toL hostF)).length = 9 := by decide
  refine ⟨fit_pOk m t fs, hh, hb, ?_, ?_⟩
  · rw [e]
    simp only [List.length_append, List.length_cons, List.length_nil, fitM, fitT, e2]
    omega
  · unfold fitFs; rw [List.length_append, List.length_map]; simp only [List.length_cons, List.length_nil]; omega
/- Reframed's and Spoilt's plain part: what Frame says of a fit request that was told -/
theorem fit_framed (m t : List UInt8) (fs : List Pr2) (b : List UInt8) (how : Int) (zs : List Int) (r : List UInt8) (hh : how = 0 ∨ how = 1) (hz : howOk how zs b.length = true) (hb : b.length ≤ 200) :
    frameS (printL (fitM m) (fitT t) (fitFs fs) b how zs ++ r) 500 200 = (0, fitM m, fitT t, (fitFs fs).map toL ++ [lastL how b.length], b, (printL (fitM m) (fitT t) (fitFs fs) b how zs).length) := by
  have h := fit_told m t fs b how hh hb
  have h1 := h.ln
  have h2 := h.nf
  exact frame_told (fitM m) (fitT t) (fitFs fs) b how zs r h.ok hh hz hb (by omega) (by omega)
end Go.Proofs.YthfpiahhbflfpaaDoor

/- Plain mathematics for the walks of porterkeep's small helpers. -/
namespace Go.Proofs.YthfpiahhbflfpaaDoor

theorem drawn_next (s ab : List UInt8) (k : Nat) (hk : k < s.length) : drawnL s ab (k + 1) = drawnL s ab k ++ [ab.getD (s[k].toNat % ab.length) 0] := by
  unfold drawnL
  rw [List.take_succ_eq_append_getElem hk, List.map_append]; rfl
theorem drawn_done (s ab : List UInt8) (k n : Nat) (h : ¬ (k < s.length ∧ k < n)) (hk : k ≤ s.length) (hn : k ≤ n) : drawnL s ab n = drawnL s ab k := by
  unfold drawnL
  by_cases h1 : k < n
  · rw [List.take_of_length_le (i := n) (by omega), List.take_of_length_le (i := k) (by omega)]
  · rw [show n = k from by omega]
theorem blank_iff (c : UInt8) : Pm.blanks.contains c = true ↔ ((c.toNat : Int) = 32 ∨ (c.toNat : Int) = 9) := by
  have h := Pm.all256 (p := fun c => decide (Pm.blanks.contains c = true ↔ ((c.toNat : Int) = 32 ∨ (c.toNat : Int) = 9))) (by decide +kernel) c
  exact of_decide_eq_true h
theorem bare_left (x : UInt8) (l : List UInt8) (h : Pm.blanks.contains x = true) : (x :: l).dropWhile (Pm.blanks.contains ·) = l.dropWhile (Pm.blanks.contains ·) := List.dropWhile_cons_of_pos h
theorem sized_next (l : List Int) (k : Nat) (n : Int) (hk : k < l.length) (hn : 0 < n) : sizedL (l.drop k) n = (pickN l[k] n + 1) :: sizedL (l.drop (k + 1)) (n - (pickN l[k] n + 1)) := by
  rw [List.drop_eq_getElem_cons hk, sizedL, if_pos hn]
theorem sized_zero (l : List Int) (n : Int) (hn : ¬ 0 < n) : sizedL l n = [] := by
  cases l with
  | nil => rw [sizedL, if_neg hn]
  | cons z l => rw [sizedL, if_neg hn]
theorem sized_len : ∀ (l : List Int) (n : Int), 0 ≤ n → ((sizedL l n).length : Int) ≤ n
  | [], n, h => by
    rw [sizedL]; split
    · simp; omega
    · simp; omega
  | z :: l, n, h => by
    rw [sizedL]; split
    · rename_i h1
      have := pick_bd z n h1
      have := sized_len l (n - (pickN z n + 1)) (by omega)
      simp; omega
    · simp; omega
end Go.Proofs.YthfpiahhbflfpaaDoor
