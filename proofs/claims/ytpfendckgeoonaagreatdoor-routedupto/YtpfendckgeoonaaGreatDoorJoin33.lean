/- Texts that follow one another, joined. -/
import Derived.Test.YtpfendckgeoonaaGreatDoorJoin32
/- The program's Check. -/
namespace Go.Proofs.YtpfendckgeoonaaGreatDoor
open Go.RowKit

theorem wrs_zero : ∀ (ws : List Wr) (k : Nat), (wrsE ws k).2 = 0 → (wrsE ws k).1 = 0
  | [], _, _ => rfl
  | x :: xs, k, h => by
    rw [wrsE] at h ⊢
    by_cases h0 : wareB x.k x.n.data.toList x.v.data.toList x.lim = true
    · rw [if_pos h0] at h ⊢; exact wrs_zero xs _ h
    · rw [if_neg h0] at h; simp at h
theorem cfg_zero {hd bd : Int} {rs : List Rt} {ws : List Wr} (h : (cfgE hd bd rs ws).2 = 0) : cfgE hd bd rs ws = (0, 0) := by
  obtain ⟨h1, h2, h3, h4⟩ := cfg_ok h
  have e : cfgE hd bd rs ws = wrsE ws 0 := by
    unfold cfgE at h ⊢
    by_cases k1 : decide (32 ≤ hd ∧ hd ≤ 500 ∧ 0 ≤ bd ∧ bd ≤ 200) = false
    · rw [if_pos k1] at h; simp at h
    · rw [if_neg k1, if_neg (by omega), if_pos h3]
  rw [e]
  exact Prod.ext (wrs_zero ws 0 h4) h4
set_option maxRecDepth 100000 in
set_option maxHeartbeats 1000000 in
theorem check_any (hd bd : Int) (rs : List Rt) (ws : List Wr) (ar : Option Addr) (cr : Nat) (aw : Option Addr) (cw : Nat) (mx : Int) (w : World) (hR : MuAt 6 Rt.cells rs ar w) (hW : MuAt 4 Wr.cells ws aw w) (hro : ∀ r ∈ rs, RtOk r) (hwo : ∀ x ∈ ws, x.n.size ≤ 281474976710656 ∧ x.v.size ≤ 281474976710656) (hm : w.cell? ⟨0, 0, none⟩ = some (.int .i64 mx)) :
    Calls Tryz.prog 16 #[.agg #[.int .i64 hd, .int .i64 bd, .slice ar rs.length cr, .slice aw ws.length cw]] w fun x w' => x = .returned (.tuple #[.int .i64 (cfgE hd bd rs ws).1, .int .i64 (cfgE hd bd rs ws).2]) ∧ Below w.heap.size w w' := by
  have HN := hid (fun W (hb : Below w.heap.size w W) => new_any hd bd rs ws ar cr aw cw mx W (hR.below hb) (hW.below hb) hro hwo (cell_later hb hm))
  have hA := (Below.refl w.heap.size w).alloc (Nat.le_refl _) (.cells #[.int .i64 hd, .int .i64 bd, .slice ar rs.length cr, .slice aw ws.length cw] 27)
  have hz : (cfgE hd bd rs ws).2 = 0 → cfgE hd bd rs ws = (0, 0) := cfg_zero
  generalize cfgE hd bd rs ws = E at *
  clear hR hW hro hwo hm
  go_enter Tryz.func16, Tryz.ntmps16
  go_wp2_with fail
  refine (HN.out _ hA).mono ?_
  rintro x w2 ⟨k1, k2, hb2⟩
  have hB2 := bel_of hA hb2
  by_cases q : E.2 = 0
  · obtain ⟨gs, es, v, vh, vw, rfl, -, -, -⟩ := k2 q
    have hE := hz q
    subst hE
    clear k1 k2 hz HN
    go_wp2
    refine bodyPost_ret (v := .tuple #[.int .i64 0, .int .i64 0]) (by simp [results, Tryz.results16, go_sem]) rfl ?_
    exact ⟨rfl, hB2⟩
  · obtain rfl := k1 q
    clear k1 k2 hz HN
    go_wp2
    refine bodyPost_ret (v := .tuple #[.int .i64 E.1, .int .i64 E.2]) (by simp [results, Tryz.results16, go_sem]) rfl ?_
    exact ⟨rfl, hB2⟩
end Go.Proofs.YtpfendckgeoonaaGreatDoor

/- The statement's own small helpers: a path ahead of a question mark, the path beside. -/
namespace Go.Proofs.YtpfendckgeoonaaGreatDoor
open Go.RowKit

theorem takes_ahead : ∀ (l : List UInt8) (k : Nat), k ≤ l.length → (∀ i, i < k → l[i]? ≠ some 63) → (k = l.length ∨ l[k]? = some 63) → l.take k = Pm.ahead 63 l
  | l, 0, _, _, h => by
    rcases h with h | h
    · have : l = [] := List.eq_nil_of_length_eq_zero h.symm
      subst this; rfl
    · cases l with
      | nil => simp at h
      | cons c r => simp at h; subst h; rfl
  | [], k + 1, hk, _, _ => by simp at hk
  | c :: r, k + 1, hk, h1, h2 => by
    have hc : c ≠ 63 := by have := h1 0 (by omega); simpa using this
    have ih := takes_ahead r k (by simpa using hk) (fun i hi => by have := h1 (i + 1) (by omega); simpa using this) (by simpa using h2)
    have hc' : (c != 63) = true := by simpa using hc
    rw [List.take_succ_cons, ih]
    unfold Pm.ahead
    rw [List.takeWhile_cons, if_pos hc']
set_option maxRecDepth 100000 in
set_option maxHeartbeats 1000000 in
theorem pathIn_any (s : ByteArray) (w : World) (hs : s.size ≤ maxLen) :
    Calls Tryz.prog 8 #[.string s] w fun x w' => (∃ o : ByteArray, x = .returned (.string o) ∧ o.data.toList = Pm.ahead 63 s.data.toList) ∧ Below w.heap.size w w' := by
  have hsl : s.data.toList.length = s.size := by simp
  unfold maxLen at hs
  go_enter Tryz.func8, Tryz.ntmps8
  go_wp2
  go_loopw [3] (fun i wr => ∃ k : Nat, k ≤ s.size ∧ i = .int .i64 k ∧ Hid (∀ i, i < k → s.data.toList[i]? ≠ some 63) ∧ Below w.heap.size w wr) (fun i _ => s.size - (intOf i).toNat)
  case atStart => exact ⟨0, Nat.zero_le _, rfl, fun i h => absurd h (by omega), Below.refl _ _⟩
  case round =>
    obtain ⟨k, hk, rfl, hno, hbw⟩ := hrel
    have HE : Hid ((s.extract 0 k).data.toList = s.data.toList.take k) := by unfold Hid; rw [Lib.extract_data]; simp
    by_cases hlt : k < s.size
    · have hget : s.data.toList[k]? = some s[k] := by rw [List.getElem?_eq_getElem (by omega)]; rfl
      by_cases he : s[k] = 63
      · have he2 : ((s[k].toNat : Int) != 63) = false := by rw [he]; decide
        have HF : Hid (s.data.toList.take k = Pm.ahead 63 s.data.toList) := takes_ahead _ k (by omega) hno.out (.inr (by rw [hget, he]))
        clear he hget hno
        go_wp2
        go_ret
        exact ⟨⟨_, rfl, by rw [HE.out, HF.out]⟩, hbw⟩
      · have he2 : ((s[k].toNat : Int) != 63) = true := by
          rw [bne_iff_ne]; intro h; exact he (UInt8.toNat_inj.1 (by simp; omega))
        have HN : Hid (∀ i, i < k + 1 → s.data.toList[i]? ≠ some 63) := fun i hi => by
          rcases Nat.lt_or_ge i k with q | q
          · exact hno.out i q
          · have : i = k := by omega
            subst this
            rw [hget]; simpa using he
        clear he hget hno HE
        go_wp2
        exact ⟨⟨k + 1, by omega, by go_num, HN, hbw⟩, by simp [intOf]; omega⟩
    · have hke : k = s.size := by omega
      have HF : Hid (s.data.toList.take k = Pm.ahead 63 s.data.toList) := takes_ahead _ k (by omega) hno.out (.inl (by omega))
      have HS : Hid (s.data.toList = Pm.ahead 63 s.data.toList) := by
        have := HF.out
        rw [List.take_of_length_le (by omega)] at this
        exact this
      have hne : ¬ (k : Int) < (s.size : Int) := by omega
      clear hno HE HF
      go_wp2
      go_ret
      exact ⟨⟨_, rfl, HS.out⟩, hbw⟩
def besG (l : List UInt8) : List UInt8 := if l = [] ∨ l = [47] then [] else otherL l
set_option maxRecDepth 100000 in
set_option maxHeartbeats 1000000 in
theorem beside_any (s : ByteArray) (w : World) (hs : s.size ≤ 140737488355328) :
    Calls Tryz.prog 13 #[.string s] w fun x w' => (∃ o : ByteArray, x = .returned (.string o) ∧ o.data.toList = besG s.data.toList) ∧ Below w.heap.size w w' := by
  have hsl : s.data.toList.length = s.size := by simp
  have hbe := beq_slash s
  by_cases h0 : s.data.toList = []
  · have hz : s.size = 0 := by rw [← hsl, h0]; rfl
    have hi : ((s.size : Int) - 1 < 0) := by omega
    have HB : Hid (besG s.data.toList = []) := if_pos (.inl h0)
    clear hbe h0
    go_enter Tryz.func13, Tryz.ntmps13
    go_wp2
    go_ret
    exact ⟨⟨_, rfl, by rw [HB.out]⟩, Below.refl _ _⟩
  · have hz : 1 ≤ s.size := by
      have := List.length_pos_iff.2 h0
      omega
    have hi : ¬ ((s.size : Int) - 1 < 0) := by omega
    by_cases h1 : s.data.toList = [47]
    · rw [decide_eq_true h1] at hbe
      have HB : Hid (besG s.data.toList = []) := if_pos (.inr h1)
      clear h0 h1
      go_enter Tryz.func13, Tryz.ntmps13
      go_wp2
      go_ret
      exact ⟨⟨_, rfl, by rw [HB.out]⟩, Below.refl _ _⟩
    · rw [decide_eq_false h1] at hbe
      have HB : Hid (besG s.data.toList = otherL s.data.toList) := if_neg (fun h => h.elim h0 h1)
      obtain ⟨n, hn⟩ : ∃ n, s.size = n + 1 := ⟨s.size - 1, by omega⟩
      have hc : (s.size : Int) - 1 = (n : Int) := by omega
      have hlt : n < s.size := by omega
      have hget : s.data.toList[n]? = some s[n] := by rw [List.getElem?_eq_getElem (by omega)]; rfl
      have hsf : Lib.hasSuffix s.data.toList [47] = decide (s[n] = 47) := by
        unfold Lib.hasSuffix
        rw [Bool.eq_iff_iff, List.isSuffixOf_iff_suffix, decide_eq_true_iff]
        constructor
        · rintro ⟨r, hr⟩
          have hrl : r.length = n := by have := congrArg List.length hr; simp at this; omega
          rw [← hr, List.getElem?_append_right (by omega), hrl] at hget
          simpa using hget.symm
        · intro h
          refine ⟨s.data.toList.take n, ?_⟩
          have e : s.data.toList = s.data.toList.take n ++ s.data.toList.drop n := (List.take_append_drop n _).symm
          have e2 : s.data.toList.drop n = [47] := by
            rw [List.drop_eq_getElem_cons (by omega), List.drop_eq_nil_of_le (by omega)]
            have : s.data.toList[n]'(by omega) = s[n] := rfl
            rw [this, h]
          rw [e2] at e
          exact e.symm
      by_cases he : s[n] = 47
      · have he2 : ((s[n].toNat : Int) == 47) = true := by rw [he]; decide
        rw [decide_eq_true he] at hsf
        have HT : Hid ((s.extract 0 n).data.toList = otherL s.data.toList) := by
          unfold Hid otherL
          rw [if_pos hsf, Lib.extract_data, hsl, hn]; simp
        clear he hget hsf h0 h1
        go_enter Tryz.func13, Tryz.ntmps13
        go_wp2
        go_ret
        exact ⟨⟨_, rfl, by rw [HB.out]; exact HT.out⟩, Below.refl _ _⟩
      · have he2 : ((s[n].toNat : Int) == 47) = false := by
          rw [beq_eq_false_iff_ne]; intro h; exact he (UInt8.toNat_inj.1 (by simp; omega))
        rw [decide_eq_false he] at hsf
        have HT : Hid ((s ++ (⟨#[47]⟩ : ByteArray)).data.toList = otherL s.data.toList) := by
          unfold Hid otherL
          rw [if_neg (by rw [hsf]; simp)]; simp
        clear he hget hsf h0 h1
        go_enter Tryz.func13, Tryz.ntmps13
        go_wp2
        go_ret
        exact ⟨⟨_, rfl, by rw [HB.out]; exact HT.out⟩, Below.refl _ _⟩
end Go.Proofs.YtpfendckgeoonaaGreatDoor
