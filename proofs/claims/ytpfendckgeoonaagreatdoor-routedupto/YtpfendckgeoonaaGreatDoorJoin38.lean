/- Texts that follow one another, joined. -/
import Derived.Test.YtpfendckgeoonaaGreatDoorJoin37
/- The statement's own 'allowed' tells the sorted methods, HEAD among them. -/
namespace Go.Proofs.YtpfendckgeoonaaGreatDoor
open Go.RowKit

abbrev Srtd (l : List (List UInt8)) : Prop := l.Pairwise (fun x y => ¬ y < x)
theorem get_lt_head : gtL < hdL := by decide
theorem ins_low {x : List UInt8} {r : List (List UInt8)} (hp : Srtd (x :: r)) (hg : gtL ∈ x :: r) : ¬ hdL < x := fun h => by
  have h2 : gtL < x := List.lt_trans get_lt_head h
  rcases List.mem_cons.1 hg with e | e
  · rw [← e] at h2; exact List.lt_irrefl _ h2
  · exact (List.pairwise_cons.1 hp).1 gtL e h2
theorem run_gen : ∀ (r : List (List UInt8)) (s : List UInt8) (g : Bool), s ≠ [] → Srtd r → alwRun r s g false = s ++ Lib.joinTail sepL (if (g = true ∨ gtL ∈ r) ∧ hdL ∉ r then insH r else r) := by
  intro r
  induction r with
  | nil =>
    intro s g hs _
    cases g
    · rw [if_neg (by simp)]; simp [alwRun, Lib.joinTail]
    · rw [if_pos (by simp)]; exact run_ins [] s hs (by simp)
  | cons x r ih =>
    intro s g hs hp
    by_cases hm : hdL ∈ x :: r
    · rw [if_neg (fun h => h.2 hm)]; exact run_has _ s g hs hm hp
    · cases g
      · by_cases hg : gtL ∈ x :: r
        · rw [if_pos ⟨.inr hg, hm⟩]
          have hx : x ≠ hdL := fun q => hm (by simp [q])
          have hi : insH (x :: r) = x :: insH r := by rw [insH, if_neg (ins_low hp hg)]
          have hm2 : hdL ∉ r := fun q => hm (by simp [q])
          rw [hi, alwRun]
          simp only [Bool.false_and, Bool.false_eq_true, if_false, if_pos hs, Bool.false_or, decide_eq_false hx]
          rw [ih _ _ (by simp [hs]) (List.pairwise_cons.1 hp).2]
          have hc : (decide (x = gtL) = true ∨ gtL ∈ r) ∧ hdL ∉ r := by
            refine ⟨?_, hm2⟩
            rcases List.mem_cons.1 hg with e | e
            · exact .inl (decide_eq_true e.symm)
            · exact .inr e
          rw [if_pos hc]
          simp [Lib.joinTail]
        · rw [if_neg (fun h => h.1.elim (fun q => by cases q) hg)]
          exact run_noget _ s false hs hg
      · rw [if_pos ⟨.inl rfl, hm⟩]; exact run_ins _ s hs hm
theorem ins_perm : ∀ (r : List (List UInt8)), (insH r).Perm (r ++ [hdL])
  | [] => .refl _
  | x :: r => by
    rw [insH]
    split
    · exact (List.perm_append_comm (l₁ := [hdL]) (l₂ := x :: r))
    · exact (ins_perm r).cons x
theorem ins_mem {y : List UInt8} {r : List (List UInt8)} (h : y ∈ insH r) : y = hdL ∨ y ∈ r := by
  have := (ins_perm r).mem_iff.1 h
  rw [List.mem_append] at this
  rcases this with q | q
  · exact .inr q
  · exact .inl (by simpa using q)
theorem ins_srtd : ∀ (r : List (List UInt8)), Srtd r → Srtd (insH r)
  | [], _ => by simp [insH, Srtd]
  | x :: r, hp => by
    obtain ⟨h1, h2⟩ := List.pairwise_cons.1 hp
    rw [insH]
    split
    · rename_i hx
      refine List.pairwise_cons.2 ⟨fun y hy hlt => ?_, hp⟩
      rcases List.mem_cons.1 hy with e | e
      · rw [e] at hlt; exact List.lt_irrefl _ (List.lt_trans hx hlt)
      · exact h1 y e (List.lt_trans hlt hx)
    · rename_i hx
      refine List.pairwise_cons.2 ⟨fun y hy hlt => ?_, ins_srtd r h2⟩
      rcases ins_mem hy with e | e
      · rw [e] at hlt; exact hx hlt
      · exact h1 y e hlt
theorem le_of {x y : List UInt8} : decide (x ≤ y) = true ↔ ¬ y < x := by rw [decide_eq_true_iff]; exact List.not_lt.symm
theorem srt_srtd (l : List (List UInt8)) : Srtd (srt l) := by
  have := List.pairwise_mergeSort (le := fun x y : List UInt8 => decide (x ≤ y)) (fun a b c h1 h2 => by
    rw [decide_eq_true_iff] at *; exact List.le_trans h1 h2) (fun a b => by
    rw [Bool.or_eq_true, decide_eq_true_iff, decide_eq_true_iff]; exact List.le_total a b) l
  exact this.imp (fun h => le_of.1 h)
theorem srt_unique {l m : List (List UInt8)} (h : Srtd m) (hp : m.Perm l) : srt l = m := by
  refine List.Perm.eq_of_pairwise (le := fun x y => ¬ y < x) (fun a b _ _ h1 h2 => ?_) (srt_srtd l) h ((List.mergeSort_perm l _).trans hp.symm)
  exact List.le_antisymm (List.not_lt.1 h1) (List.not_lt.1 h2)
/- the statement's own list of methods is the program's -/
theorem run_alw (l : List (List UInt8)) (hs : Srtd l) (hn : ∀ x ∈ l, x ≠ []) : alwRun l [] false false = Lib.join (if gtL ∈ l ∧ hdL ∉ l then srt (l ++ [hdL]) else l) sepL := by
  cases l with
  | nil => rw [if_neg (by simp)]; rfl
  | cons x r =>
    have hx := hn x (by simp)
    obtain ⟨h1, h2⟩ := List.pairwise_cons.1 hs
    have e : alwRun (x :: r) [] false false = alwRun r x (decide (x = gtL)) (decide (x = hdL)) := by
      rw [alwRun]; simp
    rw [e]
    by_cases hh : x = hdL
    · have : hdL ∈ x :: r := by simp [hh]
      rw [decide_eq_true hh, run_h r x _ hx, if_neg (fun q => q.2 this), Lib.join_cons]
    · rw [decide_eq_false hh, run_gen r x _ hx h2]
      by_cases hc : gtL ∈ x :: r ∧ hdL ∉ x :: r
      · rw [if_pos hc, srt_unique (ins_srtd _ hs) (ins_perm _), insH, if_neg (ins_low hs hc.1), Lib.join_cons]
        have hd : (decide (x = gtL) = true ∨ gtL ∈ r) ∧ hdL ∉ r := by
          refine ⟨?_, fun q => hc.2 (by simp [q])⟩
          rcases List.mem_cons.1 hc.1 with q | q
          · exact .inl (decide_eq_true q.symm)
          · exact .inr q
        rw [if_pos hd]
      · rw [if_neg hc, Lib.join_cons]
        have hd : ¬ ((decide (x = gtL) = true ∨ gtL ∈ r) ∧ hdL ∉ r) := fun q => hc ⟨by
          rcases q.1 with k | k
          · rw [of_decide_eq_true k]; simp
          · simp [k], fun k => by
          rcases List.mem_cons.1 k with k | k
          · exact hh k.symm
          · exact q.2 k⟩
        rw [if_neg hd]
end Go.Proofs.YtpfendckgeoonaaGreatDoor

/- The walk of the statement's own 'allowed'. -/
namespace Go.Proofs.YtpfendckgeoonaaGreatDoor
open Go.RowKit

set_option maxRecDepth 100000 in
set_option maxHeartbeats 1000000 in
theorem allowed_walk (v : Value) (l : List (List UInt8)) (B : Nat) (w : World) (h : w.ownsRow B 9 1 v l.length (encs l)) (hl : l.length ≤ 100) (hz : ∀ x ∈ l, x.length ≤ 1000) :
    Calls Tryz.prog 24 #[v] w fun x w' => (∃ o : ByteArray, x = .returned (.string o) ∧ o.data.toList = alwRun l [] false false) ∧ Below w.heap.size w w' := by
  obtain ⟨a, c, rfl⟩ := sl_of h
  have HO := hid h
  generalize hRR : alwRun l [] false false = RR
  have HRR := hid hRR
  clear h hRR
  go_enter Tryz.func24, Tryz.ntmps24
  go_wp2
  go_loopw [3, 4, 5, 6] (fun s g h i wr => ∃ (k : Nat) (sb : ByteArray) (gb hb : Bool), k ≤ l.length + 1 ∧ s = .string sb ∧ g = .bool gb ∧ h = .bool hb ∧ i = .int .i64 k ∧ sb.size ≤ k * 2000 ∧ Hid (if k ≤ l.length then alwRun (l.drop k) sb.data.toList gb hb = RR else sb.data.toList = RR) ∧ Below w.heap.size w wr) (fun _ _ _ i _ => l.length + 1 - (intOf i).toNat)
  case atStart => exact ⟨0, ⟨#[]⟩, false, false, by omega, rfl, rfl, rfl, rfl, by show (0 : Nat) ≤ _; omega, by unfold Hid; rw [if_pos (by omega)]; exact HRR.out, Below.refl _ _⟩
  case round =>
    obtain ⟨k, sb, gb, hb, hk, rfl, rfl, rfl, rfl, hsz, HK, hbw⟩ := hrel
    by_cases hlt : k < l.length
    · rcases own_strs (owns_below HO.out hbw) with ⟨-, hl0⟩ | ⟨g, cap, hv, hg, hc, hce⟩
      · rw [hl0] at hlt; simp at hlt
      · have hck := hce k hlt
        have hzk := hz _ (List.getElem_mem hlt)
        have hK := HK.out
        rw [if_pos (by omega), ← List.getElem_cons_drop hlt, alwRun] at hK
        have HKK := hid hK
        generalize l[k] = x at *
        clear hK HK hce
        have hx1 : (x == [71, 69, 84]) = decide (x = gtL) := by rw [Bool.eq_iff_iff, beq_iff_eq, decide_eq_true_iff]; rfl
        have hx2 : (x == [72, 69, 65, 68]) = decide (x = hdL) := by rw [Bool.eq_iff_iff, beq_iff_eq, decide_eq_true_iff]; rfl
        have hs1 : ¬ 9223372036854775807 < sb.size + 2 + x.length := by omega
        have hs2 : ¬ 9223372036854775807 < sb.size + x.length := by omega
        have hbl : Op.bytesLess x [72, 69, 65, 68] = decide (x < hdL) := bytesLess_eq x hdL
        have hne : ((k : Int) == (l.length : Int)) = false := by rw [beq_eq_false_iff_ne]; omega
        have hsl : sb.data.toList.length = sb.size := by simp
        have hie : sb.toList.isEmpty = decide (sb.data.toList = []) := by
          rw [ByteArray.toList_eq, Bool.eq_iff_iff, List.isEmpty_iff, decide_eq_true_iff]
        have hie2 : (sb ++ (⟨#[44, 32, 72, 69, 65, 68]⟩ : ByteArray)).toList.isEmpty = false := by
          rw [ByteArray.toList_eq]; simp
        have HEND := hid (fun (o : ByteArray) (g2 h2 : Bool) (ho : o.size ≤ (k + 1) * 2000) (hh : alwRun (l.drop (k + 1)) o.data.toList g2 h2 = RR) => (⟨k + 1, o, g2, h2, by omega, rfl, rfl, rfl, by go_num, ho, by unfold Hid; rw [if_pos (by omega)]; exact hh, hbw⟩ : ∃ (k2 : Nat) (sb2 : ByteArray) (gb hb : Bool), k2 ≤ l.length + 1 ∧ Value.string o = .string sb2 ∧ Value.bool g2 = .bool gb ∧ Value.bool h2 = .bool hb ∧ Value.int .i64 ((k : Int) + 1) = .int .i64 k2 ∧ sb2.size ≤ k2 * 2000 ∧ Hid (if k2 ≤ l.length then alwRun (l.drop k2) sb2.data.toList gb hb = RR else sb2.data.toList = RR) ∧ Below w.heap.size w wr))
        have hms : l.length + 1 - (intOf (Value.int .i64 ((k : Int) + 1))).toNat < l.length + 1 - (intOf (Value.int .i64 (k : Int))).toNat := by simp [intOf]; omega
        have tri : (decide (x < hdL) = true ∧ decide (x = hdL) = false ∧ decide (hdL < x) = false) ∨ (decide (x = hdL) = true ∧ decide (x < hdL) = false ∧ decide (hdL < x) = false) ∨ (decide (hdL < x) = true ∧ decide (x = hdL) = false ∧ decide (x < hdL) = false) := by
          by_cases e : x = hdL
          · exact .inr (.inl ⟨decide_eq_true e, decide_eq_false (by rw [e]; exact List.lt_irrefl _), decide_eq_false (by rw [e]; exact List.lt_irrefl _)⟩)
          · by_cases q : x < hdL
            · exact .inl ⟨decide_eq_true q, decide_eq_false e, decide_eq_false (fun z => List.lt_irrefl _ (List.lt_trans q z))⟩
            · exact .inr (.inr ⟨decide_eq_true (Classical.byContradiction (fun z => e (List.le_antisymm (List.not_lt.1 z) (List.not_lt.1 q)))), decide_eq_false e, decide_eq_false q⟩)
        have hxs : (⟨x.toArray⟩ : ByteArray).size = x.length := by simp [ByteArray.size]
        have HXS := hid hxs
        by_cases hem : sb.data.toList = [] <;> rcases tri with ⟨t1, t2, t3⟩ | ⟨t2, t1, t3⟩ | ⟨t3, t2, t1⟩ <;> cases gb <;> cases hb
        all_goals
          simp only [hem, t1, t2, t3, decide_true, decide_false, Bool.and_true, Bool.and_false, Bool.not_true, Bool.not_false, Bool.or_true, Bool.or_false, Bool.true_or, Bool.false_or, Bool.false_eq_true, if_true, if_false, ne_eq, not_true_eq_false, not_false_eq_true] at hbl hx2 hie HKK
          have HEM := hid hem
          clear hem t1 t2 t3 hxs
          go_wp2_with fail
          refine ⟨HEND.out _ _ _ ?_ ?_, hms⟩
          · have := HXS.out
            simp only [ByteArray.size_append]
            have e1 : (⟨#[44, 32]⟩ : ByteArray).size = 2 := rfl
            have e2 : (⟨#[44, 32, 72, 69, 65, 68]⟩ : ByteArray).size = 6 := rfl
            omega
          · first
              | simpa [sepL, seph] using HKK.out
              | simpa [sepL, seph, HEM.out] using HKK.out
    · by_cases hke : k = l.length
      · have hK := HK.out
        rw [if_pos (by omega), List.drop_eq_nil_of_le (by omega), alwRun] at hK
        have HKK := hid hK
        have hne : ((k : Int) == (l.length : Int)) = true := by rw [beq_iff_eq]; omega
        have hle : (k : Int) ≤ (l.length : Int) := by omega
        have hnl : ¬ (k : Int) < (l.length : Int) := by omega
        have hs1 : ¬ 9223372036854775807 < sb.size + 6 := by omega
        have HEND := hid (fun (o : ByteArray) (g2 h2 : Bool) (ho : o.size ≤ (k + 1) * 2000) (hh : o.data.toList = RR) => (⟨k + 1, o, g2, h2, by omega, rfl, rfl, rfl, by go_num, ho, by unfold Hid; rw [if_neg (by omega)]; exact hh, hbw⟩ : ∃ (k2 : Nat) (sb2 : ByteArray) (gb hb : Bool), k2 ≤ l.length + 1 ∧ Value.string o = .string sb2 ∧ Value.bool g2 = .bool gb ∧ Value.bool h2 = .bool hb ∧ Value.int .i64 ((k : Int) + 1) = .int .i64 k2 ∧ sb2.size ≤ k2 * 2000 ∧ Hid (if k2 ≤ l.length then alwRun (l.drop k2) sb2.data.toList gb hb = RR else sb2.data.toList = RR) ∧ Below w.heap.size w wr))
        have hms : l.length + 1 - (intOf (Value.int .i64 ((k : Int) + 1))).toNat < l.length + 1 - (intOf (Value.int .i64 (k : Int))).toNat := by simp [intOf]; omega
        clear hK HK hke
        cases gb <;> cases hb
        all_goals
          go_wp2_with fail
          refine ⟨HEND.out _ _ _ ?_ ?_, hms⟩
          · try simp only [ByteArray.size_append]
            have e2 : (⟨#[44, 32, 72, 69, 65, 68]⟩ : ByteArray).size = 6 := rfl
            omega
          · simpa [seph] using HKK.out
      · have hK := HK.out
        rw [if_neg (by omega)] at hK
        have HKK := hid hK
        have hle : ¬ (k : Int) ≤ (l.length : Int) := by omega
        clear hK HK
        go_wp2_with fail
        go_ret
        exact ⟨⟨_, rfl, HKK.out⟩, hbw⟩
end Go.Proofs.YtpfendckgeoonaaGreatDoor
