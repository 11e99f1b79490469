/- Texts that follow one another, joined. -/
import Derived.Test.YtbiggccolpchcaaGreatDoorJoin22
import Derived.Test.YtbiggccolpchcaaGreatDoorJoin07
import Derived.Test.YtbiggccolpchcaaGreatDoorJoin02
/- The reference's values of the fields that are named alike, in new memory; nothing old in memory turns. -/
namespace Go.Proofs.YtbiggccolpchcaaGreatDoor
open Go.RowKit

set_option maxRecDepth 100000 in
set_option maxHeartbeats 1000000 in
theorem rvalues_any (fs : List (ByteArray × ByteArray)) (a : Option Addr) (cap : Nat) (name : ByteArray) (w : World) (hf : FlAt fs a w) (hl : fs.length ≤ 4398046511104) (hn : name.size ≤ maxLen) (hsz : ∀ i (h : i < fs.length), fs[i].1.size ≤ maxLen) :
    Calls Tryz.prog 188 #[.slice a fs.length cap, .string name] w fun e w' => (∃ a' c', e = .returned (.slice a' (valsOf fs name.data.toList).length c') ∧ StAt (valsOf fs name.data.toList) a' w') ∧ Below w.heap.size w w' := by
  obtain ⟨i0, hi, hz0, hz1, hz2⟩ := info_parts Tryz.info9
  have HF : Hid (FlAt fs a w) := hf
  have HZ : Hid (∀ i (h : i < fs.length), fs[i].1.size ≤ maxLen) := hsz
  clear hf hsz
  go_enter Tryz.func188, Tryz.ntmps188
  go_wp2
  go_loopw [5, 6, 7] (fun v i _ wr => ∃ k : Nat, k ≤ fs.length ∧ i = .int .i64 k ∧ wr.ownsRow w.heap.size 9 1 v (valsOf (fs.take k) name.data.toList).length ((valsOf (fs.take k) name.data.toList).map Value.string) ∧ Below w.heap.size w wr) (fun _ i _ _ => fs.length - (intOf i).toNat)
  case atStart => exact ⟨0, Nat.zero_le _, rfl, World.ownsRow_nil _ _ _ _, Below.refl _ _⟩
  case round =>
    obtain ⟨k, hk, rfl, hown, hbw⟩ := hrel
    by_cases hlt : k < fs.length
    · obtain ⟨g, rfl, hg, hc1, hc2⟩ := (HF.out.below hbw) k hlt
      have hsk := HZ.out k hlt
      have HV : Hid ((Pm.alike fs[k].1.data.toList name.data.toList = true → valsOf (fs.take (k + 1)) name.data.toList = valsOf (fs.take k) name.data.toList ++ [fs[k].2]) ∧ (Pm.alike fs[k].1.data.toList name.data.toList = false → valsOf (fs.take (k + 1)) name.data.toList = valsOf (fs.take k) name.data.toList)) := ⟨valsOf_yes hlt, valsOf_no hlt⟩
      have hvl := valsOf_le (fs.take k) name.data.toList
      rw [List.length_take] at hvl
      obtain ⟨f, hfk⟩ : ∃ f, f = fs[k] := ⟨_, rfl⟩
      rw [← hfk] at hc1 hc2 hsk HV
      clear hfk
      obtain ⟨nm, vl⟩ := f
      simp only at hc1 hc2 hsk HV
      cases hal : Pm.alike nm.data.toList name.data.toList
      · have HE := (show Hid _ from HV.out.2 hal)
        go_wp2_with (go_at_call 189; refine (rAlike_any _ _ _ hsk hn).mono ?_; rintro e w1 ⟨rfl, rfl⟩)
        exact ⟨⟨k + 1, by omega, by go_num, by rw [HE.out]; exact hown, hbw⟩, by simp [intOf]; omega⟩
      · have HE := (show Hid _ from HV.out.1 hal)
        go_wp2_with fail
        refine (rAlike_any _ _ _ hsk hn).mono ?_
        rintro e w1 ⟨rfl, hw1⟩
        rw [hal, hw1]
        have hbs := hbw.size
        clear hw1 w1 hal hc1 hsk
        go_wp2_with (at_builtin; refine wpList_append_own _ rfl _ _ 99 rfl w.heap.size 9 i0 (.string ⟨#[]⟩) 1 16 Tryz.underlying99 hi hz0 hz1 hz2 rfl (by decide) _ _ _ rfl (hown.alloc _) ⟨wr.heap.size, 0, none⟩ 1 1 [.string vl] rfl rfl ?c1 ?c2 ?c3 ?c4 ?c5 ?_)
        case c1 =>
          intro j u hj
          match j, hj with
          | 0, hj => simp at hj; subst hj; simp [Addr.add]
        case c2 => intro u hu; simp at hu; subst hu; rfl
        case c3 => unfold maxLen; omega
        case c4 => omega
        case c5 => have := hbw.size; simp; omega
        intro v' w2 hown' hgrow _
        have hb3 : Below w.heap.size w w2 := (hbw.alloc hbw.size _).grown hgrow (by have := hbw.size; simp; omega) (own_ge hown)
        clear hgrow
        go_wp2
        refine ⟨⟨k + 1, by omega, by go_num, ?_, hb3⟩, by simp [intOf]; omega⟩
        rw [HE.out, List.length_append, List.map_append]
        exact hown'
    · have HT : Hid (fs.take k = fs) := List.take_of_length_le (by omega)
      rw [HT.out] at hown
      obtain ⟨a', c', rfl, hst⟩ := StAt.of_owns hown
      go_wp2
      go_ret
      exact ⟨⟨a', c', rfl, hst⟩, hbw⟩
end Go.Proofs.YtbiggccolpchcaaGreatDoor

/- The reference's Pieces, in new memory; nothing old in memory turns. -/
namespace Go.Proofs.YtbiggccolpchcaaGreatDoor
open Go.RowKit

def pcs (l : List UInt8) : List (List UInt8) := if l = [] then [] else Lib.split (l.drop 1) [47]
theorem pcs_step {l : List UInt8} (h : l ≠ []) : pcs l = Pm.ahead 47 (l.drop 1) :: pcs (Pm.behind 47 (l.drop 1)) := by
  rw [pcs, if_neg h]
  rcases Pm.behind_cases 47 (l.drop 1) with hb | ⟨r, hb⟩
  · rw [Pm.split_none hb, hb, pcs, if_pos rfl, (Pm.index_no hb).2]
  · rw [Pm.split_some hb, hb, pcs, if_neg (by simp)]; rfl
theorem behind_le (c : UInt8) (l : List UInt8) : (Pm.behind c l).length ≤ l.length := by
  have h := congrArg List.length (Pm.ahead_behind c l)
  rw [List.length_append] at h; omega
def szOf : Value → Nat
  | .string b => b.size
  | _ => 0
theorem data_ne {s : ByteArray} (h : 0 < s.size) : s.data.toList ≠ [] := fun h' => by
  have hl : s.data.toList.length = s.size := by simp
  rw [h'] at hl; simp at hl; omega

set_option maxRecDepth 100000 in
set_option maxHeartbeats 1000000 in
theorem rPieces_any (s : ByteArray) (w : World) (hs : s.size ≤ 4398046511104) :
    Calls Tryz.prog 155 #[.string s] w fun e w' => (∃ (v : Value) (ts : List ByteArray), e = .returned v ∧ w'.ownsRow w.heap.size 9 1 v ts.length (ts.map Value.string) ∧ ts.map (·.data.toList) = pcs s.data.toList) ∧ Below w.heap.size w w' := by
  obtain ⟨i0, hi, hz0, hz1, hz2⟩ := info_parts Tryz.info9
  by_cases h0 : 0 < s.size
  · have he := empt_cons h0
    generalize hPS : pcs s.data.toList = PS
    have HPS := hid hPS
    clear hPS
    go_enter Tryz.func155, Tryz.ntmps155
    go_wp2
    go_loopw [3, 4, 5, 6] (fun v r _ _ wr => ∃ (ts : List ByteArray) (rs : ByteArray), r = .string rs ∧ ts.length + rs.size ≤ s.size ∧ wr.ownsRow w.heap.size 9 1 v ts.length (ts.map Value.string) ∧ Hid (ts.map (·.data.toList) ++ pcs rs.data.toList = PS) ∧ Below w.heap.size w wr) (fun _ r _ _ _ => szOf r)
    case atStart => exact ⟨[], s, rfl, by simp, World.ownsRow_nil _ _ _ _, HPS, Below.refl _ _⟩
    case round =>
      obtain ⟨ts, rs, rfl, hle, ow, H, hbw⟩ := hrel
      clear he h0
      by_cases h1 : 0 < rs.size
      · have he1 := empt_cons h1
        rw [pcs_step (data_ne h1)] at H
        have hex : (rs.extract 1 rs.size).data.toList = rs.data.toList.drop 1 := by rw [Lib.extract_data, List.take_of_length_le (by simp)]
        rw [← hex] at H
        have hez : (rs.extract 1 rs.size).size = rs.size - 1 := by simp
        have HA := hid (fun W => rAhead_any (rs.extract 1 rs.size) 47 W (by unfold maxLen; omega))
        clear hex
        go_wp2_with fail
        refine (HA.out _).mono ?_
        rintro e w2 ⟨⟨a, b, rfl, ha, hb⟩, hb2⟩
        have hbl : b.size ≤ rs.size - 1 := by
          have h := behind_le 47 (rs.extract 1 rs.size).data.toList
          rw [← hb] at h; simp at h; omega
        rw [← ha, ← hb] at H
        have hB2 := bel_of hbw hb2
        have ow2 := owns_below ow hb2
        have hbs := hB2.size
        clear HA ha hb hez
        go_wp2_with (at_builtin; refine wpList_append_own _ rfl _ _ 99 rfl w.heap.size 9 i0 (.string ⟨#[]⟩) 1 16 Tryz.underlying99 hi hz0 hz1 hz2 rfl (by decide) _ _ _ rfl (ow2.alloc _) ⟨w2.heap.size, 0, none⟩ 1 1 [.string a] rfl rfl ?c1 ?c2 ?c3 ?c4 ?c5 ?_)
        case c1 =>
          intro j u hj
          match j, hj with
          | 0, hj => simp at hj; subst hj; simp [Addr.add]
        case c2 => intro u hu; simp at hu; subst hu; rfl
        case c3 => unfold maxLen; omega
        case c4 => omega
        case c5 => simp; omega
        intro v' w3 hown' hgrow _
        have hb3 : Below w.heap.size w w3 := (hB2.alloc hB2.size _).grown hgrow (by simp; omega) (own_ge ow2)
        clear hgrow
        go_wp2
        refine ⟨⟨ts ++ [a], b, rfl, by simp; omega, ?_, ?_, hb3⟩, by simp [szOf]; omega⟩
        · rw [List.length_append, List.map_append]
          exact hown'
        · unfold Hid; rw [List.map_append, List.append_assoc]; exact H.out
      · have he1 := empt_nil h1
        rw [toList_nil h1, pcs, if_pos rfl, List.append_nil] at H
        go_wp2
        go_ret
        exact ⟨⟨_, ts, rfl, ow, H.out⟩, hbw⟩
  · have he := empt_nil h0
    have HN : Hid (([] : List ByteArray).map (·.data.toList) = pcs s.data.toList) := by unfold Hid; rw [toList_nil h0]; rfl
    go_enter Tryz.func155, Tryz.ntmps155
    go_wp2
    go_ret
    exact ⟨⟨_, [], rfl, World.ownsRow_nil _ _ _ _, HN.out⟩, Below.refl _ _⟩
end Go.Proofs.YtbiggccolpchcaaGreatDoor

/- The reference's takes; nothing old in memory turns. -/
namespace Go.Proofs.YtbiggccolpchcaaGreatDoor
open Go.RowKit

def tkR (p s : ByteArray) : Bool := if Pm.pieceK p.data.toList = 0 then p.toList == s.toList else ((Pm.pieceK p.data.toList == 2) || !s.toList.isEmpty)
set_option maxHeartbeats 400000 in
theorem rtakes_any (p s : ByteArray) (w : World) :
    Calls Tryz.prog 159 #[.string p, .string s] w fun e w' => e = .returned (.bool (tkR p s)) ∧ Below w.heap.size w w' := by
  have HT : Hid (tkR p s = if Pm.pieceK p.data.toList = 0 then p.toList == s.toList else ((Pm.pieceK p.data.toList == 2) || !s.toList.isEmpty)) := rfl
  generalize tkR p s = TT at *
  have HR := hid (fun W => rIsRest_any p W)
  have HF := hid (fun W => rIsFixed_any p W)
  generalize Pm.pieceK p.data.toList = K at *
  go_enter Tryz.func159, Tryz.ntmps159
  go_wp2_with fail
  refine (HR.out _).mono ?_
  rintro e w1 ⟨rfl, hb1⟩
  go_wp2_with fail
  refine (HF.out _).mono ?_
  rintro e w2 ⟨rfl, hb2⟩
  have hB2 := bel_of hb1 hb2
  clear HR HF
  by_cases h0 : K = 0
  · have hk : (K == 0) = true := by rw [h0]; rfl
    rw [if_pos h0] at HT
    rw [hk]
    go_wp2
    go_ret
    exact ⟨ret_bool (by rw [HT.out]), hB2⟩
  · have hk : (K == 0) = false := by rw [beq_eq_false_iff_ne]; exact h0
    rw [if_neg h0] at HT
    rw [hk]
    cases h2 : (K == 2)
    · rw [h2, Bool.false_or] at HT
      go_wp2
      go_ret
      exact ⟨ret_bool (by rw [HT.out]), hB2⟩
    · rw [h2, Bool.true_or] at HT
      go_wp2
      go_ret
      exact ⟨ret_bool (by rw [HT.out]), hB2⟩
end Go.Proofs.YtbiggccolpchcaaGreatDoor
