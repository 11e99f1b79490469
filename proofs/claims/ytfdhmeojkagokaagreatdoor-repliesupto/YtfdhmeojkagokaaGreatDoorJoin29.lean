/- Texts that follow one another, joined. -/
import Derived.Test.YtfdhmeojkagokaaGreatDoorJoin10
import Derived.Test.YtfdhmeojkagokaaGreatDoorJoin20
import Derived.Test.YtfdhmeojkagokaaGreatDoorJoin05
import Derived.Test.YtfdhmeojkagokaaGreatDoorJoin01
/- The reference's pieces: whether one is fixed or a rest, and its name; nothing old in memory turns. -/
namespace Go.Proofs.YtfdhmeojkagokaaGreatDoor
open Go.RowKit

theorem kind_cons {s : ByteArray} (h : 0 < s.size) : Pm.pieceK s.data.toList = if ((s[0].toNat : Int) == 58) = true then 1 else if ((s[0].toNat : Int) == 42) = true then 2 else 0 := by
  obtain ⟨⟨l⟩⟩ := s
  cases l with
  | nil => exact absurd h (by simp [ByteArray.size])
  | cons a r =>
    show (if ([58] : List UInt8).isPrefixOf (a :: r) = true then (1 : Int) else if ([42] : List UInt8).isPrefixOf (a :: r) = true then 2 else 0) = (if ((a.toNat : Int) == 58) = true then 1 else if ((a.toNat : Int) == 42) = true then 2 else 0)
    have h2 : ([58] : List UInt8).isPrefixOf (a :: r) = (58 == a) := by simp [List.isPrefixOf]
    have h3 : ([42] : List UInt8).isPrefixOf (a :: r) = (42 == a) := by simp [List.isPrefixOf]
    rw [h2, h3]
    have e1 := Pm.all256 (p := fun a => ((58 : UInt8) == a) == ((a.toNat : Int) == 58)) (by decide +kernel) a
    have e2 := Pm.all256 (p := fun a => ((42 : UInt8) == a) == ((a.toNat : Int) == 42)) (by decide +kernel) a
    have e1' : ((58 : UInt8) == a) = ((a.toNat : Int) == 58) := by simpa using e1
    have e2' : ((42 : UInt8) == a) = ((a.toNat : Int) == 42) := by simpa using e2
    rw [e1', e2']
theorem toList_nil {s : ByteArray} (h : ¬ 0 < s.size) : s.data.toList = [] := by
  have hl : s.data.toList.length = s.size := by simp
  exact List.eq_nil_of_length_eq_zero (by omega)
theorem kind_nil {s : ByteArray} (h : ¬ 0 < s.size) : Pm.pieceK s.data.toList = 0 := by
  rw [toList_nil h]; rfl
theorem empt_cons {s : ByteArray} (h : 0 < s.size) : s.toList.isEmpty = false := by
  have hl : s.data.toList.length = s.size := by simp
  rw [ByteArray.toList_eq]
  cases hd : s.data.toList with
  | nil => rw [hd] at hl; simp at hl; omega
  | cons => rfl
theorem empt_nil {s : ByteArray} (h : ¬ 0 < s.size) : s.toList.isEmpty = true := by
  rw [ByteArray.toList_eq, toList_nil h]; rfl
def nameOf (s : ByteArray) : ByteArray := if Pm.pieceK s.data.toList = 0 then ⟨#[]⟩ else s.extract 1 s.size

set_option maxHeartbeats 400000 in
theorem rIsRest_any (s : ByteArray) (w : World) :
    Calls Tryz.prog 152 #[.string s] w fun e w' => e = .returned (.bool (Pm.pieceK s.data.toList == 2)) ∧ Below w.heap.size w w' := by
  by_cases h0 : 0 < s.size
  · have HK := hid (kind_cons h0)
    have he := empt_cons h0
    generalize Pm.pieceK s.data.toList = K at *
    cases hb : ((s[0].toNat : Int) == 42)
    · have HF : Hid ((K == 2) = false) := by unfold Hid; rw [HK.out, hb]; cases ((s[0].toNat : Int) == 58) <;> rfl
      go_enter Tryz.func152, Tryz.ntmps152
      go_wp2
      go_ret
      exact ⟨ret_bool HF.out.symm, Below.refl _ _⟩
    · have HF : Hid ((K == 2) = true) := by
        unfold Hid; rw [HK.out, hb]
        have : ((s[0].toNat : Int) == 58) = false := by rw [beq_eq_false_iff_ne]; rw [beq_iff_eq] at hb; omega
        rw [this]; rfl
      go_enter Tryz.func152, Tryz.ntmps152
      go_wp2
      go_ret
      exact ⟨ret_bool HF.out.symm, Below.refl _ _⟩
  · have HK := hid (kind_nil h0)
    have he := empt_nil h0
    generalize Pm.pieceK s.data.toList = K at *
    have HF : Hid ((K == 2) = false) := by unfold Hid; rw [HK.out]; rfl
    go_enter Tryz.func152, Tryz.ntmps152
    go_wp2
    go_ret
    exact ⟨ret_bool HF.out.symm, Below.refl _ _⟩

set_option maxHeartbeats 400000 in
theorem rIsFixed_any (s : ByteArray) (w : World) :
    Calls Tryz.prog 151 #[.string s] w fun e w' => e = .returned (.bool (Pm.pieceK s.data.toList == 0)) ∧ Below w.heap.size w w' := by
  by_cases h0 : 0 < s.size
  · have HK := hid (kind_cons h0)
    have he := empt_cons h0
    generalize Pm.pieceK s.data.toList = K at *
    cases ha : ((s[0].toNat : Int) == 58)
    · have ha' : ((s[0].toNat : Int) != 58) = true := by rw [bne, ha]; rfl
      cases hb : ((s[0].toNat : Int) == 42)
      · have HF : Hid ((K == 0) = true) := by unfold Hid; rw [HK.out, ha, hb]; rfl
        have hb' : ((s[0].toNat : Int) != 42) = true := by rw [bne, hb]; rfl
        go_enter Tryz.func151, Tryz.ntmps151
        go_wp2
        go_ret
        exact ⟨ret_bool HF.out.symm, Below.refl _ _⟩
      · have HF : Hid ((K == 0) = false) := by unfold Hid; rw [HK.out, ha, hb]; rfl
        have hb' : ((s[0].toNat : Int) != 42) = false := by rw [bne, hb]; rfl
        go_enter Tryz.func151, Tryz.ntmps151
        go_wp2
        go_ret
        exact ⟨ret_bool HF.out.symm, Below.refl _ _⟩
    · have ha' : ((s[0].toNat : Int) != 58) = false := by rw [bne, ha]; rfl
      have HF : Hid ((K == 0) = false) := by unfold Hid; rw [HK.out, ha]; rfl
      go_enter Tryz.func151, Tryz.ntmps151
      go_wp2
      go_ret
      exact ⟨ret_bool HF.out.symm, Below.refl _ _⟩
  · have HK := hid (kind_nil h0)
    have he := empt_nil h0
    generalize Pm.pieceK s.data.toList = K at *
    have HF : Hid ((K == 0) = true) := by unfold Hid; rw [HK.out]; rfl
    go_enter Tryz.func151, Tryz.ntmps151
    go_wp2
    go_ret
    exact ⟨ret_bool HF.out.symm, Below.refl _ _⟩
set_option maxHeartbeats 400000 in
theorem rnamed_any (s : ByteArray) (w : World) (hs : s.size ≤ maxLen) :
    Calls Tryz.prog 153 #[.string s] w fun e w' => e = .returned (.string (nameOf s)) ∧ Below w.heap.size w w' := by
  unfold maxLen at hs
  have HN : Hid (nameOf s = if Pm.pieceK s.data.toList = 0 then ⟨#[]⟩ else s.extract 1 s.size) := rfl
  generalize nameOf s = NM at *
  by_cases h0 : 0 < s.size
  · have HK := hid (kind_cons h0)
    have he := empt_cons h0
    generalize Pm.pieceK s.data.toList = K at *
    cases ha : ((s[0].toNat : Int) == 58)
    · cases hb : ((s[0].toNat : Int) == 42)
      · have HF : Hid (NM = ⟨#[]⟩) := by unfold Hid; rw [HN.out, HK.out, ha, hb]; rfl
        clear HN HK
        go_enter Tryz.func153, Tryz.ntmps153
        go_wp2
        go_ret
        exact ⟨by rw [HF.out]; rfl, Below.refl _ _⟩
      · have HF : Hid (NM = s.extract 1 s.size) := by unfold Hid; rw [HN.out, HK.out, ha, hb]; rfl
        clear HN HK
        go_enter Tryz.func153, Tryz.ntmps153
        go_wp2
        go_ret
        exact ⟨by rw [HF.out]; rfl, Below.refl _ _⟩
    · have HF : Hid (NM = s.extract 1 s.size) := by unfold Hid; rw [HN.out, HK.out, ha]; rfl
      clear HN HK
      go_enter Tryz.func153, Tryz.ntmps153
      go_wp2
      go_ret
      exact ⟨by rw [HF.out]; rfl, Below.refl _ _⟩
  · have HK := hid (kind_nil h0)
    have he := empt_nil h0
    have HF : Hid (NM = ⟨#[]⟩) := by unfold Hid; rw [HN.out, HK.out]; rfl
    clear HN HK
    go_enter Tryz.func153, Tryz.ntmps153
    go_wp2
    go_ret
    exact ⟨by rw [HF.out]; rfl, Below.refl _ _⟩
end Go.Proofs.YtfdhmeojkagokaaGreatDoor

/- The reference's values of the fields that are named alike, in new memory; nothing old in memory turns. -/
namespace Go.Proofs.YtfdhmeojkagokaaGreatDoor
open Go.RowKit

end Go.Proofs.YtfdhmeojkagokaaGreatDoor

/- The reference's Pieces, in new memory; nothing old in memory turns. -/
namespace Go.Proofs.YtfdhmeojkagokaaGreatDoor
open Go.RowKit

def pcs (l : List UInt8) : List (List UInt8) := if l = [] then [] else Lib.split (l.drop 1) [47]
theorem pcs_step {l : List UInt8} (h : l ≠ []) : pcs l = Pm.ahead 47 (l.drop 1) :: pcs (Pm.behind 47 (l.drop 1)) := by
  rw [pcs, if_neg h]
  rcases Pm.behind_cases 47 (l.drop 1) with hb | ⟨r, hb⟩
  · rw [Pm.split_none hb, hb, pcs, if_pos rfl, (Pm.index_no hb).2]
  · rw [Pm.split_some hb, hb, pcs, if_neg (by simp)]; rfl
theorem behind_le (c : UInt8) (l : List UInt8) : (Pm.behind c l).length ≤ l.length := by
  have h := congrArg List.length (Pm.ahead_behind c l)
  rw [List.length_append] at h; omega
def szOf : Value → Nat
  | .string b => b.size
  | _ => 0
theorem data_ne {s : ByteArray} (h : 0 < s.size) : s.data.toList ≠ [] := fun h' => by
  have hl : s.data.toList.length = s.size := by simp
  rw [h'] at hl; simp at hl; omega

set_option maxRecDepth 100000 in
set_option maxHeartbeats 1000000 in
theorem rPieces_any (s : ByteArray) (w : World) (hs : s.size ≤ 4398046511104) :
    Calls Tryz.prog 150 #[.string s] w fun e w' => (∃ (v : Value) (ts : List ByteArray), e = .returned v ∧ w'.ownsRow w.heap.size 9 1 v ts.length (ts.map Value.string) ∧ ts.map (·.data.toList) = pcs s.data.toList) ∧ Below w.heap.size w w' := by
  obtain ⟨i0, hi, hz0, hz1, hz2⟩ := info_parts Tryz.info9
  by_cases h0 : 0 < s.size
  · have he := empt_cons h0
    generalize hPS : pcs s.data.toList = PS
    have HPS := hid hPS
    clear hPS
    go_enter Tryz.func150, Tryz.ntmps150
    go_wp2
    go_loopw [3, 4, 5, 6] (fun v r _ _ wr => ∃ (ts : List ByteArray) (rs : ByteArray), r = .string rs ∧ ts.length + rs.size ≤ s.size ∧ wr.ownsRow w.heap.size 9 1 v ts.length (ts.map Value.string) ∧ Hid (ts.map (·.data.toList) ++ pcs rs.data.toList = PS) ∧ Below w.heap.size w wr) (fun _ r _ _ _ => szOf r)
    case atStart => exact ⟨[], s, rfl, by simp, World.ownsRow_nil _ _ _ _, HPS, Below.refl _ _⟩
    case round =>
      obtain ⟨ts, rs, rfl, hle, ow, H, hbw⟩ := hrel
      clear he h0
      by_cases h1 : 0 < rs.size
      · have he1 := empt_cons h1
        rw [pcs_step (data_ne h1)] at H
        have hex : (rs.extract 1 rs.size).data.toList = rs.data.toList.drop 1 := by rw [Lib.extract_data, List.take_of_length_le (by simp)]
        rw [← hex] at H
        have hez : (rs.extract 1 rs.size).size = rs.size - 1 := by simp
        have HA := hid (fun W => rAhead_any (rs.extract 1 rs.size) 47 W (by unfold maxLen; omega))
        clear hex
        go_wp2_with fail
        refine (HA.out _).mono ?_
        rintro e w2 ⟨⟨a, b, rfl, ha, hb⟩, hb2⟩
        have hbl : b.size ≤ rs.size - 1 := by
          have h := behind_le 47 (rs.extract 1 rs.size).data.toList
          rw [← hb] at h; simp at h; omega
        rw [← ha, ← hb] at H
        have hB2 := bel_of hbw hb2
        have ow2 := owns_below ow hb2
        have hbs := hB2.size
        clear HA ha hb hez
        go_wp2_with (at_builtin; refine wpList_append_own _ rfl _ _ 75 rfl w.heap.size 9 i0 (.string ⟨#[]⟩) 1 16 Tryz.underlying75 hi hz0 hz1 hz2 rfl (by decide) _ _ _ rfl (ow2.alloc _) ⟨w2.heap.size, 0, none⟩ 1 1 [.string a] rfl rfl ?c1 ?c2 ?c3 ?c4 ?c5 ?_)
        case c1 =>
          intro j u hj
          match j, hj with
          | 0, hj => simp at hj; subst hj; simp [Addr.add]
        case c2 => intro u hu; simp at hu; subst hu; rfl
        case c3 => unfold maxLen; omega
        case c4 => omega
        case c5 => simp; omega
        intro v' w3 hown' hgrow _
        have hb3 : Below w.heap.size w w3 := (hB2.alloc hB2.size _).grown hgrow (by simp; omega) (own_ge ow2)
        clear hgrow
        go_wp2
        refine ⟨⟨ts ++ [a], b, rfl, by simp; omega, ?_, ?_, hb3⟩, by simp [szOf]; omega⟩
        · rw [List.length_append, List.map_append]
          exact hown'
        · unfold Hid; rw [List.map_append, List.append_assoc]; exact H.out
      · have he1 := empt_nil h1
        rw [toList_nil h1, pcs, if_pos rfl, List.append_nil] at H
        go_wp2
        go_ret
        exact ⟨⟨_, ts, rfl, ow, H.out⟩, hbw⟩
  · have he := empt_nil h0
    have HN : Hid (([] : List ByteArray).map (·.data.toList) = pcs s.data.toList) := by unfold Hid; rw [toList_nil h0]; rfl
    go_enter Tryz.func150, Tryz.ntmps150
    go_wp2
    go_ret
    exact ⟨⟨_, [], rfl, World.ownsRow_nil _ _ _ _, HN.out⟩, Below.refl _ _⟩
end Go.Proofs.YtfdhmeojkagokaaGreatDoor

/- The reference's takes; nothing old in memory turns. -/
namespace Go.Proofs.YtfdhmeojkagokaaGreatDoor
open Go.RowKit

def tkR (p s : ByteArray) : Bool := if Pm.pieceK p.data.toList = 0 then p.toList == s.toList else ((Pm.pieceK p.data.toList == 2) || !s.toList.isEmpty)
set_option maxHeartbeats 400000 in
theorem rtakes_any (p s : ByteArray) (w : World) :
    Calls Tryz.prog 154 #[.string p, .string s] w fun e w' => e = .returned (.bool (tkR p s)) ∧ Below w.heap.size w w' := by
  have HT : Hid (tkR p s = if Pm.pieceK p.data.toList = 0 then p.toList == s.toList else ((Pm.pieceK p.data.toList == 2) || !s.toList.isEmpty)) := rfl
  generalize tkR p s = TT at *
  have HR := hid (fun W => rIsRest_any p W)
  have HF := hid (fun W => rIsFixed_any p W)
  generalize Pm.pieceK p.data.toList = K at *
  go_enter Tryz.func154, Tryz.ntmps154
  go_wp2_with fail
  refine (HR.out _).mono ?_
  rintro e w1 ⟨rfl, hb1⟩
  go_wp2_with fail
  refine (HF.out _).mono ?_
  rintro e w2 ⟨rfl, hb2⟩
  have hB2 := bel_of hb1 hb2
  clear HR HF
  by_cases h0 : K = 0
  · have hk : (K == 0) = true := by rw [h0]; rfl
    rw [if_pos h0] at HT
    rw [hk]
    go_wp2
    go_ret
    exact ⟨ret_bool (by rw [HT.out]), hB2⟩
  · have hk : (K == 0) = false := by rw [beq_eq_false_iff_ne]; exact h0
    rw [if_neg h0] at HT
    rw [hk]
    cases h2 : (K == 2)
    · rw [h2, Bool.false_or] at HT
      go_wp2
      go_ret
      exact ⟨ret_bool (by rw [HT.out]), hB2⟩
    · rw [h2, Bool.true_or] at HT
      go_wp2
      go_ret
      exact ⟨ret_bool (by rw [HT.out]), hB2⟩
end Go.Proofs.YtfdhmeojkagokaaGreatDoor
