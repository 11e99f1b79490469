/- Texts that follow one another, joined. -/
import Derived.Test.YtbiggccolpchcaaGreatDoorJoin13
import Derived.OwnWalk
/- match: what a pattern's names stand for in a path, in new memory, or that the pattern has not the path; nothing old in memory turns. -/
namespace Go.Proofs.YtbiggccolpchcaaGreatDoor
open Go.RowKit

abbrev Prm := ByteArray × ByteArray
def rawOf (k : Int) (l : List UInt8) : List UInt8 := if k = 2 then l else Pm.ahead 47 l
def leftOf (k : Int) (l : List UInt8) : List UInt8 := if k = 2 then l else (Pm.behind 47 l).drop 1
def moreOf (k : Int) (l : List UInt8) : Bool := if k = 2 then false else !(Pm.behind 47 l).isEmpty
def matchB : List (Int × ByteArray) → List UInt8 → Bool → List Prm → Option (List Prm)
  | [], _, mr, acc => if mr = true then none else some acc
  | p :: r, l, mr, acc => if mr = false then none else if tk p.1 p.2 (Pm.unT (rawOf p.1 l)) = true then matchB r (leftOf p.1 l) (moreOf p.1 l) (if p.1 = 0 then acc else acc ++ [(p.2, Pm.unT (rawOf p.1 l))]) else none
def prCells (fs : List Prm) : List Value := fs.flatMap fun f => [.string f.1, .string f.2]
theorem prCells_snoc (ps : List Prm) (p : Prm) : prCells (ps ++ [p]) = prCells ps ++ [.string p.1, .string p.2] := by simp [prCells]
theorem Tryz.infoPr : (Tryz.prog.info? 129).map (fun i => (i.zero, i.size, i.bytes)) = some (some (.agg #[.string ⟨#[]⟩, .string ⟨#[]⟩]), 2, 32) := by kernel_rfl
def MaPost (PO : Option (List Prm)) (B : Nat) (r : Ending) (w' : World) : Prop :=
  match PO with
  | none => r = .returned (.tuple #[.slice none 0 0, .bool false])
  | some ps => ∃ v, r = .returned (.tuple #[v, .bool true]) ∧ w'.ownsRow B 129 2 v ps.length (prCells ps)
theorem ahead_le (c : UInt8) (l : List UInt8) : (Pm.ahead c l).length ≤ l.length ∧ ((Pm.behind c l).drop 1).length ≤ l.length := by
  have h := congrArg List.length (Pm.ahead_behind c l)
  rw [List.length_append] at h
  constructor
  · omega
  · rw [List.length_drop]; omega

set_option maxRecDepth 100000 in
set_option maxHeartbeats 4000000 in
theorem match_any (ps : List (Int × ByteArray)) (a : Option Addr) (ca : Nat) (s : ByteArray) (w : World) (hp : PcAt ps a w) (hl : ps.length ≤ 1000000) (h1s : 1 ≤ s.size) (hs : s.size ≤ 140737488355328) :
    Calls Tryz.prog 161 #[.slice a ps.length ca, .string s] w fun r w' =>
      MaPost (matchB ps (s.data.toList.drop 1) true []) w.heap.size r w' ∧ Below w.heap.size w w' := by
  obtain ⟨i0, hi, hz0, hz1, hz2⟩ := info_parts Tryz.infoPr
  have HP := hid hp
  clear hp
  generalize hPO : matchB ps (s.data.toList.drop 1) true [] = PO
  have hex : (s.extract 1 s.size).data.toList = s.data.toList.drop 1 := by rw [Lib.extract_data, List.take_of_length_le (by simp)]
  rw [← hex] at hPO
  have HPO := hid hPO
  have hez : (s.extract 1 s.size).size ≤ s.size := by simp
  clear hPO hex
  go_enter Tryz.func161, Tryz.ntmps161
  go_wp2_with fail
  generalize s.extract 1 s.size = s1 at *
  go_loopw [6, 7, 8, 10, 11, 12, 13, 18] (fun p l m _ _ _ _ i wr => ∃ (q : Nat) (acc : List Prm) (lt : ByteArray) (mr : Bool), q ≤ ps.length ∧ i = .int .i64 q ∧ l = .string lt ∧ m = .bool mr ∧ acc.length ≤ q ∧ lt.size ≤ s.size ∧ wr.ownsRow w.heap.size 129 2 p acc.length (prCells acc) ∧ Hid (matchB (ps.drop q) lt.data.toList mr acc = PO) ∧ Below w.heap.size w wr) (fun _ _ _ _ _ _ _ i _ => ps.length - (intOf i).toNat)
  case atStart => exact ⟨0, [], s1, true, Nat.zero_le _, rfl, rfl, rfl, Nat.le_refl _, hez, World.ownsRow_nil _ _ _ _, HPO, Below.refl _ _⟩
  case round =>
    obtain ⟨q, acc, lt, mr, hq, rfl, rfl, rfl, hacc, hlt2, ow, H, hbw⟩ := hrel
    obtain ⟨va, vc, rfl⟩ : ∃ a c, u6 = .slice a acc.length c := by
      rcases ow.2 with ⟨h2, h3⟩ | ⟨g, cap, cur, hv, _⟩
      · exact ⟨none, 0, by rw [h3]; exact h2⟩
      · exact ⟨_, _, hv⟩
    by_cases hlt : q < ps.length
    · obtain ⟨g, rfl, hg, hc1, hc2⟩ := (HP.out.below hbw) q hlt
      rw [← List.getElem_cons_drop hlt, matchB] at H
      generalize ps[q] = pq at *
      obtain ⟨K, pt⟩ := pq
      simp only at hc1 hc2 H
      have hA6 := (Below.refl wr.heap.size wr).alloc (Nat.le_refl _) (.cells #[.int .i64 K, .string pt] 307)
      have hB6 := bel_of hbw hA6
      have ow6 := owns_below ow hA6
      cases mr
      · have HN : Hid (PO = none) := by unfold Hid; rw [← H.out]; rfl
        clear H
        go_wp2
        go_ret2
        rw [HN.out]
        exact ⟨rfl, hB6⟩
      · rw [if_neg (by simp)] at H
        have HU := hid (fun (x : ByteArray) W (hx : x.size ≤ s.size) => wUnescape_any x W (by omega))
        have HT := hid (fun x W => takes_any K pt x W)
        have HC := hid (fun W => cut1_any lt 47 W (by unfold maxLen; omega))
        by_cases h2 : K = 2
        · have hk2 : (K == 2) = true := by rw [h2]; rfl
          have hk0 : (K != 0) = true := by rw [h2]; rfl
          rw [show rawOf K lt.data.toList = lt.data.toList from if_pos h2, show leftOf K lt.data.toList = lt.data.toList from if_pos h2, show moreOf K lt.data.toList = false from if_pos h2, if_neg (by omega : ¬ K = 0)] at H
          have hD := hA6
          clear HC h2
          go_wp2_with fail
          refine (HU.out lt _ hlt2).mono ?_
          rintro e w7 ⟨rfl, hb7⟩
          generalize Pm.unT lt.data.toList = tx at *
          have h67 := bel_of hD hb7
          have kc0 := cell_later hb7 (a := ⟨wr.heap.size, 0, none⟩) (v := .int .i64 K) (by simp)
          have kc1 := cell_later hb7 (a := ⟨wr.heap.size, 1, none⟩) (v := .string pt) (by simp)
          have s7 : wr.heap.size < w7.heap.size := Nat.lt_of_lt_of_le (by simp) hb7.size
          go_wp2_with fail
          refine (HT.out tx _).mono ?_
          rintro e w8 ⟨rfl, hb8⟩
          have h68 := bel_of h67 hb8
          have hB8 := bel_of hbw h68
          have ow8 := owns_below ow h68
          have kd0 := cell_later hb8 kc0
          have kd1 := cell_later hb8 kc1
          have s8 : wr.heap.size < w8.heap.size := Nat.lt_of_lt_of_le s7 hb8.size
          clear kc0 kc1 hb7 hb8 h67 h68 hD s7
          generalize tk K pt tx = tt at *
          cases tt
          · have HN : Hid (PO = none) := by unfold Hid; rw [← H.out]; rfl
            clear H
            go_wp2
            go_ret2
            rw [HN.out]
            exact ⟨rfl, hB8⟩
          · rw [if_pos rfl] at H
            go_wp2_with (at_builtin; refine wpList_append_lies _ rfl _ _ 92 rfl w.heap.size 129 i0 _ 2 32 Tryz.underlying92 hi hz0 hz1 hz2 rfl (by omega) (.slice va acc.length vc) acc.length (prCells acc) rfl (ow8.alloc _) ⟨w8.heap.size, 0, none⟩ 1 1 [.string pt, .string tx] rfl rfl ?c1 ?c2 (by omega) ?c3 ?c4 ?c5 _ rfl ?_)
            case c1 =>
              intro j x hj
              match j, hj with
              | 0, hj => simp at hj; subst hj; simp [Addr.add]
              | 1, hj => simp at hj; subst hj; simp [Addr.add]
            case c2 => intro x hx; simp at hx; rcases hx with rfl | rfl <;> rfl
            case c3 => unfold maxLen; omega
            case c4 => omega
            case c5 => simp; have := hB8.size; omega
            intro gg cap wn hown hgrow hat hltn
            have hA9 := (Below.refl w8.heap.size w8).alloc (Nat.le_refl _) (.cells #[.string pt, .string tx] 129)
            have hB9 := (bel_of hB8 hA9).grown hgrow (by have := hB8.size; simp; omega) (fun r hr => by have := own_ge ow8 r hr; omega)
            clear hgrow ow8 hA9
            go_wp2
            refine ⟨⟨q + 1, acc ++ [(pt, tx)], lt, false, by omega, by go_num, rfl, rfl, by simp; omega, hlt2, ?_, H, hB9⟩, by simp [intOf]; omega⟩
            rw [List.length_append, prCells_snoc]
            exact hown
        · have hk2 : (K == 2) = false := by rw [beq_eq_false_iff_ne]; exact h2
          have e1 : rawOf K lt.data.toList = Pm.ahead 47 lt.data.toList := if_neg h2
          have e2 : leftOf K lt.data.toList = (Pm.behind 47 lt.data.toList).drop 1 := if_neg h2
          have e3 : moreOf K lt.data.toList = !(Pm.behind 47 lt.data.toList).isEmpty := if_neg h2
          by_cases h0 : K = 0
          · have hk0 : (K != 0) = false := by rw [h0]; rfl
            rw [if_pos h0] at H
            clear h0 h2
            go_wp2_with fail
            refine (HC.out _).mono ?_
            rintro e w6 ⟨⟨ra, la, rfl, hra, hla⟩, n6, rfl⟩
            rw [e1, e2, e3, ← hra, ← hla] at H
            have hral : ra.size ≤ s.size := by
              have h := (ahead_le 47 lt.data.toList).1
              rw [← hra] at h; simp at h; omega
            have hlal : la.size ≤ s.size := by
              have h := (ahead_le 47 lt.data.toList).2
              rw [← hla] at h; simp at h; omega
            generalize (!(Pm.behind 47 lt.data.toList).isEmpty) = mr2 at *
            have hd := below_drewN (Below.refl (wr.alloc (.cells #[.int .i64 K, .string pt] 307)).heap.size (wr.alloc (.cells #[.int .i64 K, .string pt] 307))) n6
            have hD := bel_of hA6 hd
            clear HC hra hla e1 e2 e3
            go_wp2_with fail
            refine (HU.out ra _ hral).mono ?_
            rintro e w7 ⟨rfl, hb7⟩
            generalize Pm.unT ra.data.toList = tx at *
            have h67 := bel_of hD hb7
            have kc0 := cell_later hb7 (a := ⟨wr.heap.size, 0, none⟩) (v := .int .i64 K) (cell_later hd (by simp))
            have kc1 := cell_later hb7 (a := ⟨wr.heap.size, 1, none⟩) (v := .string pt) (cell_later hd (by simp))
            have s7 : wr.heap.size < w7.heap.size := Nat.lt_of_lt_of_le (by simp) (Nat.le_trans hd.size hb7.size)
            go_wp2_with fail
            refine (HT.out tx _).mono ?_
            rintro e w8 ⟨rfl, hb8⟩
            have h68 := bel_of h67 hb8
            have hB8 := bel_of hbw h68
            have ow8 := owns_below ow h68
            have kd0 := cell_later hb8 kc0
            have kd1 := cell_later hb8 kc1
            have s8 : wr.heap.size < w8.heap.size := Nat.lt_of_lt_of_le s7 hb8.size
            clear kc0 kc1 hb7 hb8 h67 h68 hD s7
            generalize tk K pt tx = tt at *
            cases tt
            · have HN : Hid (PO = none) := by unfold Hid; rw [← H.out]; rfl
              clear H
              go_wp2
              go_ret2
              rw [HN.out]
              exact ⟨rfl, hB8⟩
            · rw [if_pos rfl] at H
              go_wp2
              exact ⟨⟨q + 1, acc, la, mr2, by omega, by go_num, rfl, rfl, by omega, hlal, ow8, H, hB8⟩, by simp [intOf]; omega⟩
          · have hk0 : (K != 0) = true := by rw [bne_iff_ne]; exact h0
            rw [if_neg h0] at H
            clear h0 h2
            go_wp2_with fail
            refine (HC.out _).mono ?_
            rintro e w6 ⟨⟨ra, la, rfl, hra, hla⟩, n6, rfl⟩
            rw [e1, e2, e3, ← hra, ← hla] at H
            have hral : ra.size ≤ s.size := by
              have h := (ahead_le 47 lt.data.toList).1
              rw [← hra] at h; simp at h; omega
            have hlal : la.size ≤ s.size := by
              have h := (ahead_le 47 lt.data.toList).2
              rw [← hla] at h; simp at h; omega
            generalize (!(Pm.behind 47 lt.data.toList).isEmpty) = mr2 at *
            have hd := below_drewN (Below.refl (wr.alloc (.cells #[.int .i64 K, .string pt] 307)).heap.size (wr.alloc (.cells #[.int .i64 K, .string pt] 307))) n6
            have hD := bel_of hA6 hd
            clear HC hra hla e1 e2 e3
            go_wp2_with fail
            refine (HU.out ra _ hral).mono ?_
            rintro e w7 ⟨rfl, hb7⟩
            generalize Pm.unT ra.data.toList = tx at *
            have h67 := bel_of hD hb7
            have kc0 := cell_later hb7 (a := ⟨wr.heap.size, 0, none⟩) (v := .int .i64 K) (cell_later hd (by simp))
            have kc1 := cell_later hb7 (a := ⟨wr.heap.size, 1, none⟩) (v := .string pt) (cell_later hd (by simp))
            have s7 : wr.heap.size < w7.heap.size := Nat.lt_of_lt_of_le (by simp) (Nat.le_trans hd.size hb7.size)
            go_wp2_with fail
            refine (HT.out tx _).mono ?_
            rintro e w8 ⟨rfl, hb8⟩
            have h68 := bel_of h67 hb8
            have hB8 := bel_of hbw h68
            have ow8 := owns_below ow h68
            have kd0 := cell_later hb8 kc0
            have kd1 := cell_later hb8 kc1
            have s8 : wr.heap.size < w8.heap.size := Nat.lt_of_lt_of_le s7 hb8.size
            clear kc0 kc1 hb7 hb8 h67 h68 hD s7
            generalize tk K pt tx = tt at *
            cases tt
            · have HN : Hid (PO = none) := by unfold Hid; rw [← H.out]; rfl
              clear H
              go_wp2
              go_ret2
              rw [HN.out]
              exact ⟨rfl, hB8⟩
            · rw [if_pos rfl] at H
              go_wp2_with (at_builtin; refine wpList_append_lies _ rfl _ _ 92 rfl w.heap.size 129 i0 _ 2 32 Tryz.underlying92 hi hz0 hz1 hz2 rfl (by omega) (.slice va acc.length vc) acc.length (prCells acc) rfl (ow8.alloc _) ⟨w8.heap.size, 0, none⟩ 1 1 [.string pt, .string tx] rfl rfl ?c1 ?c2 (by omega) ?c3 ?c4 ?c5 _ rfl ?_)
              case c1 =>
                intro j x hj
                match j, hj with
                | 0, hj => simp at hj; subst hj; simp [Addr.add]
                | 1, hj => simp at hj; subst hj; simp [Addr.add]
              case c2 => intro x hx; simp at hx; rcases hx with rfl | rfl <;> rfl
              case c3 => unfold maxLen; omega
              case c4 => omega
              case c5 => simp; have := hB8.size; omega
              intro gg cap wn hown hgrow hat hltn
              have hA9 := (Below.refl w8.heap.size w8).alloc (Nat.le_refl _) (.cells #[.string pt, .string tx] 129)
              have hB9 := (bel_of hB8 hA9).grown hgrow (by have := hB8.size; simp; omega) (fun r hr => by have := own_ge ow8 r hr; omega)
              clear hgrow ow8 hA9
              go_wp2
              refine ⟨⟨q + 1, acc ++ [(pt, tx)], la, mr2, by omega, by go_num, rfl, rfl, by simp; omega, hlal, ?_, H, hB9⟩, by simp [intOf]; omega⟩
              rw [List.length_append, prCells_snoc]
              exact hown
    · have hge : ps.drop q = [] := List.drop_eq_nil_of_le (by omega)
      rw [hge, matchB] at H
      cases mr
      · have HS : Hid (PO = some acc) := by unfold Hid; rw [← H.out]; rfl
        clear H
        go_wp2
        go_ret2
        rw [HS.out]
        exact ⟨⟨_, rfl, ow⟩, hbw⟩
      · have HN : Hid (PO = none) := by unfold Hid; rw [← H.out]; rfl
        clear H
        go_wp2
        go_ret2
        rw [HN.out]
        exact ⟨rfl, hbw⟩
end Go.Proofs.YtbiggccolpchcaaGreatDoor

/- Match: a pattern's names and what they stand for in a path, in new memory; nothing old in memory turns. -/
namespace Go.Proofs.YtbiggccolpchcaaGreatDoor
open Go.RowKit

def matchS (a b : List UInt8) : Int × List Prm :=
  match patternOf a with
  | none => (8, [])
  | some ps => if Pm.isPath b = true then (match matchB ps (b.drop 1) true [] with
    | none => (11, [])
    | some fs => (0, fs)) else (3, [])
def MsPost (R : Int × List Prm) (B : Nat) (r : Ending) (w' : World) : Prop :=
  ∃ v, r = .returned (.tuple #[v, .int .i64 R.1]) ∧ w'.ownsRow B 129 2 v R.2.length (prCells R.2)

set_option maxRecDepth 100000 in
set_option maxHeartbeats 1000000 in
theorem rMatch_any (s t : ByteArray) (mx : Int) (w : World) (hs : s.size ≤ 281474976710656) (ht : t.size ≤ 140737488355328) (hm : w.cell? ⟨0, 0, none⟩ = some (.int .i64 mx)) :
    Calls Tryz.prog 142 #[.string s, .string t] w fun r w' =>
      MsPost (matchS s.data.toList t.data.toList) w.heap.size r w' ∧ Below w.heap.size w w' := by
  have HRP := hid (fun W (hW : Below w.heap.size w W) => readPattern_any s mx W hs (cell_later hW hm))
  have HIP := hid (fun W => wIsPath_any t W ht)
  have HL1 := hid (fun ps (h : patternOf s.data.toList = some ps) => patternOf_length h)
  have HT1 : Hid (Pm.isPath t.data.toList = true → 1 ≤ t.size) := fun h => by
    rcases Nat.eq_zero_or_pos t.size with h' | h'
    · have : t.data.toList = [] := List.eq_nil_of_length_eq_zero (by simpa using h')
      rw [this] at h; exact absurd h (by decide)
    · exact h'
  generalize hR : matchS s.data.toList t.data.toList = R
  have HR := hid hR
  clear hR
  unfold matchS at HR
  generalize patternOf s.data.toList = P at *
  generalize Pm.isPath t.data.toList = ip at *
  go_enter Tryz.func142, Tryz.ntmps142
  go_wp2_with fail
  refine (HRP.out _ (Below.refl _ _)).mono ?_
  rintro e w1 ⟨hr1, hb1⟩
  cases P with
  | none =>
    have HN : Hid (R = (8, [])) := HR.out.symm
    clear HR HRP HIP HL1 HT1
    obtain rfl : e = _ := hr1
    go_wp2
    go_ret2
    rw [HN.out]
    exact ⟨⟨_, rfl, World.ownsRow_nil _ _ _ _⟩, hb1⟩
  | some ps =>
    obtain ⟨v, rfl, ow1⟩ := hr1
    have hl1 := HL1.out ps rfl
    obtain ⟨pa, pc, rfl, hpc1⟩ := pc_of_owns ow1
    clear ow1 HRP HL1
    go_wp2_with fail
    refine (HIP.out _).mono ?_
    rintro e w2 ⟨rfl, hb2⟩
    have hB2 := bel_of hb1 hb2
    have hpc2 := hpc1.below hb2
    cases ip
    · have HN : Hid (R = (3, [])) := HR.out.symm
      clear HR HIP HT1
      go_wp2
      go_ret2
      rw [HN.out]
      exact ⟨⟨_, rfl, World.ownsRow_nil _ _ _ _⟩, hB2⟩
    · have HM := hid (fun W hW => match_any ps pa pc t W hW hl1 (HT1.out rfl) ht)
      simp only [if_true] at HR
      generalize matchB ps (t.data.toList.drop 1) true [] = MO at *
      clear HT1 HIP
      go_wp2_with fail
      refine (HM.out _ hpc2).mono ?_
      rintro e w3 ⟨hr3, hb3⟩
      have hB3 := bel_of hB2 hb3
      clear HM
      cases MO with
      | none =>
        have HN : Hid (R = (11, [])) := HR.out.symm
        clear HR
        obtain rfl : e = _ := hr3
        go_wp2
        go_ret2
        rw [HN.out]
        exact ⟨⟨_, rfl, World.ownsRow_nil _ _ _ _⟩, hB3⟩
      | some fs =>
        have HN : Hid (R = (0, fs)) := HR.out.symm
        clear HR
        obtain ⟨v, rfl, ow3⟩ := hr3
        have OW := hid (owns_base ow3 hB2.size)
        clear ow3
        go_wp2
        go_ret2
        rw [HN.out]
        exact ⟨⟨_, rfl, OW.out⟩, hB3⟩
set_option maxHeartbeats 1000000 in
theorem pMatch_any (s t : ByteArray) (mx : Int) (w : World) (hs : s.size ≤ 281474976710656) (ht : t.size ≤ 140737488355328) (hm : w.cell? ⟨0, 0, none⟩ = some (.int .i64 mx)) :
    Calls Tryz.prog 89 #[.string s, .string t] w fun r w' =>
      MsPost (matchS s.data.toList t.data.toList) w.heap.size r w' ∧ Below w.heap.size w w' := by
  have HO := hid (rMatch_any s t mx w hs ht hm)
  go_enter Tryz.func89, Tryz.ntmps89
  go_wp2_with (go_at_call 142; refine HO.out.mono ?_; rintro e w' ⟨⟨v, rfl, ow⟩, hb⟩)
  go_ret2
  exact ⟨⟨v, rfl, ow⟩, hb⟩
end Go.Proofs.YtbiggccolpchcaaGreatDoor

/- A table of patterns in memory, and what Find tells of it; nothing old in memory turns. -/
namespace Go.Proofs.YtbiggccolpchcaaGreatDoor
open Go.RowKit

structure Ent where
  m : ByteArray
  ps : List (Int × ByteArray)
  a : Option Addr
  c : Nat
def entC (es : List Ent) : List Value := es.flatMap fun e => [.string e.m, .slice e.a e.ps.length e.c]
theorem entC_snoc (es : List Ent) (e : Ent) : entC (es ++ [e]) = entC es ++ [.string e.m, .slice e.a e.ps.length e.c] := by simp [entC]
theorem entC_get : ∀ (es : List Ent) (i : Nat) (h : i < es.length), (entC es)[i * 2]? = some (.string es[i].m) ∧ (entC es)[i * 2 + 1]? = some (.slice es[i].a es[i].ps.length es[i].c)
  | [], i, h => absurd h (by simp)
  | f :: fs, 0, h => by simp [entC]
  | f :: fs, i + 1, h => by
    have := entC_get fs i (by simpa using h)
    have e : entC (f :: fs) = (.string f.m) :: (.slice f.a f.ps.length f.c) :: entC fs := by simp [entC]
    rw [e, show (i + 1) * 2 = i * 2 + 1 + 1 from by omega, List.getElem?_cons_succ, List.getElem?_cons_succ, show i * 2 + 1 + 1 + 1 = (i * 2 + 1) + 1 + 1 from by omega, List.getElem?_cons_succ, List.getElem?_cons_succ]
    exact this
def EnAt (es : List Ent) (a : Option Addr) (w : World) : Prop :=
  ∀ i (h : i < es.length), ∃ g, a = some ⟨g, 0, none⟩ ∧ g < w.heap.size ∧ w.cell? ⟨g, i * 2, none⟩ = some (.string es[i].m) ∧ w.cell? ⟨g, i * 2 + 1, none⟩ = some (.slice es[i].a es[i].ps.length es[i].c)
theorem EnAt.below {es : List Ent} {a : Option Addr} {w w' : World} (h : EnAt es a w) (hb : Below w.heap.size w w') : EnAt es a w' := fun i hi => by
  obtain ⟨g, h1, h2, h3, h4⟩ := h i hi
  exact ⟨g, h1, Nat.lt_of_lt_of_le h2 hb.size, cell_later hb h3, cell_later hb h4⟩
theorem en_of_owns {w : World} {B : Nat} {e : TypeId} {v : Value} {es : List Ent} (h : w.ownsRow B e 2 v es.length (entC es)) : ∃ a cap, v = .slice a es.length cap ∧ EnAt es a w := by
  obtain ⟨h1, h2⟩ := h
  rcases h2 with ⟨h2, h3⟩ | ⟨g, cap, cur, hv, hB, hg, hc, hm, hsz, ht⟩
  · refine ⟨none, 0, ?_, fun i hi => ?_⟩
    · rw [h3]; exact h2
    · omega
  · refine ⟨some ⟨g, 0, none⟩, cap, hv, fun i hi => ⟨g, rfl, ?_, ?_, ?_⟩⟩
    · rcases Nat.lt_or_ge g w.heap.size with h' | h'
      · exact h'
      · simp [Array.getElem?_eq_none h'] at hg
    all_goals
      obtain ⟨m1, m2⟩ := entC_get es i hi
      rw [← ht, List.getElem?_take] at m1 m2
      rw [Lib.cell_of_heap hg]
    · split at m1
      · simpa using m1
      · cases m1
    · split at m2
      · simpa using m2
      · cases m2
/- the table whose list lies at a cell; its patterns lie in blocks of their own -/
structure TbAt (gt o B : Nat) (es : List Ent) (v : Value) (w : World) : Prop where
  cel : w.cell? ⟨gt, o, none⟩ = some v
  fre : w.frozen? ⟨gt, o, none⟩ = false
  row : w.ownsRow B 233 2 v es.length (entC es)
  pat : ∀ i (h : i < es.length), PcAt es[i].ps es[i].a w
  far : ∀ i (h : i < es.length) (g : Nat), es[i].a = some ⟨g, 0, none⟩ → g ≠ gt ∧ v.ownBlock ≠ some g
  blk : ∀ i (h : i < es.length) (g : Nat), es[i].a = some ⟨g, 0, none⟩ → g < w.heap.size
  own : v.ownBlock ≠ some gt
  few : es.length ≤ 24
  szs : ∀ i (h : i < es.length), es[i].ps.length ≤ 1000000
  new : ∀ i (h : i < es.length) (g : Nat), es[i].a = some ⟨g, 0, none⟩ → B ≤ g
theorem TbAt.lt {gt o B : Nat} {es : List Ent} {v : Value} {w : World} (h : TbAt gt o B es v w) : gt < w.heap.size := block_lt_of_cell h.cel
theorem TbAt.below {gt o B : Nat} {es : List Ent} {v : Value} {w w' : World} (h : TbAt gt o B es v w) (hb : Below w.heap.size w w') : TbAt gt o B es v w' :=
  ⟨cell_later hb h.cel, by rw [hb.frozen h.lt]; exact h.fre, owns_below h.row hb, fun i hi => (h.pat i hi).below hb, h.far, fun i hi g hg => Nat.lt_of_lt_of_le (h.blk i hi g hg) hb.size, h.own, h.few, h.szs, h.new⟩
def findG (m l : List UInt8) : List Ent → Nat → Nat × List Prm × Int
  | [], _ => (0, [], 11)
  | e :: r, k => if e.m.data.toList = m then (match matchB e.ps (l.drop 1) true [] with
    | some fs => (k, fs, 0)
    | none => findG m l r (k + 1)) else findG m l r (k + 1)
theorem bne_lists (a b : ByteArray) : (a.toList == b.toList) = decide (a.data.toList = b.data.toList) := by
  rw [ByteArray.toList_eq, ByteArray.toList_eq, Bool.eq_iff_iff, beq_iff_eq, decide_eq_true_iff]
set_option maxRecDepth 100000 in
set_option maxHeartbeats 2000000 in
theorem tFind_any (gt o B : Nat) (es : List Ent) (v : Value) (m s : ByteArray) (w : World) (hT : TbAt gt o B es v w) (hp : Pm.isPath s.data.toList = true) (h1s : 1 ≤ s.size) (hs : s.size ≤ 140737488355328) :
    Calls Tryz.prog 106 #[.pointer (some ⟨gt, o, none⟩), .string m, .string s] w fun r w' => (∃ vv, r = .returned (.tuple #[.int .i64 (findG m.data.toList s.data.toList es 0).1, vv, .int .i64 (findG m.data.toList s.data.toList es 0).2.2]) ∧ w'.ownsRow w.heap.size 129 2 vv (findG m.data.toList s.data.toList es 0).2.1.length (prCells (findG m.data.toList s.data.toList es 0).2.1)) ∧ Below w.heap.size w w' := by
  have HIP := hid (fun W => wIsPath_any s W hs)
  rw [hp] at HIP
  have HT := hid hT
  obtain ⟨av, cv, rfl, hen⟩ := en_of_owns hT.row
  have HE := hid hen
  have cel := hT.cel
  have lt0 := hT.lt
  have hfw := hT.few
  clear hT hen
  generalize hFF : findG m.data.toList s.data.toList es 0 = FF at *
  have HFF := hid hFF
  clear hFF
  go_enter Tryz.func106, Tryz.ntmps106
  go_wp2_with fail
  refine (HIP.out _).mono ?_
  rintro e w1 ⟨rfl, hb1⟩
  have cel1 := cell_later hb1 cel
  have lt1 : gt < w1.heap.size := Nat.lt_of_lt_of_le lt0 hb1.size
  clear HIP cel lt0
  go_wp2_with fail
  go_loopw [21] (fun i wr => ∃ k : Nat, k ≤ es.length ∧ i = .int .i64 k ∧ Hid (findG m.data.toList s.data.toList (es.drop k) k = FF) ∧ Below w.heap.size w wr) (fun i _ => es.length - (intOf i).toNat)
  case atStart => exact ⟨0, Nat.zero_le _, rfl, HFF, hb1⟩
  case round =>
    obtain ⟨k, hk, rfl, HK, hbw⟩ := hrel
    by_cases hlt : k < es.length
    · obtain ⟨g, rfl, hg, hc1, hc2⟩ := (HE.out.below hbw) k hlt
      have hpc := (HT.out.pat k hlt).below hbw
      have hps := HT.out.szs k hlt
      rw [← List.getElem_cons_drop hlt, findG] at HK
      generalize es[k] = en at *
      obtain ⟨em, eps, ea, ec⟩ := en
      simp only at hc1 hc2 hpc hps HK
      have hA := (Below.refl wr.heap.size wr).alloc (Nat.le_refl _) (.cells #[.string em, .slice ea eps.length ec] 233)
      have hB := bel_of hbw hA
      have HM := hid (fun W (hW : Below w.heap.size w W) (h : PcAt eps ea W) => match_any eps ea ec s W h hps h1s hs)
      have hbe := bne_lists em m
      by_cases hme : em.data.toList = m.data.toList
      · rw [if_pos hme] at HK
        rw [decide_eq_true hme] at hbe
        go_wp2_with fail
        refine (HM.out _ hB (hpc.below hA)).mono ?_
        rintro e w2 ⟨hma, hb2⟩
        have hB2 := bel_of hB hb2
        cases hMB : matchB eps (List.drop 1 s.data.toList) true [] with
        | none =>
          rw [hMB] at hma HK
          obtain rfl : e = .returned (.tuple #[.slice none 0 0, .bool false]) := hma
          go_wp2
          exact ⟨⟨k + 1, by omega, by go_num, HK, hB2⟩, by simp [intOf]; omega⟩
        | some pf =>
          rw [hMB] at hma HK
          obtain ⟨vv, rfl, ow⟩ := hma
          have HOW := hid ow
          clear ow hMB
          go_wp2
          try rw [Exit.noGoto_ret]
          refine bodyPost_ret (v := .tuple #[.int .i64 k, vv, .int .i64 0]) (by simp [results, Tryz.results106, go_sem]) rfl ?_
          rw [← HK.out]
          exact ⟨⟨vv, rfl, owns_base HOW.out (Nat.le_trans hbw.size hA.size)⟩, hB2⟩
      · rw [if_neg hme] at HK
        rw [decide_eq_false hme] at hbe
        clear HM
        go_wp2
        exact ⟨⟨k + 1, by omega, by go_num, HK, hB⟩, by simp [intOf]; omega⟩
    · have hke : k = es.length := by omega
      rw [hke, List.drop_length, findG] at HK
      go_wp2
      try rw [Exit.noGoto_ret]
      refine bodyPost_ret (v := .tuple #[.int .i64 0, .slice none 0 0, .int .i64 11]) (by simp [results, Tryz.results106, go_sem]) rfl ?_
      rw [← HK.out]
      exact ⟨⟨_, rfl, World.ownsRow_nil _ _ _ _⟩, hbw⟩
set_option maxHeartbeats 400000 in
theorem pFind_any (gt B : Nat) (es : List Ent) (v : Value) (m s : ByteArray) (w : World) (hT : TbAt gt 0 B es v w) (hp : Pm.isPath s.data.toList = true) (h1s : 1 ≤ s.size) (hs : s.size ≤ 140737488355328) :
    Calls Tryz.prog 37 #[.pointer (some ⟨gt, 0, none⟩), .string m, .string s] w fun r w' => (∃ vv, r = .returned (.tuple #[.int .i64 (findG m.data.toList s.data.toList es 0).1, vv, .int .i64 (findG m.data.toList s.data.toList es 0).2.2]) ∧ w'.ownsRow w.heap.size 129 2 vv (findG m.data.toList s.data.toList es 0).2.1.length (prCells (findG m.data.toList s.data.toList es 0).2.1)) ∧ Below w.heap.size w w' := by
  have HF := hid (tFind_any gt 0 B es v m s w hT hp h1s hs)
  generalize findG m.data.toList s.data.toList es 0 = FF at *
  have lt0 := hT.lt
  clear hT
  go_enter Tryz.func37, Tryz.ntmps37
  go_wp2_with fail
  refine HF.out.mono ?_
  rintro e w1 ⟨⟨vv, rfl, ow⟩, hb1⟩
  have HOW := hid ow
  clear ow HF
  go_wp2
  refine bodyPost_ret (v := .tuple #[.int .i64 FF.1, vv, .int .i64 FF.2.2]) (by simp [results, Tryz.results37, go_sem]) rfl ?_
  exact ⟨⟨vv, rfl, HOW.out⟩, hb1⟩
end Go.Proofs.YtbiggccolpchcaaGreatDoor
