/- Texts that follow one another, joined. -/
import Derived.Test.YtnohadlihgjppaaDoorJoin20
import Derived.OwnWalk
/- match: what a pattern's names stand for in a path, in new memory, or that the pattern has not the path; nothing old in memory turns. -/
namespace Go.Proofs.YtnohadlihgjppaaDoor
open Go.RowKit

abbrev Prm := ByteArray × ByteArray
def rawOf (k : Int) (l : List UInt8) : List UInt8 := if k = 2 then l else Pm.ahead 47 l
def leftOf (k : Int) (l : List UInt8) : List UInt8 := if k = 2 then l else (Pm.behind 47 l).drop 1
def moreOf (k : Int) (l : List UInt8) : Bool := if k = 2 then false else !(Pm.behind 47 l).isEmpty
def matchB : List (Int × ByteArray) → List UInt8 → Bool → List Prm → Option (List Prm)
  | [], _, mr, acc => if mr = true then none else some acc
  | p :: r, l, mr, acc => if mr = false then none else if tk p.1 p.2 (Pm.unT (rawOf p.1 l)) = true then matchB r (leftOf p.1 l) (moreOf p.1 l) (if p.1 = 0 then acc else acc ++ [(p.2, Pm.unT (rawOf p.1 l))]) else none
def prCells (fs : List Prm) : List Value := fs.flatMap fun f => [.string f.1, .string f.2]
theorem prCells_snoc (ps : List Prm) (p : Prm) : prCells (ps ++ [p]) = prCells ps ++ [.string p.1, .string p.2] := by simp [prCells]
theorem Tryd.infoPr : (Tryd.prog.info? 71).map (fun i => (i.zero, i.size, i.bytes)) = some (some (.agg #[.string ⟨#[]⟩, .string ⟨#[]⟩]), 2, 32) := by kernel_rfl
def MaPost (PO : Option (List Prm)) (B : Nat) (r : Ending) (w' : World) : Prop :=
  match PO with
  | none => r = .returned (.tuple #[.slice none 0 0, .bool false])
  | some ps => ∃ v, r = .returned (.tuple #[v, .bool true]) ∧ w'.ownsRow B 71 2 v ps.length (prCells ps)
theorem ahead_le (c : UInt8) (l : List UInt8) : (Pm.ahead c l).length ≤ l.length ∧ ((Pm.behind c l).drop 1).length ≤ l.length := by
  have h := congrArg List.length (Pm.ahead_behind c l)
  rw [List.length_append] at h
  constructor
  · omega
  · rw [List.length_drop]; omega

set_option maxRecDepth 100000 in
set_option maxHeartbeats 4000000 in
theorem match_any (ps : List (Int × ByteArray)) (a : Option Addr) (ca : Nat) (s : ByteArray) (w : World) (hp : PcAt ps a w) (hl : ps.length ≤ 1000000) (h1s : 1 ≤ s.size) (hs : s.size ≤ 140737488355328) :
    Calls Tryd.prog 51 #[.slice a ps.length ca, .string s] w fun r w' =>
      MaPost (matchB ps (s.data.toList.drop 1) true []) w.heap.size r w' ∧ Below w.heap.size w w' := by
  obtain ⟨i0, hi, hz0, hz1, hz2⟩ := info_parts Tryd.infoPr
  have HP := hid hp
  clear hp
  generalize hPO : matchB ps (s.data.toList.drop 1) true [] = PO
  have hex : (s.extract 1 s.size).data.toList = s.data.toList.drop 1 := by rw [Lib.extract_data, List.take_of_length_le (by simp)]
  rw [← hex] at hPO
  have HPO := hid hPO
  have hez : (s.extract 1 s.size).size ≤ s.size := by simp
  clear hPO hex
  go_enter Tryd.func51, Tryd.ntmps51
  go_wp2_with fail
  generalize s.extract 1 s.size = s1 at *
  go_loopw [6, 7, 8, 10, 11, 12, 13, 18] (fun p l m _ _ _ _ i wr => ∃ (q : Nat) (acc : List Prm) (lt : ByteArray) (mr : Bool), q ≤ ps.length ∧ i = .int .i64 q ∧ l = .string lt ∧ m = .bool mr ∧ acc.length ≤ q ∧ lt.size ≤ s.size ∧ wr.ownsRow w.heap.size 71 2 p acc.length (prCells acc) ∧ Hid (matchB (ps.drop q) lt.data.toList mr acc = PO) ∧ Below w.heap.size w wr) (fun _ _ _ _ _ _ _ i _ => ps.length - (intOf i).toNat)
  case atStart => exact ⟨0, [], s1, true, Nat.zero_le _, rfl, rfl, rfl, Nat.le_refl _, hez, World.ownsRow_nil _ _ _ _, HPO, Below.refl _ _⟩
  case round =>
    obtain ⟨q, acc, lt, mr, hq, rfl, rfl, rfl, hacc, hlt2, ow, H, hbw⟩ := hrel
    obtain ⟨va, vc, rfl⟩ : ∃ a c, u6 = .slice a acc.length c := by
      rcases ow.2 with ⟨h2, h3⟩ | ⟨g, cap, cur, hv, _⟩
      · exact ⟨none, 0, by rw [h3]; exact h2⟩
      · exact ⟨_, _, hv⟩
    by_cases hlt : q < ps.length
    · obtain ⟨g, rfl, hg, hc1, hc2⟩ := (HP.out.below hbw) q hlt
      rw [← List.getElem_cons_drop hlt, matchB] at H
      generalize ps[q] = pq at *
      obtain ⟨K, pt⟩ := pq
      simp only at hc1 hc2 H
      have hA6 := (Below.refl wr.heap.size wr).alloc (Nat.le_refl _) (.cells #[.int .i64 K, .string pt] 127)
      have hB6 := bel_of hbw hA6
      have ow6 := owns_below ow hA6
      cases mr
      · have HN : Hid (PO = none) := by unfold Hid; rw [← H.out]; rfl
        clear H
        go_wp2
        go_ret2
        rw [HN.out]
        exact ⟨rfl, hB6⟩
      · rw [if_neg (by simp)] at H
        have HU := hid (fun (x : ByteArray) W (hx : x.size ≤ s.size) => wUnescape_any x W (by omega))
        have HT := hid (fun x W => takes_any K pt x W)
        have HC := hid (fun W => cut1_any lt 47 W (by unfold maxLen; omega))
        by_cases h2 : K = 2
        · have hk2 : (K == 2) = true := by rw [h2]; rfl
          have hk0 : (K != 0) = true := by rw [h2]; rfl
          rw [show rawOf K lt.data.toList = lt.data.toList from if_pos h2, show leftOf K lt.data.toList = lt.data.toList from if_pos h2, show moreOf K lt.data.toList = false from if_pos h2, if_neg (by omega : ¬ K = 0)] at H
          have hD := hA6
          clear HC h2
          go_wp2_with fail
          refine (HU.out lt _ hlt2).mono ?_
          rintro e w7 ⟨rfl, hb7⟩
          generalize Pm.unT lt.data.toList = tx at *
          have h67 := bel_of hD hb7
          have kc0 := cell_later hb7 (a := ⟨wr.heap.size, 0, none⟩) (v := .int .i64 K) (by simp)
          have kc1 := cell_later hb7 (a := ⟨wr.heap.size, 1, none⟩) (v := .string pt) (by simp)
          have s7 : wr.heap.size < w7.heap.size := Nat.lt_of_lt_of_le (by simp) hb7.size
          go_wp2_with fail
          refine (HT.out tx _).mono ?_
          rintro e w8 ⟨rfl, hb8⟩
          have h68 := bel_of h67 hb8
          have hB8 := bel_of hbw h68
          have ow8 := owns_below ow h68
          have kd0 := cell_later hb8 kc0
          have kd1 := cell_later hb8 kc1
          have s8 : wr.heap.size < w8.heap.size := Nat.lt_of_lt_of_le s7 hb8.size
          clear kc0 kc1 hb7 hb8 h67 h68 hD s7
          generalize tk K pt tx = tt at *
          cases tt
          · have HN : Hid (PO = none) := by unfold Hid; rw [← H.out]; rfl
            clear H
            go_wp2
            go_ret2
            rw [HN.out]
            exact ⟨rfl, hB8⟩
          · rw [if_pos rfl] at H
            go_wp2_with (at_builtin; refine wpList_append_lies _ rfl _ _ 48 rfl w.heap.size 71 i0 _ 2 32 Tryd.underlying48 hi hz0 hz1 hz2 rfl (by omega) (.slice va acc.length vc) acc.length (prCells acc) rfl (ow8.alloc _) ⟨w8.heap.size, 0, none⟩ 1 1 [.string pt, .string tx] rfl rfl ?c1 ?c2 (by omega) ?c3 ?c4 ?c5 _ rfl ?_)
            case c1 =>
              intro j x hj
              match j, hj with
              | 0, hj => simp at hj; subst hj; simp [Addr.add]
              | 1, hj => simp at hj; subst hj; simp [Addr.add]
            case c2 => intro x hx; simp at hx; rcases hx with rfl | rfl <;> rfl
            case c3 => unfold maxLen; omega
            case c4 => omega
            case c5 => simp; have := hB8.size; omega
            intro gg cap wn hown hgrow hat hltn
            have hA9 := (Below.refl w8.heap.size w8).alloc (Nat.le_refl _) (.cells #[.string pt, .string tx] 71)
            have hB9 := (bel_of hB8 hA9).grown hgrow (by have := hB8.size; simp; omega) (fun r hr => by have := own_ge ow8 r hr; omega)
            clear hgrow ow8 hA9
            go_wp2
            refine ⟨⟨q + 1, acc ++ [(pt, tx)], lt, false, by omega, by go_num, rfl, rfl, by simp; omega, hlt2, ?_, H, hB9⟩, by simp [intOf]; omega⟩
            rw [List.length_append, prCells_snoc]
            exact hown
        · have hk2 : (K == 2) = false := by rw [beq_eq_false_iff_ne]; exact h2
          have e1 : rawOf K lt.data.toList = Pm.ahead 47 lt.data.toList := if_neg h2
          have e2 : leftOf K lt.data.toList = (Pm.behind 47 lt.data.toList).drop 1 := if_neg h2
          have e3 : moreOf K lt.data.toList = !(Pm.behind 47 lt.data.toList).isEmpty := if_neg h2
          by_cases h0 : K = 0
          · have hk0 : (K != 0) = false := by rw [h0]; rfl
            rw [if_pos h0] at H
            clear h0 h2
            go_wp2_with fail
            refine (HC.out _).mono ?_
            rintro e w6 ⟨⟨ra, la, rfl, hra, hla⟩, n6, rfl⟩
            rw [e1, e2, e3, ← hra, ← hla] at H
            have hral : ra.size ≤ s.size := by
              have h := (ahead_le 47 lt.data.toList).1
              rw [← hra] at h; simp at h; omega
            have hlal : la.size ≤ s.size := by
              have h := (ahead_le 47 lt.data.toList).2
              rw [← hla] at h; simp at h; omega
            generalize (!(Pm.behind 47 lt.data.toList).isEmpty) = mr2 at *
            have hd := below_drewN (Below.refl (wr.alloc (.cells #[.int .i64 K, .string pt] 127)).heap.size (wr.alloc (.cells #[.int .i64 K, .string pt] 127))) n6
            have hD := bel_of hA6 hd
            clear HC hra hla e1 e2 e3
            go_wp2_with fail
            refine (HU.out ra _ hral).mono ?_
            rintro e w7 ⟨rfl, hb7⟩
            generalize Pm.unT ra.data.toList = tx at *
            have h67 := bel_of hD hb7
            have kc0 := cell_later hb7 (a := ⟨wr.heap.size, 0, none⟩) (v := .int .i64 K) (cell_later hd (by simp))
            have kc1 := cell_later hb7 (a := ⟨wr.heap.size, 1, none⟩) (v := .string pt) (cell_later hd (by simp))
            have s7 : wr.heap.size < w7.heap.size := Nat.lt_of_lt_of_le (by simp) (Nat.le_trans hd.size hb7.size)
            go_wp2_with fail
            refine (HT.out tx _).mono ?_
            rintro e w8 ⟨rfl, hb8⟩
            have h68 := bel_of h67 hb8
            have hB8 := bel_of hbw h68
            have ow8 := owns_below ow h68
            have kd0 := cell_later hb8 kc0
            have kd1 := cell_later hb8 kc1
            have s8 : wr.heap.size < w8.heap.size := Nat.lt_of_lt_of_le s7 hb8.size
            clear kc0 kc1 hb7 hb8 h67 h68 hD s7
            generalize tk K pt tx = tt at *
            cases tt
            · have HN : Hid (PO = none) := by unfold Hid; rw [← H.out]; rfl
              clear H
              go_wp2
              go_ret2
              rw [HN.out]
              exact ⟨rfl, hB8⟩
            · rw [if_pos rfl] at H
              go_wp2
              exact ⟨⟨q + 1, acc, la, mr2, by omega, by go_num, rfl, rfl, by omega, hlal, ow8, H, hB8⟩, by simp [intOf]; omega⟩
          · have hk0 : (K != 0) = true := by rw [bne_iff_ne]; exact h0
            rw [if_neg h0] at H
            clear h0 h2
            go_wp2_with fail
            refine (HC.out _).mono ?_
            rintro e w6 ⟨⟨ra, la, rfl, hra, hla⟩, n6, rfl⟩
            rw [e1, e2, e3, ← hra, ← hla] at H
            have hral : ra.size ≤ s.size := by
              have h := (ahead_le 47 lt.data.toList).1
              rw [← hra] at h; simp at h; omega
            have hlal : la.size ≤ s.size := by
              have h := (ahead_le 47 lt.data.toList).2
              rw [← hla] at h; simp at h; omega
            generalize (!(Pm.behind 47 lt.data.toList).isEmpty) = mr2 at *
            have hd := below_drewN (Below.refl (wr.alloc (.cells #[.int .i64 K, .string pt] 127)).heap.size (wr.alloc (.cells #[.int .i64 K, .string pt] 127))) n6
            have hD := bel_of hA6 hd
            clear HC hra hla e1 e2 e3
            go_wp2_with fail
            refine (HU.out ra _ hral).mono ?_
            rintro e w7 ⟨rfl, hb7⟩
            generalize Pm.unT ra.data.toList = tx at *
            have h67 := bel_of hD hb7
            have kc0 := cell_later hb7 (a := ⟨wr.heap.size, 0, none⟩) (v := .int .i64 K) (cell_later hd (by simp))
            have kc1 := cell_later hb7 (a := ⟨wr.heap.size, 1, none⟩) (v := .string pt) (cell_later hd (by simp))
            have s7 : wr.heap.size < w7.heap.size := Nat.lt_of_lt_of_le (by simp) (Nat.le_trans hd.size hb7.size)
            go_wp2_with fail
            refine (HT.out tx _).mono ?_
            rintro e w8 ⟨rfl, hb8⟩
            have h68 := bel_of h67 hb8
            have hB8 := bel_of hbw h68
            have ow8 := owns_below ow h68
            have kd0 := cell_later hb8 kc0
            have kd1 := cell_later hb8 kc1
            have s8 : wr.heap.size < w8.heap.size := Nat.lt_of_lt_of_le s7 hb8.size
            clear kc0 kc1 hb7 hb8 h67 h68 hD s7
            generalize tk K pt tx = tt at *
            cases tt
            · have HN : Hid (PO = none) := by unfold Hid; rw [← H.out]; rfl
              clear H
              go_wp2
              go_ret2
              rw [HN.out]
              exact ⟨rfl, hB8⟩
            · rw [if_pos rfl] at H
              go_wp2_with (at_builtin; refine wpList_append_lies _ rfl _ _ 48 rfl w.heap.size 71 i0 _ 2 32 Tryd.underlying48 hi hz0 hz1 hz2 rfl (by omega) (.slice va acc.length vc) acc.length (prCells acc) rfl (ow8.alloc _) ⟨w8.heap.size, 0, none⟩ 1 1 [.string pt, .string tx] rfl rfl ?c1 ?c2 (by omega) ?c3 ?c4 ?c5 _ rfl ?_)
              case c1 =>
                intro j x hj
                match j, hj with
                | 0, hj => simp at hj; subst hj; simp [Addr.add]
                | 1, hj => simp at hj; subst hj; simp [Addr.add]
              case c2 => intro x hx; simp at hx; rcases hx with rfl | rfl <;> rfl
              case c3 => unfold maxLen; omega
              case c4 => omega
              case c5 => simp; have := hB8.size; omega
              intro gg cap wn hown hgrow hat hltn
              have hA9 := (Below.refl w8.heap.size w8).alloc (Nat.le_refl _) (.cells #[.string pt, .string tx] 71)
              have hB9 := (bel_of hB8 hA9).grown hgrow (by have := hB8.size; simp; omega) (fun r hr => by have := own_ge ow8 r hr; omega)
              clear hgrow ow8 hA9
              go_wp2
              refine ⟨⟨q + 1, acc ++ [(pt, tx)], la, mr2, by omega, by go_num, rfl, rfl, by simp; omega, hlal, ?_, H, hB9⟩, by simp [intOf]; omega⟩
              rw [List.length_append, prCells_snoc]
              exact hown
    · have hge : ps.drop q = [] := List.drop_eq_nil_of_le (by omega)
      rw [hge, matchB] at H
      cases mr
      · have HS : Hid (PO = some acc) := by unfold Hid; rw [← H.out]; rfl
        clear H
        go_wp2
        go_ret2
        rw [HS.out]
        exact ⟨⟨_, rfl, ow⟩, hbw⟩
      · have HN : Hid (PO = none) := by unfold Hid; rw [← H.out]; rfl
        clear H
        go_wp2
        go_ret2
        rw [HN.out]
        exact ⟨rfl, hbw⟩
end Go.Proofs.YtnohadlihgjppaaDoor

/- Match: a pattern's names and what they stand for in a path, in new memory; nothing old in memory turns. -/
namespace Go.Proofs.YtnohadlihgjppaaDoor
open Go.RowKit

def matchS (a b : List UInt8) : Int × List Prm :=
  match patternOf a with
  | none => (8, [])
  | some ps => if Pm.isPath b = true then (match matchB ps (b.drop 1) true [] with
    | none => (11, [])
    | some fs => (0, fs)) else (3, [])
def MsPost (R : Int × List Prm) (B : Nat) (r : Ending) (w' : World) : Prop :=
  ∃ v, r = .returned (.tuple #[v, .int .i64 R.1]) ∧ w'.ownsRow B 71 2 v R.2.length (prCells R.2)

set_option maxRecDepth 100000 in
set_option maxHeartbeats 1000000 in
theorem rMatch_any (s t : ByteArray) (mx : Int) (w : World) (hs : s.size ≤ 281474976710656) (ht : t.size ≤ 140737488355328) (hm : w.cell? ⟨1, 0, none⟩ = some (.int .i64 mx)) :
    Calls Tryd.prog 32 #[.string s, .string t] w fun r w' =>
      MsPost (matchS s.data.toList t.data.toList) w.heap.size r w' ∧ Below w.heap.size w w' := by
  have HRP := hid (fun W (hW : Below w.heap.size w W) => readPattern_any s mx W hs (cell_later hW hm))
  have HIP := hid (fun W => wIsPath_any t W ht)
  have HL1 := hid (fun ps (h : patternOf s.data.toList = some ps) => patternOf_length h)
  have HT1 : Hid (Pm.isPath t.data.toList = true → 1 ≤ t.size) := fun h => by
    rcases Nat.eq_zero_or_pos t.size with h' | h'
    · have : t.data.toList = [] := List.eq_nil_of_length_eq_zero (by simpa using h')
      rw [this] at h; exact absurd h (by decide)
    · exact h'
  generalize hR : matchS s.data.toList t.data.toList = R
  have HR := hid hR
  clear hR
  unfold matchS at HR
  generalize patternOf s.data.toList = P at *
  generalize Pm.isPath t.data.toList = ip at *
  go_enter Tryd.func32, Tryd.ntmps32
  go_wp2_with fail
  refine (HRP.out _ (Below.refl _ _)).mono ?_
  rintro e w1 ⟨hr1, hb1⟩
  cases P with
  | none =>
    have HN : Hid (R = (8, [])) := HR.out.symm
    clear HR HRP HIP HL1 HT1
    obtain rfl : e = _ := hr1
    go_wp2
    go_ret2
    rw [HN.out]
    exact ⟨⟨_, rfl, World.ownsRow_nil _ _ _ _⟩, hb1⟩
  | some ps =>
    obtain ⟨v, rfl, ow1⟩ := hr1
    have hl1 := HL1.out ps rfl
    obtain ⟨pa, pc, rfl, hpc1⟩ := pc_of_owns ow1
    clear ow1 HRP HL1
    go_wp2_with fail
    refine (HIP.out _).mono ?_
    rintro e w2 ⟨rfl, hb2⟩
    have hB2 := bel_of hb1 hb2
    have hpc2 := hpc1.below hb2
    cases ip
    · have HN : Hid (R = (3, [])) := HR.out.symm
      clear HR HIP HT1
      go_wp2
      go_ret2
      rw [HN.out]
      exact ⟨⟨_, rfl, World.ownsRow_nil _ _ _ _⟩, hB2⟩
    · have HM := hid (fun W hW => match_any ps pa pc t W hW hl1 (HT1.out rfl) ht)
      simp only [if_true] at HR
      generalize matchB ps (t.data.toList.drop 1) true [] = MO at *
      clear HT1 HIP
      go_wp2_with fail
      refine (HM.out _ hpc2).mono ?_
      rintro e w3 ⟨hr3, hb3⟩
      have hB3 := bel_of hB2 hb3
      clear HM
      cases MO with
      | none =>
        have HN : Hid (R = (11, [])) := HR.out.symm
        clear HR
        obtain rfl : e = _ := hr3
        go_wp2
        go_ret2
        rw [HN.out]
        exact ⟨⟨_, rfl, World.ownsRow_nil _ _ _ _⟩, hB3⟩
      | some fs =>
        have HN : Hid (R = (0, fs)) := HR.out.symm
        clear HR
        obtain ⟨v, rfl, ow3⟩ := hr3
        have OW := hid (owns_base ow3 hB2.size)
        clear ow3
        go_wp2
        go_ret2
        rw [HN.out]
        exact ⟨⟨_, rfl, OW.out⟩, hB3⟩
set_option maxHeartbeats 1000000 in
theorem pMatch_any (s t : ByteArray) (mx : Int) (w : World) (hs : s.size ≤ 281474976710656) (ht : t.size ≤ 140737488355328) (hm : w.cell? ⟨1, 0, none⟩ = some (.int .i64 mx)) :
    Calls Tryd.prog 15 #[.string s, .string t] w fun r w' =>
      MsPost (matchS s.data.toList t.data.toList) w.heap.size r w' ∧ Below w.heap.size w w' := by
  have HO := hid (rMatch_any s t mx w hs ht hm)
  go_enter Tryd.func15, Tryd.ntmps15
  go_wp2_with (go_at_call 32; refine HO.out.mono ?_; rintro e w' ⟨⟨v, rfl, ow⟩, hb⟩)
  go_ret2
  exact ⟨⟨v, rfl, ow⟩, hb⟩
end Go.Proofs.YtnohadlihgjppaaDoor
