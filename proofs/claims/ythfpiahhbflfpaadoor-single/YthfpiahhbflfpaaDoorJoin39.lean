/- Texts that follow one another, joined. -/
import Derived.Test.YthfpiahhbflfpaaDoorJoin38
import Derived.Test.YthfpiahhbflfpaaDoorJoin21
import Derived.Test.YthfpiahhbflfpaaDoorJoin20
/- The walks of porterkeep's at, open and shared; nothing old in memory turns. -/
namespace Go.Proofs.YthfpiahhbflfpaaDoor
open Go.RowKit

def opB (p : ByteArray) : Bool := decide (Pm.pieceK p.data.toList ≠ 0)
set_option maxHeartbeats 1000000 in
theorem open_walk (p : ByteArray) (w : World) : Calls Tryd.prog 18 #[.string p] w fun e w' => e = .returned (.bool (opB p)) ∧ Below w.heap.size w w' := by
  by_cases h : 0 < p.size
  · have hk := kind_cons h
    have he := empt_cons h
    have hO : opB p = (((p[0].toNat : Int) == 58) || ((p[0].toNat : Int) == 42)) := by
      unfold opB; rw [hk]
      cases h1 : ((p[0].toNat : Int) == 58) <;> cases h2 : ((p[0].toNat : Int) == 42) <;> rfl
    rw [hO]
    cases h1 : ((p[0].toNat : Int) == 58) <;> cases h2 : ((p[0].toNat : Int) == 42)
    all_goals
      clear hk hO
      go_enter Tryd.func18, Tryd.ntmps18
      go_wp2
      go_ret
      exact ⟨rfl, Below.refl _ _⟩
  · have hO : opB p = false := by unfold opB; rw [kind_nil h]; rfl
    have he := empt_nil h
    rw [hO]
    clear hO
    go_enter Tryd.func18, Tryd.ntmps18
    go_wp2
    go_ret
    exact ⟨rfl, Below.refl _ _⟩
def atB (cs : List (List UInt8)) (i : Nat) : ByteArray := ⟨(atL cs i).toArray⟩
set_option maxRecDepth 100000 in
set_option maxHeartbeats 1000000 in
theorem at_walk (cs : List (List UInt8)) (a : Option Addr) (ca i : Nat) (w : World) (hst : StAt (bas cs) a w) (hne : cs ≠ []) (hl : cs.length ≤ 1000000) :
    Calls Tryd.prog 17 #[.slice a cs.length ca, .int .i64 i] w fun e w' => e = .returned (.string (atB cs i)) ∧ Below w.heap.size w w' := by
  have hlen : 0 < cs.length := List.length_pos_iff.mpr hne
  by_cases h : i < cs.length
  · obtain ⟨g, rfl, hg, hc⟩ := hst i (by rw [bas_len]; exact h)
    have hA : (bas cs)[i]'(by rw [bas_len]; exact h) = atB cs i := by
      unfold atB atL
      rw [if_pos h, List.getD_eq_getElem?_getD, List.getElem?_eq_getElem h]
      simp [bas]
    rw [hA] at hc
    generalize atB cs i = R at *
    go_enter Tryd.func17, Tryd.ntmps17
    go_wp2
    go_ret
    exact ⟨rfl, Below.refl _ _⟩
  · obtain ⟨n, hn⟩ : ∃ n, cs.length = n + 1 := ⟨cs.length - 1, by omega⟩
    obtain ⟨g, rfl, hg, hc⟩ := hst n (by rw [bas_len]; omega)
    have hz : ((bas cs)[n]'(by rw [bas_len]; omega)).data.toList = cs.getD (cs.length - 1) [] := by
      rw [bas_get, List.getD_eq_getElem?_getD, List.getElem?_eq_getElem (by omega)]
      simp [hn]
    have hA : (atB cs i).data.toList = if Pm.pieceK (cs.getD (cs.length - 1) []) = 2 then cs.getD (cs.length - 1) [] else [45] := by
      show atL cs i = _
      unfold atL; rw [if_neg h]
    rw [← hz] at hA
    generalize (bas cs)[n]'(by rw [bas_len]; omega) = z at *
    have hw : wrap64 ((cs.length : Int) - 1) = (n : Int) := by unfold wrap64; omega
    have hw2 : ((cs.length : Int) - 1) = (n : Int) := by omega
    have hni : ¬ (i : Int) < (cs.length : Int) := by omega
    have HR : Hid (∀ R : ByteArray, R.data.toList = (atB cs i).data.toList → Ending.returned (.string R) = .returned (.string (atB cs i))) := fun R hR => by
      congr 2; apply ByteArray.ext; exact Array.toList_inj.1 hR
    rw [hA] at HR
    generalize atB cs i = R at *
    clear hz hA
    by_cases h0 : 0 < z.size
    · have he := empt_cons h0
      have hk := kind_cons h0
      cases h2 : ((z[0].toNat : Int) == 42)
      · have hK : ¬ Pm.pieceK z.data.toList = 2 := by
          rw [hk, h2]; split <;> simp
        rw [if_neg hK] at HR
        clear hk hK
        go_enter Tryd.func17, Tryd.ntmps17
        go_wp2
        go_ret
        exact ⟨HR.out ⟨#[45]⟩ rfl, Below.refl _ _⟩
      · have h1 : ((z[0].toNat : Int) == 58) = false := by
          rw [beq_iff_eq] at h2; rw [beq_eq_false_iff_ne]; omega
        have hK : Pm.pieceK z.data.toList = 2 := by
          rw [hk, h1, h2]; rfl
        rw [if_pos hK] at HR
        clear hk hK h1
        go_enter Tryd.func17, Tryd.ntmps17
        go_wp2
        go_ret
        exact ⟨HR.out z rfl, Below.refl _ _⟩
    · have he := empt_nil h0
      have hK : ¬ Pm.pieceK z.data.toList = 2 := by rw [kind_nil h0]; decide
      rw [if_neg hK] at HR
      clear hK
      go_enter Tryd.func17, Tryd.ntmps17
      go_wp2
      go_ret
      exact ⟨HR.out ⟨#[45]⟩ rfl, Below.refl _ _⟩
theorem shL_next (A B : List (List UInt8)) (n : Nat) : shL A B (n + 1) = shL A B n ++ [shC (atL A n) (atL B n)] := by
  unfold shL; rw [List.range_succ, List.map_append]; rfl
theorem atL_len {A : List (List UInt8)} (h : ∀ c ∈ A, c.length ≤ 100) (i : Nat) : (atL A i).length ≤ 100 := by
  have hg : ∀ j, (A.getD j []).length ≤ 100 := fun j => by
    rw [List.getD_eq_getElem?_getD]
    cases hj : A[j]? with
    | none => simp
    | some x => exact h x (List.mem_of_getElem? hj)
  unfold atL
  split
  · exact hg _
  · split
    · exact hg _
    · simp
theorem shC_len {x y : List UInt8} (hx : x.length ≤ 100) (hy : y.length ≤ 100) : (shC x y).length ≤ 100 := by
  unfold shC; split
  · exact hx
  · split
    · exact hy
    · simp
theorem shL_size {A B : List (List UInt8)} (hA : ∀ c ∈ A, c.length ≤ 100) (hB : ∀ c ∈ B, c.length ≤ 100) (n : Nat) : (flatP (shL A B n)).length ≤ 101 * n := by
  induction n with
  | zero => simp [shL, flatP]
  | succ n ih =>
    have := shC_len (atL_len hA n) (atL_len hB n)
    rw [shL_next, flatP_snoc, List.length_append, List.length_cons]; omega
set_option maxRecDepth 100000 in
set_option maxHeartbeats 4000000 in
theorem shared_walk (A B : List (List UInt8)) (w : World) (ha : A ≠ []) (hb : B ≠ []) (cA : ∀ c ∈ A, Pm.behind 47 c = []) (cB : ∀ c ∈ B, Pm.behind 47 c = []) (lA : ∀ c ∈ A, c.length ≤ 100) (lB : ∀ c ∈ B, c.length ≤ 100) (nA : A.length ≤ 100) (nB : B.length ≤ 100) (zA : (flatP A).length ≤ 100000) (zB : (flatP B).length ≤ 100000) :
    Calls Tryd.prog 7 #[.string ⟨(flatP A).toArray⟩, .string ⟨(flatP B).toArray⟩] w fun e w' => e = .returned (.string ⟨(flatP (shL A B (max A.length B.length))).toArray⟩) ∧ Below w.heap.size w w' := by
  have HP1 := hid (fun W => pieces_walk A W ha cA (by omega))
  have HP2 := hid (fun W => pieces_walk B W hb cB (by omega))
  generalize (⟨(flatP A).toArray⟩ : ByteArray) = SA at *
  generalize (⟨(flatP B).toArray⟩ : ByteArray) = SB at *
  go_enter Tryd.func7, Tryd.ntmps7
  go_wp2_with fail
  refine (HP1.out _).mono ?_
  rintro e w1 ⟨⟨v1, rfl, ow1⟩, hb1⟩
  obtain ⟨a1, c1, rfl, st1⟩ := StAt.of_owns ow1
  rw [bas_len]
  clear ow1 HP1
  go_wp2_with fail
  refine (HP2.out _).mono ?_
  rintro e w2 ⟨⟨v2, rfl, ow2⟩, hb2⟩
  obtain ⟨a2, c2, rfl, st2⟩ := StAt.of_owns ow2
  rw [bas_len]
  have ST1 := hid (st1.below hb2)
  have ST2 := hid st2
  have hB2 := bel_of hb1 hb2
  clear ow2 HP2 st1 st2 hb1 hb2
  go_wp2
  go_loopw [7, 8] (fun s i wr => ∃ (k : Nat) (S : ByteArray), k ≤ max A.length B.length ∧ i = .int .i64 k ∧ s = .string S ∧ S.size ≤ 101 * k ∧ Hid (S.data.toList = flatP (shL A B k)) ∧ Below w2.heap.size w2 wr) (fun _ i _ => max A.length B.length - (intOf i).toNat)
  case atStart => exact ⟨0, ⟨#[]⟩, Nat.zero_le _, rfl, rfl, Nat.le_refl _, rfl, Below.refl _ _⟩
  case round =>
    obtain ⟨k, S, hk, rfl, rfl, hsz, HS, hbw⟩ := hrel
    by_cases hlt : k < max A.length B.length
    · have HA1 := hid (fun W (h : Below w2.heap.size w2 W) => at_walk A a1 c1 k W (ST1.out.below h) ha (by omega))
      have HA2 := hid (fun W (h : Below w2.heap.size w2 W) => at_walk B a2 c2 k W (ST2.out.below h) hb (by omega))
      have HO1 := hid (fun W => open_walk (atB A k) W)
      have HO2 := hid (fun W => open_walk (atB B k) W)
      have H0 : Hid (∀ (R : ByteArray), R.data.toList = S.data.toList ++ 47 :: shC (atL A k) (atL B k) → R.size ≤ 101 * (k + 1) ∧ Hid (R.data.toList = flatP (shL A B (k + 1)))) := fun R hR => by
        have h1 : R.data.toList = flatP (shL A B (k + 1)) := by rw [hR, HS.out, shL_next, flatP_snoc]
        have h2 := shL_size lA lB (k + 1)
        rw [← h1] at h2
        exact ⟨by simpa using h2, h1⟩
      have hC : shC (atL A k) (atL B k) = if opB (atB A k) = false then (atB A k).data.toList else if opB (atB B k) = false then (atB B k).data.toList else [120] := by
        unfold shC opB
        show _ = if decide (Pm.pieceK (atL A k) ≠ 0) = false then atL A k else if decide (Pm.pieceK (atL B k) ≠ 0) = false then atL B k else [120]
        by_cases h1 : Pm.pieceK (atL A k) = 0
        · simp [h1]
        · by_cases h2 : Pm.pieceK (atL B k) = 0
          · simp [h1, h2]
          · simp [h1, h2]
      rw [hC] at H0
      have z1 : (atB A k).size ≤ 100 := atL_len lA k
      have z2 : (atB B k).size ≤ 100 := atL_len lB k
      generalize atB A k = x at *
      generalize atB B k = y at *
      have hcond : ((k : Int) < (A.length : Int)) ∨ (¬ (k : Int) < (A.length : Int) ∧ (k : Int) < (B.length : Int)) := by omega
      clear hC HS lA lB cA cB
      cases hx : opB x <;> cases hy : opB y
      all_goals
        rw [hx] at HO1 H0
        rw [hy] at HO2 H0
        rcases hcond with hcond | ⟨hcond, hcond2⟩
        all_goals
          go_wp2_with fail
          refine (HA1.out _ hbw).mono ?_
          rintro e w3 ⟨rfl, hb3⟩
          have hB3 := bel_of hbw hb3
          go_wp2_with fail
          refine (HA2.out _ hB3).mono ?_
          rintro e w4 ⟨rfl, hb4⟩
          have hB4 := bel_of hB3 hb4
          go_wp2_with fail
          refine (HO1.out _).mono ?_
          rintro e w5 ⟨rfl, hb5⟩
          have hB5 := bel_of hB4 hb5
          go_wp2_with fail
          refine (HO2.out _).mono ?_
          rintro e w6 ⟨rfl, hb6⟩
          have hB6 := bel_of hB5 hb6
          clear hb3 hb4 hb5 hb6 hB3 hB4 hB5
          go_wp2
          refine ⟨⟨k + 1, _, by omega, by go_num, rfl, (H0.out _ ?_).1, (H0.out _ ?_).2, hB6⟩, by simp [intOf]; omega⟩
          · simp
          · simp
    · have hke : k = max A.length B.length := by omega
      have HR : Hid (S.data.toList = flatP (shL A B (max A.length B.length))) := by rw [← hke]; exact HS
      have hn1 : ¬ (k : Int) < (A.length : Int) := by omega
      have hn2 : ¬ (k : Int) < (B.length : Int) := by omega
      have BB := hid (bel_of hB2 hbw)
      clear hke
      go_wp2
      go_ret
      exact ⟨ret_strL HR.out, BB.out⟩
end Go.Proofs.YthfpiahhbflfpaaDoor

/- A table of patterns in memory, and what Find tells of it; nothing old in memory turns. -/
namespace Go.Proofs.YthfpiahhbflfpaaDoor
open Go.RowKit

structure Ent where
  m : ByteArray
  ps : List (Int × ByteArray)
  a : Option Addr
  c : Nat
def entC (es : List Ent) : List Value := es.flatMap fun e => [.string e.m, .slice e.a e.ps.length e.c]
theorem entC_snoc (es : List Ent) (e : Ent) : entC (es ++ [e]) = entC es ++ [.string e.m, .slice e.a e.ps.length e.c] := by simp [entC]
theorem entC_get : ∀ (es : List Ent) (i : Nat) (h : i < es.length), (entC es)[i * 2]? = some (.string es[i].m) ∧ (entC es)[i * 2 + 1]? = some (.slice es[i].a es[i].ps.length es[i].c)
  | [], i, h => absurd h (by simp)
  | f :: fs, 0, h => by simp [entC]
  | f :: fs, i + 1, h => by
    have := entC_get fs i (by simpa using h)
    have e : entC (f :: fs) = (.string f.m) :: (.slice f.a f.ps.length f.c) :: entC fs := by simp [entC]
    rw [e, show (i + 1) * 2 = i * 2 + 1 + 1 from by omega, List.getElem?_cons_succ, List.getElem?_cons_succ, show i * 2 + 1 + 1 + 1 = (i * 2 + 1) + 1 + 1 from by omega, List.getElem?_cons_succ, List.getElem?_cons_succ]
    exact this
def EnAt (es : List Ent) (a : Option Addr) (w : World) : Prop :=
  ∀ i (h : i < es.length), ∃ g, a = some ⟨g, 0, none⟩ ∧ g < w.heap.size ∧ w.cell? ⟨g, i * 2, none⟩ = some (.string es[i].m) ∧ w.cell? ⟨g, i * 2 + 1, none⟩ = some (.slice es[i].a es[i].ps.length es[i].c)
theorem EnAt.below {es : List Ent} {a : Option Addr} {w w' : World} (h : EnAt es a w) (hb : Below w.heap.size w w') : EnAt es a w' := fun i hi => by
  obtain ⟨g, h1, h2, h3, h4⟩ := h i hi
  exact ⟨g, h1, Nat.lt_of_lt_of_le h2 hb.size, cell_later hb h3, cell_later hb h4⟩
theorem en_of_owns {w : World} {B : Nat} {e : TypeId} {v : Value} {es : List Ent} (h : w.ownsRow B e 2 v es.length (entC es)) : ∃ a cap, v = .slice a es.length cap ∧ EnAt es a w := by
  obtain ⟨h1, h2⟩ := h
  rcases h2 with ⟨h2, h3⟩ | ⟨g, cap, cur, hv, hB, hg, hc, hm, hsz, ht⟩
  · refine ⟨none, 0, ?_, fun i hi => ?_⟩
    · rw [h3]; exact h2
    · omega
  · refine ⟨some ⟨g, 0, none⟩, cap, hv, fun i hi => ⟨g, rfl, ?_, ?_, ?_⟩⟩
    · rcases Nat.lt_or_ge g w.heap.size with h' | h'
      · exact h'
      · simp [Array.getElem?_eq_none h'] at hg
    all_goals
      obtain ⟨m1, m2⟩ := entC_get es i hi
      rw [← ht, List.getElem?_take] at m1 m2
      rw [Lib.cell_of_heap hg]
    · split at m1
      · simpa using m1
      · cases m1
    · split at m2
      · simpa using m2
      · cases m2
/- the table whose list lies at a cell; its patterns lie in blocks of their own -/
structure TbAt (gt o B : Nat) (es : List Ent) (v : Value) (w : World) : Prop where
  cel : w.cell? ⟨gt, o, none⟩ = some v
  fre : w.frozen? ⟨gt, o, none⟩ = false
  row : w.ownsRow B 60 2 v es.length (entC es)
  pat : ∀ i (h : i < es.length), PcAt es[i].ps es[i].a w
  far : ∀ i (h : i < es.length) (g : Nat), es[i].a = some ⟨g, 0, none⟩ → g ≠ gt ∧ v.ownBlock ≠ some g
  blk : ∀ i (h : i < es.length) (g : Nat), es[i].a = some ⟨g, 0, none⟩ → g < w.heap.size
  own : v.ownBlock ≠ some gt
  few : es.length ≤ 24
  szs : ∀ i (h : i < es.length), es[i].ps.length ≤ 1000000
theorem TbAt.lt {gt o B : Nat} {es : List Ent} {v : Value} {w : World} (h : TbAt gt o B es v w) : gt < w.heap.size := block_lt_of_cell h.cel
theorem TbAt.below {gt o B : Nat} {es : List Ent} {v : Value} {w w' : World} (h : TbAt gt o B es v w) (hb : Below w.heap.size w w') : TbAt gt o B es v w' :=
  ⟨cell_later hb h.cel, by rw [hb.frozen h.lt]; exact h.fre, owns_below h.row hb, fun i hi => (h.pat i hi).below hb, h.far, fun i hi g hg => Nat.lt_of_lt_of_le (h.blk i hi g hg) hb.size, h.own, h.few, h.szs⟩
def findG (m l : List UInt8) : List Ent → Nat → Nat × List Prm × Int
  | [], _ => (0, [], 11)
  | e :: r, k => if e.m.data.toList = m then (match matchB e.ps (l.drop 1) true [] with
    | some fs => (k, fs, 0)
    | none => findG m l r (k + 1)) else findG m l r (k + 1)
theorem bne_lists (a b : ByteArray) : (a.toList == b.toList) = decide (a.data.toList = b.data.toList) := by
  rw [ByteArray.toList_eq, ByteArray.toList_eq, Bool.eq_iff_iff, beq_iff_eq, decide_eq_true_iff]
set_option maxRecDepth 100000 in
set_option maxHeartbeats 2000000 in
theorem tFind_any (gt o B : Nat) (es : List Ent) (v : Value) (m s : ByteArray) (w : World) (hT : TbAt gt o B es v w) (hp : Pm.isPath s.data.toList = true) (h1s : 1 ≤ s.size) (hs : s.size ≤ 140737488355328) :
    Calls Tryd.prog 19 #[.pointer (some ⟨gt, o, none⟩), .string m, .string s] w fun r w' => (∃ vv, r = .returned (.tuple #[.int .i64 (findG m.data.toList s.data.toList es 0).1, vv, .int .i64 (findG m.data.toList s.data.toList es 0).2.2]) ∧ w'.ownsRow w.heap.size 64 2 vv (findG m.data.toList s.data.toList es 0).2.1.length (prCells (findG m.data.toList s.data.toList es 0).2.1)) ∧ Below w.heap.size w w' := by
  have HIP := hid (fun W => wIsPath_any s W hs)
  rw [hp] at HIP
  have HT := hid hT
  obtain ⟨av, cv, rfl, hen⟩ := en_of_owns hT.row
  have HE := hid hen
  have cel := hT.cel
  have lt0 := hT.lt
  have hfw := hT.few
  clear hT hen
  generalize hFF : findG m.data.toList s.data.toList es 0 = FF at *
  have HFF := hid hFF
  clear hFF
  go_enter Tryd.func19, Tryd.ntmps19
  go_wp2_with fail
  refine (HIP.out _).mono ?_
  rintro e w1 ⟨rfl, hb1⟩
  have cel1 := cell_later hb1 cel
  have lt1 : gt < w1.heap.size := Nat.lt_of_lt_of_le lt0 hb1.size
  clear HIP cel lt0
  go_wp2_with fail
  go_loopw [21] (fun i wr => ∃ k : Nat, k ≤ es.length ∧ i = .int .i64 k ∧ Hid (findG m.data.toList s.data.toList (es.drop k) k = FF) ∧ Below w.heap.size w wr) (fun i _ => es.length - (intOf i).toNat)
  case atStart => exact ⟨0, Nat.zero_le _, rfl, HFF, hb1⟩
  case round =>
    obtain ⟨k, hk, rfl, HK, hbw⟩ := hrel
    by_cases hlt : k < es.length
    · obtain ⟨g, rfl, hg, hc1, hc2⟩ := (HE.out.below hbw) k hlt
      have hpc := (HT.out.pat k hlt).below hbw
      have hps := HT.out.szs k hlt
      rw [← List.getElem_cons_drop hlt, findG] at HK
      generalize es[k] = en at *
      obtain ⟨em, eps, ea, ec⟩ := en
      simp only at hc1 hc2 hpc hps HK
      have hA := (Below.refl wr.heap.size wr).alloc (Nat.le_refl _) (.cells #[.string em, .slice ea eps.length ec] 60)
      have hB := bel_of hbw hA
      have HM := hid (fun W (hW : Below w.heap.size w W) (h : PcAt eps ea W) => match_any eps ea ec s W h hps h1s hs)
      have hbe := bne_lists em m
      by_cases hme : em.data.toList = m.data.toList
      · rw [if_pos hme] at HK
        rw [decide_eq_true hme] at hbe
        go_wp2_with fail
        refine (HM.out _ hB (hpc.below hA)).mono ?_
        rintro e w2 ⟨hma, hb2⟩
        have hB2 := bel_of hB hb2
        cases hMB : matchB eps (List.drop 1 s.data.toList) true [] with
        | none =>
          rw [hMB] at hma HK
          obtain rfl : e = .returned (.tuple #[.slice none 0 0, .bool false]) := hma
          go_wp2
          exact ⟨⟨k + 1, by omega, by go_num, HK, hB2⟩, by simp [intOf]; omega⟩
        | some pf =>
          rw [hMB] at hma HK
          obtain ⟨vv, rfl, ow⟩ := hma
          have HOW := hid ow
          clear ow hMB
          go_wp2
          try rw [Exit.noGoto_ret]
          refine bodyPost_ret (v := .tuple #[.int .i64 k, vv, .int .i64 0]) (by simp [results, Tryd.results19, go_sem]) rfl ?_
          rw [← HK.out]
          exact ⟨⟨vv, rfl, owns_base HOW.out (Nat.le_trans hbw.size hA.size)⟩, hB2⟩
      · rw [if_neg hme] at HK
        rw [decide_eq_false hme] at hbe
        clear HM
        go_wp2
        exact ⟨⟨k + 1, by omega, by go_num, HK, hB⟩, by simp [intOf]; omega⟩
    · have hke : k = es.length := by omega
      rw [hke, List.drop_length, findG] at HK
      go_wp2
      try rw [Exit.noGoto_ret]
      refine bodyPost_ret (v := .tuple #[.int .i64 0, .slice none 0 0, .int .i64 11]) (by simp [results, Tryd.results19, go_sem]) rfl ?_
      rw [← HK.out]
      exact ⟨⟨_, rfl, World.ownsRow_nil _ _ _ _⟩, hbw⟩
set_option maxHeartbeats 400000 in
theorem pFind_any (gt B : Nat) (es : List Ent) (v : Value) (m s : ByteArray) (w : World) (hT : TbAt gt 0 B es v w) (hp : Pm.isPath s.data.toList = true) (h1s : 1 ≤ s.size) (hs : s.size ≤ 140737488355328) :
    Calls Tryd.prog 8 #[.pointer (some ⟨gt, 0, none⟩), .string m, .string s] w fun r w' => (∃ vv, r = .returned (.tuple #[.int .i64 (findG m.data.toList s.data.toList es 0).1, vv, .int .i64 (findG m.data.toList s.data.toList es 0).2.2]) ∧ w'.ownsRow w.heap.size 64 2 vv (findG m.data.toList s.data.toList es 0).2.1.length (prCells (findG m.data.toList s.data.toList es 0).2.1)) ∧ Below w.heap.size w w' := by
  have HF := hid (tFind_any gt 0 B es v m s w hT hp h1s hs)
  generalize findG m.data.toList s.data.toList es 0 = FF at *
  have lt0 := hT.lt
  clear hT
  go_enter Tryd.func8, Tryd.ntmps8
  go_wp2_with fail
  refine HF.out.mono ?_
  rintro e w1 ⟨⟨vv, rfl, ow⟩, hb1⟩
  have HOW := hid ow
  clear ow HF
  go_wp2
  refine bodyPost_ret (v := .tuple #[.int .i64 FF.1, vv, .int .i64 FF.2.2]) (by simp [results, Tryd.results8, go_sem]) rfl ?_
  exact ⟨⟨vv, rfl, HOW.out⟩, hb1⟩
end Go.Proofs.YthfpiahhbflfpaaDoor
