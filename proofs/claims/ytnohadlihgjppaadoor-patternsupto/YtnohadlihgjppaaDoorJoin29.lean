/- Texts that follow one another, joined. -/
import Derived.Test.YtnohadlihgjppaaDoorJoin28
import Derived.Deep.AppendLies
import Derived.Laws.OwnMore
import Derived.Deep.Upon
/- The reference's has, by induction over a pattern's pieces; nothing old in memory turns. -/
namespace Go.Proofs.YtnohadlihgjppaaDoor
open Go.RowKit

theorem pr_of_owns {w : World} {B : Nat} {e : TypeId} {v : Value} {ps : List Prm} (h : w.ownsRow B e 2 v ps.length (prCells ps)) (hn : ps ≠ []) : ∃ g cap, v = .slice (some ⟨g, 0, none⟩) ps.length cap ∧ g < w.heap.size ∧ ∀ j u, (prCells ps)[j]? = some u → w.cell? ((⟨g, 0, none⟩ : Addr).add j) = some u := by
  obtain ⟨g, cap, rfl, hB, hg⟩ := h.form (List.length_pos_iff.mpr hn)
  exact ⟨g, cap, rfl, hg, h.cells (g := g) rfl⟩
theorem prCells_one (ps : List Prm) : ∀ u ∈ prCells ps, u.oneCell' = true := fun u hu => by
  unfold prCells at hu
  obtain ⟨f, _, hf⟩ := List.mem_flatMap.mp hu
  simp at hf
  rcases hf with rfl | rfl <;> rfl
theorem prCells_len (ps : List Prm) : (prCells ps).length = ps.length * 2 := by
  induction ps with
  | nil => rfl
  | cons a r ih => simp [prCells] at ih ⊢; omega
theorem owns_empty {w : World} {B : Nat} {e : TypeId} {v : Value} (h : w.ownsRow B e 2 v 0 []) : ∃ a c, v = .slice a 0 c := by
  rcases h.2 with ⟨rfl, _⟩ | ⟨g, cap, cur, rfl, _⟩
  · exact ⟨_, _, rfl⟩
  · exact ⟨_, _, rfl⟩

section
variable {P : Program} (w : World)
theorem wpList_append_none {ops : Array Oper} {rest : List Oper} {o : Oper} {a : Act} {Q : Exit → Act → World → Prop} (hgd : o.guard = none) (s x : Operand) (t : TypeId)
    (ho : o.op = .call { callee := .builtin .append, args := #[s, x], argTypes := #[t, t] })
    (e : TypeId) (i : TypeInfo) (ht : P.underlying t = some (.slice e)) (hi : P.info? e = some i) (base : Option Addr) (sLen sCap : Nat) (hle : sLen ≤ sCap)
    (hs : a.eval s = .slice base sLen sCap) (ma : Option Addr) (mc : Nat) (hx : a.eval x = .slice ma 0 mc)
    (h : wpList P ops Q rest (a.put o.dst (.slice base sLen sCap)) w) : wpList P ops Q (o :: rest) a w := by
  refine wpList_plain hgd fun K hK => ?_
  have hr := run_append_nothing (P := P) w t t o.type e i ht hi base sLen sCap hle (.slice ma 0 mc) (by
    cases ma with
    | none => exact Src.ofNil w ht mc
    | some ad => exact Src.ofSlice w ht ad 0 mc [] (by simp) (fun j u hj => by simp at hj) (fun u hu => by cases hu))
  unfold Oper.wp execOp
  simp only [ho, resolve, invoke, builtin, Sem.run_bind, Sem.run_pure, Result.andThen_ok, List.map_toArray, List.map_cons, List.map_nil, hs, hx, hr]
  exact hK _ _ h
end

set_option maxRecDepth 100000 in
set_option maxHeartbeats 4000000 in
theorem rhas_any : ∀ (ts xs : List ByteArray) (a b : Option Addr) (ca cb : Nat) (w : World), StO ts a w → StO xs b w → ts.length ≤ ca → xs.length ≤ cb → ts.length ≤ 1000000 → xs.length ≤ 4398046511104 → (joinL (xs.map (·.data.toList))).length ≤ 4398046511104 → (∀ t ∈ ts, t.size ≤ 1000000) →
    Calls Tryd.prog 58 #[.slice a ts.length ca, .slice b xs.length cb] w fun r w' => HaPost (hasL (ts.map (·.data.toList)) (xs.map (·.data.toList))) w.heap.size r w' ∧ Below w.heap.size w w' := by
  obtain ⟨i0, hi, hz0, hz1, hz2⟩ := info_parts Tryd.infoPr
  intro ts
  induction ts with
  | nil =>
    intro xs a b ca cb w _ _ _ _ _ hxl _ _
    cases xs with
    | nil =>
      refine (rhas_both a b ca cb w).mono ?_
      rintro e w' ⟨rfl, rfl⟩
      exact ⟨⟨_, rfl, fun ps h => by cases h; exact World.ownsRow_nil _ _ _ _⟩, Below.refl _ _⟩
    | cons x xs =>
      refine (rhas_none a b ca cb (x :: xs).length w (by simp) hxl).mono ?_
      rintro e w' ⟨rfl, rfl⟩
      exact ⟨⟨_, rfl, fun ps h => by cases h⟩, Below.refl _ _⟩
  | cons t ts ih =>
    intro xs a b ca cb w hta hxb hca hcb htl hxl hjl htz
    cases xs with
    | nil =>
      refine (rhas_short a b ca cb (t :: ts).length w (by simp) (by omega)).mono ?_
      rintro e w' ⟨rfl, rfl⟩
      exact ⟨⟨_, rfl, fun ps h => by cases h⟩, Below.refl _ _⟩
    | cons x xs =>
      have HJ := hid (fun W (hW : Below w.heap.size w W) => rjoin_any (x :: xs) b cb W (hxb.below hW) hxl hjl)
      obtain ⟨g, o, rfl, hg, hct⟩ := hta.head
      obtain ⟨g2, o2, rfl, hg2, hcx⟩ := hxb.head
      have HCX := hid hcx
      have HG2 := hid hg2
      obtain ⟨a', ha'⟩ : ∃ a' : Option Addr, (if ca = 1 then some ⟨g, o, none⟩ else some ⟨g, o + 1, none⟩) = a' := ⟨_, rfl⟩
      obtain ⟨b', hb'⟩ : ∃ b' : Option Addr, (if cb = 1 then some ⟨g2, o2, none⟩ else some ⟨g2, o2 + 1, none⟩) = b' := ⟨_, rfl⟩
      have HTA : Hid (StO ts a' w) := by
        unfold Hid; rw [← ha']; split
        · intro i hi; rw [List.length_cons] at hca; omega
        · exact hta.tail
      have HXB : Hid (StO xs b' w) := by
        unfold Hid; rw [← hb']; split
        · intro i hi; rw [List.length_cons] at hcb; omega
        · exact hxb.tail
      have jt := join_tail x.data.toList (xs.map (·.data.toList))
      rw [List.map_cons] at hjl
      have hxl2 : x.data.toList.length = x.size := by simp
      have htz1 := htz t (by simp)
      rw [List.length_cons] at hca hcb htl hxl
      have IH := hid (fun W (hW : Below w.heap.size w W) => ih xs a' b' (ca - 1) (cb - 1) W (HTA.out.below hW) (HXB.out.below hW) (by omega) (by omega) (by omega) (by omega) (by omega) (fun t' ht' => htz t' (by simp [ht'])))
      have HLN := hid (fun ps h => hasL_len (ts.map (·.data.toList)) (xs.map (·.data.toList)) ps h)
      rw [List.length_map] at HLN
      have HU := hid (fun (s : ByteArray) W (h : s.size ≤ 4398046511104) => rUnescape_any s W (by unfold maxLen; omega))
      have HR := hid (fun W => rIsRest_any t W)
      have HF := hid (fun W => rIsFixed_any t W)
      have HN := hid (fun W => rnamed_any t W (by unfold maxLen; omega))
      generalize hPO : hasL ((t :: ts).map (·.data.toList)) ((x :: xs).map (·.data.toList)) = PO
      have HPO := hid hPO
      rw [List.map_cons, List.map_cons, hasL] at HPO
      have HNM := hid (@nameOf_not t)
      rw [List.length_cons, List.length_cons] at *
      clear hta hxb ih hPO htz
      generalize hasL (ts.map (·.data.toList)) (xs.map (·.data.toList)) = MO at *
      generalize hK : Pm.pieceK t.data.toList = K at *
      clear hK
      have z1 : ((ts.length : Int) + 1 == 0) = false := by rw [beq_eq_false_iff_ne]; omega
      have z2 : ((xs.length : Int) + 1 == 0) = false := by rw [beq_eq_false_iff_ne]; omega
      go_enter Tryd.func58, Tryd.ntmps58
      go_wp2_with fail
      refine (HR.out _).mono ?_
      rintro e w1 ⟨rfl, hb1⟩
      have hct1 := cell_later hb1 hct
      have hg1 : g < w1.heap.size := Nat.lt_of_lt_of_le hg hb1.size
      go_wp2_with fail
      refine (HF.out _).mono ?_
      rintro e w2 ⟨rfl, hb2⟩
      have hB2 := bel_of hb1 hb2
      have hct2 := cell_later hb2 hct1
      have hg2' : g < w2.heap.size := Nat.lt_of_lt_of_le hg1 hb2.size
      go_wp2_with fail
      refine (HN.out _).mono ?_
      rintro e w3 ⟨rfl, hb3⟩
      have hB3 := bel_of hB2 hb3
      have hct3 := cell_later hb3 hct2
      have hcx3 := cell_later hB3 hcx
      have hg3 : g < w3.heap.size := Nat.lt_of_lt_of_le hg2' hb3.size
      have hg23 : g2 < w3.heap.size := Nat.lt_of_lt_of_le hg2 hB3.size
      clear HR HF HN hct1 hct2 hct hcx hg1 hg2' hb1 hb2 hb3 hB2 hg hg2
      generalize nameOf t = nm at *
      by_cases h2 : K = 2
      · have hk2 : (K == 2) = true := by rw [h2]; rfl
        have HNM2 := hid (HNM.out (by omega))
        rw [if_pos h2] at HPO
        rw [hk2]
        clear HNM h2 IH HTA HXB
        go_wp2_with fail
        refine (HJ.out _ hB3).mono ?_
        rintro e w4 ⟨⟨s, rfl, hs⟩, hw4⟩
        subst hw4
        rw [List.map_cons] at hs
        have hsz : s.size ≤ 4398046511104 := by
          have : s.data.toList.length = s.size := by simp
          rw [hs] at this
          exact this ▸ hjl
        have HUs := hid (fun W => HU.out s W hsz)
        rw [hs] at HUs
        clear HJ HU
        go_wp2_with fail
        refine (HUs.out _).mono ?_
        rintro e w5 ⟨rfl, hb5⟩
        have hB5 := bel_of hB3 hb5
        have HS : Hid (PO = some [(nm, Pm.unT (joinL (x.data.toList :: xs.map (·.data.toList))))]) := by unfold Hid; rw [← HPO.out, HNM2.out]
        generalize Pm.unT (joinL (x.data.toList :: xs.map (·.data.toList))) = vv at *
        clear HUs hs hsz HPO HNM2 hct3 hcx3 jt hjl
        go_wp2
        go_ret2
        rw [HS.out]
        refine ⟨⟨_, rfl, fun ps h => ?_⟩, hB5.alloc hB5.size _⟩
        cases h
        exact World.ownsRow_lit _ #[.string nm, .string vv] 1 hB5.size (by decide) rfl
      · have hk2 : (K == 2) = false := by rw [beq_eq_false_iff_ne]; exact h2
        rw [if_neg h2] at HPO
        rw [hk2]
        have HUs := hid (fun W => HU.out x W (by omega))
        clear HJ HU
        go_wp2_with fail
        refine (HUs.out _).mono ?_
        rintro e w4 ⟨rfl, hb4⟩
        have hB4 := bel_of hB3 hb4
        have hct4 := cell_later hb4 hct3
        have hcx4 := cell_later hb4 hcx3
        have hg4 : g < w4.heap.size := Nat.lt_of_lt_of_le hg3 hb4.size
        have hg24 : g2 < w4.heap.size := Nat.lt_of_lt_of_le hg23 hb4.size
        clear HUs hct3 hcx3 hg3 hg23 hb4 hB3
        go_wp2_with fail
        have y1 : (1 : Int) ≤ (ts.length : Int) + 1 := by omega
        have y2 : (ts.length : Int) + 1 ≤ (ca : Int) := by omega
        have y3 : (1 : Int) ≤ (xs.length : Int) + 1 := by omega
        have y4 : (xs.length : Int) + 1 ≤ (cb : Int) := by omega
        go_region_with (go_at_call 58; refine (IH.out _ hB4.drew).mono ?_; rintro e w5 ⟨⟨mv, rfl, hmv⟩, hb5⟩)
        all_goals
          have hB5 := bel_of hB4.drew hb5
          have hct5 := cell_later hb5 (show w4.drew.cell? _ = _ from hct4)
          have hcx5 := cell_later hb5 (show w4.drew.cell? _ = _ from hcx4)
          have hg5 : g < w5.heap.size := Nat.lt_of_lt_of_le hg4 (by simpa using hb5.size)
          have hg25 : g2 < w5.heap.size := Nat.lt_of_lt_of_le hg24 (by simpa using hb5.size)
          have hs4 : w.heap.size ≤ w4.drew.heap.size := by simpa using hB4.size
          clear IH hct4 hcx4 hg4 hg24 hB4
          cases MO with
          | none =>
            have HN : Hid (PO = none) := HPO.out.symm
            clear HPO
            go_wp2
            go_ret2
            rw [HN.out]
            exact ⟨⟨_, rfl, fun ps h => by cases h⟩, hB5⟩
          | some more =>
            have ow5 := owns_base (hmv more rfl) hs4
            have hml := HLN.out more rfl
            simp only at HPO
            clear hmv HLN hs4 hb5
            by_cases h0 : K = 0
            · have hk0 : (K == 0) = true := by rw [h0]; rfl
              rw [if_pos h0] at HPO
              have HE : Hid (((Pm.unT x.data.toList).toList == t.toList) = PO.isSome ∧ ∀ ps, PO = some ps → ps = more) := by
                unfold Hid
                rw [← HPO.out, ByteArray.toList_eq, ByteArray.toList_eq]
                by_cases he : (Pm.unT x.data.toList).data.toList = t.data.toList
                · rw [if_pos he, he]; exact ⟨by simp, fun ps h => by cases h; rfl⟩
                · rw [if_neg he]; exact ⟨by rw [beq_eq_false_iff_ne.mpr he]; rfl, fun ps h => by cases h⟩
              rw [hk0]
              generalize Pm.unT x.data.toList = vv at *
              have OW := hid ow5
              clear ow5 HPO h0 h2
              go_wp2_with fail
              go_quiet (fail)
              go_wp2
              go_ret2
              refine ⟨⟨_, by rw [← HE.out.1]; rfl, fun ps h => ?_⟩, ?_⟩
              · rw [HE.out.2 ps h]; exact owns_below OW.out (below_drewN (Below.refl _ _) _)
              · exact below_drewN hB5 _
            · have hk0 : (K == 0) = false := by rw [beq_eq_false_iff_ne]; exact h0
              rw [if_neg h0] at HPO
              have HNM2 := hid (HNM.out h0)
              rw [hk0]
              rw [← HNM2.out] at HPO
              generalize Pm.unT x.data.toList = vv at *
              clear HNM HNM2 h0 h2
              have HE : Hid ((!x.toList.isEmpty) = PO.isSome ∧ ∀ ps, PO = some ps → ps = (nm, vv) :: more) := by
                unfold Hid
                rw [← HPO.out, ByteArray.toList_eq]
                cases hx : x.data.toList with
                | nil => exact ⟨rfl, fun ps h => by cases h⟩
                | cons a r => exact ⟨rfl, fun ps h => by cases h; rfl⟩
              have hA6 := hB5.alloc hB5.size (.cells #[.string nm, .string vv] 71)
              have ow6 : (w5.alloc (.cells #[.string nm, .string vv] 71)).ownsRow w.heap.size 71 2 (.slice (some ⟨w5.heap.size, 0, none⟩) 1 1) 1 [.string nm, .string vv] := World.ownsRow_lit _ #[.string nm, .string vv] 1 hB5.size (by decide) rfl
              have hcx6 := cell_later hA6 HCX.out
              clear HPO
              cases more with
              | nil =>
                obtain ⟨ma, mc, rfl⟩ : ∃ a c, mv = .slice a 0 c := owns_empty ow5
                have OW := hid ow6
                clear ow6 ow5
                go_wp2_with (at_builtin; refine wpList_append_none _ rfl _ _ 48 rfl 71 i0 Tryd.underlying48 hi (some ⟨w5.heap.size, 0, none⟩) 1 1 (Nat.le_refl _) rfl ma mc rfl ?_)
                go_wp2_with fail
                go_quiet (fail)
                go_wp2
                go_ret2
                refine ⟨⟨_, by rw [← HE.out.1]; rfl, fun ps h => ?_⟩, ?_⟩
                · rw [HE.out.2 ps h]; exact owns_below OW.out (below_drewN (Below.refl _ _) _)
                · exact below_drewN hA6 _
              | cons mp mr =>
                have hne : mp :: mr ≠ [] := by simp
                have hml2 : (mp :: mr).length ≤ 1000000 := by omega
                have hmp : 0 < (mp :: mr).length := by simp
                generalize mp :: mr = more at *
                obtain ⟨gm, cm, rfl, hgm, hcells⟩ := pr_of_owns ow5 hne
                go_wp2_with (at_builtin; refine wpList_append_lies _ rfl _ _ 48 rfl w.heap.size 71 i0 _ 2 32 Tryd.underlying48 hi hz0 hz1 hz2 rfl (by omega) (.slice (some ⟨w5.heap.size, 0, none⟩) 1 1) 1 [.string nm, .string vv] rfl ow6 ⟨gm, 0, none⟩ more.length cm (prCells more) rfl (prCells_len more) ?c1 (prCells_one more) hmp ?c3 ?c4 ?c5 _ rfl ?_)
                case c1 => intro j u hj; exact cell_later ((Below.refl w5.heap.size w5).alloc (Nat.le_refl _) _) (hcells j u hj)
                case c3 => unfold maxLen; omega
                case c4 => omega
                case c5 => simp; have := hB5.size; omega
                intro gg cap w7 hown hgrow hat hltn
                have hB7 := hA6.grown hgrow (by have := hB5.size; simp; omega) (own_ge ow6)
                have hcx7 := cell_later hB7 HCX.out
                have hg27 : g2 < w7.heap.size := Nat.lt_of_lt_of_le HG2.out hB7.size
                have OW : Hid (w7.ownsRow w.heap.size 71 2 (.slice (some ⟨gg, 0, none⟩) (1 + more.length) cap) ((nm, vv) :: more).length (prCells ((nm, vv) :: more))) :=
                  (congrArg (fun n => w7.ownsRow w.heap.size 71 2 (.slice (some ⟨gg, 0, none⟩) (1 + more.length) cap) n (prCells ((nm, vv) :: more))) (by simp [Nat.add_comm] : 1 + more.length = ((nm, vv) :: more).length)).mp hown
                clear hgrow hcells ow5 ow6 hcx6 hown hA6 hB5 hat hgm hcx5 hct5
                go_wp2_with fail
                go_quiet (fail)
                go_wp2
                go_ret2
                refine ⟨⟨_, by rw [← HE.out.1]; rfl, fun ps h => ?_⟩, ?_⟩
                · rw [HE.out.2 ps h]; exact owns_below OW.out (below_drewN (Below.refl _ _) _)
                · exact below_drewN hB7 _
end Go.Proofs.YtnohadlihgjppaaDoor

/- The reference's Has and Match; nothing old in memory turns. -/
namespace Go.Proofs.YtnohadlihgjppaaDoor
open Go.RowKit

theorem restLast_of : ∀ (l : List (List UInt8)), (∀ i (hi : i < l.length), Pm.pieceK l[i] = 2 → i + 1 = l.length) → restLast l := by
  intro l
  induction l with
  | nil => intro _; trivial
  | cons a l ih =>
    intro h
    refine ⟨fun h2 => ?_, ih (fun i hi hk => ?_)⟩
    · have := h 0 (by simp) h2
      have : l.length = 0 := by simpa using this.symm
      exact List.eq_nil_of_length_eq_zero this
    · have := h (i + 1) (by simpa using hi) (by simpa using hk)
      simpa using this
theorem good_pieces {s : List UInt8} {ts : List ByteArray} (ht : ts.map (·.data.toList) = pcs s) (h : ∀ i (h : i < ts.length), okP ts ts[i] i = true) : pieces (pcs s) := by
  rw [← ht]
  constructor
  · apply restLast_of
    intro i hi hk
    rw [List.getElem_map] at hk
    rw [List.length_map] at hi ⊢
    exact good_rest h i hi hk
  · intro t htm hk
    obtain ⟨b, hb, rfl⟩ := List.mem_map.mp htm
    obtain ⟨i, hi, rfl⟩ := List.getElem_of_mem hb
    exact good_fix h i hi hk
theorem pcs_ne {s : List UInt8} (h : Lib.hasPrefix s [47] = true) : pcs s ≠ [] := by
  have hne : s ≠ [] := by rintro rfl; simp [Lib.hasPrefix] at h
  rw [pcs_step hne]; simp
theorem join_pcs (s : List UInt8) : (joinL (pcs s)).length ≤ s.length := by
  unfold pcs
  split
  · simp [joinL]
  · rw [join_split _ _ (Nat.le_refl _), List.length_drop]; omega

set_option maxRecDepth 100000 in
set_option maxHeartbeats 1000000 in
theorem rHas_any (s t : ByteArray) (w : World) (hs : s.size ≤ 1000000) (ht : t.size ≤ 4398046511104) :
    Calls Tryd.prog 35 #[.string s, .string t] w fun r w' => MaPost (hasL (pcs s.data.toList) (pcs t.data.toList)) w.heap.size r w' ∧ Below w.heap.size w w' := by
  have HP1 := hid (fun W => rPieces_any s W (by omega))
  have HP2 := hid (fun W => rPieces_any t W ht)
  have hsl : s.data.toList.length = s.size := by simp
  have htl : t.data.toList.length = t.size := by simp
  have l1 := pcs_le _ s.data.toList (Nat.le_refl _)
  have l2 := pcs_le _ t.data.toList (Nat.le_refl _)
  have j2 := join_pcs t.data.toList
  rw [hsl] at l1
  rw [htl] at l2 j2
  generalize hPO : hasL (pcs s.data.toList) (pcs t.data.toList) = PO
  have HPO := hid hPO
  clear hPO
  go_enter Tryd.func35, Tryd.ntmps35
  go_wp2_with fail
  refine (HP1.out _).mono ?_
  rintro e w1 ⟨⟨v1, ts, rfl, ow1, h1⟩, hb1⟩
  obtain ⟨a, ca, rfl, hca, st1⟩ := StO.of_owns ow1
  rw [← h1] at l1 HPO
  clear HP1 ow1
  go_wp2_with fail
  refine (HP2.out _).mono ?_
  rintro e w2 ⟨⟨v2, xs, rfl, ow2, h2⟩, hb2⟩
  obtain ⟨b, cb, rfl, hcb, st2⟩ := StO.of_owns ow2
  have hB2 := bel_of hb1 hb2
  rw [← h2] at l2 j2 HPO
  rw [List.length_map] at l1 l2
  have HH := hid (rhas_any ts xs a b ca cb w2 (st1.below hb2) st2 hca hcb (by omega) (by omega) (by omega) (fun x hx => by
    have := l1.2 x.data.toList (List.mem_map.mpr ⟨x, hx, rfl⟩)
    have e : x.data.toList.length = x.size := by simp
    omega))
  rw [HPO.out] at HH
  clear HPO HP2 ow2 st1 st2 hb1 hb2 l1 l2 j2 h1 h2 hsl htl
  go_wp2_with fail
  refine HH.out.mono ?_
  rintro e w3 ⟨⟨v, rfl, hv⟩, hb3⟩
  have hB3 := bel_of hB2 hb3
  clear HH
  cases PO with
  | none =>
    clear hv
    go_wp2
    go_ret2
    exact ⟨rfl, hB3⟩
  | some ps =>
    have OW := hid (owns_base (hv ps rfl) hB2.size)
    clear hv
    go_wp2
    go_ret2
    exact ⟨⟨_, rfl, OW.out⟩, hB3⟩

set_option maxRecDepth 100000 in
set_option maxHeartbeats 1000000 in
theorem rfMatch_any (s t : ByteArray) (w : World) (hz : s.size ≤ 4398046511104) (ht : t.size ≤ 4398046511104) :
    Calls Tryd.prog 16 #[.string s, .string t] w fun r w' => MsPost (matchS s.data.toList t.data.toList) w.heap.size r w' ∧ Below w.heap.size w w' := by
  have HI := hid (fun W => rIsPattern_any s W hz)
  have HT := hid (fun W => rIsPath_any t W (by unfold maxLen; omega))
  have HH := hid (fun W (h : s.size ≤ 1000000) => rHas_any s t W h ht)
  have hsl : s.data.toList.length = s.size := by simp
  generalize hR : matchS s.data.toList t.data.toList = R
  have HR := hid hR
  clear hR
  unfold matchS at HR
  go_enter Tryd.func16, Tryd.ntmps16
  go_wp2_with fail
  refine (HI.out _).mono ?_
  rintro e w1 ⟨⟨b, ts, rfl, h1, hiff⟩, hb1⟩
  clear HI
  cases b
  · have hbad : ¬ GoodP s.data.toList ts := fun h => by
      have := hiff.mpr (by unfold GoodP at h; rw [hsl] at h; exact h)
      cases this
    have HN : Hid (R = (8, [])) := by unfold Hid; rw [← HR.out, patternOf_bad h1 hbad]
    clear HR HH HT hiff hbad h1
    go_wp2
    go_ret2
    rw [HN.out]
    exact ⟨⟨_, rfl, World.ownsRow_nil _ _ _ _⟩, hb1⟩
  · obtain ⟨g1, g2, g3⟩ := hiff.mp rfl
    have hgood : GoodP s.data.toList ts := ⟨by rw [hsl]; exact g1, g2, g3⟩
    have hp := good_pieces h1 g3
    rw [patternOf_good h1 hgood] at HR
    clear hiff hgood g3
    go_wp2_with fail
    refine (HT.out _).mono ?_
    rintro e w2 ⟨rfl, hb2⟩
    have hB2 := bel_of hb1 hb2
    cases hi : Pm.isPath t.data.toList
    · have HN : Hid (R = (3, [])) := by unfold Hid; rw [← HR.out, hi]; rfl
      clear HR HH HT h1 hp hi
      go_wp2
      go_ret2
      rw [HN.out]
      exact ⟨⟨_, rfl, World.ownsRow_nil _ _ _ _⟩, hB2⟩
    · simp only [hi, if_true] at HR
      rw [match_hs hp.1 hi] at HR
      unfold hs at HR
      have HH2 := hid (fun W => HH.out W (by omega))
      generalize hasL (pcs s.data.toList) (pcs t.data.toList) = MO at *
      clear HH HT h1 hp hi g2
      go_wp2_with fail
      refine (HH2.out _).mono ?_
      rintro e w3 ⟨hr3, hb3⟩
      have hB3 := bel_of hB2 hb3
      clear HH2
      cases MO with
      | none =>
        have HN : Hid (R = (11, [])) := HR.out.symm
        clear HR
        obtain rfl : e = _ := hr3
        go_wp2
        go_ret2
        rw [HN.out]
        exact ⟨⟨_, rfl, World.ownsRow_nil _ _ _ _⟩, hB3⟩
      | some fs =>
        have HN : Hid (R = (0, fs)) := HR.out.symm
        clear HR
        obtain ⟨v, rfl, ow3⟩ := hr3
        have OW := hid (owns_base ow3 hB2.size)
        clear ow3
        go_wp2
        go_ret2
        rw [HN.out]
        exact ⟨⟨_, rfl, OW.out⟩, hB3⟩
end Go.Proofs.YtnohadlihgjppaaDoor
