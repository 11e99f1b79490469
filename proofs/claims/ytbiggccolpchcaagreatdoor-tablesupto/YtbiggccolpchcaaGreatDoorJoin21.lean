/- Texts that follow one another, joined. -/
import Derived.Test.YtbiggccolpchcaaGreatDoorJoin20
/- Where a request of a method and a target leads. -/
namespace Go.Proofs.YtbiggccolpchcaaGreatDoor
open Go.RowKit

structure DsR where
  st : Int
  ro : Nat
  ps : List Prm
  al : List UInt8
  lo : List UInt8
  e : Int
def dspG (m t : List UInt8) (es : List Ent) : DsR :=
  if Pm.isMethod m = false ∨ Pm.isTarget t = false then ⟨0, 0, [], [], [], 3⟩
  else if (leadG m (Pm.ahead 63 t) es).2.2 = 0 then ⟨200, (leadG m (Pm.ahead 63 t) es).1, (leadG m (Pm.ahead 63 t) es).2.1, [], [], 0⟩
  else if (otG m (Pm.ahead 63 t) es).2 = true then ⟨movG m, 0, [], [], (otG m (Pm.ahead 63 t) es).1 ++ Pm.behind 63 t, 0⟩
  else if alwG (Pm.ahead 63 t) es ≠ [] then ⟨405, 0, [], Lib.join (alwG (Pm.ahead 63 t) es) [44, 32], [], 0⟩
  else ⟨404, 0, [], [], [], 0⟩
def DpPost (R : DsR) (w : World) (x : Ending) (w' : World) : Prop :=
  (∃ vv, ∃ ua ul : ByteArray, x = .returned (.tuple #[.agg #[.int .i64 R.st, .int .i64 R.ro, vv, .string ua, .string ul], .int .i64 R.e]) ∧ ua.data.toList = R.al ∧ ul.data.toList = R.lo ∧ w'.ownsRow w.heap.size 129 2 vv R.ps.length (prCells R.ps)) ∧ Below w.heap.size w w'
def FnB (g : Nat) (st ro : Int) (vv : Value) (al lo : ByteArray) (w : World) : Prop := w.heap[g]? = some (.cells #[.int .i64 st, .int .i64 ro, vv, .string al, .string lo] 158 (0, 0))
theorem FnB.cells {g : Nat} {st ro : Int} {vv : Value} {al lo : ByteArray} {w : World} (h : FnB g st ro vv al lo w) : w.cell? ⟨g, 0, none⟩ = some (.int .i64 st) ∧ w.cell? ⟨g, 1, none⟩ = some (.int .i64 ro) ∧ w.cell? ⟨g, 2, none⟩ = some vv ∧ w.cell? ⟨g, 3, none⟩ = some (.string al) ∧ w.cell? ⟨g, 4, none⟩ = some (.string lo) := by
  refine ⟨?_, ?_, ?_, ?_, ?_⟩ <;> (rw [Lib.cell_of_heap h]; rfl)
theorem FnB.free {g : Nat} {st ro : Int} {vv : Value} {al lo : ByteArray} {w : World} (h : FnB g st ro vv al lo w) (j : Nat) : w.frozen? ⟨g, j, none⟩ = false := Lib.frozen_of_heap h j
theorem FnB.lt {g : Nat} {st ro : Int} {vv : Value} {al lo : ByteArray} {w : World} (h : FnB g st ro vv al lo w) : g < w.heap.size := block_lt_of_cell h.cells.1
theorem FnB.below {g : Nat} {st ro : Int} {vv : Value} {al lo : ByteArray} {w w' : World} (h : FnB g st ro vv al lo w) (hb : Below w.heap.size w w') : FnB g st ro vv al lo w' := by
  have := hb.block g h.lt; unfold FnB at *; rw [this]; exact h
def setF (g : Nat) (st ro : Int) (vv : Value) (al lo : ByteArray) (w : World) : World := ((((w.setCell ⟨g, 0, none⟩ (.int .i64 st)).setCell ⟨g, 1, none⟩ (.int .i64 ro)).setCell ⟨g, 2, none⟩ vv).setCell ⟨g, 3, none⟩ (.string al)).setCell ⟨g, 4, none⟩ (.string lo)
theorem FnB.set {g : Nat} {st ro : Int} {vv : Value} {al lo : ByteArray} {w : World} (h : FnB g st ro vv al lo w) (st' ro' : Int) (vv' : Value) (al' lo' : ByteArray) : FnB g st' ro' vv' al' lo' (setF g st' ro' vv' al' lo' w) := by
  unfold FnB setF at *
  rw [heap_setCell_same _ g 4 _ _ _ (heap_setCell_same _ g 3 _ _ _ (heap_setCell_same _ g 2 _ _ _ (heap_setCell_same _ g 1 _ _ _ (heap_setCell_same _ g 0 _ _ _ h))))]
  rfl
theorem below_setF {g B : Nat} {st ro : Int} {vv : Value} {al lo : ByteArray} {w w' : World} (h : Below B w w') (hB : B ≤ g) : Below B w (setF g st ro vv al lo w') :=
  ((((h.setCell hB _).setCell hB _).setCell hB _).setCell hB _).setCell hB _
theorem owns_setF {g B : Nat} {e : TypeId} {sz n : Nat} {v : Value} {xs : List Value} {st ro : Int} {vv : Value} {al lo : ByteArray} {w : World} (h : w.ownsRow B e sz v n xs) (hn : v.ownBlock ≠ some g) : (setF g st ro vv al lo w).ownsRow B e sz v n xs :=
  owns_not (owns_not (owns_not (owns_not (owns_not h hn 0 _) hn 1 _) hn 2 _) hn 3 _) hn 4 _
set_option maxRecDepth 100000 in
set_option maxHeartbeats 2000000 in
theorem dispatch_bad (p : Value) (m t : ByteArray) (w : World) (hm : m.size ≤ maxLen) (ht : t.size ≤ 140737488355328) (h : Pm.isMethod m.data.toList = false ∨ Pm.isTarget t.data.toList = false) :
    Calls Tryz.prog 145 #[p, .string m, .string t] w (DpPost ⟨0, 0, [], [], [], 3⟩ w) := by
  have HM := hid (fun W => wIsMethod_any m W hm)
  have HT := hid (fun W => wIsTarget_any t W ht)
  have hA := (Below.refl w.heap.size w).alloc (Nat.le_refl _) (.cells #[.int .i64 0, .int .i64 0, .slice none 0 0, .string ⟨#[]⟩, .string ⟨#[]⟩] 158)
  have h0 : FnB w.heap.size 0 0 (.slice none 0 0) ⟨#[]⟩ ⟨#[]⟩ (w.alloc (.cells #[.int .i64 0, .int .i64 0, .slice none 0 0, .string ⟨#[]⟩, .string ⟨#[]⟩] 158)) := heap_alloc_new w _
  go_enter Tryz.func145, Tryz.ntmps145
  go_wp2_with fail
  generalize w.alloc (.cells #[.int .i64 0, .int .i64 0, .slice none 0 0, .string ⟨#[]⟩, .string ⟨#[]⟩] 158) = w1 at *
  refine (HM.out _).mono ?_
  rintro x w2 ⟨rfl, rfl⟩
  cases hmm : Pm.isMethod m.data.toList
  · obtain ⟨c0, c1, c2, c3, c4⟩ := h0.cells
    have f0 := h0.free 0
    have f1 := h0.free 1
    have f2 := h0.free 2
    have f3 := h0.free 3
    have f4 := h0.free 4
    have l0 := h0.lt
    have H1 := hid (h0.set 0 0 (.slice none 0 0) ⟨#[]⟩ ⟨#[]⟩)
    obtain ⟨d0, d1, d2, d3, d4⟩ := H1.out.cells
    unfold setF at d0 d1 d2 d3 d4
    go_wp2
    refine bodyPost_ret (v := .tuple #[.agg #[.int .i64 0, .int .i64 0, .slice none 0 0, .string ⟨#[]⟩, .string ⟨#[]⟩], .int .i64 3]) (by simp [results, Tryz.results145, go_sem, d0, d1, d2, d3, d4]) rfl ?_
    exact ⟨⟨_, _, _, rfl, rfl, rfl, World.ownsRow_nil _ _ _ _⟩, below_setF hA (Nat.le_refl _)⟩
  · have ht0 : Pm.isTarget t.data.toList = false := h.resolve_left (by rw [hmm]; simp)
    rw [ht0] at HT
    go_wp2_with fail
    refine (HT.out _).mono ?_
    rintro x w3 ⟨rfl, hb3⟩
    have hB3 := bel_of hA hb3
    have h3 := h0.below hb3
    obtain ⟨c0, c1, c2, c3, c4⟩ := h3.cells
    have f0 := h3.free 0
    have f1 := h3.free 1
    have f2 := h3.free 2
    have f3 := h3.free 3
    have f4 := h3.free 4
    have l0 := h3.lt
    have H1 := hid (h3.set 0 0 (.slice none 0 0) ⟨#[]⟩ ⟨#[]⟩)
    obtain ⟨d0, d1, d2, d3, d4⟩ := H1.out.cells
    unfold setF at d0 d1 d2 d3 d4
    go_wp2
    refine bodyPost_ret (v := .tuple #[.agg #[.int .i64 0, .int .i64 0, (.slice none 0 0), .string ⟨#[]⟩, .string ⟨#[]⟩], .int .i64 3]) (by simp [results, Tryz.results145, go_sem, d0, d1, d2, d3, d4]) rfl ?_
    exact ⟨⟨_, _, _, rfl, rfl, rfl, World.ownsRow_nil _ _ _ _⟩, below_setF hB3 (Nat.le_refl _)⟩
theorem other_as (gs B : Nat) (es : List Ent) (v : Value) (m o : ByteArray) (L : List UInt8) (ho : o.data.toList = L) (w : World) (hT : TbAt gs 0 B es v w) (hp : Pm.isPath L = true) (h2 : L.length ≤ 140737488355000) :
    Calls Tryz.prog 204 #[.pointer (some ⟨gs, 0, none⟩), .string m, .string o] w (OtPost (otG m.data.toList L es) w) := by
  subst ho
  have e : o.data.toList.length = o.size := by simp
  exact leadOther_any gs B es v m o w hT hp (by omega)
theorem allowed_as (gs B : Nat) (es : List Ent) (v : Value) (o : ByteArray) (L : List UInt8) (ho : o.data.toList = L) (w : World) (hT : TbAt gs 0 B es v w) (hp : Pm.isPath L = true) (h1 : 1 ≤ L.length) (h2 : L.length ≤ 140737488355328) :
    Calls Tryz.prog 206 #[.pointer (some ⟨gs, 0, none⟩), .string o] w fun x w' => (∃ vv, x = .returned vv ∧ w'.ownsRow w.heap.size 9 1 vv (alwG L es).length (encs (alwG L es))) ∧ Below w.heap.size w w' := by
  subst ho
  have e : o.data.toList.length = o.size := by simp
  exact allowed_any gs B es v o w hT hp (by omega) (by omega)
theorem otG_len (m l : List UInt8) (es : List Ent) (h : Pm.isPath l = true) : (otG m l es).1.length ≤ l.length + 1 := by
  unfold otG
  by_cases h1 : l = [47]
  · rw [if_pos h1]; simp
  · rw [if_neg h1]; exact (other_path h h1).2.2
theorem alwG_few (l : List UInt8) (es : List Ent) : (alwG l es).length ≤ es.length + 1 := by
  have := methS_few l es
  unfold alwG
  split
  · rw [srt_len, List.length_append]; simp; omega
  · omega
set_option maxRecDepth 100000 in
set_option maxHeartbeats 1000000 in
theorem dispatch_ok (gs B : Nat) (es : List Ent) (v : Value) (m t : ByteArray) (w : World) (hT : TbAt gs 0 B es v w) (hm : m.size ≤ maxLen) (ht : t.size ≤ 140737488350000) (h1 : Pm.isMethod m.data.toList = true) (h2 : Pm.isTarget t.data.toList = true) (hj : (Lib.join (alwG (Pm.ahead 63 t.data.toList) es) [44, 32]).length ≤ 140737488355328) :
    Calls Tryz.prog 145 #[.pointer (some ⟨gs, 0, none⟩), .string m, .string t] w (DpPost (dspG m.data.toList t.data.toList es) w) := by
  have hpt : Pm.isPath (Pm.ahead 63 t.data.toList) = true := by
    rw [Pm.isTarget_path, Bool.and_eq_true] at h2; exact h2.1
  have htl : t.data.toList.length = t.size := by simp
  have hal : (Pm.ahead 63 t.data.toList).length ≤ t.size := by rw [← htl]; exact (List.takeWhile_prefix _).length_le
  have hbl : (Pm.behind 63 t.data.toList).length ≤ t.size := by rw [← htl]; exact (List.dropWhile_suffix _).length_le
  have hne : 1 ≤ (Pm.ahead 63 t.data.toList).length := by
    unfold Pm.isPath at hpt
    rw [Bool.and_eq_true] at hpt
    cases hq : Pm.ahead 63 t.data.toList with
    | nil => rw [hq] at hpt; exact absurd hpt.2 (by decide)
    | cons c r => simp
  have hfew := hT.few
  have HR : Hid (dspG m.data.toList t.data.toList es = if (leadG m.data.toList (Pm.ahead 63 t.data.toList) es).2.2 = 0 then ⟨200, (leadG m.data.toList (Pm.ahead 63 t.data.toList) es).1, (leadG m.data.toList (Pm.ahead 63 t.data.toList) es).2.1, [], [], 0⟩
  else if (otG m.data.toList (Pm.ahead 63 t.data.toList) es).2 = true then ⟨movG m.data.toList, 0, [], [], (otG m.data.toList (Pm.ahead 63 t.data.toList) es).1 ++ Pm.behind 63 t.data.toList, 0⟩
  else if alwG (Pm.ahead 63 t.data.toList) es ≠ [] then ⟨405, 0, [], Lib.join (alwG (Pm.ahead 63 t.data.toList) es) [44, 32], [], 0⟩
  else ⟨404, 0, [], [], [], 0⟩) := by
    unfold Hid dspG
    rw [if_neg (by rw [h1, h2]; simp)]
  have HM := hid (fun W => wIsMethod_any m W hm)
  have HTg := hid (fun W => wIsTarget_any t W (by omega))
  rw [h1] at HM
  rw [h2] at HTg
  have HSP := hid (fun W => splitTarget_any t W (by unfold maxLen; omega))
  have HMV := hid (fun W => moved_any m W)
  have HLD := hid (fun (o : ByteArray) (ho : o.data.toList = Pm.ahead 63 t.data.toList) W (hW : Below w.heap.size w W) => lead_as gs B es v m o _ ho W (hT.below hW) hpt hne (by omega))
  have HLO := hid (fun (o : ByteArray) (ho : o.data.toList = Pm.ahead 63 t.data.toList) W (hW : Below w.heap.size w W) => other_as gs B es v m o _ ho W (hT.below hW) hpt (by omega))
  have HAL := hid (fun (o : ByteArray) (ho : o.data.toList = Pm.ahead 63 t.data.toList) W (hW : Below w.heap.size w W) => allowed_as gs B es v o _ ho W (hT.below hW) hpt hne (by omega))
  have hol := otG_len m.data.toList (Pm.ahead 63 t.data.toList) es hpt
  have haf := alwG_few (Pm.ahead 63 t.data.toList) es
  have lt0 := hT.lt
  have hA := (Below.refl w.heap.size w).alloc (Nat.le_refl _) (.cells #[.int .i64 0, .int .i64 0, .slice none 0 0, .string ⟨#[]⟩, .string ⟨#[]⟩] 158)
  have h0 : FnB w.heap.size 0 0 (.slice none 0 0) ⟨#[]⟩ ⟨#[]⟩ (w.alloc (.cells #[.int .i64 0, .int .i64 0, .slice none 0 0, .string ⟨#[]⟩, .string ⟨#[]⟩] 158)) := heap_alloc_new w _
  generalize dspG m.data.toList t.data.toList es = R at *
  generalize leadG m.data.toList (Pm.ahead 63 t.data.toList) es = LG at *
  generalize otG m.data.toList (Pm.ahead 63 t.data.toList) es = OG at *
  generalize alwG (Pm.ahead 63 t.data.toList) es = AG at *
  generalize movG m.data.toList = MG at *
  generalize hPA : Pm.ahead 63 t.data.toList = PA at *
  generalize hPB : Pm.behind 63 t.data.toList = PB at *
  clear hT hpt h1 h2 htl hPA hPB
  go_enter Tryz.func145, Tryz.ntmps145
  go_wp2_with fail
  generalize w.alloc (.cells #[.int .i64 0, .int .i64 0, .slice none 0 0, .string ⟨#[]⟩, .string ⟨#[]⟩] 158) = w1 at *
  refine (HM.out _).mono ?_
  rintro x w2 ⟨rfl, rfl⟩
  go_wp2_with fail
  refine (HTg.out _).mono ?_
  rintro x w3 ⟨rfl, hb3⟩
  have hB3 := bel_of hA hb3
  have h3 := h0.below hb3
  go_wp2_with fail
  refine (HSP.out _).mono ?_
  rintro x w4 ⟨⟨pa, pb, rfl, hpa, hpb⟩, hb4⟩
  have hB4 := bel_of hB3 hb4
  have h4 := h3.below hb4
  clear h0 h3 hb3 hb4 hA hB3 HM HTg HSP
  go_wp2_with fail
  refine (HLD.out _ hpa _ hB4).mono ?_
  rintro x w5 ⟨⟨vv, rfl, ow⟩, hb5⟩
  have hB5 := bel_of hB4 hb5
  have h5 := h4.below hb5
  have HO := hid ow
  obtain ⟨ax, cx, rfl⟩ := sl_of ow
  clear ow
  by_cases q1 : LG.2.2 = 0
  · have hR := HR.out
    rw [if_pos q1] at hR
    subst hR
    rw [decide_eq_true q1]
    have hno : (Value.slice ax LG.2.1.length cx).ownBlock ≠ some w.heap.size := fun e => by have := own_ge HO.out _ e; have := h4.lt; omega
    have HO2 := hid (owns_base HO.out hB4.size)
    clear HR HLD HLO HAL HMV h4 HO
    obtain ⟨c0, c1, c2, c3, c4⟩ := h5.cells
    have f0 := h5.free 0
    have f1 := h5.free 1
    have f2 := h5.free 2
    have f3 := h5.free 3
    have f4 := h5.free 4
    have l0 := h5.lt
    have H1 := hid (h5.set 200 LG.1 (.slice ax LG.2.1.length cx) ⟨#[]⟩ ⟨#[]⟩)
    obtain ⟨d0, d1, d2, d3, d4⟩ := H1.out.cells
    unfold setF at d0 d1 d2 d3 d4
    go_wp2
    refine bodyPost_ret (v := .tuple #[.agg #[.int .i64 200, .int .i64 LG.1, .slice ax LG.2.1.length cx, .string ⟨#[]⟩, .string ⟨#[]⟩], .int .i64 0]) (by simp [results, Tryz.results145, go_sem, d0, d1, d2, d3, d4]) rfl ?_
    exact ⟨⟨_, _, _, rfl, rfl, rfl, owns_setF HO2.out hno⟩, below_setF hB5 (Nat.le_refl _)⟩
  · rw [decide_eq_false q1]
    clear HO
    go_wp2_with fail
    refine (HLO.out _ hpa _ hB5).mono ?_
    rintro x w6 ⟨⟨ob, rfl, hob⟩, hb6⟩
    have hB6 := bel_of hB5 hb6
    have h6 := h5.below hb6
    by_cases q2 : OG.2 = true
    · have hR := HR.out
      rw [if_neg q1, if_pos q2] at hR
      subst hR
      rw [q2]
      have hsz : (ob ++ pb).size ≤ 281474976710656 := by
        have e1 : ob.data.toList.length = ob.size := by simp
        have e2 : pb.data.toList.length = pb.size := by simp
        rw [ByteArray.size_append]; rw [hob] at e1; rw [hpb] at e2; omega
      have hsm : ob.size + pb.size ≤ 281474976710656 := by rw [ByteArray.size_append] at hsz; exact hsz
      have hk1 : ob.size + pb.size ≤ 9223372036854775807 := by omega
      have hk2 : ¬ 9223372036854775807 < ob.size + pb.size := by omega
      have HCL := hid (fun W => clone_any (ob ++ pb) W hsz)
      have hlo : (ob ++ pb).data.toList = OG.1 ++ PB := by rw [← hob, ← hpb]; simp
      clear HR HLD HLO HAL h4 h5
      go_wp2_with fail
      refine (HCL.out _).mono ?_
      rintro x w7 ⟨rfl, hb7⟩
      have hB7 := bel_of hB6 hb7
      have h7 := h6.below hb7
      go_wp2_with fail
      refine (HMV.out _).mono ?_
      rintro x w8 ⟨rfl, hb8⟩
      have hB8 := bel_of hB7 hb8
      have h8 := h7.below hb8
      clear h6 h7 hb7 hb8 HMV HCL
      obtain ⟨c0, c1, c2, c3, c4⟩ := h8.cells
      have f0 := h8.free 0
      have f1 := h8.free 1
      have f2 := h8.free 2
      have f3 := h8.free 3
      have f4 := h8.free 4
      have l0 := h8.lt
      have H1 := hid (h8.set MG 0 (.slice none 0 0) ⟨#[]⟩ (ob ++ pb))
      obtain ⟨d0, d1, d2, d3, d4⟩ := H1.out.cells
      unfold setF at d0 d1 d2 d3 d4
      go_wp2
      refine bodyPost_ret (v := .tuple #[.agg #[.int .i64 MG, .int .i64 0, (.slice none 0 0), .string ⟨#[]⟩, .string (ob ++ pb)], .int .i64 0]) (by simp [results, Tryz.results145, go_sem, d0, d1, d2, d3, d4]) rfl ?_
      exact ⟨⟨_, _, _, rfl, rfl, hlo, World.ownsRow_nil _ _ _ _⟩, below_setF hB8 (Nat.le_refl _)⟩
    · have q2' : OG.2 = false := by simpa using q2
      rw [q2']
      clear HLO HMV
      go_wp2_with fail
      refine (HAL.out _ hpa _ hB6).mono ?_
      rintro x w7 ⟨⟨va, rfl, oa⟩, hb7⟩
      have hB7 := bel_of hB6 hb7
      have h7 := h6.below hb7
      obtain ⟨aa, ca, rfl⟩ := sl_of oa
      by_cases q3 : AG ≠ []
      · have hR := HR.out
        rw [if_neg q1, if_neg q2, if_pos q3] at hR
        subst hR
        have hpos : (0 : Int) < (AG.length : Int) := by
          have := List.length_pos_iff.2 q3; omega
        have HJ := hid (join_own _ AG ⟨#[44, 32]⟩ _ w7 oa (by omega) hj)
        have hsep : (⟨#[44, 32]⟩ : ByteArray).data.toList = [44, 32] := rfl
        rw [hsep] at HJ
        generalize Lib.join AG [44, 32] = JG at *
        clear HR HLD HAL h4 h5 h6 oa hsep
        go_wp2_with fail
        refine HJ.out.mono ?_
        rintro x w8 ⟨rfl, hb8⟩
        have hB8 := bel_of hB7 hb8
        have h8 := h7.below hb8
        clear h7 hb8 HJ
        obtain ⟨c0, c1, c2, c3, c4⟩ := h8.cells
        have f0 := h8.free 0
        have f1 := h8.free 1
        have f2 := h8.free 2
        have f3 := h8.free 3
        have f4 := h8.free 4
        have l0 := h8.lt
        have H1 := hid (h8.set 405 0 (.slice none 0 0) ⟨JG.toArray⟩ ⟨#[]⟩)
        obtain ⟨d0, d1, d2, d3, d4⟩ := H1.out.cells
        unfold setF at d0 d1 d2 d3 d4
        go_wp2
        refine bodyPost_ret (v := .tuple #[.agg #[.int .i64 405, .int .i64 0, (.slice none 0 0), .string ⟨JG.toArray⟩, .string ⟨#[]⟩], .int .i64 0]) (by simp [results, Tryz.results145, go_sem, d0, d1, d2, d3, d4]) rfl ?_
        exact ⟨⟨_, _, _, rfl, (by simp), rfl, World.ownsRow_nil _ _ _ _⟩, below_setF hB8 (Nat.le_refl _)⟩
      · have hR := HR.out
        rw [if_neg q1, if_neg q2, if_neg q3] at hR
        subst hR
        have hz : AG = [] := Classical.not_not.1 q3
        subst hz
        clear HR HLD HAL h4 h5 h6 oa
        obtain ⟨c0, c1, c2, c3, c4⟩ := h7.cells
        have f0 := h7.free 0
        have f1 := h7.free 1
        have f2 := h7.free 2
        have f3 := h7.free 3
        have f4 := h7.free 4
        have l0 := h7.lt
        have H1 := hid (h7.set 404 0 (.slice none 0 0) ⟨#[]⟩ ⟨#[]⟩)
        obtain ⟨d0, d1, d2, d3, d4⟩ := H1.out.cells
        unfold setF at d0 d1 d2 d3 d4
        go_wp2
        refine bodyPost_ret (v := .tuple #[.agg #[.int .i64 404, .int .i64 0, (.slice none 0 0), .string ⟨#[]⟩, .string ⟨#[]⟩], .int .i64 0]) (by simp [results, Tryz.results145, go_sem, d0, d1, d2, d3, d4]) rfl ?_
        exact ⟨⟨_, _, _, rfl, rfl, rfl, World.ownsRow_nil _ _ _ _⟩, below_setF hB7 (Nat.le_refl _)⟩
end Go.Proofs.YtbiggccolpchcaaGreatDoor

/- A site of any configuration; what rests on a table's methods and patterns alone; the list of methods is short. -/
namespace Go.Proofs.YtbiggccolpchcaaGreatDoor
open Go.RowKit

theorem new_any (hd bd : Int) (rs : List Rt) (ws : List Wr) (ar : Option Addr) (cr : Nat) (aw : Option Addr) (cw : Nat) (mx : Int) (w : World) (hR : MuAt 6 Rt.cells rs ar w) (hW : MuAt 4 Wr.cells ws aw w) (hro : ∀ r ∈ rs, RtOk r) (hwo : ∀ x ∈ ws, x.n.size ≤ 281474976710656 ∧ x.v.size ≤ 281474976710656) (hm : w.cell? ⟨0, 0, none⟩ = some (.int .i64 mx)) :
    Calls Tryz.prog 144 #[.agg #[.int .i64 hd, .int .i64 bd, .slice ar rs.length cr, .slice aw ws.length cw]] w (NwPost rs ws (cfgE hd bd rs ws) w) := by
  unfold cfgE
  cases h : decide (32 ≤ hd ∧ hd ≤ 500 ∧ 0 ≤ bd ∧ bd ≤ 200)
  · rw [if_pos rfl]
    exact (new_lim hd bd ar rs.length cr aw ws.length cw w h).mono fun x w' ⟨h1, h2⟩ => NwPost.err h1 (by simp) h2
  · rw [if_neg (by simp)]
    by_cases hf : 24 < rs.length ∨ 6 < ws.length
    · rw [if_pos hf]
      exact (new_full hd bd ar rs.length cr aw ws.length cw w h hf).mono fun x w' ⟨h1, h2⟩ => NwPost.err h1 (by simp) h2
    · rw [if_neg hf]
      exact new_main hd bd rs ws ar cr aw cw mx w h (by omega) (by omega) hR hW hro hwo hm
theorem methG_bare (l : List UInt8) (es : List Ent) : methG l (es.map Ent.bare) = methG l es := by
  unfold methG
  induction es with
  | nil => rfl
  | cons e r ih =>
    rw [List.map_cons, List.filter_cons, List.filter_cons]
    have : (matchB e.bare.ps (l.drop 1) true []).isSome = (matchB e.ps (l.drop 1) true []).isSome := rfl
    rw [this]
    split
    · rw [List.map_cons, List.map_cons, ih]; rfl
    · exact ih
theorem alwG_bare (l : List UInt8) (es : List Ent) : alwG l (es.map Ent.bare) = alwG l es := by
  unfold alwG methS; rw [methG_bare]
theorem otG_bare (m l : List UInt8) (es : List Ent) : otG m l (es.map Ent.bare) = otG m l es := by
  unfold otG; rw [leadG_bare]
theorem dspG_bare (m t : List UInt8) (es : List Ent) : dspG m t (es.map Ent.bare) = dspG m t es := by
  unfold dspG; rw [leadG_bare, otG_bare, alwG_bare]
theorem join_len (K : Nat) (sep : List UInt8) : ∀ (l : List (List UInt8)), (∀ x ∈ l, x.length ≤ K) → (Lib.join l sep).length ≤ l.length * (K + sep.length)
  | [], _ => by simp [Lib.join, List.intercalate]
  | [x], h => by
    have := h x (by simp)
    simp [Lib.join, List.intercalate]; omega
  | x :: y :: r, h => by
    have hx := h x (by simp)
    have ih := join_len K sep (y :: r) (fun z hz => h z (by simp [hz]))
    have e : Lib.join (x :: y :: r) sep = x ++ (sep ++ Lib.join (y :: r) sep) := by simp [Lib.join, List.intercalate, List.intersperse]
    rw [e]
    simp only [List.length_append, List.length_cons] at ih ⊢
    rw [Nat.succ_mul]
    omega
theorem alw_mem {l x : List UInt8} {es : List Ent} (h : x ∈ alwG l es) : x = hdL ∨ ∃ e ∈ es, x = e.m.data.toList := by
  have key : ∀ y, y ∈ methS l es → ∃ e ∈ es, y = e.m.data.toList := fun y hy => by
    unfold methS srt at hy
    rw [List.mem_mergeSort, List.mem_map] at hy
    obtain ⟨b, hb, rfl⟩ := hy
    unfold methG at hb
    rw [List.mem_map] at hb
    obtain ⟨e, he, rfl⟩ := hb
    exact ⟨e, (List.mem_filter.1 he).1, rfl⟩
  unfold alwG at h
  split at h
  · unfold srt at h
    rw [List.mem_mergeSort, List.mem_append] at h
    rcases h with h | h
    · exact .inr (key x h)
    · exact .inl (by simpa using h)
  · exact .inr (key x h)
theorem alw_join (l : List UInt8) (es : List Ent) (h : ∀ e ∈ es, e.m.size ≤ 1000) (hf : es.length ≤ 24) : (Lib.join (alwG l es) [44, 32]).length ≤ 100000 := by
  have h1 := join_len 1000 [44, 32] (alwG l es) (fun x hx => by
    rcases alw_mem hx with rfl | ⟨e, he, rfl⟩
    · decide
    · have := h e he
      have e2 : e.m.data.toList.length = e.m.size := by simp
      omega)
  have h2 := alwG_few l es
  have h3 : (alwG l es).length ≤ 25 := by omega
  have h4 : (alwG l es).length * (1000 + [44, 32].length) ≤ 25 * (1000 + [44, 32].length) := Nat.mul_le_mul_right _ h3
  simp at h4 h1
  omega
/- routes that are right have methods -/
theorem rts_meth : ∀ (rs : List Rt) (es : List Ent) (k : Nat), (rtsE rs es k).2 = 0 → ∀ r ∈ rs, Pm.isMethod r.m.data.toList = true
  | [], _, _, _, r, hr => absurd hr (by simp)
  | r :: rs, es, k, h, q, hq => by
    rw [rtsE] at h
    by_cases h0 : rtE es r = 0
    · rw [if_pos h0] at h
      rcases List.mem_cons.1 hq with rfl | hq
      · exact (rtE_in (.inl h0)).1
      · exact rts_meth rs _ _ h q hq
    · rw [if_neg h0] at h; exact absurd h h0
theorem cfg_ok {hd bd : Int} {rs : List Rt} {ws : List Wr} (h : (cfgE hd bd rs ws).2 = 0) : rs.length ≤ 24 ∧ ws.length ≤ 6 ∧ (rtsE rs [] 0).2 = 0 ∧ (wrsE ws 0).2 = 0 := by
  unfold cfgE at h
  by_cases h1 : decide (32 ≤ hd ∧ hd ≤ 500 ∧ 0 ≤ bd ∧ bd ≤ 200) = false
  · rw [if_pos h1] at h; simp at h
  · rw [if_neg h1] at h
    by_cases h2 : 24 < rs.length ∨ 6 < ws.length
    · rw [if_pos h2] at h; simp at h
    · rw [if_neg h2] at h
      by_cases h3 : (rtsE rs [] 0).2 = 0
      · rw [if_pos h3] at h; exact ⟨by omega, by omega, h3, h⟩
      · rw [if_neg h3] at h; exact absurd h h3
def pdG (hd bd : Int) (rs : List Rt) (ws : List Wr) (m t : List UInt8) : DsR :=
  if (cfgE hd bd rs ws).2 = 0 then dspG m t (rs.map rtBare) else ⟨0, 0, [], [], [], (cfgE hd bd rs ws).2⟩
end Go.Proofs.YtbiggccolpchcaaGreatDoor

/- The program's Dispatch, of any configuration, method and target. -/
namespace Go.Proofs.YtbiggccolpchcaaGreatDoor
open Go.RowKit

theorem dispatch_any (gs B : Nat) (es : List Ent) (v : Value) (m t : ByteArray) (w : World) (hT : TbAt gs 0 B es v w) (hm : m.size ≤ maxLen) (ht : t.size ≤ 140737488350000) (hj : (Lib.join (alwG (Pm.ahead 63 t.data.toList) es) [44, 32]).length ≤ 140737488355328) :
    Calls Tryz.prog 145 #[.pointer (some ⟨gs, 0, none⟩), .string m, .string t] w (DpPost (dspG m.data.toList t.data.toList es) w) := by
  by_cases h : Pm.isMethod m.data.toList = false ∨ Pm.isTarget t.data.toList = false
  · have e : dspG m.data.toList t.data.toList es = ⟨0, 0, [], [], [], 3⟩ := if_pos h
    rw [e]
    exact dispatch_bad _ m t w hm (by omega) h
  · have h1 : Pm.isMethod m.data.toList = true := by cases q : Pm.isMethod m.data.toList; exact absurd (.inl q) h; rfl
    have h2 : Pm.isTarget t.data.toList = true := by cases q : Pm.isTarget t.data.toList; exact absurd (.inr q) h; rfl
    exact dispatch_ok gs B es v m t w hT hm ht h1 h2 hj
/- a site that New has made, at a world where it stands -/
theorem site_join {gs B : Nat} {es : List Ent} {hs : List Hn} {ws : List Wr} {v vh vw : Value} {w : World} {rs : List Rt} (l : List UInt8) (hS : StI gs B es hs ws v vh vw w) (he : es.map Ent.bare = rs.map rtBare) (hr : (rtsE rs [] 0).2 = 0) : (Lib.join (alwG l es) [44, 32]).length ≤ 100000 := by
  refine alw_join l es (fun e hme => ?_) hS.tb.few
  have h1 : e.bare ∈ rs.map rtBare := by rw [← he]; exact List.mem_map.2 ⟨e, hme, rfl⟩
  obtain ⟨r, hr1, hr2⟩ := List.mem_map.1 h1
  have h3 : e.m = r.m := by have := congrArg Ent.m hr2; simpa [rtBare, Ent.bare] using this.symm
  rw [h3]
  exact meth_small (rts_meth rs [] 0 hr r hr1)
set_option maxRecDepth 100000 in
set_option maxHeartbeats 2000000 in
theorem pDispatch_any (hd bd : Int) (rs : List Rt) (ws : List Wr) (ar : Option Addr) (cr : Nat) (aw : Option Addr) (cw : Nat) (m t : ByteArray) (mx : Int) (w : World) (hR : MuAt 6 Rt.cells rs ar w) (hW : MuAt 4 Wr.cells ws aw w) (hro : ∀ r ∈ rs, RtOk r) (hwo : ∀ x ∈ ws, x.n.size ≤ 281474976710656 ∧ x.v.size ≤ 281474976710656) (hm : w.cell? ⟨0, 0, none⟩ = some (.int .i64 mx)) (hms : m.size ≤ maxLen) (hts : t.size ≤ 140737488350000) :
    Calls Tryz.prog 95 #[.agg #[.int .i64 hd, .int .i64 bd, .slice ar rs.length cr, .slice aw ws.length cw], .string m, .string t] w (DpPost (pdG hd bd rs ws m.data.toList t.data.toList) w) := by
  have HN := hid (fun W (hb : Below w.heap.size w W) => new_any hd bd rs ws ar cr aw cw mx W (hR.below hb) (hW.below hb) hro hwo (cell_later hb hm))
  have hA1 := (Below.refl w.heap.size w).alloc (Nat.le_refl _) (.cells #[.int .i64 hd, .int .i64 bd, .slice ar rs.length cr, .slice aw ws.length cw] 44)
  have hA := hA1.alloc hA1.size (.cells #[.int .i64 0, .int .i64 0, .slice none 0 0, .string ⟨#[]⟩, .string ⟨#[]⟩] 158)
  have z1 : (w.alloc (.cells #[.int .i64 hd, .int .i64 bd, .slice ar rs.length cr, .slice aw ws.length cw] 44)).heap.size = w.heap.size + 1 := by simp
  have hg1 := heap_alloc_new w (.cells #[.int .i64 hd, .int .i64 bd, .slice ar rs.length cr, .slice aw ws.length cw] 44)
  have h0 : FnB (w.heap.size + 1) 0 0 (.slice none 0 0) ⟨#[]⟩ ⟨#[]⟩ ((w.alloc (.cells #[.int .i64 hd, .int .i64 bd, .slice ar rs.length cr, .slice aw ws.length cw] 44)).alloc (.cells #[.int .i64 0, .int .i64 0, .slice none 0 0, .string ⟨#[]⟩, .string ⟨#[]⟩] 158)) := by
    rw [← z1]; exact heap_alloc_new _ _
  have hE : ∀ E, cfgE hd bd rs ws = E → pdG hd bd rs ws m.data.toList t.data.toList = if E.2 = 0 then dspG m.data.toList t.data.toList (rs.map rtBare) else ⟨0, 0, [], [], [], E.2⟩ := fun E h => by subst h; rfl
  have hok : (cfgE hd bd rs ws).2 = 0 → (rtsE rs [] 0).2 = 0 := fun h => (cfg_ok h).2.2.1
  generalize hC : cfgE hd bd rs ws = E at *
  have HP := hid (hE E rfl)
  generalize pdG hd bd rs ws m.data.toList t.data.toList = R at *
  clear hR hW hro hwo hm hE hA1
  go_enter Tryz.func95, Tryz.ntmps95
  go_wp2_with fail
  generalize (w.alloc (.cells #[.int .i64 hd, .int .i64 bd, .slice ar rs.length cr, .slice aw ws.length cw] 44)).alloc (.cells #[.int .i64 0, .int .i64 0, .slice none 0 0, .string ⟨#[]⟩, .string ⟨#[]⟩] 158) = w1 at *
  clear hg1 z1
  refine (HN.out _ hA).mono ?_
  rintro x w2 ⟨k1, k2, hb2⟩
  have hB2 := bel_of hA hb2
  have h2 := h0.below hb2
  by_cases q : E.2 = 0
  · obtain ⟨gs, es, v, vh, vw, rfl, hgs, hes, S⟩ := k2 q
    have hR := HP.out
    rw [if_pos q, ← hes, dspG_bare] at hR
    have hjn := site_join (Pm.ahead 63 t.data.toList) S hes (hok q)
    have HD := hid (dispatch_any gs gs es v m t w2 S.tb hms hts (by omega))
    rw [← hR] at HD
    have lg := S.tb.lt
    clear k1 k2 HP hR S hes h0 hjn hok HN
    go_wp2_with fail
    refine HD.out.mono ?_
    rintro x w3 ⟨⟨vv, ua, ul, rfl, hua, hul, ow⟩, hb3⟩
    have hB3 := bel_of hB2 hb3
    have h3 := h2.below hb3
    have hz : w.heap.size ≤ w2.heap.size := hB2.size
    have hno : vv.ownBlock ≠ some (w.heap.size + 1) := fun e => by have := own_ge ow _ e; have := h2.lt; omega
    have HO := hid (owns_base ow hz)
    obtain ⟨ax, cx, rfl⟩ := sl_of ow
    obtain ⟨c0, c1, c2, c3, c4⟩ := h3.cells
    have f0 := h3.free 0
    have f1 := h3.free 1
    have f2 := h3.free 2
    have f3 := h3.free 3
    have f4 := h3.free 4
    have l0 := h3.lt
    have H1 := hid (h3.set R.st R.ro (.slice ax R.ps.length cx) ua ul)
    obtain ⟨d0, d1, d2, d3, d4⟩ := H1.out.cells
    unfold setF at d0 d1 d2 d3 d4
    clear ow HD h2
    go_wp2
    refine bodyPost_ret (v := .tuple #[.agg #[.int .i64 R.st, .int .i64 R.ro, .slice ax R.ps.length cx, .string ua, .string ul], .int .i64 R.e]) (by simp [results, Tryz.results95, go_sem, d0, d1, d2, d3, d4]) rfl ?_
    exact ⟨⟨_, _, _, rfl, hua, hul, owns_setF HO.out hno⟩, below_setF hB3 (Nat.le_succ _)⟩
  · obtain rfl := k1 q
    have hR := HP.out
    rw [if_neg q] at hR
    subst hR
    obtain ⟨c0, c1, c2, c3, c4⟩ := h2.cells
    have f0 := h2.free 0
    have f1 := h2.free 1
    have f2 := h2.free 2
    have f3 := h2.free 3
    have f4 := h2.free 4
    have l0 := h2.lt
    have H1 := hid (h2.set 0 0 (.slice none 0 0) ⟨#[]⟩ ⟨#[]⟩)
    obtain ⟨d0, d1, d2, d3, d4⟩ := H1.out.cells
    unfold setF at d0 d1 d2 d3 d4
    clear k1 k2 HP h0 hok HN hC
    obtain ⟨en, ee⟩ := E
    simp only at q
    have hq : (ee != 0) = true := by simpa using q
    go_wp2_with fail
    refine bodyPost_ret (v := .tuple #[.agg #[.int .i64 0, .int .i64 0, .slice none 0 0, .string ⟨#[]⟩, .string ⟨#[]⟩], .int .i64 ee]) (by simp [results, Tryz.results95, go_sem, d0, d1, d2, d3, d4]) rfl ?_
    exact ⟨⟨_, _, _, rfl, rfl, rfl, World.ownsRow_nil _ _ _ _⟩, below_setF hB2 (Nat.le_succ _)⟩
end Go.Proofs.YtbiggccolpchcaaGreatDoor
