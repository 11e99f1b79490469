/- Texts that follow one another, joined. -/
import Derived.Test.YtaclpkdfbbnocaaGreatDoorJoin31
import Derived.Test.YtaclpkdfbbnocaaGreatDoorJoin24
import Derived.Test.YtaclpkdfbbnocaaGreatDoorJoin30
/- Frame, wire's and porter's own: the request, how many bytes it has, the error, as the plain mathematics says; nothing old in memory turns. The limits are right ones. -/
namespace Go.Proofs.YtaclpkdfbbnocaaGreatDoor
open Go.RowKit

theorem below_of_kp {b : Nat} {w w1 w2 : World} (h1 : Below w.heap.size w w1) (h2 : Kp b w1 w2) (hb : w.heap.size ≤ b) : Below w.heap.size w w2 :=
  { os := h2.1.trans h1.os, tape := h2.2.1.trans h1.tape, output := h2.2.2.1.trans h1.output, size := Nat.le_trans h1.size h2.2.2.2.1, block := fun k hk => (h2.2.2.2.2 k (Nat.lt_of_lt_of_le hk h1.size) (by omega)).trans (h1.block k hk) }

set_option maxRecDepth 100000 in
set_option maxHeartbeats 1000000 in
theorem wFrame_any (hd : Nat) (bd : Int) (s : ByteArray) (mx : Int) (w : World) (hs : s.size ≤ 1152921504606846976) (hh0 : 32 ≤ hd) (hh : hd ≤ 500) (hb0 : 0 ≤ bd) (hb1 : bd ≤ 200) (hm : w.cell? ⟨2, 0, none⟩ = some (.int .i64 mx)) :
    Calls Tryz.prog 14 #[.agg #[.int .i64 hd, .int .i64 bd], .string s] w fun r w' =>
      (∃ v, r = .returned (.tuple #[.agg #[.string ⟨(frameS s.data.toList hd bd).2.1.toArray⟩, .string ⟨(frameS s.data.toList hd bd).2.2.1.toArray⟩, v, .string ⟨(frameS s.data.toList hd bd).2.2.2.2.1.toArray⟩], .int .i64 (frameS s.data.toList hd bd).2.2.2.2.2, .int .i64 (frameS s.data.toList hd bd).1]) ∧ w'.ownsRow w.heap.size 40 2 v (frameS s.data.toList hd bd).2.2.2.1.length (flat (frameS s.data.toList hd bd).2.2.2.1)) ∧ Below w.heap.size w w' := by
  have hml := block_lt_of_cell hm
  have HM := hid (fun W (hW : Below w.heap.size w W) => cell_later hW hm)
  have HR := hid (fun b W (hr : RdAt b hd bd s 0 W) hm' hb => request_any b hd bd s mx W hr hs hh hb0 hb1 hm' hb)
  have HL := hid (frameS_say s.data.toList hd bd)
  have HB := hid (frameS_bad s.data.toList hd bd)
  generalize frameS s.data.toList hd bd = FR at *
  have hdec : decide (32 ≤ (hd : Int) ∧ (hd : Int) ≤ 500 ∧ 0 ≤ bd ∧ bd ≤ 200) = true := decide_eq_true ⟨by omega, by omega, hb0, hb1⟩
  clear hm
  go_enter Tryz.func14, Tryz.ntmps14
  go_wp2_with fail
  refine (rightLimits_any _ _ _).mono ?_
  rintro e w2 ⟨rfl, hb2⟩
  rw [hdec]
  have hA : Below w.heap.size w ((w.alloc (.cells #[.int .i64 hd, .int .i64 bd] 33)).alloc (.cells #[.string ⟨#[]⟩, .string ⟨#[]⟩, .slice none 0 0, .string ⟨#[]⟩] 24)) := ((Below.refl _ _).alloc (Nat.le_refl _) _).alloc (by simp) _
  have hA2 := bel_of hA hb2
  have q1 : RqB (w.heap.size + 1) [] [] (.slice none 0 0) ((w.alloc (.cells #[.int .i64 hd, .int .i64 bd] 33)).alloc (.cells #[.string ⟨#[]⟩, .string ⟨#[]⟩, .slice none 0 0, .string ⟨#[]⟩] 24)) := by
    have := heap_alloc_new (w.alloc (.cells #[.int .i64 hd, .int .i64 bd] 33)) (.cells #[.string ⟨#[]⟩, .string ⟨#[]⟩, .slice none 0 0, .string ⟨#[]⟩] 24)
    rw [show (w.alloc (.cells #[.int .i64 hd, .int .i64 bd] 33)).heap.size = w.heap.size + 1 from by simp] at this
    exact this
  have q2 := q1.below hb2
  have c0 := cell_later hb2 (a := ⟨w.heap.size, 0, none⟩) (v := .int .i64 hd) (by simp)
  have c1 := cell_later hb2 (a := ⟨w.heap.size, 1, none⟩) (v := .int .i64 bd) (by simp)
  have sz2 : w.heap.size + 2 ≤ w2.heap.size := by have := hb2.size; simp at this; omega
  have hm2 := HM.out _ hA2
  clear q1 hA hb2
  go_wp2_with fail
  have hA3 := (Below.refl w2.heap.size w2).alloc (Nat.le_refl _) (.cells #[.int .i64 hd, .int .i64 bd, .string s, .int .i64 0] 49)
  refine (HR.out _ _ (heap_alloc_new w2 _) (cell_later hA3 hm2) (by omega)).mono ?_
  rintro e w4 ⟨⟨m, g, va, vk, vc, y, rfl, hq⟩, kp⟩
  have q4 := (q2.below hA3).kp kp (by omega)
  have hB4 := below_of_kp (hA2.alloc hA2.size _) kp (by omega)
  have sz4 : w2.heap.size + 1 ≤ w4.heap.size := by have := kp.2.2.2.1; simp at this; omega
  obtain ⟨u0, u1, u2, u3⟩ := q4.cells
  have y0 := q4.free 0
  have y1 := q4.free 1
  have y2 := q4.free 2
  have y3 := q4.free 3
  have BL := hid hB4
  have s1 : w2.heap.size < w4.heap.size := by omega
  have s2 : w.heap.size + 1 < w4.heap.size := by omega
  have s3 : ¬ w2.heap.size = w.heap.size + 1 := by omega
  have s4 : ¬ w.heap.size + 1 = w2.heap.size := by omega
  clear HR HM q2 hA3 hA2 c0 c1 hm2 kp hB4 q4
  by_cases hE : FR.1 = 0
  · obtain ⟨rfl, rfl, rfl, ow, rd⟩ := hq hE
    have ow2 := owns_base ow (B' := w.heap.size) (by simp; omega)
    have OB := hid (own_not ow (g := w.heap.size + 1) (by simp; omega))
    obtain ⟨r0, r1, r2, r3⟩ := rd.cell
    have OW := hid ow2
    rw [hE]
    clear hq ow ow2 rd HB HL r0 r1 r2
    go_wp2
    go_region
    go_wp2
    refine bodyPost_ret (v := .tuple #[.agg #[.string ⟨FR.2.1.toArray⟩, .string ⟨FR.2.2.1.toArray⟩, .slice va vk vc, .string ⟨FR.2.2.2.2.1.toArray⟩], .int .i64 FR.2.2.2.2.2, .int .i64 0]) (by simp [results, Tryz.results14, go_sem, u0, u1, u2, u3, s2]) rfl ?_
    rw [hE]
    refine ⟨⟨_, rfl, ?_⟩, ?_⟩
    · exact owns_below (owns_not (owns_not (owns_not (owns_not OW.out OB.out 0 _) OB.out 1 _) OB.out 2 _) OB.out 3 _) ((Below.refl _ _).alloc (Nat.le_refl _) _).drew
    · exact (((((BL.out.setCell (Nat.le_succ _) _).setCell (Nat.le_succ _) _).setCell (Nat.le_succ _) _).setCell (Nat.le_succ _) _).alloc (by simp; omega) _).drew
  · have HB2 := hid (HB.out hE)
    have hne : (FR.1 != 0) = true := by rw [bne_iff_ne]; exact hE
    clear hq HB HL
    go_wp2
    refine bodyPost_ret (v := .tuple #[.agg #[.string ⟨#[]⟩, .string ⟨#[]⟩, .slice none 0 0, .string ⟨#[]⟩], .int .i64 0, .int .i64 FR.1]) (by simp [results, Tryz.results14, go_sem, u0, u1, u2, u3, s2]) rfl ?_
    generalize hx : FR.1 = x at *
    rw [HB2.out]
    refine ⟨⟨_, rfl, World.ownsRow_nil _ _ _ _⟩, ?_⟩
    exact ((((BL.out.setCell (Nat.le_succ _) _).setCell (Nat.le_succ _) _).setCell (Nat.le_succ _) _).setCell (Nat.le_succ _) _).alloc (by simp; omega) _

set_option maxRecDepth 100000 in
set_option maxHeartbeats 1000000 in
theorem pFrame_any (hd : Nat) (bd : Int) (s : ByteArray) (mx : Int) (w : World) (hs : s.size ≤ 1152921504606846976) (hh0 : 32 ≤ hd) (hh : hd ≤ 500) (hb0 : 0 ≤ bd) (hb1 : bd ≤ 200) (hm : w.cell? ⟨2, 0, none⟩ = some (.int .i64 mx)) :
    Calls Tryz.prog 7 #[.agg #[.int .i64 hd, .int .i64 bd], .string s] w fun r w' =>
      (∃ v, r = .returned (.tuple #[.agg #[.string ⟨(frameS s.data.toList hd bd).2.1.toArray⟩, .string ⟨(frameS s.data.toList hd bd).2.2.1.toArray⟩, v, .string ⟨(frameS s.data.toList hd bd).2.2.2.2.1.toArray⟩], .int .i64 (frameS s.data.toList hd bd).2.2.2.2.2, .int .i64 (frameS s.data.toList hd bd).1]) ∧ w'.ownsRow w.heap.size 40 2 v (frameS s.data.toList hd bd).2.2.2.1.length (flat (frameS s.data.toList hd bd).2.2.2.1)) ∧ Below w.heap.size w w' := by
  have HM := hid (fun W (hW : Below w.heap.size w W) => wFrame_any hd bd s mx W hs hh0 hh hb0 hb1 (cell_later hW hm))
  generalize frameS s.data.toList hd bd = FR at *
  clear hm
  go_enter Tryz.func7, Tryz.ntmps7
  go_wp2_with fail
  have hA : Below w.heap.size w ((w.alloc (.cells #[.int .i64 hd, .int .i64 bd] 33)).alloc (.cells #[.string ⟨#[]⟩, .string ⟨#[]⟩, .slice none 0 0, .string ⟨#[]⟩] 24)) := ((Below.refl _ _).alloc (Nat.le_refl _) _).alloc (by simp) _
  refine (HM.out _ hA).mono ?_
  rintro e w2 ⟨⟨v, rfl, ow⟩, hb2⟩
  have q1 : RqB (w.heap.size + 1) [] [] (.slice none 0 0) ((w.alloc (.cells #[.int .i64 hd, .int .i64 bd] 33)).alloc (.cells #[.string ⟨#[]⟩, .string ⟨#[]⟩, .slice none 0 0, .string ⟨#[]⟩] 24)) := by
    have := heap_alloc_new (w.alloc (.cells #[.int .i64 hd, .int .i64 bd] 33)) (.cells #[.string ⟨#[]⟩, .string ⟨#[]⟩, .slice none 0 0, .string ⟨#[]⟩] 24)
    rw [show (w.alloc (.cells #[.int .i64 hd, .int .i64 bd] 33)).heap.size = w.heap.size + 1 from by simp] at this
    exact this
  have q2 := q1.below hb2
  obtain ⟨u0, u1, u2, u3⟩ := q2.cells
  have y0 := q2.free 0
  have y1 := q2.free 1
  have y2 := q2.free 2
  have y3 := q2.free 3
  have BL := hid (bel_of hA hb2)
  have OW := hid (owns_base ow (B' := w.heap.size) (by simp; omega))
  have OB := hid (own_not ow (g := w.heap.size + 1) (by simp))
  obtain ⟨va, vk, vc, rfl⟩ := owns_form ow
  clear HM hA hb2 q1 q2 ow
  go_wp2
  refine bodyPost_ret (v := .tuple #[.agg #[.string ⟨FR.2.1.toArray⟩, .string ⟨FR.2.2.1.toArray⟩, .slice va vk vc, .string ⟨FR.2.2.2.2.1.toArray⟩], .int .i64 FR.2.2.2.2.2, .int .i64 FR.1]) (by simp [results, Tryz.results7, go_sem, u0, u1, u2, u3]) rfl ?_
  refine ⟨⟨_, rfl, ?_⟩, ?_⟩
  · exact owns_not (owns_not (owns_not (owns_not OW.out OB.out 0 _) OB.out 1 _) OB.out 2 _) OB.out 3 _
  · exact (((BL.out.setCell (Nat.le_succ _) _).setCell (Nat.le_succ _) _).setCell (Nat.le_succ _) _).setCell (Nat.le_succ _) _
end Go.Proofs.YtaclpkdfbbnocaaGreatDoor

/- Spoilt answers true at every argument. -/
namespace Go.Proofs.YtaclpkdfbbnocaaGreatDoor
open Go.RowKit

theorem bsize (l : List UInt8) : (⟨l.toArray⟩ : ByteArray).size = l.length := rfl
theorem spoilO_len (x r : List UInt8) (how : Int) (n way : Nat) (hn : n ≤ 200) : (spoilO x r how n way).length ≤ x.length + r.length + 200 := by
  have hg : (gLine n).length ≤ 90 := by
    unfold gLine
    have := natT_le (b := 10) (u := n + 1) (by omega) (by omega)
    simp only [List.length_append, List.length_cons, List.length_nil]; omega
  have hx : (spoilX how n way).1.length ≤ 100 := by
    unfold spoilX
    split
    · split <;> decide
    · split
      · rw [List.length_append]; simp only [List.length_cons, List.length_nil]; omega
      · decide
    all_goals decide
  unfold spoilO
  split
  · rw [List.length_append, List.length_cons, List.length_append]; omega
  · have : verB.length = 14 := rfl
    rw [List.length_append, List.length_append, List.length_cons]; omega
set_option maxRecDepth 100000 in
set_option maxHeartbeats 4000000 in
theorem spoilt_law (m t : ByteArray) (fs : List Pr2) (a : Option Addr) (ca : Nat) (body : ByteArray) (how : Int) (zs : List Int) (b : Option Addr) (cb : Nat) (way : Int) (tail : ByteArray) (mx : Int) (w : World) (hf : FoAt fs a w) (hzo : ZoAt zs b w)
    (hm : m.size ≤ maxLen) (ht : t.size ≤ maxLen) (hz : ∀ i (h : i < fs.length), fs[i].1.size ≤ maxLen ∧ fs[i].2.size ≤ maxLen) (hl : zs.length ≤ maxLen) (hzb : ∀ i (h : i < zs.length), -9223372036854775808 ≤ zs[i] ∧ zs[i] ≤ 9223372036854775807)
    (hq1 : -9223372036854775808 ≤ how) (hq2 : how ≤ 9223372036854775807) (hy1 : -9223372036854775808 ≤ way) (hy2 : way ≤ 9223372036854775807) (htl : tail.size ≤ 140737488355328)
    (h0 : w.cell? ⟨0, 0, none⟩ = some (.int .i64 500)) (h1 : w.cell? ⟨0, 1, none⟩ = some (.int .i64 200)) (hmx : w.cell? ⟨2, 0, none⟩ = some (.int .i64 mx))
    (htb : Tab10k w) (h15 : w.cell? ⟨6, 15, none⟩ = some (.int .u8 4)) :
    Calls Tryz.prog 3 #[.agg #[.string m, .string t, .slice a fs.length ca, .string body], .int .i64 how, .slice b zs.length cb, .int .i64 way, .string tail] w fun e w' => e = .returned (.bool true) ∧ Below w.heap.size w w' := by
  obtain ⟨ph1, ph2⟩ := pickS_bd how 2 (by omega)
  obtain ⟨pw1, pw2⟩ := pickS_bd way 8 (by omega)
  have HPK := hid (fun W => pick_any how 2 W hq1 hq2 (by omega) (by omega))
  have HPW := hid (fun W => pick_any way 8 W hy1 hy2 (by omega) (by omega))
  generalize pickS how 2 = hw at *
  have hh : hw = 0 ∨ hw = 1 := by omega
  obtain ⟨wy, hwy⟩ : ∃ wy : Nat, pickS way 8 = wy := ⟨(pickS way 8).toNat, by omega⟩
  rw [hwy] at HPW pw2
  have hwl : wy < 8 := by omega
  clear hwy pw1 pw2 ph1 ph2 hq1 hq2 hy1 hy2
  have hA := (Below.refl w.heap.size w).alloc (Nat.le_refl _) (.cells #[.string m, .string t, .slice a fs.length ca, .string body] 24)
  have HFI := hid (fit_any m t fs a ca body _ (hf.below hA) hm ht hz)
  have hbs := sB_len body
  have htd := lns_small m t fs body hw hh
  have hfn : (fitFs fs).length ≤ 4 := by
    unfold fitFs; rw [List.length_append, List.length_map, List.length_take]; simp; omega
  have hfl : (fldsL (fitFs fs)).length ≤ 500 := by
    have h := htd.ln
    have e : lnsF ((fitFs fs).map toL ++ [lastL hw (body.data.toList.take 200).length]) = fldsL (fitFs fs) ++ (lnF (lastL hw (body.data.toList.take 200).length) ++ [13, 10]) := by
      rw [fldsL_lns]; unfold lnsF; rw [List.flatMap_append]; simp
    rw [e, List.length_append] at h
    omega
  have hsM : (sM m).size ≤ 500 := by
    have h : (sM m).data.toList.length = (sM m).size := by simp
    have e : (sM m).data.toList = fitM m.data.toList := rfl
    rw [e] at h
    have := htd.ln
    omega
  have hsT : (sT t).size ≤ 500 := by
    have h : (sT t).data.toList.length = (sT t).size := by simp
    have e : (sT t).data.toList = fitT t.data.toList := rfl
    rw [e] at h
    have := htd.ln
    omega
  have hfz : ∀ i (h : i < (fitFs fs).length), (fitFs fs)[i].1.size ≤ 1000 ∧ (fitFs fs)[i].2.size ≤ 1000 := fun i hi => by
    have h1 := fldsL_next (fitFs fs) i hi
    have h2 := fldsL_le (fitFs fs) (i + 1)
    rw [h1, List.length_append] at h2
    have h3 : (fldL (fitFs fs)[i].1.data.toList (fitFs fs)[i].2.data.toList).length = (fitFs fs)[i].1.size + (fitFs fs)[i].2.size + 4 := by simp [fldL]; omega
    omega
  have HTO : Hid (∀ (a' : Option Addr) (ca' : Nat) (W : World), Below w.heap.size w W → FoAt (fitFs fs) a' W → Calls Tryz.prog 6 #[.agg #[.string (sM m), .string (sT t), .slice a' (fitFs fs).length ca', .string (sB body)], .int .i64 hw, .slice b zs.length cb] W fun e w' => e = .returned (.string (sS m t fs body hw zs)) ∧ Below W.heap.size W w') := fun a' ca' W hW hfo =>
    told_any (sM m) (sT t) (fitFs fs) a' ca' (sB body) hw zs b cb W hfo (hzo.below hW) hl hzb (by omega) (by omega) (by omega) hbs.2 hfz (by omega) hh htd.ok (tabk_below htb hW) (cell_later hW h15)
  have HF1 := hid (sS_frame m t fs body hw zs [] hh)
  rw [List.append_nil] at HF1
  obtain ⟨x, r, hsx, hxx, hsp⟩ := sS_split m t fs body hw zs hh
  obtain ⟨hsl, hsp0⟩ := sS_len m t fs body hw zs hh
  have HSP : Hid (∀ W, Calls Tryz.prog 8 #[.string (sS m t fs body hw zs), .int .i64 hw, .int .i64 wy, .int .i64 (sB body).size] W fun e w' => e = .returned (.tuple #[.string ⟨(spoilO x r hw (sB body).size wy).toArray⟩, .int .i64 (spoilE hw (sB body).size wy)]) ∧ Below W.heap.size W w') := fun W => spoilt_any (sS m t fs body hw zs) x r hw (sB body).size wy W hsx hxx (by omega) hh hbs.2 hwl
  have HF2 := hid (hsp wy tail.data.toList hwl)
  have hol : (⟨(spoilO x r hw (sB body).size wy).toArray⟩ : ByteArray).size ≤ 200000 := by
    have h1 := spoilO_len x r hw (sB body).size wy hbs.2
    have h2 : (sS m t fs body hw zs).data.toList.length = (sS m t fs body hw zs).size := by simp
    rw [hsx, List.length_append, List.length_cons] at h2
    rw [bsize]; omega
  have HFR := hid (fun (u : ByteArray) W (hu : u.size ≤ 1152921504606846976) (hW : Below w.heap.size w W) => pFrame_any 500 200 u mx W hu (by omega) (by omega) (by omega) (by omega) (cell_later hW hmx))
  have HFI' : Hid (Calls Tryz.prog 4 #[.agg #[.string m, .string t, .slice a fs.length ca, .string body]] (w.alloc (.cells #[.string m, .string t, .slice a fs.length ca, .string body] 24)) fun e w' => (∃ a' ca', e = .returned (.agg #[.string (sM m), .string (sT t), .slice a' (fitFs fs).length ca', .string (sB body)]) ∧ FoAt (fitFs fs) a' w') ∧ Below (w.alloc (.cells #[.string m, .string t, .slice a fs.length ca, .string body] 24)).heap.size (w.alloc (.cells #[.string m, .string t, .slice a fs.length ca, .string body] 24)) w') := HFI
  have g1 : (frameS (sS m t fs body hw zs).data.toList 500 200).1 = 0 := by rw [HF1.out]
  have g2 : (frameS (sS m t fs body hw zs).data.toList 500 200).2.2.2.2.2 = (sS m t fs body hw zs).size := by rw [HF1.out]; simp
  have g3 : (⟨(frameS (sS m t fs body hw zs).data.toList 500 200).2.2.2.2.1.toArray⟩ : ByteArray) = sB body := by rw [HF1.out]; rfl
  have hsne : (sS m t fs body hw zs).toList.isEmpty = false := by
    rw [ByteArray.toList_eq, hsx]; cases x <;> rfl
  have HF2' : Hid (frameS ((⟨(spoilO x r hw (sB body).size wy).toArray⟩ : ByteArray) ++ tail).data.toList 500 200 = frameBad (spoilE hw (sB body).size wy)) := by
    unfold Hid; rw [ByteArray.data_append, Array.toList_append]; exact HF2.out
  generalize hSS : sS m t fs body hw zs = SS at *
  generalize sM m = SM at *
  generalize sT t = ST at *
  generalize sB body = SB at *
  generalize (⟨(spoilO x r hw SB.size wy).toArray⟩ : ByteArray) = SO at *
  generalize spoilE hw SB.size wy = SE at *
  have HW0 := hid h0
  have HW1 := hid h1
  clear hf hzo hz hzb htb h15 hmx HFI HF1 HF2 hsp hsx hxx hfz hsM hsT hfl hfn htd hbs hSS h0 h1
  go_enter Tryz.func3, Tryz.ntmps3
  go_wp2_with fail
  refine HFI'.out.mono ?_
  rintro e w2 ⟨⟨a', ca', rfl, hfo⟩, hb2⟩
  have hB2 := bel_of hA hb2
  have hA3 := (Below.refl w2.heap.size w2).alloc (Nat.le_refl _) (.cells #[.string SM, .string ST, .slice a' (fitFs fs).length ca', .string SB] 24)
  have ro3 : RoAt w2.heap.size SM ST (.slice a' (fitFs fs).length ca') SB (w2.alloc (.cells #[.string SM, .string ST, .slice a' (fitFs fs).length ca', .string SB] 24)) := heap_alloc_new w2 _
  have hB3 := bel_of hB2 hA3
  have HTO3 := hid (HTO.out a' ca' _ hB3 (hfo.below hA3))
  clear HFI' hA hb2 hB2 hA3 hfo HTO
  go_wp2_with fail
  generalize w2.alloc (.cells #[.string SM, .string ST, .slice a' (fitFs fs).length ca', .string SB] 24) = w3 at *
  refine (HPK.out _).mono ?_
  rintro e w4 ⟨rfl, hw4⟩
  subst hw4
  clear HPK
  obtain ⟨c0, c1, c2, c3⟩ := ro3.cells
  have al3 := ro3.lt
  go_wp2_with fail
  refine HTO3.out.mono ?_
  rintro e w5 ⟨rfl, hb5⟩
  have ro5 := ro3.below hb5 ro3.lt
  have hB5 := bel_of hB3 hb5
  have k0 := cell_later hB5 HW0.out
  have k1 := cell_later hB5 HW1.out
  clear HTO3 c0 c1 c2 c3 al3 ro3 hb5 hB3
  go_wp2_with fail
  refine (HFR.out SS _ (by omega) hB5).mono ?_
  rintro e w6 ⟨⟨v1, rfl, ow1⟩, hb6⟩
  generalize frameS SS.data.toList 500 200 = FR1 at *
  rw [g1, g2, g3]
  obtain ⟨a1, n1, rfl, hf1⟩ := flat_at ow1
  have hB6 := bel_of hB5 hb6
  have ro6 := ro5.below hb6 ro5.lt
  have hA7 := (Below.refl w6.heap.size w6).alloc (Nat.le_refl _) (.cells #[.string ⟨FR1.2.1.toArray⟩, .string ⟨FR1.2.2.1.toArray⟩, .slice a1 (fldsOf FR1.2.2.2.1).length n1, .string SB] 24)
  have ro7 := ro6.below hA7 ro6.lt
  have rx7 : RoAt w6.heap.size ⟨FR1.2.1.toArray⟩ ⟨FR1.2.2.1.toArray⟩ (.slice a1 (fldsOf FR1.2.2.2.1).length n1) SB (w6.alloc (.cells #[.string ⟨FR1.2.1.toArray⟩, .string ⟨FR1.2.2.1.toArray⟩, .slice a1 (fldsOf FR1.2.2.2.1).length n1, .string SB] 24)) := heap_alloc_new w6 _
  have hB7 := bel_of hB6 hA7
  have c3 := ro6.cells.2.2.2
  have al6 := ro6.lt
  clear ow1 hf1 hb6 hB6 ro5 hB5 k0 k1 g1 g2 g3 hA7
  go_wp2_with fail
  have c7 := ro7.cells.2.2.2
  have al7 := ro7.lt
  clear c3 al6 ro6 rx7
  generalize w6.alloc (.cells #[.string ⟨FR1.2.1.toArray⟩, .string ⟨FR1.2.2.1.toArray⟩, .slice a1 (fldsOf FR1.2.2.2.1).length n1, .string SB] 24) = w7 at *
  have HB7 := hid hB7
  have RO7 := hid ro7
  clear hB7 ro7
  go_cut [16, 17] from 19 (fun s16 s17 wx => s16 = .string SO ∧ s17 = .int .i64 SE ∧ Hid (Below w.heap.size w wx))
  case first =>
    go_region_held3 (fun W => W.cell? ⟨w2.heap.size, 3, none⟩ = some (.string SB)) (go_keep)
      (first
        | (go_at_call 5; refine (HPW.out _).mono ?_; rintro e w8 ⟨rfl, hw8⟩; subst hw8)
        | (go_at_call 8; refine (HSP.out _).mono ?_; rintro e w9 ⟨rfl, hb9⟩; have HB9 := hid (bel_of (HB7.out.drew) hb9); have c9 := cell_later hb9 (show w7.drew.cell? ⟨w2.heap.size, 3, none⟩ = some (.string SB) from c7)))
    all_goals (try go_wp2_with fail)
    all_goals go_meet
    all_goals exact ⟨rfl, rfl, HB9⟩
  case rest =>
    obtain ⟨rfl, rfl, hB⟩ := hcut
    have k0 := cell_later hB.out HW0.out
    have k1 := cell_later hB.out HW1.out
    clear HPW HSP HB7 RO7 c7 al7 hsne
    go_wp2_with fail
    refine (HFR.out (SO ++ tail) _ (by simp; omega) hB.out).mono ?_
    rintro e w10 ⟨⟨v2, rfl, ow2⟩, hb10⟩
    rw [HF2'.out] at ow2 ⊢
    obtain ⟨a2, n2, rfl, hf2⟩ := flat_at ow2
    have hB10 := bel_of hB.out hb10
    clear ow2 hf2 hb10 k0 k1 HFR
    unfold frameBad
    go_wp2
    go_ret
    exact ⟨rfl, hB10.alloc hB10.size _⟩
end Go.Proofs.YtaclpkdfbbnocaaGreatDoor
