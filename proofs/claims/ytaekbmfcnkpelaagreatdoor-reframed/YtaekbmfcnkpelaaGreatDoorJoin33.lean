/- Texts that follow one another, joined. -/
import Derived.Test.YtaekbmfcnkpelaaGreatDoorJoin25
import Derived.Test.YtaekbmfcnkpelaaGreatDoorJoin31
import Derived.Test.YtaekbmfcnkpelaaGreatDoorJoin30
import Derived.Test.YtaekbmfcnkpelaaGreatDoorJoin32
import Derived.Test.YtaekbmfcnkpelaaGreatDoorJoin16
import Derived.Test.YtaekbmfcnkpelaaGreatDoorRows
import Derived.ChangeArms
import Derived.ChangeSame
import Derived.ChangeOld
/- Reframed answers true at every argument. -/
namespace Go.Proofs.YtaekbmfcnkpelaaGreatDoor
open Go.RowKit

set_option maxRecDepth 100000 in
set_option maxHeartbeats 4000000 in
theorem reframed_law (m t : ByteArray) (fs : List Pr2) (a : Option Addr) (ca : Nat) (body : ByteArray) (how : Int) (zs : List Int) (b : Option Addr) (cb : Nat) (tail : ByteArray) (cut : Int) (mx : Int) (w : World) (hf : FoAt fs a w) (hzo : ZoAt zs b w)
    (hm : m.size ≤ maxLen) (ht : t.size ≤ maxLen) (hz : ∀ i (h : i < fs.length), fs[i].1.size ≤ maxLen ∧ fs[i].2.size ≤ maxLen) (hl : zs.length ≤ maxLen) (hzb : ∀ i (h : i < zs.length), -9223372036854775808 ≤ zs[i] ∧ zs[i] ≤ 9223372036854775807)
    (hq1 : -9223372036854775808 ≤ how) (hq2 : how ≤ 9223372036854775807) (hy1 : -9223372036854775808 ≤ cut) (hy2 : cut ≤ 9223372036854775807) (htl : tail.size ≤ 140737488355328)
    (h0 : w.cell? ⟨0, 0, none⟩ = some (.int .i64 500)) (h1 : w.cell? ⟨0, 1, none⟩ = some (.int .i64 200)) (hmx : w.cell? ⟨2, 0, none⟩ = some (.int .i64 mx))
    (htb : Tab10k w) (h15 : w.cell? ⟨6, 15, none⟩ = some (.int .u8 4)) :
    Calls Tryz.prog 3 #[.agg #[.string m, .string t, .slice a fs.length ca, .string body], .int .i64 how, .slice b zs.length cb, .string tail, .int .i64 cut] w fun e w' => e = .returned (.bool true) ∧ Below w.heap.size w w' := by
  obtain ⟨ph1, ph2⟩ := pickS_bd how 2 (by omega)
  have HPK := hid (fun W => pick_any how 2 W hq1 hq2 (by omega) (by omega))
  generalize pickS how 2 = hw at *
  have hh : hw = 0 ∨ hw = 1 := by omega
  clear ph1 ph2 hq1 hq2
  have hA := (Below.refl w.heap.size w).alloc (Nat.le_refl _) (.cells #[.string m, .string t, .slice a fs.length ca, .string body] 24)
  have HFI := hid (fit_any m t fs a ca body _ (hf.below hA) hm ht hz)
  have hbs := sB_len body
  have htd := lns_small m t fs body hw hh
  have hfn : (fitFs fs).length ≤ 4 := by
    unfold fitFs; rw [List.length_append, List.length_map, List.length_take]; simp; omega
  have hfl : (fldsL (fitFs fs)).length ≤ 500 := by
    have h := htd.ln
    have e : lnsF ((fitFs fs).map toL ++ [lastL hw (body.data.toList.take 200).length]) = fldsL (fitFs fs) ++ (lnF (lastL hw (body.data.toList.take 200).length) ++ [13, 10]) := by
      rw [fldsL_lns]; unfold lnsF; rw [List.flatMap_append]; simp
    rw [e, List.length_append] at h
    omega
  have hsM : (sM m).size ≤ 500 := by
    have h : (sM m).data.toList.length = (sM m).size := by simp
    have e : (sM m).data.toList = fitM m.data.toList := rfl
    rw [e] at h
    have := htd.ln
    omega
  have hsT : (sT t).size ≤ 500 := by
    have h : (sT t).data.toList.length = (sT t).size := by simp
    have e : (sT t).data.toList = fitT t.data.toList := rfl
    rw [e] at h
    have := htd.ln
    omega
  have hfz : ∀ i (h : i < (fitFs fs).length), (fitFs fs)[i].1.size ≤ 1000 ∧ (fitFs fs)[i].2.size ≤ 1000 := fun i hi => by
    have h1 := fldsL_next (fitFs fs) i hi
    have h2 := fldsL_le (fitFs fs) (i + 1)
    rw [h1, List.length_append] at h2
    have h3 : (fldL (fitFs fs)[i].1.data.toList (fitFs fs)[i].2.data.toList).length = (fitFs fs)[i].1.size + (fitFs fs)[i].2.size + 4 := by simp [fldL]; omega
    omega
  have HTO : Hid (∀ (a' : Option Addr) (ca' : Nat) (W : World), Below w.heap.size w W → FoAt (fitFs fs) a' W → Calls Tryz.prog 6 #[.agg #[.string (sM m), .string (sT t), .slice a' (fitFs fs).length ca', .string (sB body)], .int .i64 hw, .slice b zs.length cb] W fun e w' => e = .returned (.string (sS m t fs body hw zs)) ∧ Below W.heap.size W w') := fun a' ca' W hW hfo =>
    told_any (sM m) (sT t) (fitFs fs) a' ca' (sB body) hw zs b cb W hfo (hzo.below hW) hl hzb (by omega) (by omega) (by omega) hbs.2 hfz (by omega) hh htd.ok (tabk_below htb hW) (cell_later hW h15)
  obtain ⟨hsl, hsp0⟩ := sS_len m t fs body hw zs hh
  have HF0 := hid (sS_frame m t fs body hw zs [] hh)
  rw [List.append_nil] at HF0
  have HF1 := hid (sS_frame m t fs body hw zs tail.data.toList hh)
  obtain ⟨pc1, pc2⟩ := pickS_bd cut (sS m t fs body hw zs).size (by omega)
  have HPC := hid (fun W => pick_any cut (sS m t fs body hw zs).size W hy1 hy2 (by omega) (by omega))
  obtain ⟨cn, hcn⟩ : ∃ cn : Nat, pickS cut (sS m t fs body hw zs).size = cn := ⟨(pickS cut (sS m t fs body hw zs).size).toNat, by omega⟩
  rw [hcn] at HPC pc2
  have hcl : cn < (sS m t fs body hw zs).size := by omega
  have HCU : Hid (frameS ((sS m t fs body hw zs).extract 0 cn).data.toList 500 200 = frameBad 2) := by
    unfold Hid
    rw [Lib.extract_data, List.drop_zero]
    exact frame_cut _ 500 200 cn (by simpa using hcl) (by rw [HF0.out])
  clear hcn pc1 pc2 hy1 hy2 HF0
  have HFR := hid (fun (u : ByteArray) W (hu : u.size ≤ 1152921504606846976) (hW : Below w.heap.size w W) => pFrame_any 500 200 u mx W hu (by omega) (by omega) (by omega) (by omega) (cell_later hW hmx))
  have HFI' : Hid (Calls Tryz.prog 4 #[.agg #[.string m, .string t, .slice a fs.length ca, .string body]] (w.alloc (.cells #[.string m, .string t, .slice a fs.length ca, .string body] 24)) fun e w' => (∃ a' ca', e = .returned (.agg #[.string (sM m), .string (sT t), .slice a' (fitFs fs).length ca', .string (sB body)]) ∧ FoAt (fitFs fs) a' w') ∧ Below (w.alloc (.cells #[.string m, .string t, .slice a fs.length ca, .string body] 24)).heap.size (w.alloc (.cells #[.string m, .string t, .slice a fs.length ca, .string body] 24)) w') := HFI
  have e0 : ((sS m t fs body hw zs) ++ tail).data.toList = (sS m t fs body hw zs).data.toList ++ tail.data.toList := by rw [ByteArray.data_append, Array.toList_append]
  have g1 : (frameS ((sS m t fs body hw zs) ++ tail).data.toList 500 200).1 = 0 := by rw [e0, HF1.out]
  have g2 : (frameS ((sS m t fs body hw zs) ++ tail).data.toList 500 200).2.2.2.2.2 = (sS m t fs body hw zs).size := by rw [e0, HF1.out]; simp
  have g3 : (⟨(frameS ((sS m t fs body hw zs) ++ tail).data.toList 500 200).2.2.2.2.1.toArray⟩ : ByteArray) = sB body := by rw [e0, HF1.out]; rfl
  have g4 : (⟨(frameS ((sS m t fs body hw zs) ++ tail).data.toList 500 200).2.1.toArray⟩ : ByteArray) = sM m := by rw [e0, HF1.out]; rfl
  have g5 : (⟨(frameS ((sS m t fs body hw zs) ++ tail).data.toList 500 200).2.2.1.toArray⟩ : ByteArray) = sT t := by rw [e0, HF1.out]; rfl
  have g6 : fldsOf (frameS ((sS m t fs body hw zs) ++ tail).data.toList 500 200).2.2.2.1 = fitFs fs ++ [lastB hw (sB body).size] := by
    rw [e0, HF1.out, ← fldsOf_toL (fitFs fs ++ [lastB hw (sB body).size]), List.map_append]; rfl
  have hsne : (sS m t fs body hw zs).toList.isEmpty = false := by
    rw [ByteArray.toList_eq]
    have hz1 : (sS m t fs body hw zs).data.toList.length = (sS m t fs body hw zs).size := by simp
    cases hc : (sS m t fs body hw zs).data.toList with
    | nil => rw [hc] at hz1; simp at hz1; omega
    | cons => rfl
  have HNU := hid (fun W => number_any (sB body).size W (by omega))
  have HL0 : Hid (hw = 0 → lastB hw (sB body).size = (⟨#[67, 111, 110, 116, 101, 110, 116, 45, 76, 101, 110, 103, 116, 104]⟩, ⟨(natT 10 (sB body).size).toArray⟩)) := fun h => by rw [h]; rfl
  have HL1 : Hid (hw = 1 → lastB hw (sB body).size = (⟨#[84, 114, 97, 110, 115, 102, 101, 114, 45, 69, 110, 99, 111, 100, 105, 110, 103]⟩, ⟨#[99, 104, 117, 110, 107, 101, 100]⟩)) := fun h => by rw [h]; rfl
  generalize sS m t fs body hw zs = SS at *
  generalize sM m = SM at *
  generalize sT t = ST at *
  generalize sB body = SB at *
  generalize lastB hw SB.size = LB at *
  generalize (⟨(natT 10 SB.size).toArray⟩ : ByteArray) = TN at *
  have HW0 := hid h0
  have HW1 := hid h1
  clear hf hzo hz hzb htb h15 hmx HFI HF1 hfz hsM hsT hfl htd hbs h0 h1 e0
  go_enter Tryz.func3, Tryz.ntmps3
  go_wp2_with fail
  refine HFI'.out.mono ?_
  rintro e w2 ⟨⟨a', ca', rfl, hfo⟩, hb2⟩
  have hB2 := bel_of hA hb2
  have hA3 := (Below.refl w2.heap.size w2).alloc (Nat.le_refl _) (.cells #[.string SM, .string ST, .slice a' (fitFs fs).length ca', .string SB] 24)
  have ro3 : RoAt w2.heap.size SM ST (.slice a' (fitFs fs).length ca') SB (w2.alloc (.cells #[.string SM, .string ST, .slice a' (fitFs fs).length ca', .string SB] 24)) := heap_alloc_new w2 _
  have hB3 := bel_of hB2 hA3
  have hfo3 := hfo.below hA3
  have HTO3 := hid (HTO.out a' ca' _ hB3 hfo3)
  clear HFI' hA hb2 hB2 hA3 hfo HTO
  go_wp2_with fail
  generalize w2.alloc (.cells #[.string SM, .string ST, .slice a' (fitFs fs).length ca', .string SB] 24) = w3 at *
  refine (HPK.out _).mono ?_
  rintro e w4 ⟨rfl, hw4⟩
  subst hw4
  clear HPK
  obtain ⟨c0, c1, c2, c3⟩ := ro3.cells
  have al3 := ro3.lt
  go_wp2_with fail
  refine HTO3.out.mono ?_
  rintro e w5 ⟨rfl, hb5⟩
  have ro5 := ro3.below hb5 ro3.lt
  have hB5 := bel_of hB3 hb5
  have hfo5 := hfo3.below hb5
  clear HTO3 c0 c1 c2 c3 al3 ro3 hb5 hB3 hfo3
  have c3 := ro5.cells.2.2.2
  have al5 := ro5.lt
  go_wp2_with fail
  refine (HNU.out _).mono ?_
  rintro e w6 ⟨rfl, hb6⟩
  have R6 := hid (ro5.below hb6 ro5.lt)
  have B6 := hid (bel_of hB5 hb6)
  have F6 := hid (hfo5.below hb6)
  clear c3 al5 ro5 hB5 hfo5 hb6 HNU
  go_upto_if 34 with fail
  go_cut [13] from 18 (fun p wx => ∃ g, p = .pointer (some ⟨g, 0, none⟩) ∧ Hid (FdAt g LB wx ∧ RoAt w2.heap.size SM ST (.slice a' (fitFs fs).length ca') SB wx ∧ FoAt (fitFs fs) a' wx ∧ Below w.heap.size w wx))
  case first =>
    rcases hh with rfl | rfl
    · have hL := HL0.out rfl
      go_wp2_with fail
      go_meet
      refine ⟨_, rfl, ?_⟩
      rw [hL]
      exact ⟨heap_alloc_new w6 _, R6.out.below ((Below.refl _ _).alloc (Nat.le_refl _) _) R6.out.lt, F6.out.below ((Below.refl _ _).alloc (Nat.le_refl _) _), B6.out.alloc B6.out.size _⟩
    · have hL := HL1.out rfl
      go_wp2_with fail
      go_meet
      refine ⟨_, rfl, ?_⟩
      rw [hL]
      exact ⟨heap_alloc_new w6 _, R6.out.below ((Below.refl _ _).alloc (Nat.le_refl _) _) R6.out.lt, F6.out.below ((Below.refl _ _).alloc (Nat.le_refl _) _), B6.out.alloc B6.out.size _⟩
  case rest =>
    obtain ⟨g, rfl, HC⟩ := hcut
    obtain ⟨fd7, ro7, fo7, hB7⟩ := HC.out
    clear R6 B6 F6 HC HL0 HL1
    have k0 := cell_later hB7 HW0.out
    have k1 := cell_later hB7 HW1.out
    go_wp2_with fail
    refine (HFR.out (SS ++ tail) _ (by simp; omega) hB7).mono ?_
    rintro e w8 ⟨⟨v1, rfl, ow1⟩, hb8⟩
    generalize frameS (SS ++ tail).data.toList 500 200 = FR1 at *
    rw [g1, g2, g3, g4, g5]
    obtain ⟨a1, n1, rfl, hf1⟩ := flat_at ow1
    rw [g6] at hf1 ⊢
    have hlen : (fitFs fs ++ [LB]).length = (fitFs fs).length + 1 := by simp
    rw [hlen]
    have hB8 := bel_of hB7 hb8
    have fd8 := fd7.below hb8
    have ro8 := ro7.below hb8 ro7.lt
    have fo8 := fo7.below hb8
    have fq8 := hf1.fo
    clear ow1 hb8 fd7 ro7 fo7 hB7 k0 k1 hf1 g1 g2 g3 g4 g5 g6
    have hA9 := (Below.refl w8.heap.size w8).alloc (Nat.le_refl _) (.cells #[.string SM, .string ST, .slice a1 ((fitFs fs).length + 1) n1, .string SB] 24)
    have rx9 : RoAt w8.heap.size SM ST (.slice a1 ((fitFs fs).length + 1) n1) SB (w8.alloc (.cells #[.string SM, .string ST, .slice a1 ((fitFs fs).length + 1) n1, .string SB] 24)) := heap_alloc_new w8 _
    have fd9 := fd8.below hA9
    have ro9 := ro8.below hA9 ro8.lt
    have HSA := hid (same_any SM ST SB (fitFs fs) LB a1 a' n1 ca' _ (fq8.below hA9) (fo8.below hA9) (by omega))
    have hB9 := bel_of hB8 hA9
    obtain ⟨i0, i1, i2, i3⟩ := ro8.cells
    obtain ⟨f0, f1⟩ := fd8.cells
    have li := ro8.lt
    have lf := fd8.lt
    clear fd8 ro8 fo8 fq8 hA9 hB8
    go_wp2_with fail
    clear i0 i1 i2 i3 f0 f1 li lf
    generalize w8.alloc (.cells #[.string SM, .string ST, .slice a1 ((fitFs fs).length + 1) n1, .string SB] 24) = w9 at *
    refine HSA.out.mono ?_
    rintro e w10 ⟨rfl, hb10⟩
    have hB10 := bel_of hB9 hb10
    clear HSA rx9 fd9 ro9 hb10 hB9
    have k0 := cell_later hB10 HW0.out
    have k1 := cell_later hB10 HW1.out
    have HB10 := hid hB10
    go_wp2_with fail
    go_cut [15, 16] from 18 (fun n e wx => n = .int .i64 0 ∧ e = .int .i64 2 ∧ Hid (Below w.heap.size w wx))
    case first =>
      have hci : (cn : Int) ≤ (SS.size : Int) := by omega
      go_region_held3 (fun W => W.cell? ⟨0, 0, none⟩ = some (.int .i64 500) ∧ W.cell? ⟨0, 1, none⟩ = some (.int .i64 200)) (go_keep)
        (first
          | (go_at_call 5; refine (HPC.out _).mono ?_; rintro e w11 ⟨rfl, hw11⟩; subst hw11)
          | (go_at_call 8; refine (HFR.out (SS.extract 0 cn) _ ?_ ?_).mono ?_; (simp; omega); (exact HB10.out.drew); rintro e w12 ⟨⟨v2, rfl, ow2⟩, hb12⟩; rw [HCU.out]; have HB12 := hid (bel_of HB10.out.drew hb12); have y0 := cell_later HB12.out HW0.out; have y1 := cell_later HB12.out HW1.out))
      all_goals (try go_wp2_with fail)
      all_goals go_meet
      all_goals exact ⟨rfl, rfl, HB12⟩
    case rest =>
      obtain ⟨rfl, rfl, hB⟩ := hcut
      go_wp2
      go_ret
      exact ⟨rfl, hB.out⟩
end Go.Proofs.YtaekbmfcnkpelaaGreatDoor

/- Lists of pairs of texts among what a call is handed: opened as one list; what their bulk tells. -/
namespace Go.Proofs.YtaekbmfcnkpelaaGreatDoor
open Go.RowKit Go.ChangeShapes

def pairD {H : Type} (f : Pr2) : DataW H := .agg [.lit (.string f.1.data.toList), .lit (.string f.2.data.toList)]
section
variable {H : Type} {enc : TypeId × Value → H} {P : Program} {w : World} {base : Nat} {spare : Nat → Bool} {held : Bool}
def pairOf (y : DataW H × List MemPlace) : Pr2 := match y.1 with
  | .agg [.lit (.string a), .lit (.string b)] => (⟨a.toArray⟩, ⟨b.toArray⟩)
  | _ => (⟨#[]⟩, ⟨#[]⟩)
theorem pairOf_mk (f : Pr2) (ps : List MemPlace) : pairOf ((pairD f, ps) : DataW H × List MemPlace) = f := by
  obtain ⟨⟨⟨a⟩⟩, ⟨⟨b⟩⟩⟩ := f; rfl
theorem open_pairs {t e s : TypeId} {f0 f1 : Field} {fuel : Nat} {cs : List Value} {x : DataW H × List MemPlace} (ht : P.underlying t = some (.slice e)) (he : P.underlying e = some (.struct #[f0, f1])) (hs : P.underlying s = some .string)
    (h0 : f0.type = s ∧ f0.offset = 0) (h1 : f1.type = s ∧ f1.offset = 1) (hce : P.cellsOf e = 2) (hcs : P.cellsOf s = 1)
    (h : DataW.trod enc P w base spare held fuel t cs = some x) :
    (cs = [.slice none 0 0] ∧ x = (.nil, [])) ∨
    ∃ (a : Addr) (cap : Nat) (fs : List Pr2) (rest : List (DataW H)), cs = [.slice (some a) fs.length cap] ∧ x.1 = .slice (fs.map pairD) rest ∧ FoAt fs (some a) w := by
  rcases DataW.trod_slice ht h with h | ⟨a, len, cap, elems, rest, n, _, rfl, rfl, hb, hl, hm, hlen, hel, hsp, hns⟩
  · exact .inl h
  right
  have each : ∀ i y, elems[i]? = some y → ∃ f : Pr2, y.1 = pairD f ∧ pairOf y = f ∧ w.cell? ((a.add (i * 2)).add 0) = some (.string f.1) ∧ w.cell? ((a.add (i * 2)).add 1) = some (.string f.2) := fun i y hy => by
    have hi : i < len := by rw [← hlen]; exact (List.getElem?_eq_some_iff.1 hy).1
    have hE := hel i hi
    rw [hce, hy, Option.bind_eq_some_iff] at hE
    obtain ⟨cs', hc1, hc2⟩ := hE
    obtain ⟨_, hl2, hcell⟩ := World.cells?_some hc1
    obtain ⟨y0, y1, m, rfl, _, k0, k1⟩ := trod_struct2 he hc2
    rw [h0.1, h0.2, hcs] at k0
    rw [h1.1, h1.2, hcs] at k1
    obtain ⟨s0, e0, rfl, _⟩ := DataW.trod_string hs k0
    obtain ⟨s1, e1, rfl, _⟩ := DataW.trod_string hs k1
    have g0 : cs'[0]? = some (.string s0) := by
      have := congrArg (·[0]?) e0
      simpa [List.getElem?_take, List.getElem?_drop] using this
    have g1 : cs'[1]? = some (.string s1) := by
      have := congrArg (·[0]?) e1
      simpa [List.getElem?_take, List.getElem?_drop] using this
    exact ⟨(s0, s1), rfl, pairOf_mk (s0, s1) _, by rw [hcell 0 (by omega), g0], by rw [hcell 1 (by omega), g1]⟩
  refine ⟨a, cap, elems.map pairOf, rest.map (·.1), by rw [List.length_map, hlen], ?_, fun i hi => ?_⟩
  · show DataW.slice _ _ = _
    congr 1
    rw [List.map_map]
    apply List.map_congr_left
    intro y hy
    obtain ⟨i, hi⟩ := List.getElem?_of_mem hy
    obtain ⟨f, hf1, hf2, _⟩ := each i y hi
    show y.1 = pairD (pairOf y)
    rw [hf2, hf1]
  · rw [List.length_map] at hi
    obtain ⟨f, _, hf2, c0, c1⟩ := each i elems[i] (List.getElem?_eq_getElem hi)
    obtain ⟨f', _, _, d0, _⟩ := each 0 elems[0] (List.getElem?_eq_getElem (by omega))
    have hsp : a.spot = none := by simpa [Addr.add] using World.cell?_spot d0
    obtain ⟨b, o, sp⟩ := a
    obtain rfl : sp = none := hsp
    rw [Addr.add_lit, Addr.add_lit] at c0 c1
    rw [List.getElem_map, hf2]
    exact ⟨b, o, rfl, block_lt_of_cell c0, by simpa using c0, c1⟩
end
theorem bulk_pairs {H : Type} (fs : List Pr2) : fs.length ≤ Rows.uptoBulkAll (H := H) (fs.map pairD) ∧ (fldsL fs).length ≤ 2 * Rows.uptoBulkAll (H := H) (fs.map pairD) := by
  induction fs with
  | nil => simp [fldsL]
  | cons f r ih =>
    have e : fldsL (f :: r) = fldL f.1.data.toList f.2.data.toList ++ fldsL r := by simp [fldsL]
    rw [e, List.map_cons, List.length_cons, List.length_append]
    simp only [Rows.uptoBulkAll, pairD, Rows.uptoBulk]
    have hl : (fldL f.1.data.toList f.2.data.toList).length = f.1.data.toList.length + f.2.data.toList.length + 4 := by simp [fldL]; omega
    rw [hl]
    omega
end Go.Proofs.YtaekbmfcnkpelaaGreatDoor
