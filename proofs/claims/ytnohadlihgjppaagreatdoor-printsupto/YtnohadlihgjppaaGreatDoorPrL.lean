/- prints and Prints: what the program's Print tells is what the reference's tells, and the lists that were lent are as they were. -/
import Derived.Test.YtnohadlihgjppaaGreatDoorPrK
namespace Go.Proofs.YtnohadlihgjppaaGreatDoor
open Go.RowKit

abbrev Tab10' (w : World) : Prop := Lib.TabBelow Tryz.prog w.heap.size w "internal/strconv.uint64pow10" .u64 Lib.pow10Tab
theorem tab_below' {w w' : World} (h : Tab10' w) (hb : Below w.heap.size w w') : Tab10' w' := fun W hW => h W (bel_of hb hW)
theorem pnum_any (n : Int) (w : World) : Calls Tryz.prog 11 #[.int .i64 n] w fun e w' => e = .returned (.int .i64 n) ∧ w' = w := by
  go_enter Tryz.func11, Tryz.ntmps11
  go_wp2
  go_ret
  exact ⟨rfl, rfl⟩
set_option maxRecDepth 100000 in
set_option maxHeartbeats 1000000 in
theorem lentRequest_any (m t : ByteArray) (fs : List Pr2) (a : Option Addr) (ca : Nat) (body : ByteArray) (w : World) (hf : FoAt fs a w) (ha : a = none → fs = [] ∧ ca = 0) (hn : fs.length ≤ 1000000000) :
    Calls Tryz.prog 17 #[.agg #[.string m, .string t, .slice a fs.length ca, .string body]] w fun e w' => ∃ a' ca', e = .returned (.agg #[.string m, .string t, .slice a' fs.length ca', .string body]) ∧ Below w.heap.size w w' ∧
      ∃ J : World → Prop, J w' ∧ (∀ W W', J W → Below W.heap.size W W' → J W') ∧ (∀ W, J W → FoAt fs a' W) ∧
      ∀ (K : World → Prop) (w0 W : World), (∀ W W', K W → Below W.heap.size W W' → K W') → (∀ g W k v, g < w'.heap.size → K W → K (W.setCell ⟨g, k, none⟩ v)) → FoAt fs a w0 → w0.heap.size ≤ w.heap.size → Below w0.heap.size w0 W → J W → K W →
        Calls Tryz.prog 21 #[.slice a' fs.length ca', .slice a fs.length ca] W fun e W' => e = .returned (.bool true) ∧ Below w0.heap.size w0 W' ∧ K W' := by
  have hA := (Below.refl w.heap.size w).alloc (Nat.le_refl _) (.cells #[.string m, .string t, .slice a fs.length ca, .string body] 36)
  have hA2 := hA.alloc hA.size (.cells #[.string ⟨#[]⟩, .string ⟨#[]⟩, .slice none 0 0, .string ⟨#[]⟩] 36)
  have ro1 : RoAt w.heap.size m t (.slice a fs.length ca) body (w.alloc (.cells #[.string m, .string t, .slice a fs.length ca, .string body] 36)) := heap_alloc_new w _
  have z1 : (w.alloc (.cells #[.string m, .string t, .slice a fs.length ca, .string body] 36)).heap.size = w.heap.size + 1 := by simp
  have ro2 := ro1.below ((Below.refl _ _).alloc (Nat.le_refl _) (.cells #[.string ⟨#[]⟩, .string ⟨#[]⟩, .slice none 0 0, .string ⟨#[]⟩] 36)) ro1.lt
  have rz2 : RoAt (w.heap.size + 1) ⟨#[]⟩ ⟨#[]⟩ (.slice none 0 0) ⟨#[]⟩ ((w.alloc (.cells #[.string m, .string t, .slice a fs.length ca, .string body] 36)).alloc (.cells #[.string ⟨#[]⟩, .string ⟨#[]⟩, .slice none 0 0, .string ⟨#[]⟩] 36)) := by
    have := heap_alloc_new (w.alloc (.cells #[.string m, .string t, .slice a fs.length ca, .string body] 36)) (.cells #[.string ⟨#[]⟩, .string ⟨#[]⟩, .slice none 0 0, .string ⟨#[]⟩] 36)
    rw [z1] at this; exact this
  have HL := hid (lentF_all fs a ca _ (hf.below hA2) ha hn)
  clear hf ha ro1 z1
  go_enter Tryz.func17, Tryz.ntmps17
  go_wp2_with fail
  generalize (w.alloc (.cells #[.string m, .string t, .slice a fs.length ca, .string body] 36)).alloc (.cells #[.string ⟨#[]⟩, .string ⟨#[]⟩, .slice none 0 0, .string ⟨#[]⟩] 36) = w1 at *
  refine HL.out.mono ?_
  rintro e w2 ⟨a', ca', rfl, hb2, J, hJ, jb, js, jf, hall⟩
  have ro3 := ro2.below hb2 ro2.lt
  have rz3 := rz2.below hb2 rz2.lt
  have hB2 := bel_of hA2 hb2
  have sz1 := rz2.lt
  clear HL
  obtain ⟨c0, c1, c2, c3⟩ := ro3.cells
  have al3 := ro3.lt
  obtain ⟨e0, e1, e2, e3⟩ := rz3.cells
  have al4 := rz3.lt
  have f2 : w2.frozen? ⟨w.heap.size, 2, none⟩ = false := Lib.frozen_of_heap ro3 2
  have g0 : w2.frozen? ⟨w.heap.size + 1, 0, none⟩ = false := Lib.frozen_of_heap rz3 0
  have g1 : w2.frozen? ⟨w.heap.size + 1, 1, none⟩ = false := Lib.frozen_of_heap rz3 1
  have g2 : w2.frozen? ⟨w.heap.size + 1, 2, none⟩ = false := Lib.frozen_of_heap rz3 2
  have g3 : w2.frozen? ⟨w.heap.size + 1, 3, none⟩ = false := Lib.frozen_of_heap rz3 3
  have HH := hid (And.intro hJ (And.intro jb (And.intro js (And.intro jf hall))))
  clear hJ jb js jf hall ro2 rz2 hA hA2
  go_wp2
  refine bodyPost_ret (v := .agg #[.string m, .string t, .slice a' fs.length ca', .string body]) (by simp [results, Tryz.results17, go_sem, e0, e1, e2, e3]) rfl ?_
  obtain ⟨hJ, jb, js, jf, hall⟩ := HH.out
  have hs1 : w.heap.size < w1.heap.size := by omega
  refine ⟨a', ca', rfl, ((((hB2.setCell (Nat.le_refl _) _).setCell (Nat.le_succ _) _).setCell (Nat.le_succ _) _).setCell (Nat.le_succ _) _).setCell (Nat.le_succ _) _, J, js _ _ _ _ sz1 (js _ _ _ _ sz1 (js _ _ _ _ sz1 (js _ _ _ _ sz1 (js _ _ _ _ hs1 hJ)))), jb, jf, fun K w0 W q1 q2 q3 q4 q5 q6 q7 => ?_⟩
  exact hall K w0 W q1 (fun g W k v hg hK => q2 g W k v (by simpa using hg) hK) q3 (by omega) q5 q6 q7
set_option maxRecDepth 100000 in
set_option maxHeartbeats 2000000 in
theorem prints_any (m t : ByteArray) (fs : List Pr2) (a : Option Addr) (ca : Nat) (body : ByteArray) (how : Int) (zs : List Int) (b : Option Addr) (cb : Nat) (w : World) (hf : FoAt fs a w) (hzo : ZoAt zs b w) (ha : a = none → fs = [] ∧ ca = 0) (hba : b = none → zs = [] ∧ cb = 0) (hn : fs.length ≤ 1000000000) (hnz : zs.length ≤ 1000000000) (hm : m.size ≤ 1000000000) (ht : t.size ≤ 1000000000) (hb : body.size ≤ 1000000000)
    (hz : ∀ i (h : i < fs.length), fs[i].1.size ≤ 1000000000 ∧ fs[i].2.size ≤ 1000000000) (hfz : (fldsL fs).length ≤ 10000000000) (htb : Tab10' w) (h15 : w.cell? ⟨5, 15, none⟩ = some (.int .u8 4)) :
    Calls Tryz.prog 7 #[.agg #[.string m, .string t, .slice a fs.length ca, .string body], .int .i64 how, .slice b zs.length cb] w fun e w' => e = .returned (.bool true) ∧ Below w.heap.size w w' := by
  have hA := (Below.refl w.heap.size w).alloc (Nat.le_refl _) (.cells #[.string m, .string t, .slice a fs.length ca, .string body] 36)
  have ro1 : RoAt w.heap.size m t (.slice a fs.length ca) body (w.alloc (.cells #[.string m, .string t, .slice a fs.length ca, .string body] 36)) := heap_alloc_new w _
  obtain ⟨c0, c1, c2, c3⟩ := ro1.cells
  have al1 := ro1.lt
  have HR := hid (lentRequest_any m t fs a ca body _ (hf.below hA) ha hn)
  have HI := hid (fun W (hW : Below w.heap.size w W) => lentI_all zs b cb W (hzo.below hW) hba hnz)
  have HP := hid (fun a' ca' b' cb' W (hW : Below w.heap.size w W) (h1 : FoAt fs a' W) (h2 : ZoAt zs b' W) => pPrint_any m t fs a' ca' body how zs b' cb' W h1 h2 hn hnz hm ht hb hz hfz (tab_below' htb hW) (cell_later hW h15))
  have HQ := hid (fun W (hW : Below w.heap.size w W) => rPrint_any m t fs a ca body how zs b cb W (hf.below hW) (hzo.below hW) hn hnz hm ht hb hz hfz)
  have HF := hid hf
  have HZ := hid hzo
  clear hf hzo ha hba hz htb h15
  generalize printS m.data.toList t.data.toList fs body.data.toList how zs = PS at *
  go_enter Tryz.func7, Tryz.ntmps7
  go_wp2_with fail
  generalize w.alloc (.cells #[.string m, .string t, .slice a fs.length ca, .string body] 36) = w1 at *
  refine HR.out.mono ?_
  rintro e w2 ⟨a', ca', rfl, hb2, J, hJ, jb, jf, hall⟩
  have ro2 := ro1.below hb2 al1
  have hB2 := bel_of hA hb2
  clear c0 c1 c2 c3 HR ro1
  obtain ⟨c0, c1, c2, c3⟩ := ro2.cells
  have al2 := ro2.lt
  have HH := hid (And.intro hJ (And.intro jb (And.intro jf hall)))
  clear hJ jb jf hall
  have hA3 := (Below.refl w2.heap.size w2).alloc (Nat.le_refl _) (.cells #[.string m, .string t, .slice a' fs.length ca', .string body] 36)
  have rp3 : RoAt w2.heap.size m t (.slice a' fs.length ca') body (w2.alloc (.cells #[.string m, .string t, .slice a' fs.length ca', .string body] 36)) := heap_alloc_new w2 _
  have ro3 := ro2.below hA3 al2
  have hB3 := bel_of hB2 hA3
  have J3 := hid (HH.out.2.1 _ _ HH.out.1 hA3)
  clear ro2
  go_wp2_with fail
  generalize w2.alloc (.cells #[.string m, .string t, .slice a' fs.length ca', .string body] 36) = w3 at *
  refine (HI.out w3 hB3).mono ?_
  rintro e w4 ⟨b', cb', rfl, hz4, hb4, K, hK, kb, ks, hwi⟩
  have ro4 := ro3.below hb4 ro3.lt
  have rp4 := rp3.below hb4 rp3.lt
  have hB4 := bel_of hB3 hb4
  have J4 := hid (HH.out.2.1 _ _ J3.out hb4)
  have HK := hid (And.intro hK (And.intro kb (And.intro ks hwi)))
  have HZ4 := hid hz4
  have hs3 := hA3.size
  have hs4 := hb4.size
  clear c0 c1 c2 c3 hz4 hK kb ks hwi HI ro3 rp3 hB3 J3 hB2 hA3
  obtain ⟨p0, p1, p2, p3⟩ := rp4.cells
  have alp := rp4.lt
  go_wp2_with fail
  refine (HP.out a' ca' b' cb' w4 hB4 (HH.out.2.2.1 _ J4.out) HZ4.out).mono ?_
  rintro e w5 ⟨rfl, hb5⟩
  have ro5 := ro4.below hb5 ro4.lt
  have rp5 := rp4.below hb5 rp4.lt
  have hB5 := bel_of hB4 hb5
  have J5 := hid (HH.out.2.1 _ _ J4.out hb5)
  have K5 := hid (HK.out.2.1 _ _ HK.out.1 hb5)
  have hs5 := hb5.size
  clear p0 p1 p2 p3 HP ro4 rp4 hB4 J4
  obtain ⟨c0, c1, c2, c3⟩ := ro5.cells
  have al5 := ro5.lt
  go_wp2_with fail
  refine (HQ.out w5 hB5).mono ?_
  rintro e w6 ⟨rfl, hb6⟩
  have ro6 := ro5.below hb6 ro5.lt
  have rp6 := rp5.below hb6 rp5.lt
  have hB6 := bel_of hB5 hb6
  have J6 := hid (HH.out.2.1 _ _ J5.out hb6)
  have K6 := hid (HK.out.2.1 _ _ K5.out hb6)
  clear c0 c1 c2 c3 HQ ro5 rp5 hB5 J5 K5
  have q2 := ro6.cells.2.2.1
  have alq := ro6.lt
  have p2 := rp6.cells.2.2.1
  have alp6 := rp6.lt
  have HWF := hid (HH.out.2.2.2 K w w6 HK.out.2.1 (fun g W k v hg hk => HK.out.2.2.1 g W k v (by omega) hk) HF.out hA.size hB6 J6.out K6.out)
  go_wp2_with fail
  refine HWF.out.mono ?_
  rintro e w7 ⟨rfl, hB7, hK7⟩
  have HWI := hid (HK.out.2.2.2 w w7 HZ.out (by have := hA.size; have := hb2.size; omega) hB7 hK7)
  clear HWF q2 p2 ro6 rp6 J6 K6
  go_wp2_with fail
  refine HWI.out.mono ?_
  rintro e w8 ⟨rfl, hB8⟩
  go_wp2_with fail
  refine (pnum_any _ _).mono ?_
  rintro e w9 ⟨rfl, hw9⟩
  subst hw9
  have HB9 := hid hB8
  clear hB8 hB7 HWI hK7 hB6
  go_wp2
  go_ret
  exact ⟨rfl, HB9.out⟩
set_option maxRecDepth 100000 in
theorem prints_law (m t : ByteArray) (fs : List Pr2) (a : Option Addr) (ca : Nat) (body : ByteArray) (how : Int) (zs : List Int) (b : Option Addr) (cb : Nat) (w : World) (hf : FoAt fs a w) (hzo : ZoAt zs b w) (ha : a = none → fs = [] ∧ ca = 0) (hba : b = none → zs = [] ∧ cb = 0) (hn : fs.length ≤ 1000000000) (hnz : zs.length ≤ 1000000000) (hm : m.size ≤ 1000000000) (ht : t.size ≤ 1000000000) (hb : body.size ≤ 1000000000)
    (hz : ∀ i (h : i < fs.length), fs[i].1.size ≤ 1000000000 ∧ fs[i].2.size ≤ 1000000000) (hfz : (fldsL fs).length ≤ 10000000000) (htb : Tab10' w) (h15 : w.cell? ⟨5, 15, none⟩ = some (.int .u8 4)) :
    Calls Tryz.prog 4 #[.agg #[.string m, .string t, .slice a fs.length ca, .string body], .int .i64 how, .slice b zs.length cb] w fun e w' => e = .returned (.bool true) ∧ Below w.heap.size w w' := by
  have hA := (Below.refl w.heap.size w).alloc (Nat.le_refl _) (.cells #[.string m, .string t, .slice a fs.length ca, .string body] 36)
  have HW := hid (prints_any m t fs a ca body how zs b cb _ (hf.below hA) (hzo.below hA) ha hba hn hnz hm ht hb hz hfz (tab_below' htb hA) (cell_later hA h15))
  have HA := hid hA
  clear hf htb hA ha hba hzo hz h15
  go_enter Tryz.func4, Tryz.ntmps4
  go_wp2_with fail
  refine HW.out.mono ?_
  rintro e w1 ⟨rfl, hb1⟩
  have hB1 := bel_of HA.out hb1
  go_wp2
  go_ret
  exact ⟨rfl, hB1⟩
end Go.Proofs.YtnohadlihgjppaaGreatDoor
