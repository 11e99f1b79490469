/- Texts that follow one another, joined. -/
import Derived.Test.YtaekbmfcnkpelaaGreatDoorJoin28
import Derived.Test.YtaekbmfcnkpelaaGreatDoorJoin26
/- The two lists that are lent to Print: handed out, and as they were behind it; nothing old in memory turns. -/
namespace Go.Proofs.YtaekbmfcnkpelaaGreatDoor
open Go.RowKit

theorem FoAt.nil' (a : Option Addr) (w : World) : FoAt [] a w := fun i hi => absurd hi (by simp)
theorem ZoAt.nil' (a : Option Addr) (w : World) : ZoAt [] a w := fun i hi => absurd hi (by simp)
theorem set_far {g g2 k : Nat} {W : World} {v : Value} (h : g ≠ g2) (j : Nat) : (W.setCell ⟨g, k, none⟩ v).cell? ⟨g2, j, none⟩ = W.cell? ⟨g2, j, none⟩ :=
  World.cell?_setCell_other _ _ _ _ (fun e => by simp only [Addr.mk.injEq] at e; first | exact h e.1 | exact h e.1.symm)
set_option maxRecDepth 100000 in
set_option maxHeartbeats 1000000 in
theorem pPrint_any (m t : ByteArray) (fs : List Pr2) (a : Option Addr) (ca : Nat) (body : ByteArray) (how : Int) (zs : List Int) (b : Option Addr) (cb : Nat) (w : World) (hf : FoAt fs a w) (hzo : ZoAt zs b w) (hn : fs.length ≤ 1000000000) (hnz : zs.length ≤ 1000000000) (hm : m.size ≤ 1000000000) (ht : t.size ≤ 1000000000) (hb : body.size ≤ 1000000000)
    (hz : ∀ i (h : i < fs.length), fs[i].1.size ≤ 1000000000 ∧ fs[i].2.size ≤ 1000000000) (hfz : (fldsL fs).length ≤ 10000000000)
    (htb : Lib.TabBelow Tryz.prog w.heap.size w "internal/strconv.uint64pow10" .u64 Lib.pow10Tab) (h15 : w.cell? ⟨6, 15, none⟩ = some (.int .u8 4)) :
    Calls Tryz.prog 14 #[.agg #[.string m, .string t, .slice a fs.length ca, .string body], .int .i64 how, .slice b zs.length cb] w fun e w' => e = .returned (.tuple #[.string ⟨(printS m.data.toList t.data.toList fs body.data.toList how zs).1.toArray⟩, .int .i64 (printS m.data.toList t.data.toList fs body.data.toList how zs).2]) ∧ Below w.heap.size w w' := by
  have hA := (Below.refl w.heap.size w).alloc (Nat.le_refl _) (.cells #[.string m, .string t, .slice a fs.length ca, .string body] 24)
  have HW := hid (wPrint_any m t fs a ca body how zs b cb _ (hf.below hA) (hzo.below hA) hn hnz hm ht hb hz hfz (fun W hW => htb W (bel_of hA hW)) (cell_later hA h15))
  have HA := hid hA
  clear hf htb hA hzo h15 hz
  generalize printS m.data.toList t.data.toList fs body.data.toList how zs = PS at *
  go_enter Tryz.func14, Tryz.ntmps14
  go_wp2_with fail
  refine HW.out.mono ?_
  rintro e w1 ⟨rfl, hb1⟩
  have hB1 := bel_of HA.out hb1
  go_wp2
  go_ret2
  exact ⟨rfl, hB1⟩
end Go.Proofs.YtaekbmfcnkpelaaGreatDoor

/- The walk of porterkeep's told; nothing old in memory turns. -/
namespace Go.Proofs.YtaekbmfcnkpelaaGreatDoor
open Go.RowKit

def zlOf (how : Int) (zs : List Int) (n : Nat) : List Int := if how = 1 then sizedL zs n else []
theorem zl_ok {how : Int} (h : how = 0 ∨ how = 1) (zs : List Int) (n : Nat) : howOk how (zlOf how zs n) n = true := by
  rcases h with rfl | rfl
  · rfl
  · exact sized_ok zs n (by omega)
theorem printS_ok {m t : List UInt8} {fs : List Pr2} {b : List UInt8} {how : Int} {zs : List Int} (h1 : pOk m t fs = true) (h2 : howOk how zs b.length = true) : printS m t fs b how zs = (printL m t fs b how zs, 0) := by
  unfold printS; rw [h1, h2]; rfl
abbrev Tab10k (w : World) : Prop := Lib.TabBelow Tryz.prog w.heap.size w "internal/strconv.uint64pow10" .u64 Lib.pow10Tab
theorem tabk_below {w w' : World} (h : Tab10k w) (hb : Below w.heap.size w w') : Tab10k w' := fun W hW => h W (bel_of hb hW)
set_option maxRecDepth 100000 in
set_option maxHeartbeats 1000000 in
theorem told_any (m t : ByteArray) (fs : List Pr2) (a : Option Addr) (ca : Nat) (body : ByteArray) (how : Int) (zs : List Int) (b : Option Addr) (cb : Nat) (w : World) (hf : FoAt fs a w) (hzo : ZoAt zs b w) (hl : zs.length ≤ maxLen) (hzb : ∀ i (h : i < zs.length), -9223372036854775808 ≤ zs[i] ∧ zs[i] ≤ 9223372036854775807)
    (hn : fs.length ≤ 1000) (hm : m.size ≤ 1000) (ht : t.size ≤ 1000) (hb : body.size ≤ 200) (hz : ∀ i (h : i < fs.length), fs[i].1.size ≤ 1000 ∧ fs[i].2.size ≤ 1000) (hfz : (fldsL fs).length ≤ 10000000000) (hh : how = 0 ∨ how = 1) (hp : pOk m.data.toList t.data.toList fs = true)
    (htb : Tab10k w) (h15 : w.cell? ⟨6, 15, none⟩ = some (.int .u8 4)) :
    Calls Tryz.prog 6 #[.agg #[.string m, .string t, .slice a fs.length ca, .string body], .int .i64 how, .slice b zs.length cb] w fun e w' => e = .returned (.string ⟨(printL m.data.toList t.data.toList fs body.data.toList how (zlOf how zs body.size)).toArray⟩) ∧ Below w.heap.size w w' := by
  have hA := (Below.refl w.heap.size w).alloc (Nat.le_refl _) (.cells #[.string m, .string t, .slice a fs.length ca, .string body] 24)
  have ro1 : RoAt w.heap.size m t (.slice a fs.length ca) body (w.alloc (.cells #[.string m, .string t, .slice a fs.length ca, .string body] 24)) := heap_alloc_new w _
  have hbl : body.data.toList.length = body.size := by simp
  have hok := zl_ok hh zs body.size
  rw [← hbl] at hok
  have HPS := hid (printS_ok (b := body.data.toList) hp hok)
  rw [hbl] at HPS
  have hzlen : (zlOf how zs body.size).length ≤ 200 := by
    unfold zlOf; split
    · have := sized_len zs body.size (by omega); omega
    · simp
  have HSZ := hid (fun W (hW : Below w.heap.size w W) => sized_any zs b cb body.size W (hzo.below hW) hl (by omega) hzb)
  have HPR := hid (fun b' cb' W (hW : Below w.heap.size w W) (hz' : ZoAt (zlOf how zs body.size) b' W) => pPrint_any m t fs a ca body how (zlOf how zs body.size) b' cb' W (hf.below hW) hz' (by omega) (by omega) (by omega) (by omega) (by omega) (fun i hi => by have := hz i hi; omega) hfz (tabk_below htb hW) (cell_later hW h15))
  rw [HPS.out] at HPR
  obtain ⟨c0, c1, c2, c3⟩ := ro1.cells
  have al1 := ro1.lt
  clear hf hzo hzb hz hfz hp htb h15 hok HPS hbl
  generalize hPL : printL m.data.toList t.data.toList fs body.data.toList how (zlOf how zs body.size) = PL at *
  clear hPL
  rcases hh with rfl | rfl
  · have e : zlOf 0 zs body.size = [] := rfl
    rw [e] at HPR
    clear HSZ hzlen e
    go_enter Tryz.func6, Tryz.ntmps6
    go_wp2_with fail
    refine (HPR.out none 0 _ hA (fun i hi => absurd hi (by simp))).mono ?_
    rintro e w2 ⟨rfl, hb2⟩
    have hB2 := bel_of hA hb2
    clear HPR c0 c1 c2 c3 ro1
    go_wp2
    go_ret
    exact ⟨rfl, hB2⟩
  · have e : zlOf 1 zs body.size = sizedL zs body.size := rfl
    rw [e] at HPR hzlen
    clear e
    go_enter Tryz.func6, Tryz.ntmps6
    go_wp2_with fail
    refine (HSZ.out _ hA).mono ?_
    rintro e w2 ⟨⟨b', cb', rfl, hz2⟩, hb2⟩
    have hB2 := bel_of hA hb2
    have HP2 := hid (HPR.out b' cb' w2 hB2 hz2)
    have ro2 := ro1.below hb2 al1
    clear HSZ c0 c1 c2 c3 ro1 HPR hz2
    obtain ⟨c0, c1, c2, c3⟩ := ro2.cells
    have al2 := ro2.lt
    generalize sizedL zs body.size = ZL at *
    go_wp2_with fail
    refine HP2.out.mono ?_
    rintro e w3 ⟨rfl, hb3⟩
    have hB3 := bel_of hB2 hb3
    clear HP2 c0 c1 c2 c3 ro2
    go_wp2
    go_ret
    exact ⟨rfl, hB3⟩
end Go.Proofs.YtaekbmfcnkpelaaGreatDoor
