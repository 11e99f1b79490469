/- Texts that follow one another, joined. -/
import Derived.Test.YtfdhmeojkagokaaGreatDoorJoin27
import Derived.Shelf.Strings.IndexAnyAll
import Derived.Test.YtfdhmeojkagokaaGreatDoorJoin24
import Derived.Test.YtfdhmeojkagokaaGreatDoorJoin25
import Derived.Test.YtfdhmeojkagokaaGreatDoorJoin26
/- strings.ContainsAny of the bytes that end a line, whatever the text. -/
namespace Go.Proofs.YtfdhmeojkagokaaGreatDoor
open Go.RowKit

theorem noAny_span {s chars : List UInt8} {i k : Nat} (h : Lib.NoAny s chars i) (hk : ∀ j (x : UInt8), i ≤ j → j < i + k → s[j]? = some x → chars.contains x = false) : Lib.NoAny s chars (i + k) := fun j b hj hb => by
  by_cases e : j < i
  · exact h j b e hb
  · exact hk j b (by omega) hj hb
theorem high_not (x : UInt8) (h : 128 ≤ x.toNat) : endersB.data.toList.contains x = false := by
  have h1 : x ≠ 13 := fun e => by subst e; simp at h
  have h2 : x ≠ 10 := fun e => by subst e; simp at h
  have h3 : x ≠ 0 := fun e => by subst e; simp at h
  show List.contains [13, 10, 0] x = false
  simp [h1, h2, h3]
theorem span_not (s : ByteArray) (i : Nat) (hi : i < s.size) (ha : 128 ≤ (s[i]'hi).toNat) (h : Lib.NoAny s.data.toList endersB.data.toList i) : Lib.NoAny s.data.toList endersB.data.toList (i + (Utf8.decode s i).2) := by
  obtain ⟨d1, d2⟩ := decode_span s i hi ha
  refine noAny_span h fun j x h1 h2 hx => high_not x ?_
  have hj := d2 (j - i) (by omega)
  have e : i + (j - i) = j := by omega
  rw [e] at hj
  have hjs : j < s.size := by omega
  have e2 : s.get! j = s[j]'hjs := get_at s j hjs
  have e3 := Lib.data_getElem? s j hjs
  rw [e3, Option.some.injEq] at hx
  rw [← hx, ← e2]
  exact hj
theorem any_ends : ∀ l : List UInt8, decide (0 ≤ Lib.indexAny l endersB.data.toList) = l.any fun x => x == 13 || x == 10 || x == 0
  | [] => rfl
  | b :: l => by
    have ih := any_ends l
    have hge := Lib.indexAny_ge endersB.data.toList l
    rw [List.any_cons, ← ih, Lib.indexAny]
    have hc : endersB.data.toList.contains b = (b == 13 || b == 10 || b == 0) := by
      show List.contains [13, 10, 0] b = _
      rw [Bool.eq_iff_iff]
      simp [or_assoc]
    rw [hc]
    cases hb : (b == 13 || b == 10 || b == 0)
    · simp only [Bool.false_eq_true, if_false, Bool.false_or]
      by_cases hm : Lib.indexAny l endersB.data.toList = -1
      · rw [hm]; rfl
      · have h0 : (Lib.indexAny l endersB.data.toList == -1) = false := by simpa using hm
        rw [h0]
        simp only [Bool.false_eq_true, if_false]
        rw [Bool.eq_iff_iff, decide_eq_true_iff, decide_eq_true_iff]
        omega
    · simp
theorem indexRune_wide (r : Nat) (w : World) (h1 : 128 ≤ r) (h2 : r ≤ 2147483647) (hv : Utf8.valid (r : Int) = true) :
    Calls Tryz.prog 146 #[.string endersB, .int .i32 r] w fun e w' => e = .returned (.int .i64 (-1)) ∧ Below w.heap.size w w' := by
  by_cases h3 : r = 65533
  · subst h3; exact indexRune_bad w
  · exact indexRune_high r w h1 h2 h3 hv
theorem indexRune_low (x : UInt8) (w : World) (h : x.toNat < 128) :
    Calls Tryz.prog 146 #[.string endersB, .int .i32 x.toNat] w fun e w' => e = .returned (.int .i64 (Lib.indexByte endersB.data.toList x)) ∧ w' = w := by
  have e : ((x.toNat : Int)).toNat.toUInt8 = x := by simp
  have := Tryz.strings_IndexRune_ascii endersB (x.toNat : Int) w (by omega) (by omega)
  rw [e] at this
  exact this
def setIt (b : Nat) (s : ByteArray) (i : Nat) (w : World) : World := { w with heap := w.heap.setIfInBounds b (.stringIter s i) }
structure ItI (b : Nat) (s : ByteArray) (i : Nat) (w wx : World) : Prop where
  blk : wx.heap[b]? = some (.stringIter s i)
  bl : Below b w wx
  lt : b < wx.heap.size
theorem next_it {P : Program} {w : World} {b : Nat} {s : ByteArray} {i : Nat} (h : w.heap[b]? = some (.stringIter s i)) (ty : TypeId) (hi : i < s.size) :
    (Instr.next (.pointer (some ⟨b, 0, none⟩)) true ty).run P w = .ok (.tuple #[.bool true, .int .i64 i, .int .i32 (Utf8.decode s i).1]) (setIt b s (i + (Utf8.decode s i).2) w) := by
  simp only [Instr.next, getObj, setObj, Sem.run_bind, Sem.run, h, Result.andThen, hi, if_true, setIt]
  simp [goInt]
theorem next_out {P : Program} {w : World} {b : Nat} {s : ByteArray} {i : Nat} (h : w.heap[b]? = some (.stringIter s i)) (ty : TypeId) (hi : ¬ i < s.size) :
    (Instr.next (.pointer (some ⟨b, 0, none⟩)) true ty).run P w = .ok (.tuple #[.bool false]) w := by
  simp [Instr.next, getObj, Sem.run, h, hi]
theorem ItI.next {b : Nat} {s : ByteArray} {i : Nat} {w wx : World} (h : ItI b s i w wx) (j : Nat) : ItI b s j w (setIt b s j wx) := by
  have hl := h.lt
  refine ⟨by simp [setIt, hl], h.bl.trans ⟨rfl, rfl, rfl, by simp [setIt], fun k hk => ?_⟩, by simpa [setIt] using hl⟩
  simp only [setIt]
  rw [Array.getElem?_setIfInBounds_ne (by omega)]
theorem ItI.below {b : Nat} {s : ByteArray} {i : Nat} {w wx w3 : World} (h : ItI b s i w wx) (hb : Below wx.heap.size wx w3) : ItI b s i w w3 := by
  have hl := h.lt
  exact ⟨by rw [hb.block b hl]; exact h.blk, h.bl.trans (hb.mono (by omega)), Nat.lt_of_lt_of_le hl hb.size⟩
theorem itI_new (s : ByteArray) (w : World) : ItI w.heap.size s 0 w (w.iter s 0) := ⟨World.iter_heap w s 0, (Below.refl w.heap.size w).alloc (Nat.le_refl _) _, by simp [World.iter]⟩
set_option maxRecDepth 1000000 in
set_option maxHeartbeats 4000000 in
theorem indexAny_few (s : ByteArray) (w : World) (h8 : s.size ≤ 8) :
    Calls Tryz.prog 112 #[.string s, .string endersB] w fun e w' => e = .returned (.int .i64 (Lib.indexAny s.data.toList endersB.data.toList)) ∧ Below w.heap.size w w' := by
  have hsz : endersB.size = 3 := rfl
  have hemp : endersB.toList.isEmpty = false := by rw [Lib.toList_data]; rfl
  have h8z : decide ((8 : Int) < (s.size : Int)) = false := decide_eq_false (by omega)
  have I0 := hid (itI_new s w)
  have N0 := hid (Lib.NoAny.zero s.data.toList endersB.data.toList)
  go_enter Tryz.func112, Tryz.ntmps112
  go_wp2_with (go_at_call 147; refine (Tryz.strings_shouldUseASCIISet _ _).mono ?_; rintro e w' ⟨rfl, hw⟩; rw [hw, h8z])
  go_loopg [9, 10] s.size (fun g _ _ wx => ∃ i : Nat, i + g = s.size ∧ ItI w.heap.size s i w wx ∧ Hid (Lib.NoAny s.data.toList endersB.data.toList i))
  case atStart => exact ⟨0, by omega, I0.out, N0⟩
  case round =>
    obtain ⟨i, hig, II, HN⟩ := hrel
    clear I0 N0
    by_cases hi : i < s.size
    · have hnx := fun ty => next_it (P := Tryz.prog) II.blk ty hi
      by_cases hx : (s[i]'hi).toNat < 128
      · have hd := decode_ascii s i hi hx
        rw [hd] at hnx
        have I2 := II.next (i + 1)
        have hxl : s.data.toList[i]? = some (s[i]'hi) := Lib.data_getElem? s i hi
        generalize s[i]'hi = x at *
        have Hx := hid hxl
        have HR := hid (fun W => indexRune_low x W hx)
        have hcon := Lib.contains_iff_indexByte endersB.data.toList x
        generalize Lib.indexByte endersB.data.toList x = K at *
        have lt2 := I2.lt
        simp only at hnx
        clear hxl hd
        cases hin : endersB.data.toList.contains x
        · have HS := hid (HN.out.succ Hx.out hin)
          rw [hin] at hcon
          have hlt : ¬ ((0 : Int) ≤ K) := of_decide_eq_false hcon.symm
          clear hcon
          go_wp2_with (go_at_call 146; refine (HR.out _).mono ?_; rintro e w' ⟨rfl, rfl⟩)
          go_roundg (gk - 1)
          case measure => omega
          case rel => exact ⟨i + 1, by omega, I2, HS⟩
        · have HS := hid (Lib.indexAny_hit HN.out Hx.out hin)
          rw [hin] at hcon
          have hge : (0 : Int) ≤ K := of_decide_eq_true hcon.symm
          clear hcon
          go_wp2_with (go_at_call 146; refine (HR.out _).mono ?_; rintro e w' ⟨rfl, rfl⟩)
          go_ret
          exact ⟨ret_int HS.out.symm, I2.bl⟩
      · have hx2 : 128 ≤ (s[i]'hi).toNat := by omega
        obtain ⟨d1, d2⟩ := decode_high s i hi hx2
        have d3 := decode_le s i
        have d4 := decode_valid s i hi hx2
        have d5 := (decode_span s i hi hx2).1
        have HS := hid (span_not s i hi hx2 HN.out)
        generalize (Utf8.decode s i).1 = rr at *
        generalize (Utf8.decode s i).2 = dd at *
        have I2 := II.next (i + dd)
        have HR := hid (fun W => indexRune_wide rr W d1 d3 d4)
        have lt2 := I2.lt
        clear d4 hx hx2
        go_wp2_with (go_at_call 146; refine (HR.out _).mono ?_; rintro e w3 ⟨rfl, hb3⟩)
        go_roundg (gk - dd)
        case measure => omega
        case rel => exact ⟨i + dd, by omega, I2.below hb3, HS⟩
    · have hnx := fun ty => next_out (P := Tryz.prog) II.blk ty hi
      have hie : i = s.data.toList.length := by have := Lib.size_eq s; omega
      have HS := hid (Lib.indexAny_none (hie ▸ HN.out))
      clear hie
      go_wp2_with fail
      go_ret
      exact ⟨ret_int HS.out.symm, II.bl⟩
theorem indexAny_all (s : ByteArray) (w : World) (hs : s.size < 4294967281) :
    Calls Tryz.prog 112 #[.string s, .string endersB] w fun e w' => e = .returned (.int .i64 (Lib.indexAny s.data.toList endersB.data.toList)) ∧ Below w.heap.size w w' := by
  by_cases h8 : s.size ≤ 8
  · exact indexAny_few s w h8
  · have h116 : (Tryz.prog.info? (Tryz.lays153_ren.t 116)).map (fun i => (i.zero, i.size)) = some (some (.agg (Array.replicate 256 (.bool false))), 256) := by kernel_rfl
    refine (Any.strings_IndexAny_long Tryz.lays153 (zero_of_info h116).1 (zero_of_info h116).2 s endersB w (by decide) (by omega) hs (by decide) ?_).mono fun e w' ⟨h1, h2⟩ => ⟨h1, ?_⟩
    · intro j b hb
      have hm : b ∈ endersB.data.toList := List.mem_of_getElem? hb
      have hall : ∀ x ∈ endersB.data.toList, x.toNat < 128 := by decide
      exact hall b hm
    · rw [h2]
      exact ((Below.refl _ _).alloc (Nat.le_refl _) _).alloc (by simp) _
set_option maxHeartbeats 1000000 in
theorem containsAny_all (s : ByteArray) (w : World) (hs : s.size < 4294967281) :
    Calls Tryz.prog 68 #[.string s, .string endersB] w fun e w' => e = .returned (.bool (s.data.toList.any fun x => x == 13 || x == 10 || x == 0)) ∧ Below w.heap.size w w' := by
  have HI := hid (indexAny_all s w hs)
  rw [← any_ends]
  generalize Lib.indexAny s.data.toList endersB.data.toList = K at *
  go_enter Tryz.func68, Tryz.ntmps68
  go_wp2_with (go_at_call 112; refine HI.out.mono ?_; rintro e w1 ⟨rfl, hb1⟩)
  go_ret
  exact ⟨rfl, hb1⟩
end Go.Proofs.YtfdhmeojkagokaaGreatDoor

/- A site's Reply, out of what it calls. -/
namespace Go.Proofs.YtfdhmeojkagokaaGreatDoor
open Go.RowKit

set_option maxRecDepth 100000 in
set_option maxHeartbeats 4000000 in
theorem siteReply_of (gs : Nat) (qm qt qb : ByteArray) (fa : Option Addr) (fn fc : Nat) (R : DsR) (G : Option An) (sh : Bool) (w : World)
    (hG : ∀ a, G = some a → a.fs.length ≤ 50000000 ∧ a.b.size ≤ 281474976710656 ∧ ∀ i (h : i < a.fs.length), a.fs[i].1.size ≤ 281474976710656 ∧ a.fs[i].2.size ≤ 4000000000)
    (HD : ∀ W, Below w.heap.size w W → Calls Tryz.prog 39 #[.pointer (some ⟨gs, 0, none⟩), .string qm, .string qt] W (DpPost R W))
    (HA : ∀ W pa pc ua ul, Below w.heap.size w W → ua.data.toList = R.al → ul.data.toList = R.lo → W.ownsRow w.heap.size 76 2 (.slice pa R.ps.length pc) R.ps.length (prCells R.ps) → R.e = 0 → Calls Tryz.prog 40 #[.pointer (some ⟨gs, 0, none⟩), .agg #[.string qm, .string qt, .slice fa fn fc, .string qb], .agg #[.int .i64 R.st, .int .i64 R.ro, .slice pa R.ps.length pc, .string ua, .string ul]] W (ThPost G W))
    (HE : ∀ (n v : ByteArray) W, v.size ≤ 4000000000 → Calls Tryz.prog 42 #[.agg #[.string n, .string v]] W fun e w' => e = .returned (.bool (endG v)) ∧ Below W.heap.size W w')
    (HS : ∀ W, Below w.heap.size w W → Calls Tryz.prog 43 #[.agg #[.string qm, .string qt, .slice fa fn fc, .string qb]] W fun e w' => e = .returned (.bool sh) ∧ Below W.heap.size W w') :
    Calls Tryz.prog 23 #[.pointer (some ⟨gs, 0, none⟩), .agg #[.string qm, .string qt, .slice fa fn fc, .string qb]] w (RyPost (if R.e = 0 then finG sh G else ⟨0, [], ⟨#[]⟩, false, R.e⟩) w) := by
  have hmf : ∀ (fn : Fn) (first cap : Array Value) (w : World), (Instr.makeFunc fn first cap).run Tryz.prog w = .ok (.func fn first cap) w := fun _ _ _ _ => rfl
  obtain ⟨I0, hA⟩ := ryI_new (.string qm) (.string qt) (.slice fa fn fc) (.string qb) w
  have HDD := hid HD
  have HAA := hid HA
  have HEE := hid HE
  have HSS := hid HS
  have HGG := hid hG
  generalize hRES : (if R.e = 0 then finG sh G else ⟨0, [], ⟨#[]⟩, false, R.e⟩) = RES
  have HRES := hid hRES
  clear HD HA HE HS hG hRES
  obtain ⟨q0, q1, q2, q3⟩ := I0.qcells
  have l0 := I0.lt
  go_enter_defers Tryz.func23, Tryz.ntmps23
  go_wp2_with fail
  generalize ((w.alloc (.cells #[.string qm, .string qt, .slice fa fn fc, .string qb] 30)).alloc (.cells #[.int .i64 0, .slice none 0 0, .string ⟨#[]⟩, .bool false] 44)).alloc (.cells #[.int .i64 0] 45) = w1 at *
  clear q0 q1 q2 q3
  refine (HDD.out _ hA).mono ?_
  rintro x w2 ⟨⟨vv, ua, ul, rfl, hua, hul, ow⟩, hb2⟩
  have I2 := I0.below hb2
  have hB2 := bel_of hA hb2
  have l2 := I2.lt
  have HO2 := hid (owns_base ow hA.size)
  obtain ⟨pa, pc, rfl⟩ := sl_of ow
  have zs : (w2.setCell ⟨w.heap.size + 1 + 1, 0, none⟩ (.int .i64 R.e)).heap.size = w2.heap.size := by simp [World.setCell]
  have hb3 := (Below.refl w2.heap.size (w2.setCell ⟨w.heap.size + 1 + 1, 0, none⟩ (.int .i64 R.e))).alloc (Nat.le_of_eq zs.symm) (.cells #[.int .i64 R.st, .int .i64 R.ro, .slice pa R.ps.length pc, .string ua, .string ul] 63)
  have F3 := heap_alloc_new (w2.setCell ⟨w.heap.size + 1 + 1, 0, none⟩ (.int .i64 R.e)) (.cells #[.int .i64 R.st, .int .i64 R.ro, .slice pa R.ps.length pc, .string ua, .string ul] 63)
  rw [zs] at F3
  have I3 := (I2.setE R.e).below (hb3.mono (Nat.le_of_eq zs))
  obtain ⟨e0, e1⟩ := I2.ecell
  have HI5 := hid I3
  have HF5 : Hid (FnB w2.heap.size R.st R.ro (.slice pa R.ps.length pc) ua ul _) := F3
  have HB5 := hid ((hB2.setCell (p := ⟨w.heap.size + 1 + 1, 0, none⟩) (show w.heap.size ≤ w.heap.size + 1 + 1 by omega) (.int .i64 R.e)).trans (hb3.mono hB2.size))
  obtain ⟨e5, e6⟩ := I3.ecell
  have HO3 := hid (owns_below (owns_not HO2.out (fun e => by have := own_ge ow _ e; omega) 0 (.int .i64 R.e)) (hb3.mono (Nat.le_of_eq zs)))
  clear I0 I2 I3 F3 ow HDD HO2 zs hb3
  go_upto_region 3 with fail
  generalize (w2.setCell ⟨w.heap.size + 1 + 1, 0, none⟩ (.int .i64 R.e)).alloc (.cells #[.int .i64 R.st, .int .i64 R.ro, .slice pa R.ps.length pc, .string ua, .string ul] 63) = w3 at *
  have I3 := HI5.out
  have F3 := HF5.out
  have hB3 := HB5.out
  clear HI5 HF5 HB5 e0 e1
  by_cases q : R.e = 0
  · have hq : (R.e != 0) = false := by rw [q]; rfl
    have HR := HRES.out
    rw [if_pos q] at HR
    subst HR
    have HAN := hid (HAA.out w3 pa pc ua ul hB3 hua hul HO3.out q)
    obtain ⟨q0, q1, q2, q3⟩ := I3.qcells
    obtain ⟨g0, g1, g2, g3, g4⟩ := F3.cells
    have lf := F3.lt
    have le := I3.lt
    have HI3 := hid I3
    clear HRES HAA HO3 I3 F3
    go_wp2_with fail
    refine HAN.out.mono ?_
    cases G with
    | none =>
      rintro x w4 ⟨rfl, hb4⟩
      have I4 := HI3.out.below hb4
      have hB4 := bel_of hB3 hb4
      have J := (I4.setA 500 (.slice none 0 0) ⟨#[]⟩ true).setE 0
      obtain ⟨d0, d1, d2, d3⟩ := J.a.cells
      obtain ⟨d4, -⟩ := J.ecell
      refine leaves_cons (f := 38) (args := #[.pointer (some ⟨w.heap.size + 1, 0, none⟩), .pointer (some ⟨w.heap.size + 1 + 1, 0, none⟩)]) (by simp) (by simp [go_sem]) ?_
      refine (replyC_panicking (w.heap.size + 1) (w.heap.size + 1 + 1) _ _ _ _ _ _ _ [] w4 I4.a I4.e (by omega)).mono ?_
      rintro e u' w'' ⟨rfl, rfl, rfl⟩
      simp [Leaves, settle, results, Tryz.results23, go_sem, d0, d1, d2, d3, d4]
      exact ⟨⟨_, rfl, World.ownsRow_nil _ _ _ _⟩, (below_setA hB4 (Nat.le_succ _)).setCell (show w.heap.size ≤ w.heap.size + 1 + 1 by omega) _⟩
    | some a =>
      rintro x w4 ⟨⟨vv, rfl, ow⟩, hb4⟩
      have I4 := HI3.out.below hb4
      have hB4 := bel_of hB3 hb4
      have l4 := HI3.out.lt
      have hno : vv.ownBlock ≠ some (w.heap.size + 1) := fun e => by have := own_ge ow _ e; omega
      have hno2 : vv.ownBlock ≠ some (w.heap.size + 1 + 1) := fun e => by have := own_ge ow _ e; omega
      have HO4 := hid (owns_setA (st := a.st) (vv := vv) (b := a.b) (cl := false) (owns_base ow (show w.heap.size + 1 + 1 + 1 ≤ w3.heap.size from l4)) hno)
      have I5 := I4.setA a.st vv a.b false
      have hB5 := below_setA (st := a.st) (vv := vv) (b := a.b) (cl := false) hB4 (show w.heap.size ≤ w.heap.size + 1 by omega)
      obtain ⟨ax, cx, rfl⟩ := sl_of ow
      obtain ⟨c0, c1, c2, c3⟩ := I4.a.cells
      have f0 := I4.a.free 0
      have f1 := I4.a.free 1
      have f2 := I4.a.free 2
      have f3 := I4.a.free 3
      have la := I4.a.lt
      obtain ⟨gl, gb, gz⟩ := HGG.out a rfl
      have HZZ := hid gz
      have HCF := hid (contains_fld a.fs ax cx (fun p => endG p.2) _ (fl_own HO4.out) gl (fun W i hi _ => HEE.out _ _ W (gz i hi).2))
      have hFIN1 : a.fs.any (fun p => endG p.2) = true → finG sh (some a) = ⟨500, [], ⟨#[]⟩, sh, 0⟩ := fun h => any_end h a rfl sh
      have hFIN2 : a.fs.any (fun p => endG p.2) = false → finG sh (some a) = ⟨a.st, a.fs, a.b, sh, 0⟩ := fun h => any_no h a rfl sh
      have HF1 := hid hFIN1
      have HF2 := hid hFIN2
      generalize finG sh (some a) = FIN at *
      generalize a.fs.any (fun p => endG p.2) = EB at *
      obtain ⟨x0, x1, x2, x3⟩ := I5.a.cells
      have HI5 := hid I5
      have HB5 := hid hB5
      unfold setA at x0 x1 x2 x3 HCF HI5 HB5 HO4
      clear I5 hB5 I4 HI3 HAN ow gz hFIN1 hFIN2 HGG HEE
      go_wp2_with fail
      generalize (((w4.setCell ⟨w.heap.size + 1, 0, none⟩ (.int .i64 a.st)).setCell ⟨w.heap.size + 1, 1, none⟩ (.slice ax a.fs.length cx)).setCell ⟨w.heap.size + 1, 2, none⟩ (.string a.b)).setCell ⟨w.heap.size + 1, 3, none⟩ (.bool false) = w5 at *
      clear x0 x1 x2 x3 c0 c1 c2 c3 f0 f1 f2 f3 la
      refine HCF.out.mono ?_
      rintro x w6 ⟨rfl, hb6⟩
      have I6 := HI5.out.below hb6
      have hB6 := bel_of HB5.out hb6
      have HO6 := hid (owns_below HO4.out hb6)
      have l6 := I6.lt
      clear HCF HI5 HB5 HO4
      cases EB with
      | true =>
        have HE0 := HF1.out rfl
        subst HE0
        have I7 := I6.setA 500 (.slice none 0 0) ⟨#[]⟩ false
        have hB7 := below_setA (st := 500) (vv := .slice none 0 0) (b := ⟨#[]⟩) (cl := false) hB6 (show w.heap.size ≤ w.heap.size + 1 by omega)
        obtain ⟨c0, c1, c2, c3⟩ := I6.a.cells
        have f0 := I6.a.free 0
        have f1 := I6.a.free 1
        have f2 := I6.a.free 2
        have f3 := I6.a.free 3
        have la := I6.a.lt
        obtain ⟨q0, q1, q2, q3⟩ := I7.qcells
        have HI7 := hid I7
        have HB7 := hid hB7
        have HS7 := hid (HSS.out _ hB7)
        unfold setA at q0 q1 q2 q3 HI7 HB7 HS7
        clear I7 hB7 HSS HF1 HF2 I6
        have HO7 : Hid (World.ownsRow _ (w.heap.size + 1 + 1 + 1) 70 2 (.slice none 0 0) 0 (prCells [])) := hid (World.ownsRow_nil ((((w6.setCell ⟨w.heap.size + 1, 0, none⟩ (.int .i64 500)).setCell ⟨w.heap.size + 1, 1, none⟩ (.slice none 0 0)).setCell ⟨w.heap.size + 1, 2, none⟩ (.string ⟨#[]⟩)).setCell ⟨w.heap.size + 1, 3, none⟩ (.bool false)) _ _ _)
        go_wp2_with fail
        generalize (((w6.setCell ⟨w.heap.size + 1, 0, none⟩ (.int .i64 500)).setCell ⟨w.heap.size + 1, 1, none⟩ (.slice none 0 0)).setCell ⟨w.heap.size + 1, 2, none⟩ (.string ⟨#[]⟩)).setCell ⟨w.heap.size + 1, 3, none⟩ (.bool false) = w7 at *
        refine HS7.out.mono ?_
        rintro x w8 ⟨rfl, hb8⟩
        have I8 := HI7.out.below hb8
        have hB8 := bel_of HB7.out hb8
        have HO8 := owns_not (owns_below HO7.out hb8) (show (Value.slice none 0 0).ownBlock ≠ some (w.heap.size + 1) from (by simp [Value.ownBlock])) 3 (.bool sh)
        obtain ⟨v0, v1, v2, v3⟩ := I8.a.cells
        have t3 := I8.a.free 3
        have l8 := I8.a.lt
        have I9 := I8.setC sh
        have hB9 := hB8.setCell (p := ⟨w.heap.size + 1, 3, none⟩) (Nat.le_succ _) (.bool sh)
        have l9 := I9.lt
        have HOW := hid (ownA_any 500 [] (Value.slice none 0 0) ⟨#[]⟩ sh (w.heap.size + 1 + 1 + 1) _ HO8 l9 (by simp) (fun i h => absurd h (by simp)) (by decide))
        obtain ⟨y0, y1, y2, y3⟩ := I9.a.cells
        have HI9 := hid I9
        have HB9 := hid hB9
        clear HI7 HB7 HS7 HO7 HO8 I8 I9 hB8 hB9 q0 q1 q2 q3
        go_wp2_with fail
        generalize w8.setCell ⟨w.heap.size + 1, 3, none⟩ (.bool sh) = w9 at *
        refine HOW.out.mono ?_
        rintro x w10 ⟨rfl, ho10, hb10⟩
        have IA := HI9.out.low hb10 (Nat.lt_succ_self _)
        have hBA := HB9.out.trans (hb10.mono (show w.heap.size ≤ w.heap.size + 1 + 1 + 1 by omega))
        have IZ := (IA.setA 500 (Value.slice none 0 0) ⟨#[]⟩ sh).setE 0
        have HOZ := hid (owns_not (g := w.heap.size + 1 + 1) (owns_setA (g := w.heap.size + 1) (st := 500) (vv := (Value.slice none 0 0)) (b := ⟨#[]⟩) (cl := sh) ho10 (by simp [Value.ownBlock])) (by simp [Value.ownBlock]) 0 (.int .i64 0))
        have HBZ := hid ((below_setA (st := 500) (vv := (Value.slice none 0 0)) (b := ⟨#[]⟩) (cl := sh) hBA (Nat.le_succ _)).setCell (p := ⟨w.heap.size + 1 + 1, 0, none⟩) (show w.heap.size ≤ w.heap.size + 1 + 1 by omega) (.int .i64 0))
        obtain ⟨m0, m1, m2, m3⟩ := IA.a.cells
        have n0 := IA.a.free 0
        have n1 := IA.a.free 1
        have n2 := IA.a.free 2
        have n3 := IA.a.free 3
        have lA := IA.a.lt
        obtain ⟨o0, o1⟩ := (IA.setA 500 (Value.slice none 0 0) ⟨#[]⟩ sh).ecell
        have lE := IA.lt
        obtain ⟨d0, d1, d2, d3⟩ := IZ.a.cells
        obtain ⟨d4, -⟩ := IZ.ecell
        unfold setA at d0 d1 d2 d3 d4 o0 o1 HOZ HBZ
        clear HI9 HB9 HOW IZ IA y0 y1 y2 y3 ho10
        go_wp2_with fail
        refine leaves_cons (f := 38) (args := #[.pointer (some ⟨w.heap.size + 1, 0, none⟩), .pointer (some ⟨w.heap.size + 1 + 1, 0, none⟩)]) (by simp) (by simp [go_sem]) ?_
        refine (replyC_idle ⟨w.heap.size + 1, 0, none⟩ ⟨w.heap.size + 1 + 1, 0, none⟩ _).mono ?_
        rintro e u' w'' ⟨rfl, rfl, rfl⟩
        simp [Leaves, settle, results, Tryz.results23, go_sem, d0, d1, d2, d3, d4]
        exact ⟨⟨_, rfl, owns_base HOZ.out (show w.heap.size ≤ w.heap.size + 1 + 1 + 1 by omega)⟩, HBZ.out⟩
      | false =>
        have HE0 := HF2.out rfl
        subst HE0
        obtain ⟨q0, q1, q2, q3⟩ := I6.qcells
        have HI7 := hid I6
        have HB7 := hid hB6
        have HO7 := HO6
        have HS7 := hid (HSS.out _ hB6)
        clear HSS HF1 HF2 I6 HO6
        go_wp2_with fail
        refine HS7.out.mono ?_
        rintro x w8 ⟨rfl, hb8⟩
        have I8 := HI7.out.below hb8
        have hB8 := bel_of HB7.out hb8
        have HO8 := owns_not (owns_below HO7.out hb8) (show (Value.slice ax a.fs.length cx).ownBlock ≠ some (w.heap.size + 1) from hno) 3 (.bool sh)
        obtain ⟨v0, v1, v2, v3⟩ := I8.a.cells
        have t3 := I8.a.free 3
        have l8 := I8.a.lt
        have I9 := I8.setC sh
        have hB9 := hB8.setCell (p := ⟨w.heap.size + 1, 3, none⟩) (Nat.le_succ _) (.bool sh)
        have l9 := I9.lt
        have HOW := hid (ownA_any a.st a.fs (Value.slice ax a.fs.length cx) a.b sh (w.heap.size + 1 + 1 + 1) _ HO8 l9 (by omega) (fun i h => ⟨(HZZ.out i h).1, by have := (HZZ.out i h).2; omega⟩) gb)
        obtain ⟨y0, y1, y2, y3⟩ := I9.a.cells
        have HI9 := hid I9
        have HB9 := hid hB9
        clear HI7 HB7 HS7 HO7 HO8 I8 I9 hB8 hB9 q0 q1 q2 q3
        go_wp2_with fail
        generalize w8.setCell ⟨w.heap.size + 1, 3, none⟩ (.bool sh) = w9 at *
        refine HOW.out.mono ?_
        rintro x w10 ⟨rfl, ho10, hb10⟩
        have IA := HI9.out.low hb10 (Nat.lt_succ_self _)
        have hBA := HB9.out.trans (hb10.mono (show w.heap.size ≤ w.heap.size + 1 + 1 + 1 by omega))
        have IZ := (IA.setA a.st (Value.slice ax a.fs.length cx) a.b sh).setE 0
        have HOZ := hid (owns_not (g := w.heap.size + 1 + 1) (owns_setA (g := w.heap.size + 1) (st := a.st) (vv := (Value.slice ax a.fs.length cx)) (b := a.b) (cl := sh) ho10 hno) hno2 0 (.int .i64 0))
        have HBZ := hid ((below_setA (st := a.st) (vv := (Value.slice ax a.fs.length cx)) (b := a.b) (cl := sh) hBA (Nat.le_succ _)).setCell (p := ⟨w.heap.size + 1 + 1, 0, none⟩) (show w.heap.size ≤ w.heap.size + 1 + 1 by omega) (.int .i64 0))
        obtain ⟨m0, m1, m2, m3⟩ := IA.a.cells
        have n0 := IA.a.free 0
        have n1 := IA.a.free 1
        have n2 := IA.a.free 2
        have n3 := IA.a.free 3
        have lA := IA.a.lt
        obtain ⟨o0, o1⟩ := (IA.setA a.st (Value.slice ax a.fs.length cx) a.b sh).ecell
        have lE := IA.lt
        obtain ⟨d0, d1, d2, d3⟩ := IZ.a.cells
        obtain ⟨d4, -⟩ := IZ.ecell
        unfold setA at d0 d1 d2 d3 d4 o0 o1 HOZ HBZ
        clear HI9 HB9 HOW IZ IA y0 y1 y2 y3 ho10
        go_wp2_with fail
        refine leaves_cons (f := 38) (args := #[.pointer (some ⟨w.heap.size + 1, 0, none⟩), .pointer (some ⟨w.heap.size + 1 + 1, 0, none⟩)]) (by simp) (by simp [go_sem]) ?_
        refine (replyC_idle ⟨w.heap.size + 1, 0, none⟩ ⟨w.heap.size + 1 + 1, 0, none⟩ _).mono ?_
        rintro e u' w'' ⟨rfl, rfl, rfl⟩
        simp [Leaves, settle, results, Tryz.results23, go_sem, d0, d1, d2, d3, d4]
        exact ⟨⟨_, rfl, owns_base HOZ.out (show w.heap.size ≤ w.heap.size + 1 + 1 + 1 by omega)⟩, HBZ.out⟩
  · have hq : (R.e != 0) = true := by simpa using q
    have HR := HRES.out
    rw [if_neg q] at HR
    subst HR
    obtain ⟨c0, c1, c2, c3⟩ := I3.a.cells
    have f0 := I3.a.free 0
    have f1 := I3.a.free 1
    have f2 := I3.a.free 2
    have f3 := I3.a.free 3
    have la := I3.a.lt
    have le := I3.lt
    have J := I3.setA 0 (.slice none 0 0) ⟨#[]⟩ false
    have eJ := J.ecell
    have HJ := hid (J.setE R.e)
    have HBJ := hid ((below_setA (st := 0) (vv := .slice none 0 0) (b := ⟨#[]⟩) (cl := false) hB3 (show w.heap.size ≤ w.heap.size + 1 by omega)).setCell (p := ⟨w.heap.size + 1 + 1, 0, none⟩) (show w.heap.size ≤ w.heap.size + 1 + 1 by omega) (.int .i64 R.e))
    obtain ⟨j0, j1⟩ := eJ
    unfold setA at j0 j1
    clear HRES HAA HEE HSS HGG J
    go_wp2_with fail
    go_region
    have K := HJ.out.below (Below.refl _ _).drew
    have hBK := HBJ.out.drew
    obtain ⟨d0, d1, d2, d3⟩ := K.a.cells
    obtain ⟨d4, -⟩ := K.ecell
    unfold setA at d0 d1 d2 d3 d4 hBK
    clear HJ HBJ K
    go_wp2_with fail
    refine leaves_cons (f := 38) (args := #[.pointer (some ⟨w.heap.size + 1, 0, none⟩), .pointer (some ⟨w.heap.size + 1 + 1, 0, none⟩)]) (by simp) (by simp [go_sem]) ?_
    refine (replyC_idle ⟨w.heap.size + 1, 0, none⟩ ⟨w.heap.size + 1 + 1, 0, none⟩ _).mono ?_
    rintro e u' w'' ⟨rfl, rfl, rfl⟩
    simp [Leaves, settle, results, Tryz.results23, go_sem, d0, d1, d2, d3, d4]
    exact ⟨⟨_, rfl, World.ownsRow_nil _ _ _ _⟩, hBK⟩
end Go.Proofs.YtfdhmeojkagokaaGreatDoor

/- A site's answer, and how great it can be. -/
namespace Go.Proofs.YtfdhmeojkagokaaGreatDoor
open Go.RowKit

theorem fm_get {α : Type} {sz : Nat} {f : α → List Value} (hf : ∀ x, (f x).length = sz) : ∀ (l : List α) (i : Nat) (h : i < l.length) (j : Nat) (v : Value), (f l[i])[j]? = some v → (l.flatMap f)[i * sz + j]? = some v
  | [], i, h, _, _, _ => absurd h (by simp)
  | x :: r, 0, _, j, v, hv => by
    rw [List.flatMap_cons]
    simp only [Nat.zero_mul, Nat.zero_add]
    simp only [List.getElem_cons_zero] at hv
    obtain ⟨hj, rfl⟩ := List.getElem?_eq_some_iff.1 hv
    rw [List.getElem?_append_left hj]; simp
  | x :: r, i + 1, h, j, v, hv => by
    have ih := fm_get hf r i (by simpa using h) j v (by simpa using hv)
    rw [List.flatMap_cons, List.getElem?_append_right (by rw [hf x, Nat.succ_mul]; omega), hf x]
    rw [show (i + 1) * sz + j - sz = i * sz + j by rw [Nat.succ_mul]; omega]
    exact ih
theorem own_cells {α : Type} {sz : Nat} {f : α → List Value} (hf : ∀ x, (f x).length = sz) {l : List α} {B : Nat} {e : TypeId} {v : Value} {w : World} (h : w.ownsRow B e sz v l.length (l.flatMap f)) : (v = .slice none 0 0 ∧ l = []) ∨ ∃ g cap, v = .slice (some ⟨g, 0, none⟩) l.length cap ∧ g < w.heap.size ∧ l.length ≤ cap ∧ ∀ i (h : i < l.length) (j : Nat) (u : Value), (f l[i])[j]? = some u → w.cell? ⟨g, i * sz + j, none⟩ = some u := by
  rcases h.2 with ⟨h1, h2⟩ | ⟨g, cap, cur, hv, hB, hg, hc, hm, hz, ht⟩
  · exact .inl ⟨h1, List.eq_nil_of_length_eq_zero h2⟩
  · refine .inr ⟨g, cap, hv, (Array.getElem?_eq_some_iff.1 hg).1, hc, fun i hi j u hu => ?_⟩
    have h3 := fm_get hf l i hi j u hu
    rw [← ht, List.getElem?_take] at h3
    split at h3
    · rw [Lib.cell_of_heap hg]; simpa using h3
    · cases h3
theorem own_mu {α : Type} {sz : Nat} {f : α → List Value} (hf : ∀ x, (f x).length = sz) {l : List α} {B : Nat} {e : TypeId} {v : Value} {w : World} (h : w.ownsRow B e sz v l.length (l.flatMap f)) : ∃ a c, v = .slice a l.length c ∧ MuAt sz f l a w ∧ l.length ≤ c := by
  rcases own_cells hf h with ⟨h1, rfl⟩ | ⟨g, cap, hv, hg, hc, hcell⟩
  · exact ⟨none, 0, h1, fun i hi => absurd hi (by simp), Nat.le_refl _⟩
  · exact ⟨_, cap, hv, fun i hi => ⟨g, 0, rfl, hg, fun j u hu => by rw [Nat.zero_add]; exact hcell i hi j u hu⟩, hc⟩
theorem ba_of {u : ByteArray} {l : List UInt8} (h : u.data.toList = l) : u = ⟨l.toArray⟩ := by
  apply ByteArray.ext; simp [← h]
theorem answer_site (gs : Nat) (es : List Ent) (rs : List Rt) (ws : List Wr) (v vh vw : Value) (qm qt qb : ByteArray) (fs : List Prm) (fa : Option Addr) (fc : Nat) (R : DsR) (W : World) (S : StI gs gs es (rs.map Rt.h) ws v vh vw W) (pa : Option Addr) (pc : Nat) (ua ul : ByteArray) (hua : ua.data.toList = R.al) (hul : ul.data.toList = R.lo) (hps : FlAt R.ps pa W) (hok : DsOk R rs.length) (hnp : R.ps.length ≤ 1000000) (hf : FlAt fs fa W) (hl : fs.length ≤ 1000000) (hz : ∀ i (h : i < fs.length), fs[i].1.size ≤ maxLen) (hwl : ws.length ≤ 6) :
    Calls Tryz.prog 40 #[.pointer (some ⟨gs, 0, none⟩), .agg #[.string qm, .string qt, .slice fa fs.length fc, .string qb], .agg #[.int .i64 R.st, .int .i64 R.ro, .slice pa R.ps.length pc, .string ua, .string ul]] W (ThPost (toG R rs ws fs qb) W) := by
  by_cases h2 : R.st = 200
  · have e : toG R rs ws fs qb = thrG fs qb (hdOf rs R.ro) R.ps ws := if_pos h2
    have hro := hok.ro h2
    rw [e, h2]
    obtain ⟨aw, cw, hvw, mw, hcw⟩ := own_mu (f := Wr.cells) (fun _ => rfl) S.wr
    rcases own_cells (f := Hn.cells) (fun _ => rfl) S.hr with ⟨-, h0⟩ | ⟨gh, ch, hvh, hgh, hch, hcell⟩
    · rw [List.map_eq_nil_iff.1 h0] at hro; simp at hro
    have hlen : R.ro < (rs.map Rt.h).length := by simpa using hro
    have hhd : hdOf rs R.ro = (rs.map Rt.h)[R.ro]'hlen := by
      unfold hdOf; rw [List.getElem?_eq_getElem hro]; simp
    have hc := hcell R.ro hlen
    rw [← hhd] at hc
    have s1 : W.cell? ⟨gs, 1, none⟩ = some vh := by rw [Lib.cell_of_heap S.blk]; rfl
    have s2 : W.cell? ⟨gs, 2, none⟩ = some vw := by rw [Lib.cell_of_heap S.blk]; rfl
    rw [hvh] at s1
    rw [hvw] at s2
    have hb1 : 1 + ws.length * (fs.length + 1) ≤ 50000000 := by
      have : ws.length * (fs.length + 1) ≤ 6 * (fs.length + 1) := Nat.mul_le_mul_right _ hwl
      omega
    exact answer_found gs gh (rs.map Rt.h).length ch aw ws.length cw ⟨qm, qt, qb, fs, fa, fc, R.ps, pa, pc, hdOf rs R.ro⟩ R.ro ua ul _ W hlen s1 s2 (hc 0 _ rfl) (hc 1 _ rfl) (hc 2 _ rfl) (hc 3 _ rfl)
      (fun W' hb => through_any ⟨qm, qt, qb, fs, fa, fc, R.ps, pa, pc, hdOf rs R.ro⟩ ws aw cw W' (mw.below hb) hcw (by omega) hb1 ⟨hf.below hb, hps.below hb, hl, hnp, hz⟩)
  · have e : toG R rs ws fs qb = some (restG R.st ua ul) := by
      unfold toG; rw [if_neg h2, ba_of hua, ba_of hul]
    rw [e]
    exact answer_rest _ qm qt qb fa fs.length fc R.st R.ro pa R.ps.length pc ua ul W h2
theorem other_le (l : List UInt8) : (otherL l).length ≤ l.length + 1 := by
  unfold otherL
  split
  · rw [List.length_take]; omega
  · simp
theorem dsp_len (m t : List UInt8) (es : List Ent) : (dspG m t es).lo.length ≤ t.length + 1 ∧ (dspG m t es).al.length ≤ (Lib.join (alwG (Pm.ahead 63 t) es) [44, 32]).length := by
  have hab := congrArg List.length (Pm.ahead_behind 63 t)
  rw [List.length_append] at hab
  have ho := other_le (Pm.ahead 63 t)
  unfold dspG
  split
  · simp
  split
  · simp
  split
  · refine ⟨?_, by simp⟩
    simp only [List.length_append]
    unfold otG
    split
    · simp; omega
    · simp only; omega
  · split
    · simp
    · simp
theorem rest_small {K : Nat} {st : Int} {al lo : ByteArray} (h8 : 8 ≤ K) (h1 : al.size ≤ K) (h2 : lo.size ≤ K) : SmA K (restG st al lo) ∧ (restG st al lo).fs.length ≤ 1 := by
  unfold restG
  split
  · refine ⟨⟨Nat.zero_le _, fun p hp => ?_⟩, by simp⟩
    simp only [List.mem_singleton] at hp
    subst hp
    exact ⟨h8, h2⟩
  split
  · refine ⟨⟨Nat.zero_le _, fun p hp => ?_⟩, by simp⟩
    simp only [List.mem_singleton] at hp
    subst hp
    exact ⟨Nat.le_trans (show allowB.size ≤ 8 by decide) h8, h1⟩
  · exact ⟨none_small K _, by simp⟩
theorem to_small {K : Nat} {R : DsR} {rs : List Rt} {ws : List Wr} {qf : List Prm} {qb : ByteArray} (h8 : 8 ≤ K) (hf : ∀ p ∈ qf, p.2.size ≤ K) (hq : qb.size ≤ K) (hp : ∀ p ∈ R.ps, p.2.size ≤ K) (hw : ∀ x ∈ ws, x.n.size ≤ K ∧ x.v.size ≤ K) (hr : ∀ r ∈ rs, r.h.t.size ≤ K) (ha : R.al.length ≤ K) (hlo : R.lo.length ≤ K) (hwl : ws.length ≤ 6) (hfl : qf.length ≤ 1000000) {a : An} (e : toG R rs ws qf qb = some a) : SmA K a ∧ a.fs.length ≤ 50000000 := by
  unfold toG at e
  split at e
  · have ht : (hdOf rs R.ro).t.size ≤ K := by
      unfold hdOf
      cases h : rs[R.ro]? with
      | none => exact Nat.zero_le _
      | some r => exact hr r (List.mem_of_getElem? h)
    have h2 := thrG_le qf qb (hdOf rs R.ro) R.ps ws a e
    have : ws.length * (qf.length + 1) ≤ 6 * (qf.length + 1) := Nat.mul_le_mul_right _ hwl
    exact ⟨thr_small (by omega) hf ht hq hp ws a hw e, by omega⟩
  · cases e
    have := rest_small (K := K) (st := R.st) (al := ⟨R.al.toArray⟩) (lo := ⟨R.lo.toArray⟩) h8 (by show R.al.toArray.size ≤ K; simpa using ha) (by show R.lo.toArray.size ≤ K; simpa using hlo)
    exact ⟨this.1, by omega⟩
theorem ends_any (n v : ByteArray) (w : World) (hv : v.size ≤ 4000000000) :
    Calls Tryz.prog 42 #[.agg #[.string n, .string v]] w fun e w' => e = .returned (.bool (endG v)) ∧ Below w.heap.size w w' :=
  ends_of n v w (fun W _ => containsAny_all v W (by omega))
end Go.Proofs.YtfdhmeojkagokaaGreatDoor

/- The reference's answer to a request. -/
namespace Go.Proofs.YtfdhmeojkagokaaGreatDoor
open Go.RowKit

theorem fin_rest {R : DsR} {n : Nat} (hok : DsOk R n) {ua ul : ByteArray} (hua : ua.data.toList = R.al) (hul : ul.data.toList = R.lo) (sh : Bool) :
    (R.st = 301 ∨ R.st = 308 → finG sh (some (restG R.st ua ul)) = ⟨R.st, [(locB, ul)], ⟨#[]⟩, sh, 0⟩ ∧ ul.toList.isEmpty = false ∧ ua.toList.isEmpty = true) ∧ (R.st = 405 → finG sh (some (restG R.st ua ul)) = ⟨R.st, [(allowB, ua)], ⟨#[]⟩, sh, 0⟩ ∧ ul.toList.isEmpty = true ∧ ua.toList.isEmpty = false) ∧ (¬ (R.st = 301 ∨ R.st = 308) → R.st ≠ 405 → finG sh (some (restG R.st ua ul)) = ⟨R.st, [], ⟨#[]⟩, sh, 0⟩ ∧ ul.toList.isEmpty = true ∧ ua.toList.isEmpty = true) := by
  have ie : ∀ u : ByteArray, u.toList.isEmpty = u.data.toList.isEmpty := fun u => by rw [Lib.toList_data]
  refine ⟨fun h => ?_, fun h => ?_, fun h1 h2 => ?_⟩
  · obtain ⟨a, b, c⟩ := hok.lo h
    refine ⟨?_, ?_, ?_⟩
    · have e : restG R.st ua ul = ⟨R.st, [(locB, ul)], ⟨#[]⟩⟩ := if_pos h
      rw [e]
      have hn : [(locB, ul)].any (fun p => endG p.2) = false := by
        simp only [List.any_cons, List.any_nil, Bool.or_false]
        rw [endG_L, hul]; exact b
      exact any_no hn ⟨R.st, [(locB, ul)], ⟨#[]⟩⟩ rfl sh
    · rw [ie, hul]; cases hq : R.lo with
      | nil => exact absurd hq a
      | cons _ _ => rfl
    · rw [ie, hua, c]; rfl
  · obtain ⟨a, b, c⟩ := hok.al h
    refine ⟨?_, ?_, ?_⟩
    · have e : restG R.st ua ul = ⟨R.st, [(allowB, ua)], ⟨#[]⟩⟩ := by
        unfold restG; rw [if_neg (by omega), if_pos h]
      rw [e]
      have hn : [(allowB, ua)].any (fun p => endG p.2) = false := by
        simp only [List.any_cons, List.any_nil, Bool.or_false]
        rw [endG_L, hua]; exact b
      exact any_no hn ⟨R.st, [(allowB, ua)], ⟨#[]⟩⟩ rfl sh
    · rw [ie, hul, c]; rfl
    · rw [ie, hua]; cases hq : R.al with
      | nil => exact absurd hq a
      | cons _ _ => rfl
  · obtain ⟨a, b⟩ := hok.no h1 h2
    refine ⟨?_, by rw [ie, hul, a]; rfl, by rw [ie, hua, b]; rfl⟩
    have e : restG R.st ua ul = ⟨R.st, [], ⟨#[]⟩⟩ := by unfold restG; rw [if_neg h1, if_neg h2]
    rw [e]
    exact any_no (l := []) rfl ⟨R.st, [], ⟨#[]⟩⟩ rfl sh
theorem field_mem {w w3 : World} {ga rr gf : Nat} {st : Int} {sh : Bool} {ff : Array Value} (n v : ByteArray) (A : AnB ga st (.slice none 0 0) ⟨#[]⟩ sh w3) (R : AnB rr 0 (.slice none 0 0) ⟨#[]⟩ false w3) (F : Bl gf ff 63 w3) (h1 : rr ≠ ga) (h2 : gf ≠ ga) (hw : Below w.heap.size w w3) (hg : w.heap.size ≤ ga) :
    AnB ga st (.slice (some ⟨w3.heap.size, 0, none⟩) 1 1) ⟨#[]⟩ sh ((w3.setCell ⟨ga, 1, none⟩ (.slice (some ⟨w3.heap.size, 0, none⟩) 1 1)).alloc (.cells #[.string n, .string v] 70)) ∧ AnB rr 0 (.slice none 0 0) ⟨#[]⟩ false ((w3.setCell ⟨ga, 1, none⟩ (.slice (some ⟨w3.heap.size, 0, none⟩) 1 1)).alloc (.cells #[.string n, .string v] 70)) ∧ Bl gf ff 63 ((w3.setCell ⟨ga, 1, none⟩ (.slice (some ⟨w3.heap.size, 0, none⟩) 1 1)).alloc (.cells #[.string n, .string v] 70)) ∧ Below w.heap.size w ((w3.setCell ⟨ga, 1, none⟩ (.slice (some ⟨w3.heap.size, 0, none⟩) 1 1)).alloc (.cells #[.string n, .string v] 70)) ∧ ((w3.setCell ⟨ga, 1, none⟩ (.slice (some ⟨w3.heap.size, 0, none⟩) 1 1)).alloc (.cells #[.string n, .string v] 70)).ownsRow w.heap.size 70 2 (.slice (some ⟨w3.heap.size, 0, none⟩) 1 1) [(n, v)].length (prCells [(n, v)]) := by
  have zs : (w3.setCell ⟨ga, 1, none⟩ (.slice (some ⟨w3.heap.size, 0, none⟩) 1 1)).heap.size = w3.heap.size := by simp [World.setCell]
  have A4 := A.setV (.slice (some ⟨w3.heap.size, 0, none⟩) 1 1)
  have R4 := R.other h1 1 (.slice (some ⟨w3.heap.size, 0, none⟩) 1 1)
  have F4 := F.other h2 1 (.slice (some ⟨w3.heap.size, 0, none⟩) 1 1)
  have hB4 := hw.setCell (p := ⟨ga, 1, none⟩) hg (.slice (some ⟨w3.heap.size, 0, none⟩) 1 1)
  have b5 := (Below.refl w3.heap.size (w3.setCell ⟨ga, 1, none⟩ (.slice (some ⟨w3.heap.size, 0, none⟩) 1 1))).alloc (Nat.le_of_eq zs.symm) (.cells #[.string n, .string v] 70)
  have OW := one_field n v w.heap.size (w3.setCell ⟨ga, 1, none⟩ (.slice (some ⟨w3.heap.size, 0, none⟩) 1 1)) (by rw [zs]; exact hw.size)
  rw [zs] at OW
  exact ⟨A4.below (b5.mono (Nat.le_of_eq zs)), R4.below (b5.mono (Nat.le_of_eq zs)), F4.below (b5.mono (Nat.le_of_eq zs)), hB4.trans (b5.mono hw.size), OW⟩
set_option maxRecDepth 100000 in
set_option maxHeartbeats 2000000 in
theorem rreplied_any (hd bd : Int) (rs : List Rt) (ws : List Wr) (ar : Option Addr) (cr : Nat) (aw : Option Addr) (cw : Nat) (qm qt qb : ByteArray) (fs : List Prm) (fa : Option Addr) (fc : Nat) (R : DsR) (pa : Option Addr) (pc : Nat) (ua ul : ByteArray) (w : World)
    (hua : ua.data.toList = R.al) (hul : ul.data.toList = R.lo) (hok : DsOk R rs.length)
    (hR : MuAt 6 Rt.cells rs ar w) (hW : MuAt 4 Wr.cells ws aw w) (hwl : ws.length ≤ 6) (hcw : ws.length ≤ cw) (hf : FoAt fs fa w) (hl : fs.length ≤ 1000000) (hz : ∀ i (h : i < fs.length), fs[i].1.size ≤ maxLen) (hz2 : ∀ p ∈ fs, p.2.size ≤ 2000000) (hwn : ∀ x ∈ ws, x.n.size ≤ 1048576 ∧ x.v.size ≤ 1048576) (hp : FlAt R.ps pa w) (hpl : R.ps.length ≤ 1000000)
    (hsm : ∀ a, thrG fs qb (hdOf rs R.ro) R.ps ws = some a → SmA 4000000 a) :
    Calls Tryz.prog 25 #[.agg #[.int .i64 hd, .int .i64 bd, .slice ar rs.length cr, .slice aw ws.length cw], .agg #[.string qm, .string qt, .slice fa fs.length fc, .string qb], .agg #[.int .i64 R.st, .int .i64 R.ro, .slice pa R.ps.length pc, .string ua, .string ul]] w (AwPost (finG (askG fs) (toG R rs ws fs qb)) w) := by
  obtain ⟨hA, C0, Q0, F0, R0⟩ := roI_new #[.int .i64 hd, .int .i64 bd, .slice ar rs.length cr, .slice aw ws.length cw] #[.string qm, .string qt, .slice fa fs.length fc, .string qb] #[.int .i64 R.st, .int .i64 R.ro, .slice pa R.ps.length pc, .string ua, .string ul] w
  have HCL := hid (fun W (hb : Below w.heap.size w W) => rclosing_any qm qt qb fs fa fc W (hf.below hb) hl hz (fun x hx => by
    obtain ⟨p, hp, rfl⟩ := vals_in hx
    have := hz2 p hp
    unfold maxLen; omega))
  have HRO := hid (fun (h2 : R.st = 200) W (hb : Below w.heap.size w W) => rrouted_any hd bd rs ws ar cr aw cw qm qt qb fs fa fc R.st R.ro R.ps pa pc ua ul W (hR.below hb) (hW.below hb) hwl hcw (hok.ro h2) (hf.below hb) hl hz hz2 hwn (hp.below hb) hpl hsm)
  have hT1 : R.st = 200 → toG R rs ws fs qb = thrG fs qb (hdOf rs R.ro) R.ps ws := fun h => if_pos h
  have hT2 : R.st ≠ 200 → toG R rs ws fs qb = some (restG R.st ua ul) := fun h => by unfold toG; rw [if_neg h, ba_of hua, ba_of hul]
  obtain ⟨hf1, hf2, hf3⟩ := fin_rest hok hua hul (askG fs)
  have HF1 := hid hf1
  have HF2 := hid hf2
  have HF3 := hid hf3
  have HT1 := hid hT1
  have HT2 := hid hT2
  generalize thrG fs qb (hdOf rs R.ro) R.ps ws = TH at *
  generalize toG R rs ws fs qb = TG at *
  generalize askG fs = sh at *
  clear hR hW hf hz hz2 hwn hp hpl hsm hok hT1 hT2 hf1 hf2 hf3 hua hul
  obtain ⟨st, ro, ps, al, lo, er⟩ := R
  simp only at *
  go_enter Tryz.func25, Tryz.ntmps25
  go_upto_region 1 with fail
  generalize (((w.alloc (.cells #[.int .i64 hd, .int .i64 bd, .slice ar rs.length cr, .slice aw ws.length cw] 27)).alloc (.cells #[.string qm, .string qt, .slice fa fs.length fc, .string qb] 30)).alloc (.cells #[.int .i64 st, .int .i64 ro, .slice pa ps.length pc, .string ua, .string ul] 63)).alloc (.cells #[.int .i64 0, .slice none 0 0, .string ⟨#[]⟩, .bool false] 44) = w1 at *
  have c0 : w1.cell? ⟨w.heap.size, 0, none⟩ = some (.int .i64 hd) := (C0.cell 0).trans rfl
  have c1 : w1.cell? ⟨w.heap.size, 1, none⟩ = some (.int .i64 bd) := (C0.cell 1).trans rfl
  have c2 : w1.cell? ⟨w.heap.size, 2, none⟩ = some (.slice ar rs.length cr) := (C0.cell 2).trans rfl
  have c3 : w1.cell? ⟨w.heap.size, 3, none⟩ = some (.slice aw ws.length cw) := (C0.cell 3).trans rfl
  have q0 : w1.cell? ⟨w.heap.size + 1, 0, none⟩ = some (.string qm) := (Q0.cell 0).trans rfl
  have q1 : w1.cell? ⟨w.heap.size + 1, 1, none⟩ = some (.string qt) := (Q0.cell 1).trans rfl
  have q2 : w1.cell? ⟨w.heap.size + 1, 2, none⟩ = some (.slice fa fs.length fc) := (Q0.cell 2).trans rfl
  have q3 : w1.cell? ⟨w.heap.size + 1, 3, none⟩ = some (.string qb) := (Q0.cell 3).trans rfl
  have g0 : w1.cell? ⟨w.heap.size + 1 + 1, 0, none⟩ = some (.int .i64 st) := (F0.cell 0).trans rfl
  have g1 : w1.cell? ⟨w.heap.size + 1 + 1, 1, none⟩ = some (.int .i64 ro) := (F0.cell 1).trans rfl
  have g2 : w1.cell? ⟨w.heap.size + 1 + 1, 2, none⟩ = some (.slice pa ps.length pc) := (F0.cell 2).trans rfl
  have g3 : w1.cell? ⟨w.heap.size + 1 + 1, 3, none⟩ = some (.string ua) := (F0.cell 3).trans rfl
  have g4 : w1.cell? ⟨w.heap.size + 1 + 1, 4, none⟩ = some (.string ul) := (F0.cell 4).trans rfl
  have lc := C0.lt
  have lq := Q0.lt
  have lf := F0.lt
  have lr := R0.lt
  by_cases h2 : st = 200
  · have hT := HT1.out h2
    subst hT
    have HR2 := hid (HRO.out h2 _ hA)
    subst h2
    clear HCL HF1 HF2 HF3 HT1 HT2 HRO C0 Q0 F0
    generalize finG sh TG = FIN at *
    go_wp2_with fail
    refine HR2.out.mono ?_
    rintro x w2 ⟨⟨vv, rfl, ow⟩, hb2⟩
    have hB2 := bel_of hA hb2
    have R2 := R0.below hb2
    have hno : vv.ownBlock ≠ some (w.heap.size + 1 + 1 + 1) := fun e => by have := own_ge ow _ e; omega
    obtain ⟨ax, cx, rfl⟩ := sl_of ow
    obtain ⟨y0, y1, y2, y3⟩ := R2.cells
    have f0 := R2.free 0
    have f1 := R2.free 1
    have f2 := R2.free 2
    have f3 := R2.free 3
    have lr2 := R2.lt
    obtain ⟨d0, d1, d2, d3⟩ := (R2.set FIN.st (.slice ax FIN.fs.length cx) FIN.b FIN.cl).cells
    have HB := hid (below_setA (g := w.heap.size + 1 + 1 + 1) (st := FIN.st) (vv := .slice ax FIN.fs.length cx) (b := FIN.b) (cl := FIN.cl) hB2 (by omega))
    have HO := hid (owns_setA (g := w.heap.size + 1 + 1 + 1) (st := FIN.st) (vv := .slice ax FIN.fs.length cx) (b := FIN.b) (cl := FIN.cl) (owns_base ow hA.size) hno)
    unfold setA at d0 d1 d2 d3 HB HO
    clear HR2 ow R0 R2 c0 c1 c2 c3 q0 q1 q2 q3 g0 g1 g2 g3 g4
    go_wp2_with fail
    refine bodyPost_ret (v := .agg #[.int .i64 FIN.st, .slice ax FIN.fs.length cx, .string FIN.b, .bool FIN.cl]) (by simp [results, Tryz.results25, go_sem, d0, d1, d2, d3]) rfl ?_
    exact ⟨⟨_, rfl, HO.out⟩, HB.out⟩
  · have m2 : (st == 200) = false := by simpa using h2
    have hT := HT2.out h2
    subst hT
    have HC2 := hid (HCL.out _ hA)
    clear HCL HT1 HT2 HRO h2
    go_wp2_with fail
    refine HC2.out.mono ?_
    rintro x w2 ⟨rfl, hb2⟩
    have hB2 := bel_of hA hb2
    have R2 := R0.below hb2
    have F2 := F0.below hb2
    have lr2 := R2.lt
    have k0 := cell_later hb2 g0
    have lf2 := F2.lt
    have b3 := (Below.refl w2.heap.size w2).alloc (Nat.le_refl _) (.cells #[.int .i64 st, .slice none 0 0, .string ⟨#[]⟩, .bool sh] 44)
    have A3 : AnB w2.heap.size st (.slice none 0 0) ⟨#[]⟩ sh (w2.alloc (.cells #[.int .i64 st, .slice none 0 0, .string ⟨#[]⟩, .bool sh] 44)) := heap_alloc_new w2 _
    have R3 := R2.below b3
    have F3 := F2.below b3
    have hB3 := bel_of hB2 b3
    clear HC2 C0 Q0 F0 R0 c0 c1 c2 c3 q0 q1 q2 q3 g0 g1 g2 g3 g4
    go_upto_region 5 with fail
    generalize w2.alloc (.cells #[.int .i64 st, .slice none 0 0, .string ⟨#[]⟩, .bool sh] 44) = w3 at *
    have g3 : w3.cell? ⟨w.heap.size + 1 + 1, 3, none⟩ = some (.string ua) := (F3.cell 3).trans rfl
    have g4 : w3.cell? ⟨w.heap.size + 1 + 1, 4, none⟩ = some (.string ul) := (F3.cell 4).trans rfl
    have lf3 := F3.lt
    have lr3 := R3.lt
    clear k0
    by_cases h3 : st = 301 ∨ st = 308
    · obtain ⟨hfin, u1, u2⟩ := HF1.out h3
      have HFN := hid hfin
      obtain ⟨A5, R5, F5, hB5, OW⟩ := field_mem locB ul A3 R3 F3 (show w.heap.size + 1 + 1 + 1 ≠ w2.heap.size by omega) (show w.heap.size + 1 + 1 ≠ w2.heap.size by omega) hB3 hB2.size
      unfold locB at A5 R5 F5 hB5 OW
      obtain ⟨x0, x1, x2, x3⟩ := A3.cells
      have t1 := A3.free 1
      have la3 := A3.lt
      have k3 : World.cell? _ ⟨w.heap.size + 1 + 1, 3, none⟩ = some (.string ua) := (F5.cell 3).trans rfl
      have lf5 := F5.lt
      have neR : (Value.slice (some ⟨w3.heap.size, 0, none⟩) 1 1).ownBlock ≠ some (w.heap.size + 1 + 1 + 1) := by simp [Value.ownBlock]; omega
      have HB := hid (below_setA (g := w.heap.size + 1 + 1 + 1) (st := st) (vv := .slice (some ⟨w3.heap.size, 0, none⟩) 1 1) (b := ⟨#[]⟩) (cl := sh) hB5 (by omega))
      have HO := hid (owns_setA (g := w.heap.size + 1 + 1 + 1) (st := st) (vv := .slice (some ⟨w3.heap.size, 0, none⟩) 1 1) (b := ⟨#[]⟩) (cl := sh) OW neR)
      have HA5 := hid A5
      have HR5 := hid R5
      clear HF1 HF2 HF3 A3 R3 F3 A5 R5 F5 hB5 OW hfin h3
      go_upto_region 7 with fail
      generalize (w3.setCell ⟨w2.heap.size, 1, none⟩ (.slice (some ⟨w3.heap.size, 0, none⟩) 1 1)).alloc (.cells #[.string ⟨#[76, 111, 99, 97, 116, 105, 111, 110]⟩, .string ul] 70) = w5 at *
      obtain ⟨z0, z1, z2, z3⟩ := HA5.out.cells
      obtain ⟨y0, y1, y2, y3⟩ := HR5.out.cells
      have f0 := HR5.out.free 0
      have f1 := HR5.out.free 1
      have f2 := HR5.out.free 2
      have f3 := HR5.out.free 3
      have lr5 := HR5.out.lt
      have la5 := HA5.out.lt
      obtain ⟨d0, d1, d2, d3⟩ := (HR5.out.set st (.slice (some ⟨w3.heap.size, 0, none⟩) 1 1) ⟨#[]⟩ sh).cells
      unfold setA at d0 d1 d2 d3 HB HO
      clear HA5 HR5 x0 x1 x2 x3 t1
      go_wp2_with fail
      refine bodyPost_ret (v := .agg #[.int .i64 st, .slice (some ⟨w3.heap.size, 0, none⟩) 1 1, .string ⟨#[]⟩, .bool sh]) (by simp [results, Tryz.results25, go_sem, d0, d1, d2, d3]) rfl ?_
      rw [HFN.out]
      exact ⟨⟨_, rfl, HO.out⟩, HB.out⟩
    by_cases h4 : st = 405
    · obtain ⟨hfin, u1, u2⟩ := HF2.out h4
      have HFN := hid hfin
      obtain ⟨A5, R5, F5, hB5, OW⟩ := field_mem allowB ua A3 R3 F3 (show w.heap.size + 1 + 1 + 1 ≠ w2.heap.size by omega) (show w.heap.size + 1 + 1 ≠ w2.heap.size by omega) hB3 hB2.size
      unfold allowB at A5 R5 F5 hB5 OW
      obtain ⟨x0, x1, x2, x3⟩ := A3.cells
      have t1 := A3.free 1
      have la3 := A3.lt
      have k3 : World.cell? _ ⟨w.heap.size + 1 + 1, 3, none⟩ = some (.string ua) := (F5.cell 3).trans rfl
      have lf5 := F5.lt
      have neR : (Value.slice (some ⟨w3.heap.size, 0, none⟩) 1 1).ownBlock ≠ some (w.heap.size + 1 + 1 + 1) := by simp [Value.ownBlock]; omega
      have HB := hid (below_setA (g := w.heap.size + 1 + 1 + 1) (st := st) (vv := .slice (some ⟨w3.heap.size, 0, none⟩) 1 1) (b := ⟨#[]⟩) (cl := sh) hB5 (by omega))
      have HO := hid (owns_setA (g := w.heap.size + 1 + 1 + 1) (st := st) (vv := .slice (some ⟨w3.heap.size, 0, none⟩) 1 1) (b := ⟨#[]⟩) (cl := sh) OW neR)
      have HA5 := hid A5
      have HR5 := hid R5
      clear HF1 HF2 HF3 A3 R3 F3 A5 R5 F5 hB5 OW hfin h3 h4
      go_upto_region 9 with fail
      generalize (w3.setCell ⟨w2.heap.size, 1, none⟩ (.slice (some ⟨w3.heap.size, 0, none⟩) 1 1)).alloc (.cells #[.string ⟨#[65, 108, 108, 111, 119]⟩, .string ua] 70) = w5 at *
      obtain ⟨z0, z1, z2, z3⟩ := HA5.out.cells
      obtain ⟨y0, y1, y2, y3⟩ := HR5.out.cells
      have f0 := HR5.out.free 0
      have f1 := HR5.out.free 1
      have f2 := HR5.out.free 2
      have f3 := HR5.out.free 3
      have lr5 := HR5.out.lt
      have la5 := HA5.out.lt
      obtain ⟨d0, d1, d2, d3⟩ := (HR5.out.set st (.slice (some ⟨w3.heap.size, 0, none⟩) 1 1) ⟨#[]⟩ sh).cells
      unfold setA at d0 d1 d2 d3 HB HO
      clear HA5 HR5 x0 x1 x2 x3 t1
      go_wp2_with fail
      refine bodyPost_ret (v := .agg #[.int .i64 st, .slice (some ⟨w3.heap.size, 0, none⟩) 1 1, .string ⟨#[]⟩, .bool sh]) (by simp [results, Tryz.results25, go_sem, d0, d1, d2, d3]) rfl ?_
      rw [HFN.out]
      exact ⟨⟨_, rfl, HO.out⟩, HB.out⟩
    · obtain ⟨hfin, u1, u2⟩ := HF3.out h3 h4
      have HFN := hid hfin
      obtain ⟨z0, z1, z2, z3⟩ := A3.cells
      obtain ⟨y0, y1, y2, y3⟩ := R3.cells
      have f0 := R3.free 0
      have f1 := R3.free 1
      have f2 := R3.free 2
      have f3 := R3.free 3
      have la3 := A3.lt
      obtain ⟨d0, d1, d2, d3⟩ := (R3.set st (.slice none 0 0) ⟨#[]⟩ sh).cells
      have HB := hid (below_setA (g := w.heap.size + 1 + 1 + 1) (st := st) (vv := .slice none 0 0) (b := ⟨#[]⟩) (cl := sh) hB3 (by omega))
      unfold setA at d0 d1 d2 d3 HB
      clear HF1 HF2 HF3 A3 R3 F3 hfin h3 h4
      go_wp2_with fail
      refine bodyPost_ret (v := .agg #[.int .i64 st, .slice none 0 0, .string ⟨#[]⟩, .bool sh]) (by simp [results, Tryz.results25, go_sem, d0, d1, d2, d3]) rfl ?_
      rw [HFN.out]
      exact ⟨⟨_, rfl, World.ownsRow_nil _ _ _ _⟩, HB.out⟩
end Go.Proofs.YtfdhmeojkagokaaGreatDoor
