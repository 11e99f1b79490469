/- Texts that follow one another, joined. -/
import Derived.Test.YtfdhmeojkagokaaGreatDoorJoin46
import Derived.Test.YtfdhmeojkagokaaGreatDoorJoin19
import Derived.Test.YtfdhmeojkagokaaGreatDoorRows
import Derived.ChangeArms
import Derived.ChangeSame
import Derived.ChangeOld
import Derived.Test.YtfdhmeojkagokaaGreatDoorJoin38
/- The law Replies: whatever the configuration and the requests, it returns true. -/
namespace Go.Proofs.YtfdhmeojkagokaaGreatDoor
open Go.RowKit

theorem Bl.low {g B : Nat} {cs : Array Value} {t : TypeId} {w w' : World} (h : Bl g cs t w) (hb : Below B w w') (hg : g < B) : Bl g cs t w' := by
  have := hb.block g hg; unfold Bl at *; rw [this]; exact h
theorem three_mem (c0 q0 r0 : Array Value) (w : World) : (((w.alloc (.cells c0 27)).alloc (.cells q0 30)).alloc (.cells r0 30)).heap.size = w.heap.size + 1 + 1 + 1 ∧ Below w.heap.size w (((w.alloc (.cells c0 27)).alloc (.cells q0 30)).alloc (.cells r0 30)) ∧ Bl w.heap.size c0 27 (((w.alloc (.cells c0 27)).alloc (.cells q0 30)).alloc (.cells r0 30)) ∧ Bl (w.heap.size + 1) q0 30 (((w.alloc (.cells c0 27)).alloc (.cells q0 30)).alloc (.cells r0 30)) ∧ Bl (w.heap.size + 1 + 1) r0 30 (((w.alloc (.cells c0 27)).alloc (.cells q0 30)).alloc (.cells r0 30)) := by
  obtain ⟨h1, h2, h3⟩ := two_mem c0 q0 w
  have z2 : ((w.alloc (.cells c0 27)).alloc (.cells q0 30)).heap.size = w.heap.size + 1 + 1 := by simp
  have b3 := Bl.new ((w.alloc (.cells c0 27)).alloc (.cells q0 30)) r0 30
  rw [z2] at b3
  exact ⟨by simp, h1.alloc h1.size _, h2.alloc _, h3.alloc _, b3⟩
set_option maxRecDepth 100000 in
set_option maxHeartbeats 4000000 in
theorem replies_law (hd bd : Int) (rs : List Rt) (ws : List Wr) (ar : Option Addr) (cr : Nat) (aw : Option Addr) (cw : Nat) (qm qt qb : ByteArray) (fs : List Prm) (fa : Option Addr) (fc : Nat) (rm rt rb : ByteArray) (ks : List Prm) (ka : Option Addr) (kc : Nat) (mx : Int) (w : World) (hC : CfG rs ws ar cr aw cw w) (hcw : ws.length ≤ cw) (hro : ∀ r ∈ rs, RtSm r) (hwo : ∀ x ∈ ws, x.n.size ≤ 1048576 ∧ x.v.size ≤ 1048576) (hq : RqM qm qt fs qb fa fc w) (hk : RqM rm rt ks rb ka kc w) (hm : w.cell? ⟨0, 0, none⟩ = some (.int .i64 mx)) :
    Calls Tryz.prog 3 #[.agg #[.int .i64 hd, .int .i64 bd, .slice ar rs.length cr, .slice aw ws.length cw], .agg #[.string qm, .string qt, .slice fa fs.length fc, .string qb], .agg #[.string rm, .string rt, .slice ka ks.length kc, .string rb]] w fun e w' => e = .returned (.bool true) ∧ Below w.heap.size w w' := by
  have H0 := hid (three_mem #[.int .i64 hd, .int .i64 bd, .slice ar rs.length cr, .slice aw ws.length cw] #[.string qm, .string qt, .slice fa fs.length fc, .string qb] #[.string rm, .string rt, .slice ka ks.length kc, .string rb] w)
  have HRQ := hid (fun bk B N0 vs V w0 W (hW : Below w.heap.size w W) h1 h2 h3 h4 h5 h6 h7 h8 h9 => replies_any bk B N0 vs V hd bd rs ws ar cr aw cw qm qt qb fs fa fc mx w0 W h1 h2 h3 h4 h5 h6 h7 h8 h9 (hC.below hW) hcw hro hwo (hq.below hW) (cell_later hW hm))
  have HRK := hid (fun bk B N0 vs V w0 W (hW : Below w.heap.size w W) h1 h2 h3 h4 h5 h6 h7 h8 h9 => replies_any bk B N0 vs V hd bd rs ws ar cr aw cw rm rt rb ks ka kc mx w0 W h1 h2 h3 h4 h5 h6 h7 h8 h9 (hC.below hW) hcw hro hwo (hk.below hW) (cell_later hW hm))
  clear hC hro hwo hm hq hk
  go_enter Tryz.func3, Tryz.ntmps3
  go_upto_region 2 with fail
  obtain ⟨z0, hA1, C0, Q0, K0⟩ := H0.out
  clear H0
  generalize ((w.alloc (.cells #[.int .i64 hd, .int .i64 bd, .slice ar rs.length cr, .slice aw ws.length cw] 27)).alloc (.cells #[.string qm, .string qt, .slice fa fs.length fc, .string qb] 30)).alloc (.cells #[.string rm, .string rt, .slice ka ks.length kc, .string rb] 30) = wa at *
  have hA := hA1.alloc hA1.size (.cells #[.slice none 0 0, .slice none 0 0, .slice none 0 0, .slice none 0 0] 37)
  have hbk : BkAt wa.heap.size (wa.heap.size + 1) [] (.slice none 0 0) (wa.alloc (.cells #[.slice none 0 0, .slice none 0 0, .slice none 0 0, .slice none 0 0] 37)) := by
    refine { blk := heap_alloc_new wa _, own := World.ownsRow_nil _ _ _ _, lt := by omega }
  have hAB := (Below.refl wa.heap.size wa).alloc (Nat.le_refl _) (.cells #[.slice none 0 0, .slice none 0 0, .slice none 0 0, .slice none 0 0] 37)
  have z1 : (wa.alloc (.cells #[.slice none 0 0, .slice none 0 0, .slice none 0 0, .slice none 0 0] 37)).heap.size = wa.heap.size + 1 := by simp
  generalize wa.alloc (.cells #[.slice none 0 0, .slice none 0 0, .slice none 0 0, .slice none 0 0] 37) = w1 at *
  rw [z0] at hbk hAB z1
  have HM := hid (And.intro C0 (And.intro Q0 K0))
  have s1 := heap_lt hbk.blk
  have C1 := C0.low hAB (by omega)
  have Q1 := Q0.low hAB (by omega)
  have HD1 := hid (HRQ.out (w.heap.size + 1 + 1 + 1) ((w.heap.size + 1 + 1 + 1) + 1) (w.heap.size + 1 + 1 + 1) [] _ wa w1 hA hbk (by simp) (by simp) (fun i h => absurd h (by simp)) hAB (by omega) (Nat.le_refl _) (by omega) (by omega))
  have c0 : w1.cell? ⟨w.heap.size, 0, none⟩ = some (.int .i64 hd) := (C1.cell 0).trans rfl
  have c1 : w1.cell? ⟨w.heap.size, 1, none⟩ = some (.int .i64 bd) := (C1.cell 1).trans rfl
  have c2 : w1.cell? ⟨w.heap.size, 2, none⟩ = some (.slice ar rs.length cr) := (C1.cell 2).trans rfl
  have c3 : w1.cell? ⟨w.heap.size, 3, none⟩ = some (.slice aw ws.length cw) := (C1.cell 3).trans rfl
  have q0 : w1.cell? ⟨w.heap.size + 1, 0, none⟩ = some (.string qm) := (Q1.cell 0).trans rfl
  have q1 : w1.cell? ⟨w.heap.size + 1, 1, none⟩ = some (.string qt) := (Q1.cell 1).trans rfl
  have q2 : w1.cell? ⟨w.heap.size + 1, 2, none⟩ = some (.slice fa fs.length fc) := (Q1.cell 2).trans rfl
  have q3 : w1.cell? ⟨w.heap.size + 1, 3, none⟩ = some (.string qb) := (Q1.cell 3).trans rfl
  have lc := C1.lt
  have lq := Q1.lt
  clear C0 Q0 K0 C1 Q1 hbk
  go_wp2_with fail
  refine HD1.out.mono ?_
  rintro e w3 ⟨rfl, vs3, V3, a3, b3, g3, hB3⟩
  clear HD1 c0 c1 c2 c3 q0 q1 q2 q3
  have s3 := heap_lt b3.blk
  have C3 := HM.out.1.low hB3 (by omega)
  have K3 := HM.out.2.2.low hB3 (by omega)
  have HD3 := hid (HRK.out (w.heap.size + 1 + 1 + 1) ((w.heap.size + 1 + 1 + 1) + 1) (w.heap.size + 1 + 1 + 1) vs3 V3 wa w3 (hA1.trans (hB3.mono (by omega))) b3 (by simp at a3; omega) (by simp at a3; omega) g3 hB3 (by omega) (Nat.le_refl _) (by omega) (by omega))
  have c0 : w3.cell? ⟨w.heap.size, 0, none⟩ = some (.int .i64 hd) := (C3.cell 0).trans rfl
  have c1 : w3.cell? ⟨w.heap.size, 1, none⟩ = some (.int .i64 bd) := (C3.cell 1).trans rfl
  have c2 : w3.cell? ⟨w.heap.size, 2, none⟩ = some (.slice ar rs.length cr) := (C3.cell 2).trans rfl
  have c3 : w3.cell? ⟨w.heap.size, 3, none⟩ = some (.slice aw ws.length cw) := (C3.cell 3).trans rfl
  have q0 : w3.cell? ⟨w.heap.size + 1 + 1, 0, none⟩ = some (.string rm) := (K3.cell 0).trans rfl
  have q1 : w3.cell? ⟨w.heap.size + 1 + 1, 1, none⟩ = some (.string rt) := (K3.cell 1).trans rfl
  have q2 : w3.cell? ⟨w.heap.size + 1 + 1, 2, none⟩ = some (.slice ka ks.length kc) := (K3.cell 2).trans rfl
  have q3 : w3.cell? ⟨w.heap.size + 1 + 1, 3, none⟩ = some (.string rb) := (K3.cell 3).trans rfl
  have lc3 := C3.lt
  have lq3 := K3.lt
  clear C3 K3 b3 g3 HRK
  go_wp2_with fail
  refine HD3.out.mono ?_
  rintro e w4 ⟨rfl, vs4, V4, a4, b4, g4, hB4⟩
  clear HD3 c0 c1 c2 c3 q0 q1 q2 q3
  have s4 := heap_lt b4.blk
  have C4 := HM.out.1.low hB4 (by omega)
  have Q4 := HM.out.2.1.low hB4 (by omega)
  have HD4 := hid (HRQ.out (w.heap.size + 1 + 1 + 1) ((w.heap.size + 1 + 1 + 1) + 1) (w.heap.size + 1 + 1 + 1) vs4 V4 wa w4 (hA1.trans (hB4.mono (by omega))) b4 (by simp at a3; omega) (by simp at a3; omega) g4 hB4 (by omega) (Nat.le_refl _) (by omega) (by omega))
  have c0 : w4.cell? ⟨w.heap.size, 0, none⟩ = some (.int .i64 hd) := (C4.cell 0).trans rfl
  have c1 : w4.cell? ⟨w.heap.size, 1, none⟩ = some (.int .i64 bd) := (C4.cell 1).trans rfl
  have c2 : w4.cell? ⟨w.heap.size, 2, none⟩ = some (.slice ar rs.length cr) := (C4.cell 2).trans rfl
  have c3 : w4.cell? ⟨w.heap.size, 3, none⟩ = some (.slice aw ws.length cw) := (C4.cell 3).trans rfl
  have q0 : w4.cell? ⟨w.heap.size + 1, 0, none⟩ = some (.string qm) := (Q4.cell 0).trans rfl
  have q1 : w4.cell? ⟨w.heap.size + 1, 1, none⟩ = some (.string qt) := (Q4.cell 1).trans rfl
  have q2 : w4.cell? ⟨w.heap.size + 1, 2, none⟩ = some (.slice fa fs.length fc) := (Q4.cell 2).trans rfl
  have q3 : w4.cell? ⟨w.heap.size + 1, 3, none⟩ = some (.string qb) := (Q4.cell 3).trans rfl
  have lc4 := C4.lt
  have lq4 := Q4.lt
  clear C4 Q4 b4 g4 HRQ
  go_wp2_with fail
  refine HD4.out.mono ?_
  rintro e w5 ⟨rfl, vs5, V5, a5, b5, g5, hB5⟩
  clear HD4 c0 c1 c2 c3 q0 q1 q2 q3
  have HLK := hid (looks_any _ _ vs5 V5 w5 b5 (by simp at a3; omega) g5)
  have hBw := hA1.trans (hB5.mono (by omega))
  clear b5 g5
  go_wp2_with fail
  refine HLK.out.mono ?_
  rintro e w6 ⟨rfl, hb6⟩
  have BL := hid (bel_of hBw hb6)
  clear hb6 HLK
  go_wp2
  go_ret
  exact ⟨rfl, BL.out⟩
end Go.Proofs.YtfdhmeojkagokaaGreatDoor

/- Lists of pairs of texts among what a call is handed: opened as one list; what their bulk tells. -/
namespace Go.Proofs.YtfdhmeojkagokaaGreatDoor
open Go.RowKit Go.ChangeShapes

def pairD {H : Type} (f : Pr2) : DataW H := .agg [.lit (.string f.1.data.toList), .lit (.string f.2.data.toList)]
section
variable {H : Type} {enc : TypeId × Value → H} {P : Program} {w : World} {base : Nat} {spare : Nat → Bool} {held : Bool}
def pairOf (y : DataW H × List MemPlace) : Pr2 := match y.1 with
  | .agg [.lit (.string a), .lit (.string b)] => (⟨a.toArray⟩, ⟨b.toArray⟩)
  | _ => (⟨#[]⟩, ⟨#[]⟩)
theorem pairOf_mk (f : Pr2) (ps : List MemPlace) : pairOf ((pairD f, ps) : DataW H × List MemPlace) = f := by
  obtain ⟨⟨⟨a⟩⟩, ⟨⟨b⟩⟩⟩ := f; rfl
theorem open_pairs {t e s : TypeId} {f0 f1 : Field} {fuel : Nat} {cs : List Value} {x : DataW H × List MemPlace} (ht : P.underlying t = some (.slice e)) (he : P.underlying e = some (.struct #[f0, f1])) (hs : P.underlying s = some .string)
    (h0 : f0.type = s ∧ f0.offset = 0) (h1 : f1.type = s ∧ f1.offset = 1) (hce : P.cellsOf e = 2) (hcs : P.cellsOf s = 1)
    (h : DataW.trod enc P w base spare held fuel t cs = some x) :
    (cs = [.slice none 0 0] ∧ x = (.nil, [])) ∨
    ∃ (a : Addr) (cap : Nat) (fs : List Pr2) (rest : List (DataW H)), cs = [.slice (some a) fs.length cap] ∧ x.1 = .slice (fs.map pairD) rest ∧ FoAt fs (some a) w := by
  rcases DataW.trod_slice ht h with h | ⟨a, len, cap, elems, rest, n, _, rfl, rfl, hb, hl, hm, hlen, hel, hsp, hns⟩
  · exact .inl h
  right
  have each : ∀ i y, elems[i]? = some y → ∃ f : Pr2, y.1 = pairD f ∧ pairOf y = f ∧ w.cell? ((a.add (i * 2)).add 0) = some (.string f.1) ∧ w.cell? ((a.add (i * 2)).add 1) = some (.string f.2) := fun i y hy => by
    have hi : i < len := by rw [← hlen]; exact (List.getElem?_eq_some_iff.1 hy).1
    have hE := hel i hi
    rw [hce, hy, Option.bind_eq_some_iff] at hE
    obtain ⟨cs', hc1, hc2⟩ := hE
    obtain ⟨_, hl2, hcell⟩ := World.cells?_some hc1
    obtain ⟨y0, y1, m, rfl, _, k0, k1⟩ := trod_struct2 he hc2
    rw [h0.1, h0.2, hcs] at k0
    rw [h1.1, h1.2, hcs] at k1
    obtain ⟨s0, e0, rfl, _⟩ := DataW.trod_string hs k0
    obtain ⟨s1, e1, rfl, _⟩ := DataW.trod_string hs k1
    have g0 : cs'[0]? = some (.string s0) := by
      have := congrArg (·[0]?) e0
      simpa [List.getElem?_take, List.getElem?_drop] using this
    have g1 : cs'[1]? = some (.string s1) := by
      have := congrArg (·[0]?) e1
      simpa [List.getElem?_take, List.getElem?_drop] using this
    exact ⟨(s0, s1), rfl, pairOf_mk (s0, s1) _, by rw [hcell 0 (by omega), g0], by rw [hcell 1 (by omega), g1]⟩
  refine ⟨a, cap, elems.map pairOf, rest.map (·.1), by rw [List.length_map, hlen], ?_, fun i hi => ?_⟩
  · show DataW.slice _ _ = _
    congr 1
    rw [List.map_map]
    apply List.map_congr_left
    intro y hy
    obtain ⟨i, hi⟩ := List.getElem?_of_mem hy
    obtain ⟨f, hf1, hf2, _⟩ := each i y hi
    show y.1 = pairD (pairOf y)
    rw [hf2, hf1]
  · rw [List.length_map] at hi
    obtain ⟨f, _, hf2, c0, c1⟩ := each i elems[i] (List.getElem?_eq_getElem hi)
    obtain ⟨f', _, _, d0, _⟩ := each 0 elems[0] (List.getElem?_eq_getElem (by omega))
    have hsp : a.spot = none := by simpa [Addr.add] using World.cell?_spot d0
    obtain ⟨b, o, sp⟩ := a
    obtain rfl : sp = none := hsp
    rw [Addr.add_lit, Addr.add_lit] at c0 c1
    rw [List.getElem_map, hf2]
    exact ⟨b, o, rfl, block_lt_of_cell c0, by simpa using c0, c1⟩
end
end Go.Proofs.YtfdhmeojkagokaaGreatDoor

/- A configuration among what a call is handed: its routes and wares opened as lists, nil or not; what their bulk tells. -/
namespace Go.Proofs.YtfdhmeojkagokaaGreatDoor
open Go.RowKit Go.ChangeShapes

theorem exists_list {α : Type} {R : Nat → α → Prop} : ∀ n, (∀ i, i < n → ∃ x, R i x) → ∃ l : List α, l.length = n ∧ ∀ i (h : i < l.length), R i l[i]
  | 0, _ => ⟨[], rfl, fun i h => absurd h (by simp)⟩
  | n + 1, h => by
    obtain ⟨l, hl, hr⟩ := exists_list n (fun i hi => h i (by omega))
    obtain ⟨x, hx⟩ := h n (by omega)
    refine ⟨l ++ [x], by simp [hl], fun i hi => ?_⟩
    by_cases hi' : i < l.length
    · rw [List.getElem_append_left hi']; exact hr i hi'
    · have e : i = n := by simp at hi; omega
      subst e
      rw [List.getElem_append_right (by omega)]
      simpa [hl] using hx
theorem bulk_mem {H : Type} {d : DataW H} : ∀ {l : List (DataW H)}, d ∈ l → Rows.uptoBulk d ≤ Rows.uptoBulkAll l
  | [], h => absurd h (by simp)
  | x :: r, h => by
    simp only [Rows.uptoBulkAll]
    rcases List.mem_cons.1 h with rfl | h
    · omega
    · have := bulk_mem h; omega
theorem bulk_one {H : Type} (d : DataW H) : 1 ≤ Rows.uptoBulk d := by
  cases d with
  | lit l => cases l <;> simp [Rows.uptoBulk]
  | nil => simp [Rows.uptoBulk]
  | ptr d => simp [Rows.uptoBulk]
  | slice a b => simp [Rows.uptoBulk]
  | agg a => simp [Rows.uptoBulk]
  | iface a b => simp [Rows.uptoBulk]
  | map a => simp [Rows.uptoBulk]
  | held a => simp [Rows.uptoBulk]
theorem bulk_len {H : Type} : ∀ (l : List (DataW H)), l.length ≤ Rows.uptoBulkAll l
  | [] => by simp
  | x :: r => by
    have h1 := bulk_one x
    have h2 := bulk_len r
    simp only [Rows.uptoBulkAll, List.length_cons]
    omega
section
variable {H : Type} {enc : TypeId × Value → H} {P : Program} {w : World} {base : Nat} {spare : Nat → Bool} {held : Bool}
theorem open_list {α : Type} {sz : Nat} {f : α → List Value} (hz : 1 ≤ sz) (hfz : ∀ x, (f x).length = sz) {Q : α → DataW H → Prop} {t e : TypeId} {fuel : Nat} {cs : List Value} {x : DataW H × List MemPlace} (ht : P.underlying t = some (.slice e)) (hce : P.cellsOf e = sz)
    (he : ∀ (n : Nat) (cs : List Value) (y : DataW H × List MemPlace), DataW.trod enc P w base spare held n e cs = some y → ∃ z : α, cs = f z ∧ Q z y.1)
    (h : DataW.trod enc P w base spare held fuel t cs = some x) :
    ∃ (a : Option Addr) (cap : Nat) (l : List α), cs = [.slice a l.length cap] ∧ MuAt sz f l a w ∧ (a = none → l = [] ∧ cap = 0) ∧ (Rows.uptoBulk x.1 ≤ 1048576 → l.length ≤ 1048576) ∧ (Rows.uptoBulk x.1 ≤ 1048576 → ∀ z ∈ l, ∃ d, Q z d ∧ Rows.uptoBulk d ≤ 1048576) := by
  rcases DataW.trod_slice ht h with ⟨rfl, rfl⟩ | ⟨a, len, cap, elems, rest, n, _, rfl, rfl, hb, hl, hm, hlen, hel, hsp, hns⟩
  · exact ⟨none, 0, [], rfl, fun i hi => absurd hi (by simp), fun _ => ⟨rfl, rfl⟩, fun _ => Nat.zero_le _, fun _ z hz => absurd hz (by simp)⟩
  have each : ∀ i, i < len → ∃ z : α, (∃ d ∈ elems.map (·.1), Q z d) ∧ ∀ j v, (f z)[j]? = some v → w.cell? ((a.add (i * sz)).add j) = some v := fun i hi => by
    have hE := hel i hi
    rw [hce, List.getElem?_eq_getElem (by omega), Option.bind_eq_some_iff] at hE
    obtain ⟨cs', hc1, hc2⟩ := hE
    obtain ⟨_, hl2, hcell⟩ := World.cells?_some hc1
    obtain ⟨z, rfl, hq⟩ := he _ _ _ hc2
    refine ⟨z, ⟨_, List.mem_map.2 ⟨_, List.getElem_mem (by omega), rfl⟩, hq⟩, fun j v hj => ?_⟩
    rw [hcell j (by have := (List.getElem?_eq_some_iff.1 hj).1; rw [hfz] at this; exact this), hj]
  obtain ⟨l, hll, hr⟩ := exists_list len each
  refine ⟨some a, cap, l, by rw [hll], fun i hi => ?_, (fun h => by cases h), (fun hk => by
    have h1 := bulk_len (elems.map (·.1))
    rw [List.length_map] at h1
    simp only [Rows.uptoBulk] at hk
    omega), fun hk z hz => ?_⟩
  · obtain ⟨_, hc⟩ := hr i hi
    have h0 : ∃ v, (f l[i])[0]? = some v := ⟨(f l[i])[0]'(by rw [hfz]; omega), List.getElem?_eq_getElem _⟩
    obtain ⟨v0, hv0⟩ := h0
    have d0 := hc 0 v0 hv0
    have hi0 : 0 < l.length := by omega
    have h00 : ∃ v, (f l[0])[0]? = some v := ⟨(f l[0])[0]'(by rw [hfz]; omega), List.getElem?_eq_getElem _⟩
    obtain ⟨v00, hv00⟩ := h00
    have d00 := (hr 0 hi0).2 0 v00 hv00
    have hsp : a.spot = none := by simpa [Addr.add] using World.cell?_spot d00
    obtain ⟨b, o, sp⟩ := a
    obtain rfl : sp = none := hsp
    rw [Addr.add_lit, Addr.add_lit] at d0
    refine ⟨b, o, rfl, block_lt_of_cell d0, fun j v hv => ?_⟩
    have := hc j v hv
    rw [Addr.add_lit, Addr.add_lit] at this
    exact this
  · obtain ⟨i, hi, rfl⟩ := List.getElem_of_mem hz
    obtain ⟨⟨d, hd, hq⟩, _⟩ := hr i hi
    refine ⟨d, hq, ?_⟩
    have := bulk_mem hd
    simp only [Rows.uptoBulk] at hk
    omega
end
theorem cellsOfS : Tryz.prog.cellsOf 9 = 1 := by kernel_rfl
theorem cellsOfI : Tryz.prog.cellsOf 3 = 1 := by kernel_rfl
theorem cellsOfH : Tryz.prog.cellsOf 79 = 4 := by kernel_rfl
theorem cellsOfR : Tryz.prog.cellsOf 81 = 6 := by kernel_rfl
theorem cellsOfW : Tryz.prog.cellsOf 84 = 4 := by kernel_rfl
section
variable {H : Type} {enc : TypeId × Value → H} {w : World} {base : Nat} {spare : Nat → Bool} {held : Bool}
set_option maxRecDepth 100000 in
theorem open_handler {n : Nat} {cs : List Value} {y : DataW H × List MemPlace} (h : DataW.trod enc Tryz.prog w base spare held n 79 cs = some y) : ∃ z : Hn, cs = z.cells ∧ (Rows.uptoBulk y.1 ≤ 1048576 → z.t.size ≤ 1048576 ∧ z.n.size ≤ 1048576) := by
  obtain ⟨xs, n, _, rfl, hl, hlen, hf⟩ := DataW.trod_struct Tryz.underlying79 h
  rw [cellsOfH] at hl
  match xs, hlen with
  | [y0, y1, y2, y3], _ =>
  match cs, hl with
  | [c0, c1, c2, c3], _ =>
  have t0 := hf 0 _ rfl
  have t1 := hf 1 _ rfl
  have t2 := hf 2 _ rfl
  have t3 := hf 3 _ rfl
  obtain ⟨k, e0, rfl, _⟩ := DataW.trod_int Tryz.underlying3 (by simpa using t0)
  obtain ⟨st, e1, rfl, _⟩ := DataW.trod_int Tryz.underlying3 (by simpa using t1)
  obtain ⟨tx, e2, rfl, _⟩ := DataW.trod_string Tryz.underlying9 (by simpa using t2)
  obtain ⟨nm, e3, rfl, _⟩ := DataW.trod_string Tryz.underlying9 (by simpa using t3)
  simp [cellsOfS, cellsOfI] at e0 e1 e2 e3
  subst e0 e1 e2 e3
  refine ⟨⟨k, st, tx, nm⟩, rfl, fun hk => ?_⟩
  have z1 : tx.data.toList.length = tx.size := by simp
  have z2 : nm.data.toList.length = nm.size := by simp
  simp only [List.map_cons, List.map_nil, Rows.uptoBulk, Rows.uptoBulkAll] at hk
  simp only
  omega
set_option maxRecDepth 100000 in
theorem open_route {n : Nat} {cs : List Value} {y : DataW H × List MemPlace} (h : DataW.trod enc Tryz.prog w base spare held n 81 cs = some y) : ∃ z : Rt, cs = z.cells ∧ (Rows.uptoBulk y.1 ≤ 1048576 → RtSm z) := by
  obtain ⟨xs, n, _, rfl, hl, hlen, hf⟩ := DataW.trod_struct Tryz.underlying81 h
  rw [cellsOfR] at hl
  match xs, hlen with
  | [y0, y1, y2], _ =>
  match cs, hl with
  | [c0, c1, c2, c3, c4, c5], _ =>
  have t0 := hf 0 _ rfl
  have t1 := hf 1 _ rfl
  have t2 := hf 2 _ rfl
  obtain ⟨m, e0, rfl, _⟩ := DataW.trod_string Tryz.underlying9 (by simpa using t0)
  obtain ⟨p, e1, rfl, _⟩ := DataW.trod_string Tryz.underlying9 (by simpa using t1)
  simp [cellsOfS] at e0 e1
  subst e0 e1
  have t2' : DataW.trod enc Tryz.prog w base spare held n 79 [c2, c3, c4, c5] = some y2 := by simpa [cellsOfH] using t2
  obtain ⟨z, ez, hz⟩ := open_handler t2'
  refine ⟨⟨m, p, z⟩, by simp [Rt.cells, ez, Hn.cells], fun hk => ?_⟩
  · have z1 : m.data.toList.length = m.size := by simp
    have z2 : p.data.toList.length = p.size := by simp
    simp only [List.map_cons, List.map_nil, Rows.uptoBulk, Rows.uptoBulkAll] at hk
    obtain ⟨h1, h2⟩ := hz (by omega)
    exact ⟨by simp only; omega, by simp only; omega, by simp only; omega, by simp only; omega⟩
set_option maxRecDepth 100000 in
theorem open_ware {n : Nat} {cs : List Value} {y : DataW H × List MemPlace} (h : DataW.trod enc Tryz.prog w base spare held n 84 cs = some y) : ∃ z : Wr, cs = z.cells ∧ (Rows.uptoBulk y.1 ≤ 1048576 → z.n.size ≤ 1048576 ∧ z.v.size ≤ 1048576) := by
  obtain ⟨xs, n, _, rfl, hl, hlen, hf⟩ := DataW.trod_struct Tryz.underlying84 h
  rw [cellsOfW] at hl
  match xs, hlen with
  | [y0, y1, y2, y3], _ =>
  match cs, hl with
  | [c0, c1, c2, c3], _ =>
  have t0 := hf 0 _ rfl
  have t1 := hf 1 _ rfl
  have t2 := hf 2 _ rfl
  have t3 := hf 3 _ rfl
  obtain ⟨k, e0, rfl, _⟩ := DataW.trod_int Tryz.underlying3 (by simpa using t0)
  obtain ⟨tx, e1, rfl, _⟩ := DataW.trod_string Tryz.underlying9 (by simpa using t1)
  obtain ⟨nm, e2, rfl, _⟩ := DataW.trod_string Tryz.underlying9 (by simpa using t2)
  obtain ⟨st, e3, rfl, _⟩ := DataW.trod_int Tryz.underlying3 (by simpa using t3)
  simp [cellsOfS, cellsOfI] at e0 e1 e2 e3
  subst e0 e1 e2 e3
  refine ⟨⟨k, tx, nm, st⟩, rfl, fun hk => ?_⟩
  have z1 : tx.data.toList.length = tx.size := by simp
  have z2 : nm.data.toList.length = nm.size := by simp
  simp only [List.map_cons, List.map_nil, Rows.uptoBulk, Rows.uptoBulkAll] at hk
  simp only
  omega
theorem open_routes {n : Nat} {cs : List Value} {y : DataW H × List MemPlace} (h : DataW.trod enc Tryz.prog w base spare held n 24 cs = some y) : ∃ (a : Option Addr) (cap : Nat) (rs : List Rt), cs = [.slice a rs.length cap] ∧ MuAt 6 Rt.cells rs a w ∧ (a = none → rs = [] ∧ cap = 0) ∧ (Rows.uptoBulk y.1 ≤ 1048576 → rs.length ≤ 1048576 ∧ ∀ r ∈ rs, RtSm r) := by
  obtain ⟨a, cap, l, h1, h2, h3, h4, h5⟩ := open_list (sz := 6) (f := Rt.cells) (Q := fun (z : Rt) (d : DataW H) => Rows.uptoBulk d ≤ 1048576 → RtSm z) (by omega) (fun _ => rfl) Tryz.underlying24 cellsOfR (fun n cs y h => open_route h) h
  exact ⟨a, cap, l, h1, h2, h3, fun hk => ⟨h4 hk, fun r hr => by obtain ⟨d, hq, hd⟩ := h5 hk r hr; exact hq hd⟩⟩
theorem open_wares {n : Nat} {cs : List Value} {y : DataW H × List MemPlace} (h : DataW.trod enc Tryz.prog w base spare held n 25 cs = some y) : ∃ (a : Option Addr) (cap : Nat) (ws : List Wr), cs = [.slice a ws.length cap] ∧ MuAt 4 Wr.cells ws a w ∧ (a = none → ws = [] ∧ cap = 0) ∧ (Rows.uptoBulk y.1 ≤ 1048576 → ws.length ≤ 1048576 ∧ ∀ x ∈ ws, x.n.size ≤ 1048576 ∧ x.v.size ≤ 1048576) := by
  obtain ⟨a, cap, l, h1, h2, h3, h4, h5⟩ := open_list (sz := 4) (f := Wr.cells) (Q := fun (z : Wr) (d : DataW H) => Rows.uptoBulk d ≤ 1048576 → z.n.size ≤ 1048576 ∧ z.v.size ≤ 1048576) (by omega) (fun _ => rfl) Tryz.underlying25 cellsOfW (fun n cs y h => open_ware h) h
  exact ⟨a, cap, l, h1, h2, h3, fun hk => ⟨h4 hk, fun r hr => by obtain ⟨d, hq, hd⟩ := h5 hk r hr; exact hq hd⟩⟩
end
end Go.Proofs.YtfdhmeojkagokaaGreatDoor

/- A request among what a call is handed; what its bulk tells; a list of wares has its length for room at least. -/
namespace Go.Proofs.YtfdhmeojkagokaaGreatDoor
open Go.RowKit Go.ChangeShapes

theorem bulk3 {H : Type} : ∀ (fs : List Pr2), 3 * fs.length ≤ Rows.uptoBulkAll (H := H) (fs.map pairD) ∧ ∀ p ∈ fs, p.1.size ≤ Rows.uptoBulkAll (H := H) (fs.map pairD) ∧ p.2.size ≤ Rows.uptoBulkAll (H := H) (fs.map pairD)
  | [] => ⟨by simp, fun p hp => absurd hp (by simp)⟩
  | f :: r => by
    obtain ⟨h1, h2⟩ := bulk3 (H := H) r
    have z1 : f.1.data.toList.length = f.1.size := by simp
    have z2 : f.2.data.toList.length = f.2.size := by simp
    refine ⟨?_, fun p hp => ?_⟩
    · simp only [List.map_cons, List.length_cons, Rows.uptoBulkAll, pairD, Rows.uptoBulk]
      omega
    · simp only [List.map_cons, Rows.uptoBulkAll, pairD, Rows.uptoBulk]
      rcases List.mem_cons.1 hp with rfl | hp
      · omega
      · have := h2 p hp; omega
theorem cellsFd : Tryz.prog.cellsOf 70 = 2 := by kernel_rfl
theorem cellsLf : Tryz.prog.cellsOf 28 = 1 := by kernel_rfl
theorem cellsRq : Tryz.prog.cellsOf 30 = 4 := by kernel_rfl
theorem open_fields {H : Type} {enc : TypeId × Value → H} {w : World} {fuel : Nat} {c : Value} {x : DataW H × List MemPlace} (h : DataW.trod enc Tryz.prog w 0 (fun _ => true) true fuel 28 [c] = some x) :
    ∃ (a : Option Addr) (fs : List Pr2) (ca : Nat), c = .slice a fs.length ca ∧ (a = none → fs = [] ∧ ca = 0) ∧ FoAt fs a w ∧ (Rows.uptoBulk x.1 ≤ 1048576 → fs.length ≤ 1000000 ∧ ∀ p ∈ fs, p.1.size ≤ 1048576 ∧ p.2.size ≤ 1048576) := by
  rcases open_pairs (s := 9) Tryz.underlying28 Tryz.underlying70 Tryz.underlying9 ⟨rfl, rfl⟩ ⟨rfl, rfl⟩ cellsFd cellsOfS h with ⟨ec, rfl⟩ | ⟨a, cap, fs, rest, ec, ey, hfo⟩
  · simp only [List.cons.injEq, and_true] at ec
    exact ⟨none, [], 0, ec, fun _ => ⟨rfl, rfl⟩, FoAt.nil' _ _, fun _ => ⟨by simp, fun p hp => absurd hp (by simp)⟩⟩
  · simp only [List.cons.injEq, and_true] at ec
    refine ⟨some a, fs, cap, ec, (fun h => by cases h), hfo, fun hk => ?_⟩
    rw [ey, Rows.uptoBulk] at hk
    obtain ⟨h1, h2⟩ := bulk3 (H := H) fs
    exact ⟨by omega, fun p hp => by have := h2 p hp; omega⟩
theorem wares_cap {H : Type} {enc : TypeId × Value → H} {w : World} {fuel : Nat} {a : Option Addr} {n c : Nat} {x : DataW H × List MemPlace} (h : DataW.trod enc Tryz.prog w 0 (fun _ => true) true fuel 25 [.slice a n c] = some x) : n ≤ c := by
  rcases DataW.trod_slice Tryz.underlying25 h with ⟨e, -⟩ | ⟨b, len, cap, elems, rest, m, _, e, _, _, hl, _⟩
  · simp only [List.cons.injEq, Value.slice.injEq, and_true] at e
    omega
  · simp only [List.cons.injEq, Value.slice.injEq, and_true] at e
    omega
set_option maxRecDepth 100000 in
theorem open_request {H : Type} {enc : TypeId × Value → H} {w : World} {fuel : Nat} {cs : List Value} {x : DataW H × List MemPlace} (hcs : cs.length = 4) (h : DataW.trod enc Tryz.prog w 0 (fun _ => true) true fuel 30 cs = some x) :
    ∃ (m t b : ByteArray) (fs : List Prm) (a : Option Addr) (c : Nat), cs = [.string m, .string t, .slice a fs.length c, .string b] ∧ (Rows.uptoBulk x.1 ≤ 1048576 → RqM m t fs b a c w) := by
  match cs, hcs with
  | [c0, c1, c2, c3], _ =>
  obtain ⟨xs, n, _, hx, hl, hlen, hfl⟩ := DataW.trod_struct Tryz.underlying30 h
  match xs, hlen with
  | [y0, y1, y2, y3], _ =>
  have t0 := hfl 0 _ rfl
  have t1 := hfl 1 _ rfl
  have t2 := hfl 2 _ rfl
  have t3 := hfl 3 _ rfl
  obtain ⟨m, e0, rfl, _⟩ := DataW.trod_string Tryz.underlying9 (by simpa using t0)
  obtain ⟨tg, e1, rfl, _⟩ := DataW.trod_string Tryz.underlying9 (by simpa using t1)
  obtain ⟨body, e3, rfl, _⟩ := DataW.trod_string Tryz.underlying9 (by simpa using t3)
  simp [cellsOfS] at e0 e1 e3
  subst e0 e1 e3
  have t2' : DataW.trod enc Tryz.prog w 0 (fun _ => true) true n 28 [c2] = some y2 := by simpa [cellsLf] using t2
  obtain ⟨a, fs, c, rfl, hz, hfo, hk⟩ := open_fields t2'
  refine ⟨m, tg, body, fs, a, c, rfl, fun hb => ?_⟩
  subst hx
  have z1 : m.data.toList.length = m.size := by simp
  have z2 : tg.data.toList.length = tg.size := by simp
  have z3 : body.data.toList.length = body.size := by simp
  simp only [List.map_cons, List.map_nil, Rows.uptoBulk, Rows.uptoBulkAll] at hb
  obtain ⟨h1, h2⟩ := hk (by omega)
  refine ⟨hfo, hz, h1, fun i hi => ?_, fun p hp => ?_, ?_, by omega, by omega⟩
  · have := (h2 _ (List.getElem_mem hi)).1; unfold maxLen; omega
  · have := (h2 p hp).2; omega
  · unfold maxLen; omega
end Go.Proofs.YtfdhmeojkagokaaGreatDoor
