/- Texts that follow one another, joined. -/
import Derived.Test.YtbiggccolpchcaaGreatDoorJoin40
import Derived.Test.YtbiggccolpchcaaGreatDoorJoin37
import Derived.Test.YtbiggccolpchcaaGreatDoorJoin17
import Derived.Test.YtbiggccolpchcaaGreatDoorRows
import Derived.ChangeArms
import Derived.ChangeSame
import Derived.ChangeOld
/- A step of a script of tables; a script. -/
namespace Go.Proofs.YtbiggccolpchcaaGreatDoor
open Go.RowKit Bn

section
variable {O : Nat → Nat} {wb : Nat} {V : Nat → Value} {l : Nat → List Value} {vs : Value} {tb : List Pr} {n : Nat} {w0 w : World}
theorem rd_of {wb g n vc k ob : Nat} {p : Pr} {o : OpV} {W : World} (h4 : W.cell? ⟨wb, 4, none⟩ = some (.slice (some ⟨g, 0, none⟩) n vc)) (s0 : W.cell? ⟨g, k * 2, none⟩ = some (.pointer (some ⟨p.gx, 0, none⟩))) (s1 : W.cell? ⟨g, k * 2 + 1, none⟩ = some (.pointer (some ⟨p.gr, 0, none⟩))) (hb : W.heap[ob]? = some (.cells o.cs 51 (0, 0))) :
    RdS wb g n vc k ob (.pointer (some ⟨p.gx, 0, none⟩)) (.pointer (some ⟨p.gr, 0, none⟩)) o.on o.cs.toList W :=
  ⟨h4, s0, s1, (Lib.cell_of_heap hb (j := 1)).trans rfl, fun j v hj => by rw [Lib.cell_of_heap hb, Nat.zero_add, ← Array.getElem?_toList]; exact hj⟩
theorem step_tab (h : WI O wb V l vs tb n w0 w) (hn : n ≤ 1000000) (o : OpV) (ok : OpOk o) (h20 : 20 < o.k) (h23 : o.k ≤ 23) (ht : 0 < tb.length) {mx : Int} (hm : w0.cell? ⟨0, 0, none⟩ = some (.int .i64 mx)) :
    Calls Tryz.prog 8 #[.pointer (some ⟨wb, 0, none⟩), .agg o.cs] w fun r w' => r = .returned (.bool true) ∧ WX wb (n + 1) tb.length w0 w' := by
  have hA := (Below.refl w.heap.size w).alloc (Nat.le_refl _) (.cells o.cs 51)
  have b1 := heap_alloc_new w (.cells o.cs 51)
  obtain ⟨k, hk, hkk⟩ := lpick_in o.on tb.length ht
  have hW := h.reown.below hA
  obtain ⟨va, vc, rfl, hat⟩ := prP_at hW.sh
  obtain ⟨g, rfl, hg, s0, s1⟩ := hat k hk
  have HPK := hid (fun W => lpick_any o.on tb.length W ok.on0 ok.on1 (by omega) (by have := h.ft; omega))
  rw [hkk] at HPK
  have hgo : (if g < w.heap.size then O g else 1) = 1 := hW.osh g rfl
  have hoo : (if w.heap.size < w.heap.size then O w.heap.size else 1) = 1 := if_neg (Nat.lt_irrefl _)
  have lob : w.heap.size < (w.alloc (.cells o.cs 51)).heap.size := by simp
  have HTB := hid (fun W (hb : Below (w.alloc (.cells o.cs 51)).heap.size (w.alloc (.cells o.cs 51)) W) => (tabled_any (hW.below hb) hn hk o ok.s ok.t hm).mono (fun r w' (hr : _ ∧ _ ∧ _) => (show r = .returned (.bool true) ∧ RdS wb g tb.length vc k w.heap.size (.pointer (some ⟨tb[k].gx, 0, none⟩)) (.pointer (some ⟨tb[k].gr, 0, none⟩)) o.on o.cs.toList w' ∧ WX wb (n + 1) tb.length w0 w' from by
    obtain ⟨h1, ⟨O', V', l', tb', h2, h3⟩, h4⟩ := hr
    refine ⟨h1, rd_of (by rw [Lib.cell_of_heap h2.blk]; rfl) ?_ ?_ ?_, O', V', l', _, tb', h2, h3⟩
    · rw [World.cell?_of_block (w := W) (h4 g (Nat.lt_of_lt_of_le hg hb.size) hgo)]; exact cell_later hb s0
    · rw [World.cell?_of_block (w := W) (h4 g (Nat.lt_of_lt_of_le hg hb.size) hgo)]; exact cell_later hb s1
    · rw [h4 _ (Nat.lt_of_lt_of_le lob hb.size) hoo, hb.block _ lob]; exact b1)))
  have c4 : (w.alloc (.cells o.cs 51)).cell? ⟨wb, 4, none⟩ = some (.slice (some ⟨g, 0, none⟩) tb.length vc) := by rw [Lib.cell_of_heap hW.blk]; rfl
  have HRD := hid (rd_of c4 s0 s1 b1)
  exact step_walk wb g vc k tb.length _ _ o.k o.on _ _ _ _ _ _ _ _ _ _ _ _ _ _ _ _ _ _ (fun w' => WX wb (n + 1) tb.length w0 w') w _ _ rfl rfl ((Lib.cell_of_heap b1 (j := 0)).trans rfl) (by omega) (by rw [beq_eq_false_iff_ne]; omega) (by omega) (by omega) (by omega) hW.lt HPK HRD HTB
end
theorem stepT_any {w0 : World} {mx : Int} (hm : w0.cell? ⟨0, 0, none⟩ = some (.int .i64 mx)) : StepT w0 := by
  intro wb n t w o hX hn ok h20 h23
  obtain ⟨O, V, l, vs, tb, h, rfl⟩ := hX
  by_cases hk : o.k = 20
  · rw [if_pos hk]; exact step_new h hn o hk
  · rw [if_neg hk]
    by_cases ht : tb.length = 0
    · exact step_none h o (by omega) h23 ht
    · exact step_tab h hn o ok (by omega) h23 (by omega) hm
theorem plays_any (os : List OpV) (a : Option Addr) (c : Nat) (w : World) (hos : OsAt os a w) (hl : os.length ≤ 900000) (ok : ∀ o ∈ os, OpOk o) {mx : Int} (hm : w.cell? ⟨0, 0, none⟩ = some (.int .i64 mx)) :
    Calls Tryz.prog 6 #[.slice a os.length c, .int .i64 20, .int .i64 23] w fun r w' => r = .returned (.bool true) ∧ Below w.heap.size w w' :=
  plays_of os a c w hos hl ok (fun _ hb => stepT_any (cell_later hb hm))
end Go.Proofs.YtbiggccolpchcaaGreatDoor

/- The law Tables, of any script. -/
namespace Go.Proofs.YtbiggccolpchcaaGreatDoor
open Go.RowKit Bn

set_option maxRecDepth 100000 in
theorem tables_law (os : List OpV) (a : Option Addr) (c : Nat) (w : World) (hos : OsAt os a w) (hl : os.length ≤ 900000) (ok : ∀ o ∈ os, OpOk o) {mx : Int} (hm : w.cell? ⟨0, 0, none⟩ = some (.int .i64 mx)) :
    Calls Tryz.prog 3 #[.slice a os.length c] w fun r w' => r = .returned (.bool true) ∧ Below w.heap.size w w' := by
  have HP := hid (plays_any os a c w hos hl ok hm)
  clear hos hl ok hm
  go_enter Tryz.func3, Tryz.ntmps3
  go_wp2_with fail
  refine HP.out.mono ?_
  rintro r w1 ⟨rfl, hb⟩
  go_wp2_with fail
  go_ret
  exact ⟨rfl, hb⟩
end Go.Proofs.YtbiggccolpchcaaGreatDoor

/- A configuration among what a call is handed: its routes and wares opened as lists, nil or not; what their bulk tells. -/
namespace Go.Proofs.YtbiggccolpchcaaGreatDoor
open Go.RowKit Go.ChangeShapes

theorem exists_list {α : Type} {R : Nat → α → Prop} : ∀ n, (∀ i, i < n → ∃ x, R i x) → ∃ l : List α, l.length = n ∧ ∀ i (h : i < l.length), R i l[i]
  | 0, _ => ⟨[], rfl, fun i h => absurd h (by simp)⟩
  | n + 1, h => by
    obtain ⟨l, hl, hr⟩ := exists_list n (fun i hi => h i (by omega))
    obtain ⟨x, hx⟩ := h n (by omega)
    refine ⟨l ++ [x], by simp [hl], fun i hi => ?_⟩
    by_cases hi' : i < l.length
    · rw [List.getElem_append_left hi']; exact hr i hi'
    · have e : i = n := by simp at hi; omega
      subst e
      rw [List.getElem_append_right (by omega)]
      simpa [hl] using hx
theorem bulk_mem {H : Type} {d : DataW H} : ∀ {l : List (DataW H)}, d ∈ l → Rows.uptoBulk d ≤ Rows.uptoBulkAll l
  | [], h => absurd h (by simp)
  | x :: r, h => by
    simp only [Rows.uptoBulkAll]
    rcases List.mem_cons.1 h with rfl | h
    · omega
    · have := bulk_mem h; omega
theorem bulk_one {H : Type} (d : DataW H) : 1 ≤ Rows.uptoBulk d := by
  cases d with
  | lit l => cases l <;> simp [Rows.uptoBulk]
  | nil => simp [Rows.uptoBulk]
  | ptr d => simp [Rows.uptoBulk]
  | slice a b => simp [Rows.uptoBulk]
  | agg a => simp [Rows.uptoBulk]
  | iface a b => simp [Rows.uptoBulk]
  | map a => simp [Rows.uptoBulk]
  | held a => simp [Rows.uptoBulk]
theorem bulk_len {H : Type} : ∀ (l : List (DataW H)), l.length ≤ Rows.uptoBulkAll l
  | [] => by simp
  | x :: r => by
    have h1 := bulk_one x
    have h2 := bulk_len r
    simp only [Rows.uptoBulkAll, List.length_cons]
    omega
section
variable {H : Type} {enc : TypeId × Value → H} {P : Program} {w : World} {base : Nat} {spare : Nat → Bool} {held : Bool}
theorem open_list {α : Type} {sz : Nat} {f : α → List Value} (hz : 1 ≤ sz) (hfz : ∀ x, (f x).length = sz) {Q : α → DataW H → Prop} {t e : TypeId} {fuel : Nat} {cs : List Value} {x : DataW H × List MemPlace} (ht : P.underlying t = some (.slice e)) (hce : P.cellsOf e = sz)
    (he : ∀ (n : Nat) (cs : List Value) (y : DataW H × List MemPlace), DataW.trod enc P w base spare held n e cs = some y → ∃ z : α, cs = f z ∧ Q z y.1)
    (h : DataW.trod enc P w base spare held fuel t cs = some x) :
    ∃ (a : Option Addr) (cap : Nat) (l : List α), cs = [.slice a l.length cap] ∧ MuAt sz f l a w ∧ (a = none → l = [] ∧ cap = 0) ∧ (Rows.uptoBulk x.1 ≤ 1048576 → l.length ≤ 1048576) ∧ (Rows.uptoBulk x.1 ≤ 1048576 → ∀ z ∈ l, ∃ d, Q z d ∧ Rows.uptoBulk d ≤ 1048576) := by
  rcases DataW.trod_slice ht h with ⟨rfl, rfl⟩ | ⟨a, len, cap, elems, rest, n, _, rfl, rfl, hb, hl, hm, hlen, hel, hsp, hns⟩
  · exact ⟨none, 0, [], rfl, fun i hi => absurd hi (by simp), fun _ => ⟨rfl, rfl⟩, fun _ => Nat.zero_le _, fun _ z hz => absurd hz (by simp)⟩
  have each : ∀ i, i < len → ∃ z : α, (∃ d ∈ elems.map (·.1), Q z d) ∧ ∀ j v, (f z)[j]? = some v → w.cell? ((a.add (i * sz)).add j) = some v := fun i hi => by
    have hE := hel i hi
    rw [hce, List.getElem?_eq_getElem (by omega), Option.bind_eq_some_iff] at hE
    obtain ⟨cs', hc1, hc2⟩ := hE
    obtain ⟨_, hl2, hcell⟩ := World.cells?_some hc1
    obtain ⟨z, rfl, hq⟩ := he _ _ _ hc2
    refine ⟨z, ⟨_, List.mem_map.2 ⟨_, List.getElem_mem (by omega), rfl⟩, hq⟩, fun j v hj => ?_⟩
    rw [hcell j (by have := (List.getElem?_eq_some_iff.1 hj).1; rw [hfz] at this; exact this), hj]
  obtain ⟨l, hll, hr⟩ := exists_list len each
  refine ⟨some a, cap, l, by rw [hll], fun i hi => ?_, (fun h => by cases h), (fun hk => by
    have h1 := bulk_len (elems.map (·.1))
    rw [List.length_map] at h1
    simp only [Rows.uptoBulk] at hk
    omega), fun hk z hz => ?_⟩
  · obtain ⟨_, hc⟩ := hr i hi
    have h0 : ∃ v, (f l[i])[0]? = some v := ⟨(f l[i])[0]'(by rw [hfz]; omega), List.getElem?_eq_getElem _⟩
    obtain ⟨v0, hv0⟩ := h0
    have d0 := hc 0 v0 hv0
    have hi0 : 0 < l.length := by omega
    have h00 : ∃ v, (f l[0])[0]? = some v := ⟨(f l[0])[0]'(by rw [hfz]; omega), List.getElem?_eq_getElem _⟩
    obtain ⟨v00, hv00⟩ := h00
    have d00 := (hr 0 hi0).2 0 v00 hv00
    have hsp : a.spot = none := by simpa [Addr.add] using World.cell?_spot d00
    obtain ⟨b, o, sp⟩ := a
    obtain rfl : sp = none := hsp
    rw [Addr.add_lit, Addr.add_lit] at d0
    refine ⟨b, o, rfl, block_lt_of_cell d0, fun j v hv => ?_⟩
    have := hc j v hv
    rw [Addr.add_lit, Addr.add_lit] at this
    exact this
  · obtain ⟨i, hi, rfl⟩ := List.getElem_of_mem hz
    obtain ⟨⟨d, hd, hq⟩, _⟩ := hr i hi
    refine ⟨d, hq, ?_⟩
    have := bulk_mem hd
    simp only [Rows.uptoBulk] at hk
    omega
end
theorem cellsOfS : Tryz.prog.cellsOf 9 = 1 := by kernel_rfl
theorem cellsOfI : Tryz.prog.cellsOf 3 = 1 := by kernel_rfl
theorem cellsOfH : Tryz.prog.cellsOf 73 = 4 := by kernel_rfl
theorem cellsOfR : Tryz.prog.cellsOf 75 = 6 := by kernel_rfl
theorem cellsOfW : Tryz.prog.cellsOf 241 = 4 := by kernel_rfl
section
variable {H : Type} {enc : TypeId × Value → H} {w : World} {base : Nat} {spare : Nat → Bool} {held : Bool}
set_option maxRecDepth 100000 in
theorem open_handler {n : Nat} {cs : List Value} {y : DataW H × List MemPlace} (h : DataW.trod enc Tryz.prog w base spare held n 73 cs = some y) : ∃ z : Hn, cs = z.cells ∧ (Rows.uptoBulk y.1 ≤ 1048576 → z.t.size ≤ 1048576 ∧ z.n.size ≤ 1048576) := by
  obtain ⟨xs, n, _, rfl, hl, hlen, hf⟩ := DataW.trod_struct Tryz.underlying73 h
  rw [cellsOfH] at hl
  match xs, hlen with
  | [y0, y1, y2, y3], _ =>
  match cs, hl with
  | [c0, c1, c2, c3], _ =>
  have t0 := hf 0 _ rfl
  have t1 := hf 1 _ rfl
  have t2 := hf 2 _ rfl
  have t3 := hf 3 _ rfl
  obtain ⟨k, e0, rfl, _⟩ := DataW.trod_int Tryz.underlying3 (by simpa using t0)
  obtain ⟨st, e1, rfl, _⟩ := DataW.trod_int Tryz.underlying3 (by simpa using t1)
  obtain ⟨tx, e2, rfl, _⟩ := DataW.trod_string Tryz.underlying9 (by simpa using t2)
  obtain ⟨nm, e3, rfl, _⟩ := DataW.trod_string Tryz.underlying9 (by simpa using t3)
  simp [cellsOfS, cellsOfI] at e0 e1 e2 e3
  subst e0 e1 e2 e3
  refine ⟨⟨k, st, tx, nm⟩, rfl, fun hk => ?_⟩
  have z1 : tx.data.toList.length = tx.size := by simp
  have z2 : nm.data.toList.length = nm.size := by simp
  simp only [List.map_cons, List.map_nil, Rows.uptoBulk, Rows.uptoBulkAll] at hk
  simp only
  omega
set_option maxRecDepth 100000 in
theorem open_route {n : Nat} {cs : List Value} {y : DataW H × List MemPlace} (h : DataW.trod enc Tryz.prog w base spare held n 75 cs = some y) : ∃ z : Rt, cs = z.cells ∧ (Rows.uptoBulk y.1 ≤ 1048576 → RtSm z) := by
  obtain ⟨xs, n, _, rfl, hl, hlen, hf⟩ := DataW.trod_struct Tryz.underlying75 h
  rw [cellsOfR] at hl
  match xs, hlen with
  | [y0, y1, y2], _ =>
  match cs, hl with
  | [c0, c1, c2, c3, c4, c5], _ =>
  have t0 := hf 0 _ rfl
  have t1 := hf 1 _ rfl
  have t2 := hf 2 _ rfl
  obtain ⟨m, e0, rfl, _⟩ := DataW.trod_string Tryz.underlying9 (by simpa using t0)
  obtain ⟨p, e1, rfl, _⟩ := DataW.trod_string Tryz.underlying9 (by simpa using t1)
  simp [cellsOfS] at e0 e1
  subst e0 e1
  have t2' : DataW.trod enc Tryz.prog w base spare held n 73 [c2, c3, c4, c5] = some y2 := by simpa [cellsOfH] using t2
  obtain ⟨z, ez, hz⟩ := open_handler t2'
  refine ⟨⟨m, p, z⟩, by simp [Rt.cells, ez, Hn.cells], fun hk => ?_⟩
  · have z1 : m.data.toList.length = m.size := by simp
    have z2 : p.data.toList.length = p.size := by simp
    simp only [List.map_cons, List.map_nil, Rows.uptoBulk, Rows.uptoBulkAll] at hk
    obtain ⟨h1, h2⟩ := hz (by omega)
    exact ⟨by simp only; omega, by simp only; omega, by simp only; omega, by simp only; omega⟩
set_option maxRecDepth 100000 in
theorem open_ware {n : Nat} {cs : List Value} {y : DataW H × List MemPlace} (h : DataW.trod enc Tryz.prog w base spare held n 241 cs = some y) : ∃ z : Wr, cs = z.cells ∧ (Rows.uptoBulk y.1 ≤ 1048576 → z.n.size ≤ 1048576 ∧ z.v.size ≤ 1048576) := by
  obtain ⟨xs, n, _, rfl, hl, hlen, hf⟩ := DataW.trod_struct Tryz.underlying241 h
  rw [cellsOfW] at hl
  match xs, hlen with
  | [y0, y1, y2, y3], _ =>
  match cs, hl with
  | [c0, c1, c2, c3], _ =>
  have t0 := hf 0 _ rfl
  have t1 := hf 1 _ rfl
  have t2 := hf 2 _ rfl
  have t3 := hf 3 _ rfl
  obtain ⟨k, e0, rfl, _⟩ := DataW.trod_int Tryz.underlying3 (by simpa using t0)
  obtain ⟨tx, e1, rfl, _⟩ := DataW.trod_string Tryz.underlying9 (by simpa using t1)
  obtain ⟨nm, e2, rfl, _⟩ := DataW.trod_string Tryz.underlying9 (by simpa using t2)
  obtain ⟨st, e3, rfl, _⟩ := DataW.trod_int Tryz.underlying3 (by simpa using t3)
  simp [cellsOfS, cellsOfI] at e0 e1 e2 e3
  subst e0 e1 e2 e3
  refine ⟨⟨k, tx, nm, st⟩, rfl, fun hk => ?_⟩
  have z1 : tx.data.toList.length = tx.size := by simp
  have z2 : nm.data.toList.length = nm.size := by simp
  simp only [List.map_cons, List.map_nil, Rows.uptoBulk, Rows.uptoBulkAll] at hk
  simp only
  omega
theorem open_routes {n : Nat} {cs : List Value} {y : DataW H × List MemPlace} (h : DataW.trod enc Tryz.prog w base spare held n 41 cs = some y) : ∃ (a : Option Addr) (cap : Nat) (rs : List Rt), cs = [.slice a rs.length cap] ∧ MuAt 6 Rt.cells rs a w ∧ (a = none → rs = [] ∧ cap = 0) ∧ (Rows.uptoBulk y.1 ≤ 1048576 → rs.length ≤ 1048576 ∧ ∀ r ∈ rs, RtSm r) := by
  obtain ⟨a, cap, l, h1, h2, h3, h4, h5⟩ := open_list (sz := 6) (f := Rt.cells) (Q := fun (z : Rt) (d : DataW H) => Rows.uptoBulk d ≤ 1048576 → RtSm z) (by omega) (fun _ => rfl) Tryz.underlying41 cellsOfR (fun n cs y h => open_route h) h
  exact ⟨a, cap, l, h1, h2, h3, fun hk => ⟨h4 hk, fun r hr => by obtain ⟨d, hq, hd⟩ := h5 hk r hr; exact hq hd⟩⟩
theorem open_wares {n : Nat} {cs : List Value} {y : DataW H × List MemPlace} (h : DataW.trod enc Tryz.prog w base spare held n 42 cs = some y) : ∃ (a : Option Addr) (cap : Nat) (ws : List Wr), cs = [.slice a ws.length cap] ∧ MuAt 4 Wr.cells ws a w ∧ (a = none → ws = [] ∧ cap = 0) ∧ (Rows.uptoBulk y.1 ≤ 1048576 → ws.length ≤ 1048576 ∧ ∀ x ∈ ws, x.n.size ≤ 1048576 ∧ x.v.size ≤ 1048576) := by
  obtain ⟨a, cap, l, h1, h2, h3, h4, h5⟩ := open_list (sz := 4) (f := Wr.cells) (Q := fun (z : Wr) (d : DataW H) => Rows.uptoBulk d ≤ 1048576 → z.n.size ≤ 1048576 ∧ z.v.size ≤ 1048576) (by omega) (fun _ => rfl) Tryz.underlying42 cellsOfW (fun n cs y h => open_ware h) h
  exact ⟨a, cap, l, h1, h2, h3, fun hk => ⟨h4 hk, fun r hr => by obtain ⟨d, hq, hd⟩ := h5 hk r hr; exact hq hd⟩⟩
end
end Go.Proofs.YtbiggccolpchcaaGreatDoor
