/- A configuration among what a call is handed: its routes and wares opened as lists, nil or not; what their bulk tells. -/
import Derived.Test.YtjfllmogiknneaaGreatDoorJoin35
import Derived.Test.YtjfllmogiknneaaGreatDoorRows
import Derived.ChangeArms
import Derived.ChangeSame
import Derived.ChangeOld
namespace Go.Proofs.YtjfllmogiknneaaGreatDoor
open Go.RowKit Go.ChangeShapes

theorem exists_list {α : Type} {R : Nat → α → Prop} : ∀ n, (∀ i, i < n → ∃ x, R i x) → ∃ l : List α, l.length = n ∧ ∀ i (h : i < l.length), R i l[i]
  | 0, _ => ⟨[], rfl, fun i h => absurd h (by simp)⟩
  | n + 1, h => by
    obtain ⟨l, hl, hr⟩ := exists_list n (fun i hi => h i (by omega))
    obtain ⟨x, hx⟩ := h n (by omega)
    refine ⟨l ++ [x], by simp [hl], fun i hi => ?_⟩
    by_cases hi' : i < l.length
    · rw [List.getElem_append_left hi']; exact hr i hi'
    · have e : i = n := by simp at hi; omega
      subst e
      rw [List.getElem_append_right (by omega)]
      simpa [hl] using hx
theorem bulk_mem {H : Type} {d : DataW H} : ∀ {l : List (DataW H)}, d ∈ l → Rows.uptoBulk d ≤ Rows.uptoBulkAll l
  | [], h => absurd h (by simp)
  | x :: r, h => by
    simp only [Rows.uptoBulkAll]
    rcases List.mem_cons.1 h with rfl | h
    · omega
    · have := bulk_mem h; omega
theorem bulk_one {H : Type} (d : DataW H) : 1 ≤ Rows.uptoBulk d := by
  cases d with
  | lit l => cases l <;> simp [Rows.uptoBulk]
  | nil => simp [Rows.uptoBulk]
  | ptr d => simp [Rows.uptoBulk]
  | slice a b => simp [Rows.uptoBulk]
  | agg a => simp [Rows.uptoBulk]
  | iface a b => simp [Rows.uptoBulk]
  | map a => simp [Rows.uptoBulk]
  | held a => simp [Rows.uptoBulk]
theorem bulk_len {H : Type} : ∀ (l : List (DataW H)), l.length ≤ Rows.uptoBulkAll l
  | [] => by simp
  | x :: r => by
    have h1 := bulk_one x
    have h2 := bulk_len r
    simp only [Rows.uptoBulkAll, List.length_cons]
    omega
section
variable {H : Type} {enc : TypeId × Value → H} {P : Program} {w : World} {base : Nat} {spare : Nat → Bool} {held : Bool}
theorem open_list {α : Type} {sz : Nat} {f : α → List Value} (hz : 1 ≤ sz) (hfz : ∀ x, (f x).length = sz) {Q : α → DataW H → Prop} {t e : TypeId} {fuel : Nat} {cs : List Value} {x : DataW H × List MemPlace} (ht : P.underlying t = some (.slice e)) (hce : P.cellsOf e = sz)
    (he : ∀ (n : Nat) (cs : List Value) (y : DataW H × List MemPlace), DataW.trod enc P w base spare held n e cs = some y → ∃ z : α, cs = f z ∧ Q z y.1)
    (h : DataW.trod enc P w base spare held fuel t cs = some x) :
    ∃ (a : Option Addr) (cap : Nat) (l : List α), cs = [.slice a l.length cap] ∧ MuAt sz f l a w ∧ (a = none → l = [] ∧ cap = 0) ∧ (Rows.uptoBulk x.1 ≤ 1048576 → l.length ≤ 1048576) ∧ (Rows.uptoBulk x.1 ≤ 1048576 → ∀ z ∈ l, ∃ d, Q z d ∧ Rows.uptoBulk d ≤ 1048576) := by
  rcases DataW.trod_slice ht h with ⟨rfl, rfl⟩ | ⟨a, len, cap, elems, rest, n, _, rfl, rfl, hb, hl, hm, hlen, hel, hsp, hns⟩
  · exact ⟨none, 0, [], rfl, fun i hi => absurd hi (by simp), fun _ => ⟨rfl, rfl⟩, fun _ => Nat.zero_le _, fun _ z hz => absurd hz (by simp)⟩
  have each : ∀ i, i < len → ∃ z : α, (∃ d ∈ elems.map (·.1), Q z d) ∧ ∀ j v, (f z)[j]? = some v → w.cell? ((a.add (i * sz)).add j) = some v := fun i hi => by
    have hE := hel i hi
    rw [hce, List.getElem?_eq_getElem (by omega), Option.bind_eq_some_iff] at hE
    obtain ⟨cs', hc1, hc2⟩ := hE
    obtain ⟨_, hl2, hcell⟩ := World.cells?_some hc1
    obtain ⟨z, rfl, hq⟩ := he _ _ _ hc2
    refine ⟨z, ⟨_, List.mem_map.2 ⟨_, List.getElem_mem (by omega), rfl⟩, hq⟩, fun j v hj => ?_⟩
    rw [hcell j (by have := (List.getElem?_eq_some_iff.1 hj).1; rw [hfz] at this; exact this), hj]
  obtain ⟨l, hll, hr⟩ := exists_list len each
  refine ⟨some a, cap, l, by rw [hll], fun i hi => ?_, (fun h => by cases h), (fun hk => by
    have h1 := bulk_len (elems.map (·.1))
    rw [List.length_map] at h1
    simp only [Rows.uptoBulk] at hk
    omega), fun hk z hz => ?_⟩
  · obtain ⟨_, hc⟩ := hr i hi
    have h0 : ∃ v, (f l[i])[0]? = some v := ⟨(f l[i])[0]'(by rw [hfz]; omega), List.getElem?_eq_getElem _⟩
    obtain ⟨v0, hv0⟩ := h0
    have d0 := hc 0 v0 hv0
    have hi0 : 0 < l.length := by omega
    have h00 : ∃ v, (f l[0])[0]? = some v := ⟨(f l[0])[0]'(by rw [hfz]; omega), List.getElem?_eq_getElem _⟩
    obtain ⟨v00, hv00⟩ := h00
    have d00 := (hr 0 hi0).2 0 v00 hv00
    have hsp : a.spot = none := by simpa [Addr.add] using World.cell?_spot d00
    obtain ⟨b, o, sp⟩ := a
    obtain rfl : sp = none := hsp
    rw [Addr.add_lit, Addr.add_lit] at d0
    refine ⟨b, o, rfl, block_lt_of_cell d0, fun j v hv => ?_⟩
    have := hc j v hv
    rw [Addr.add_lit, Addr.add_lit] at this
    exact this
  · obtain ⟨i, hi, rfl⟩ := List.getElem_of_mem hz
    obtain ⟨⟨d, hd, hq⟩, _⟩ := hr i hi
    refine ⟨d, hq, ?_⟩
    have := bulk_mem hd
    simp only [Rows.uptoBulk] at hk
    omega
end
theorem cellsOfS : Tryz.prog.cellsOf 9 = 1 := by kernel_rfl
theorem cellsOfI : Tryz.prog.cellsOf 3 = 1 := by kernel_rfl
theorem cellsOfH : Tryz.prog.cellsOf 80 = 4 := by kernel_rfl
theorem cellsOfR : Tryz.prog.cellsOf 82 = 6 := by kernel_rfl
theorem cellsOfW : Tryz.prog.cellsOf 85 = 4 := by kernel_rfl
section
variable {H : Type} {enc : TypeId × Value → H} {w : World} {base : Nat} {spare : Nat → Bool} {held : Bool}
set_option maxRecDepth 100000 in
theorem open_handler {n : Nat} {cs : List Value} {y : DataW H × List MemPlace} (h : DataW.trod enc Tryz.prog w base spare held n 80 cs = some y) : ∃ z : Hn, cs = z.cells ∧ (Rows.uptoBulk y.1 ≤ 1048576 → z.t.size ≤ 1048576 ∧ z.n.size ≤ 1048576) := by
  obtain ⟨xs, n, _, rfl, hl, hlen, hf⟩ := DataW.trod_struct Tryz.underlying80 h
  rw [cellsOfH] at hl
  match xs, hlen with
  | [y0, y1, y2, y3], _ =>
  match cs, hl with
  | [c0, c1, c2, c3], _ =>
  have t0 := hf 0 _ rfl
  have t1 := hf 1 _ rfl
  have t2 := hf 2 _ rfl
  have t3 := hf 3 _ rfl
  obtain ⟨k, e0, rfl, _⟩ := DataW.trod_int Tryz.underlying3 (by simpa using t0)
  obtain ⟨st, e1, rfl, _⟩ := DataW.trod_int Tryz.underlying3 (by simpa using t1)
  obtain ⟨tx, e2, rfl, _⟩ := DataW.trod_string Tryz.underlying9 (by simpa using t2)
  obtain ⟨nm, e3, rfl, _⟩ := DataW.trod_string Tryz.underlying9 (by simpa using t3)
  simp [cellsOfS, cellsOfI] at e0 e1 e2 e3
  subst e0 e1 e2 e3
  refine ⟨⟨k, st, tx, nm⟩, rfl, fun hk => ?_⟩
  have z1 : tx.data.toList.length = tx.size := by simp
  have z2 : nm.data.toList.length = nm.size := by simp
  simp only [List.map_cons, List.map_nil, Rows.uptoBulk, Rows.uptoBulkAll] at hk
  simp only
  omega
set_option maxRecDepth 100000 in
theorem open_route {n : Nat} {cs : List Value} {y : DataW H × List MemPlace} (h : DataW.trod enc Tryz.prog w base spare held n 82 cs = some y) : ∃ z : Rt, cs = z.cells ∧ (Rows.uptoBulk y.1 ≤ 1048576 → RtSm z) := by
  obtain ⟨xs, n, _, rfl, hl, hlen, hf⟩ := DataW.trod_struct Tryz.underlying82 h
  rw [cellsOfR] at hl
  match xs, hlen with
  | [y0, y1, y2], _ =>
  match cs, hl with
  | [c0, c1, c2, c3, c4, c5], _ =>
  have t0 := hf 0 _ rfl
  have t1 := hf 1 _ rfl
  have t2 := hf 2 _ rfl
  obtain ⟨m, e0, rfl, _⟩ := DataW.trod_string Tryz.underlying9 (by simpa using t0)
  obtain ⟨p, e1, rfl, _⟩ := DataW.trod_string Tryz.underlying9 (by simpa using t1)
  simp [cellsOfS] at e0 e1
  subst e0 e1
  have t2' : DataW.trod enc Tryz.prog w base spare held n 80 [c2, c3, c4, c5] = some y2 := by simpa [cellsOfH] using t2
  obtain ⟨z, ez, hz⟩ := open_handler t2'
  refine ⟨⟨m, p, z⟩, by simp [Rt.cells, ez, Hn.cells], fun hk => ?_⟩
  · have z1 : m.data.toList.length = m.size := by simp
    have z2 : p.data.toList.length = p.size := by simp
    simp only [List.map_cons, List.map_nil, Rows.uptoBulk, Rows.uptoBulkAll] at hk
    obtain ⟨h1, h2⟩ := hz (by omega)
    exact ⟨by simp only; omega, by simp only; omega, by simp only; omega, by simp only; omega⟩
set_option maxRecDepth 100000 in
theorem open_ware {n : Nat} {cs : List Value} {y : DataW H × List MemPlace} (h : DataW.trod enc Tryz.prog w base spare held n 85 cs = some y) : ∃ z : Wr, cs = z.cells ∧ (Rows.uptoBulk y.1 ≤ 1048576 → z.n.size ≤ 1048576 ∧ z.v.size ≤ 1048576) := by
  obtain ⟨xs, n, _, rfl, hl, hlen, hf⟩ := DataW.trod_struct Tryz.underlying85 h
  rw [cellsOfW] at hl
  match xs, hlen with
  | [y0, y1, y2, y3], _ =>
  match cs, hl with
  | [c0, c1, c2, c3], _ =>
  have t0 := hf 0 _ rfl
  have t1 := hf 1 _ rfl
  have t2 := hf 2 _ rfl
  have t3 := hf 3 _ rfl
  obtain ⟨k, e0, rfl, _⟩ := DataW.trod_int Tryz.underlying3 (by simpa using t0)
  obtain ⟨tx, e1, rfl, _⟩ := DataW.trod_string Tryz.underlying9 (by simpa using t1)
  obtain ⟨nm, e2, rfl, _⟩ := DataW.trod_string Tryz.underlying9 (by simpa using t2)
  obtain ⟨st, e3, rfl, _⟩ := DataW.trod_int Tryz.underlying3 (by simpa using t3)
  simp [cellsOfS, cellsOfI] at e0 e1 e2 e3
  subst e0 e1 e2 e3
  refine ⟨⟨k, tx, nm, st⟩, rfl, fun hk => ?_⟩
  have z1 : tx.data.toList.length = tx.size := by simp
  have z2 : nm.data.toList.length = nm.size := by simp
  simp only [List.map_cons, List.map_nil, Rows.uptoBulk, Rows.uptoBulkAll] at hk
  simp only
  omega
theorem open_routes {n : Nat} {cs : List Value} {y : DataW H × List MemPlace} (h : DataW.trod enc Tryz.prog w base spare held n 24 cs = some y) : ∃ (a : Option Addr) (cap : Nat) (rs : List Rt), cs = [.slice a rs.length cap] ∧ MuAt 6 Rt.cells rs a w ∧ (a = none → rs = [] ∧ cap = 0) ∧ (Rows.uptoBulk y.1 ≤ 1048576 → rs.length ≤ 1048576 ∧ ∀ r ∈ rs, RtSm r) := by
  obtain ⟨a, cap, l, h1, h2, h3, h4, h5⟩ := open_list (sz := 6) (f := Rt.cells) (Q := fun (z : Rt) (d : DataW H) => Rows.uptoBulk d ≤ 1048576 → RtSm z) (by omega) (fun _ => rfl) Tryz.underlying24 cellsOfR (fun n cs y h => open_route h) h
  exact ⟨a, cap, l, h1, h2, h3, fun hk => ⟨h4 hk, fun r hr => by obtain ⟨d, hq, hd⟩ := h5 hk r hr; exact hq hd⟩⟩
theorem open_wares {n : Nat} {cs : List Value} {y : DataW H × List MemPlace} (h : DataW.trod enc Tryz.prog w base spare held n 25 cs = some y) : ∃ (a : Option Addr) (cap : Nat) (ws : List Wr), cs = [.slice a ws.length cap] ∧ MuAt 4 Wr.cells ws a w ∧ (a = none → ws = [] ∧ cap = 0) ∧ (Rows.uptoBulk y.1 ≤ 1048576 → ws.length ≤ 1048576 ∧ ∀ x ∈ ws, x.n.size ≤ 1048576 ∧ x.v.size ≤ 1048576) := by
  obtain ⟨a, cap, l, h1, h2, h3, h4, h5⟩ := open_list (sz := 4) (f := Wr.cells) (Q := fun (z : Wr) (d : DataW H) => Rows.uptoBulk d ≤ 1048576 → z.n.size ≤ 1048576 ∧ z.v.size ≤ 1048576) (by omega) (fun _ => rfl) Tryz.underlying25 cellsOfW (fun n cs y h => open_ware h) h
  exact ⟨a, cap, l, h1, h2, h3, fun hk => ⟨h4 hk, fun r hr => by obtain ⟨d, hq, hd⟩ := h5 hk r hr; exact hq hd⟩⟩
end
end Go.Proofs.YtjfllmogiknneaaGreatDoor
