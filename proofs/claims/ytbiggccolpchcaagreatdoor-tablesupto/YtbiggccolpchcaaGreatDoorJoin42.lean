/- Texts that follow one another, joined. -/
import Derived.Test.YtbiggccolpchcaaGreatDoorJoin41
import Derived.Test.YtbiggccolpchcaaGreatDoorJoin39
/- A script among what a call is handed. -/
namespace Go.Proofs.YtbiggccolpchcaaGreatDoor
open Go.RowKit Go.ChangeShapes
section
variable {H : Type} {enc : TypeId × Value → H} {w : World} {base : Nat} {spare : Nat → Bool} {held : Bool}
theorem cellsOfL : Tryz.prog.cellsOf 40 = 2 := by kernel_rfl
theorem cellsOfC : Tryz.prog.cellsOf 44 = 4 := by kernel_rfl
theorem cellsOfQ : Tryz.prog.cellsOf 47 = 4 := by kernel_rfl
theorem cellsOfA : Tryz.prog.cellsOf 49 = 4 := by kernel_rfl
theorem cellsOfB : Tryz.prog.cellsOf 4 = 1 := by kernel_rfl
theorem cellsOfZ : Tryz.prog.cellsOf 38 = 1 := by kernel_rfl
theorem cellsOfF : Tryz.prog.cellsOf 45 = 1 := by kernel_rfl
theorem cellsOfRs : Tryz.prog.cellsOf 41 = 1 := by kernel_rfl
theorem cellsOfWs : Tryz.prog.cellsOf 42 = 1 := by kernel_rfl
theorem cellsOfO : Tryz.prog.cellsOf 51 = 20 := by kernel_rfl
theorem open_sl {P : Program} {t e : TypeId} {n : Nat} {cs : List Value} {y : DataW H × List MemPlace} (ht : P.underlying t = some (.slice e)) (h : DataW.trod enc P w base spare held n t cs = some y) : ∃ a l c, cs = [.slice a l c] := by
  rcases DataW.trod_slice ht h with ⟨rfl, rfl⟩ | ⟨a, len, cap, elems, rest, n, _, rfl, _⟩
  · exact ⟨none, 0, 0, rfl⟩
  · exact ⟨some a, len, cap, rfl⟩
set_option maxRecDepth 100000 in
theorem open_limits {n : Nat} {cs : List Value} {y : DataW H × List MemPlace} (h : DataW.trod enc Tryz.prog w base spare held n 40 cs = some y) : ∃ a b : Int, cs = [.int .i64 a, .int .i64 b] := by
  obtain ⟨xs, n, _, rfl, hl, hlen, hf⟩ := DataW.trod_struct Tryz.underlying40 h
  rw [cellsOfL] at hl
  match xs, hlen with
  | [y0, y1], _ =>
  match cs, hl with
  | [c0, c1], _ =>
  have t0 := hf 0 _ rfl
  have t1 := hf 1 _ rfl
  obtain ⟨k, e0, rfl, _⟩ := DataW.trod_int Tryz.underlying3 (by simpa using t0)
  obtain ⟨st, e1, rfl, _⟩ := DataW.trod_int Tryz.underlying3 (by simpa using t1)
  simp [cellsOfI] at e0 e1
  subst e0 e1
  exact ⟨k, st, rfl⟩
set_option maxRecDepth 100000 in
theorem open_config1 {n : Nat} {cs : List Value} {y : DataW H × List MemPlace} (h : DataW.trod enc Tryz.prog w base spare held n 44 cs = some y) : ∃ (a b : Int) (ra : Option Addr) (rn rc : Nat) (wa : Option Addr) (wn wc : Nat), cs = [.int .i64 a, .int .i64 b, .slice ra rn rc, .slice wa wn wc] := by
  obtain ⟨xs, n, _, rfl, hl, hlen, hf⟩ := DataW.trod_struct Tryz.underlying44 h
  rw [cellsOfC] at hl
  match xs, hlen with
  | [y0, y1, y2], _ =>
  match cs, hl with
  | [c0, c1, c2, c3], _ =>
  have t0 := hf 0 _ rfl
  have t1 := hf 1 _ rfl
  have t2 := hf 2 _ rfl
  have t0' : DataW.trod enc Tryz.prog w base spare held n 40 [c0, c1] = some y0 := by simpa [cellsOfL] using t0
  have t1' : DataW.trod enc Tryz.prog w base spare held n 41 [c2] = some y1 := by simpa [cellsOfRs] using t1
  have t2' : DataW.trod enc Tryz.prog w base spare held n 42 [c3] = some y2 := by simpa [cellsOfWs] using t2
  obtain ⟨a, b, e0⟩ := open_limits t0'
  obtain ⟨ra, rn, rc, e1⟩ := open_sl Tryz.underlying41 t1'
  obtain ⟨wa, wn, wc, e2⟩ := open_sl Tryz.underlying42 t2'
  simp at e0 e1 e2
  obtain ⟨rfl, rfl⟩ := e0
  subst e1 e2
  exact ⟨a, b, ra, rn, rc, wa, wn, wc, rfl⟩
set_option maxRecDepth 100000 in
theorem open_request1 {n : Nat} {cs : List Value} {y : DataW H × List MemPlace} (h : DataW.trod enc Tryz.prog w base spare held n 47 cs = some y) : ∃ (a b : ByteArray) (ra : Option Addr) (rn rc : Nat) (c : ByteArray), cs = [.string a, .string b, .slice ra rn rc, .string c] := by
  obtain ⟨xs, n, _, rfl, hl, hlen, hf⟩ := DataW.trod_struct Tryz.underlying47 h
  rw [cellsOfQ] at hl
  match xs, hlen with
  | [y0, y1, y2, y3], _ =>
  match cs, hl with
  | [c0, c1, c2, c3], _ =>
  have t0 := hf 0 _ rfl
  have t1 := hf 1 _ rfl
  have t2 := hf 2 _ rfl
  have t3 := hf 3 _ rfl
  have t2' : DataW.trod enc Tryz.prog w base spare held n 45 [c2] = some y2 := by simpa [cellsOfF] using t2
  obtain ⟨a, e0, rfl, _⟩ := DataW.trod_string Tryz.underlying9 (by simpa using t0)
  obtain ⟨b, e1, rfl, _⟩ := DataW.trod_string Tryz.underlying9 (by simpa using t1)
  obtain ⟨c, e3, rfl, _⟩ := DataW.trod_string Tryz.underlying9 (by simpa using t3)
  obtain ⟨ra, rn, rc, e2⟩ := open_sl Tryz.underlying45 t2'
  simp [cellsOfS] at e0 e1 e2 e3
  subst e0 e1 e2 e3
  exact ⟨a, b, ra, rn, rc, c, rfl⟩
set_option maxRecDepth 100000 in
theorem open_answer1 {n : Nat} {cs : List Value} {y : DataW H × List MemPlace} (h : DataW.trod enc Tryz.prog w base spare held n 49 cs = some y) : ∃ (a : Int) (ra : Option Addr) (rn rc : Nat) (c : ByteArray) (b : Bool), cs = [.int .i64 a, .slice ra rn rc, .string c, .bool b] := by
  obtain ⟨xs, n, _, rfl, hl, hlen, hf⟩ := DataW.trod_struct Tryz.underlying49 h
  rw [cellsOfA] at hl
  match xs, hlen with
  | [y0, y1, y2, y3], _ =>
  match cs, hl with
  | [c0, c1, c2, c3], _ =>
  have t0 := hf 0 _ rfl
  have t1 := hf 1 _ rfl
  have t2 := hf 2 _ rfl
  have t3 := hf 3 _ rfl
  have t1' : DataW.trod enc Tryz.prog w base spare held n 45 [c1] = some y1 := by simpa [cellsOfF] using t1
  obtain ⟨a, e0, rfl, _⟩ := DataW.trod_int Tryz.underlying3 (by simpa using t0)
  obtain ⟨c, e2, rfl, _⟩ := DataW.trod_string Tryz.underlying9 (by simpa using t2)
  obtain ⟨b, e3, rfl⟩ := DataW.trod_bool Tryz.underlying4 (by simpa using t3)
  obtain ⟨ra, rn, rc, e1⟩ := open_sl Tryz.underlying45 t1'
  simp [cellsOfS, cellsOfI, cellsOfB] at e0 e1 e2 e3
  subst e0 e1 e2 e3
  exact ⟨a, ra, rn, rc, c, b, rfl⟩
end
end Go.Proofs.YtbiggccolpchcaaGreatDoor

/- A script among what a call is handed: its steps. -/
namespace Go.Proofs.YtbiggccolpchcaaGreatDoor
open Go.RowKit Go.ChangeShapes
section
variable {H : Type} {enc : TypeId × Value → H} {w : World} {base : Nat} {spare : Nat → Bool} {held : Bool}
set_option maxRecDepth 100000 in
theorem open_op {n : Nat} {cs : List Value} {y : DataW H × List MemPlace} (h : DataW.trod enc Tryz.prog w base spare held n 51 cs = some y) : ∃ z : OpV, cs = z.cs.toList ∧ 2 ≤ Rows.uptoBulk y.1 ∧ (Rows.uptoBulk y.1 ≤ 1048576 → OpOk z) := by
  obtain ⟨xs, n, _, rfl, hl, hlen, hf⟩ := DataW.trod_struct Tryz.underlying51 h
  rw [cellsOfO] at hl
  match xs, hlen with
  | [y0, y1, y2, y3, y4, y5, y6, y7, y8, y9], _ =>
  match cs, hl with
  | [c0, c1, c2, c3, c4, c5, c6, c7, c8, c9, c10, c11, c12, c13, c14, c15, c16, c17, c18, c19], _ =>
  have t0 := hf 0 _ rfl
  have t1 := hf 1 _ rfl
  have t2 := hf 2 _ rfl
  have t3 := hf 3 _ rfl
  have t4 := hf 4 _ rfl
  have t5 := hf 5 _ rfl
  have t6 := hf 6 _ rfl
  have t7 := hf 7 _ rfl
  have t8 := hf 8 _ rfl
  have t9 := hf 9 _ rfl
  clear hf
  have t5' : DataW.trod enc Tryz.prog w base spare held n 38 [c5] = some y5 := by simpa [cellsOfZ] using t5
  have t6' : DataW.trod enc Tryz.prog w base spare held n 40 [c6, c7] = some y6 := by simpa [cellsOfL] using t6
  have t7' : DataW.trod enc Tryz.prog w base spare held n 44 [c8, c9, c10, c11] = some y7 := by simpa [cellsOfC] using t7
  have t8' : DataW.trod enc Tryz.prog w base spare held n 47 [c12, c13, c14, c15] = some y8 := by simpa [cellsOfQ] using t8
  have t9' : DataW.trod enc Tryz.prog w base spare held n 49 [c16, c17, c18, c19] = some y9 := by simpa [cellsOfA] using t9
  obtain ⟨k, e0, rfl, _⟩ := DataW.trod_int Tryz.underlying3 (by simpa using t0)
  obtain ⟨on, e1, rfl, hon⟩ := DataW.trod_int Tryz.underlying3 (by simpa using t1)
  obtain ⟨a, e2, rfl, _⟩ := DataW.trod_int Tryz.underlying3 (by simpa using t2)
  obtain ⟨s, e3, rfl, _⟩ := DataW.trod_string Tryz.underlying9 (by simpa using t3)
  obtain ⟨t, e4, rfl, _⟩ := DataW.trod_string Tryz.underlying9 (by simpa using t4)
  obtain ⟨za, zn, zc, e5⟩ := open_sl Tryz.underlying38 t5'
  obtain ⟨lh, lb, e6⟩ := open_limits t6'
  obtain ⟨ch, cb, ra, rn, rc, wa, wn, wc, e7⟩ := open_config1 t7'
  obtain ⟨qm, qt, fa, fn, fc, qb, e8⟩ := open_request1 t8'
  obtain ⟨st, xa, xn, xc, ab, cl, e9⟩ := open_answer1 t9'
  clear t0 t1 t2 t3 t4 t5 t6 t7 t8 t9 t5' t6' t7' t8' t9'
  simp [cellsOfS, cellsOfI] at e0 e1 e2 e3 e4
  simp only [List.cons.injEq, and_true] at e5 e6 e7 e8 e9
  obtain ⟨e6a, e6b⟩ := e6
  obtain ⟨e7a, e7b, e7c, e7d⟩ := e7
  obtain ⟨e8a, e8b, e8c, e8d⟩ := e8
  obtain ⟨e9a, e9b, e9c, e9d⟩ := e9
  subst e0 e1 e2 e3 e4 e5 e6a e6b e7a e7b e7c e7d e8a e8b e8c e8d e9a e9b e9c e9d
  refine ⟨⟨k, on, a, s, t, za, zn, zc, lh, lb, ch, cb, ra, rn, rc, wa, wn, wc, qm, qt, fa, fn, fc, qb, st, xa, xn, xc, ab, cl⟩, rfl, ?_, fun hk => ?_⟩
  · simp only [List.map_cons, List.map_nil, Rows.uptoBulk, Rows.uptoBulkAll]
    omega
  · have z1 : s.data.toList.length = s.size := by simp
    have z2 : t.data.toList.length = t.size := by simp
    simp only [List.map_cons, List.map_nil, Rows.uptoBulk, Rows.uptoBulkAll] at hk
    have hon' : -9223372036854775808 ≤ on ∧ on ≤ 9223372036854775807 := by simpa [Lit.wf, IntKind.min, IntKind.max, IntKind.signed, IntKind.bits] using hon
    exact ⟨hon'.1, hon'.2, by simp only; omega, by simp only; omega⟩
theorem bulk_two {H : Type} : ∀ (l : List (DataW H)), (∀ d ∈ l, 2 ≤ Rows.uptoBulk d) → 2 * l.length ≤ Rows.uptoBulkAll l
  | [], _ => by simp
  | x :: r, h => by
    have h1 := h x (by simp)
    have h2 := bulk_two r (fun d hd => h d (by simp [hd]))
    simp only [Rows.uptoBulkAll, List.length_cons]
    omega
theorem ops_few {n : Nat} {a : Option Addr} {l c : Nat} {y : DataW H × List MemPlace} (h : DataW.trod enc Tryz.prog w base spare held n 22 [.slice a l c] = some y) (hk : Rows.uptoBulk y.1 ≤ 1048576) : l ≤ 900000 := by
  rcases DataW.trod_slice Tryz.underlying22 h with ⟨e, rfl⟩ | ⟨a, len, cap, elems, rest, n, _, e, rfl, hb, hl, hm, hlen, hel, hsp⟩
  · simp at e; omega
  · simp only [List.cons.injEq, Value.slice.injEq, and_true] at e
    obtain ⟨-, rfl, -⟩ := e
    have := bulk_two (elems.map (·.1)) (fun d hd => by
      obtain ⟨x, hx, rfl⟩ := List.mem_map.1 hd
      obtain ⟨i, hi, rfl⟩ := List.mem_iff_getElem.1 hx
      have hE := hel i (by omega)
      rw [List.getElem?_eq_getElem hi, Option.bind_eq_some_iff] at hE
      obtain ⟨cs', _, hc2⟩ := hE
      obtain ⟨_, _, h2, _⟩ := open_op hc2
      exact h2)
    rw [List.length_map] at this
    simp only [Rows.uptoBulk] at hk
    omega
theorem open_ops {n : Nat} {cs : List Value} {y : DataW H × List MemPlace} (h : DataW.trod enc Tryz.prog w base spare held n 22 cs = some y) (hk : Rows.uptoBulk y.1 ≤ 1048576) : ∃ (a : Option Addr) (cap : Nat) (os : List OpV), cs = [.slice a os.length cap] ∧ OsAt os a w ∧ os.length ≤ 900000 ∧ ∀ o ∈ os, OpOk o := by
  obtain ⟨a, cap, l, h1, h2, h3, h4, h5⟩ := open_list (sz := 20) (f := fun o : OpV => o.cs.toList) (Q := fun (z : OpV) (d : DataW H) => Rows.uptoBulk d ≤ 1048576 → OpOk z) (by omega) (fun _ => rfl) Tryz.underlying22 cellsOfO (fun n cs y h => by
    obtain ⟨z, e, _, hz⟩ := open_op h
    exact ⟨z, e, hz⟩) h
  refine ⟨a, cap, l, h1, fun i hi => ?_, ops_few (h1 ▸ h) hk, fun o ho => ?_⟩
  · obtain ⟨g, o, e1, e2, e3⟩ := h2 i hi
    exact ⟨g, o, e1, e2, e3⟩
  · obtain ⟨d, hq, hd⟩ := h5 hk o ho
    exact hq hd
end
end Go.Proofs.YtbiggccolpchcaaGreatDoor
