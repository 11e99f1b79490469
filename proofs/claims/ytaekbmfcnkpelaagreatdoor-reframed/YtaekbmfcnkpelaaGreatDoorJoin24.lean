/- Texts that follow one another, joined. -/
import Derived.Test.YtaekbmfcnkpelaaGreatDoorJoin13
import Derived.Test.YtaekbmfcnkpelaaGreatDoorJoin23
import Derived.Test.YtaekbmfcnkpelaaGreatDoorJoin21
import Derived.Deep.RegionHeld3
/- RightLimits; what the fields of a head are, in memory and in number. -/
namespace Go.Proofs.YtaekbmfcnkpelaaGreatDoor
open Go.RowKit

theorem rightLimits_any (hd bd : Int) (w : World) :
    Calls Tryz.prog 17 #[.agg #[.int .i64 hd, .int .i64 bd]] w fun e w' => e = .returned (.bool (decide (32 ≤ hd ∧ hd ≤ 500 ∧ 0 ≤ bd ∧ bd ≤ 200))) ∧ Below w.heap.size w w' := by
  go_enter Tryz.func17, Tryz.ntmps17
  go_wp2
  all_goals
    go_ret
    refine ⟨?_, (Below.refl _ _).alloc (Nat.le_refl _) _⟩
    try congr 2
    try simp
    try simp [*]
    try (intros; omega)

theorem fldsOf_len (fs : List Pm.Fld) : (fldsOf fs).length = fs.length := by unfold fldsOf; simp
theorem flat_get : ∀ (fs : List Pm.Fld) (i : Nat) (h : i < (fldsOf fs).length), (flat fs)[i * 2]? = some (.string (fldsOf fs)[i].1) ∧ (flat fs)[i * 2 + 1]? = some (.string (fldsOf fs)[i].2)
  | [], i, h => absurd h (by simp [fldsOf])
  | f :: fs, 0, h => by simp [flat, fldsOf]
  | f :: fs, i + 1, h => by
    have := flat_get fs i (by simpa [fldsOf] using h)
    have e : flat (f :: fs) = (.string ⟨f.1.toArray⟩) :: (.string ⟨f.2.toArray⟩) :: flat fs := by simp [flat]
    rw [e, show (i + 1) * 2 = i * 2 + 1 + 1 from by omega, List.getElem?_cons_succ, List.getElem?_cons_succ, show i * 2 + 1 + 1 + 1 = (i * 2 + 1) + 1 + 1 from by omega, List.getElem?_cons_succ, List.getElem?_cons_succ]
    simpa [fldsOf] using this
theorem flat_at {w : World} {B : Nat} {e : TypeId} {v : Value} {fs : List Pm.Fld} (h : w.ownsRow B e 2 v fs.length (flat fs)) : ∃ a cap, v = .slice a (fldsOf fs).length cap ∧ FlAt (fldsOf fs) a w := by
  obtain ⟨h1, h2⟩ := h
  rcases h2 with ⟨h2, h3⟩ | ⟨g, cap, cur, hv, hB, hg, hc, hm, hsz, ht⟩
  · refine ⟨none, 0, ?_, fun i hi => ?_⟩
    · rw [fldsOf_len, h3]; exact h2
    · rw [fldsOf_len] at hi; omega
  · refine ⟨some ⟨g, 0, none⟩, cap, ?_, fun i hi => ⟨g, rfl, ?_, ?_, ?_⟩⟩
    · rw [fldsOf_len]; exact hv
    · exact (Array.getElem?_eq_some_iff.1 hg).1
    · rw [Lib.cell_of_heap hg]
      have := (flat_get fs i hi).1
      rw [← ht, List.getElem?_take_of_lt (by rw [fldsOf_len] at hi; omega)] at this
      simpa using this
    · rw [Lib.cell_of_heap hg]
      have := (flat_get fs i hi).2
      rw [← ht, List.getElem?_take_of_lt (by rw [fldsOf_len] at hi; omega)] at this
      simpa using this
theorem headS_flds (f : Nat) : ∀ (first : Bool) (l : List UInt8) (lim : Nat) (m tg : List UInt8) (fs : List Pm.Fld) (u : Nat), (Pm.headS f first l lim m tg fs u).1 = 0 → (Pm.headS f first l lim m tg fs u).2.2.2.1.length ≤ fs.length + lim ∧ ∀ x ∈ (Pm.headS f first l lim m tg fs u).2.2.2.1, x ∈ fs ∨ x.1.length + x.2.length ≤ lim := by
  induction f with
  | zero => intro first l lim m tg fs u h; exact absurd (show (2 : Int) = 0 from h) (by decide)
  | succ f ih =>
    intro first l lim m tg fs u h
    rw [headS_succ] at h ⊢
    by_cases h2 : (Pm.lineS l lim 5).1 ≠ 0
    · rw [if_pos h2] at h; exact absurd h h2
    · have hk := Pm.lineS_ok (l := l) (lim := lim) (long := 5) (by decide) (by omega)
      rw [if_neg h2] at h ⊢
      by_cases h3 : first = true
      · rw [if_pos h3] at h ⊢
        by_cases h4 : (Pm.firstS (Pm.lineS l lim 5).2.1).1 ≠ 0
        · rw [if_pos h4] at h; exact absurd h h4
        · rw [if_neg h4] at h ⊢
          obtain ⟨i1, i2⟩ := ih _ _ _ _ _ _ _ h
          refine ⟨by omega, fun x hx => ?_⟩
          rcases i2 x hx with h5 | h5
          · exact .inl h5
          · exact .inr (by omega)
      · rw [if_neg h3] at h ⊢
        by_cases h4 : (Pm.lineS l lim 5).2.1 = []
        · rw [if_pos h4]
          exact ⟨Nat.le_add_right _ _, fun x hx => .inl hx⟩
        · rw [if_neg h4] at h ⊢
          cases h5 : Pm.fieldS (Pm.lineS l lim 5).2.1 with
          | none => rw [h5] at h; exact absurd (show (3 : Int) = 0 from h) (by decide)
          | some f' =>
            rw [h5] at h
            have hle := field_le (n := f'.1) (v := f'.2) h5
            obtain ⟨i1, i2⟩ := ih _ _ _ _ _ _ _ h
            simp only
            rw [List.length_append, List.length_singleton] at i1
            refine ⟨by omega, fun x hx => ?_⟩
            rcases i2 x hx with h6 | h6
            · rw [List.mem_append, List.mem_singleton] at h6
              rcases h6 with h6 | h6
              · exact .inl h6
              · subst h6; exact .inr (by omega)
            · exact .inr (by omega)

end Go.Proofs.YtaekbmfcnkpelaaGreatDoor

/- The walk of porterkeep's fit; nothing old in memory turns. -/
namespace Go.Proofs.YtaekbmfcnkpelaaGreatDoor
open Go.RowKit

theorem RoAt.free {g : Nat} {m t : ByteArray} {v : Value} {body : ByteArray} {w : World} (h : RoAt g m t v body w) (j : Nat) : w.frozen? ⟨g, j, none⟩ = false := Lib.frozen_of_heap h j
theorem RoAt.other {g' : Nat} {m t : ByteArray} {x : Value} {body : ByteArray} {w : World} (h : RoAt g' m t x body w) {g : Nat} (hg : g' ≠ g) (o : Nat) (v : Value) : RoAt g' m t x body (w.setCell ⟨g, o, none⟩ v) := by
  unfold RoAt at *; rw [heap_setCell_other w ⟨g, o, none⟩ g' v hg]; exact h
theorem RoAt.set2 {g : Nat} {m t : ByteArray} {x : Value} {body : ByteArray} {w : World} (h : RoAt g m t x body w) (x' : Value) : RoAt g m t x' body (w.setCell ⟨g, 2, none⟩ x') := by
  unfold RoAt at *; rw [heap_setCell_same w g 2 _ _ _ h]; rfl
theorem RoAt.set0 {g : Nat} {m t : ByteArray} {x : Value} {body : ByteArray} {w : World} (h : RoAt g m t x body w) (m' : ByteArray) : RoAt g m' t x body (w.setCell ⟨g, 0, none⟩ (.string m')) := by
  unfold RoAt at *; rw [heap_setCell_same w g 0 _ _ _ h]; rfl
theorem RoAt.set1 {g : Nat} {m t : ByteArray} {x : Value} {body : ByteArray} {w : World} (h : RoAt g m t x body w) (t' : ByteArray) : RoAt g m t' x body (w.setCell ⟨g, 1, none⟩ (.string t')) := by
  unfold RoAt at *; rw [heap_setCell_same w g 1 _ _ _ h]; rfl
theorem RoAt.set3 {g : Nat} {m t : ByteArray} {x : Value} {body : ByteArray} {w : World} (h : RoAt g m t x body w) (b' : ByteArray) : RoAt g m t x b' (w.setCell ⟨g, 3, none⟩ (.string b')) := by
  unfold RoAt at *; rw [heap_setCell_same w g 3 _ _ _ h]; rfl
theorem RoAt.grown {g : Nat} {m t : ByteArray} {v : Value} {body : ByteArray} {w w' : World} {row : Option Nat} (h : RoAt g m t v body w) (hg : w.grownBy w' row) (hne : row ≠ some g) : RoAt g m t v body w' := by
  have := hg.block g h.lt (fun h' => hne h'.symm)
  unfold RoAt at *; rw [this]; exact h
theorem FlAt.fo {fs : List Pr2} {a : Option Addr} {w : World} (h : FlAt fs a w) : FoAt fs a w := fun i hi => by
  obtain ⟨g, h1, h2, h3, h4⟩ := h i hi
  exact ⟨g, 0, h1, h2, by simpa using h3, by simpa using h4⟩
def fitLs (fs : List Pr2) (k : Nat) : List Pm.Fld := (fs.take k).map fun f => toL (fitF f)
theorem fitLs_next (fs : List Pr2) (k : Nat) (h : k < fs.length) : fitLs fs (k + 1) = fitLs fs k ++ [(fitN fs[k].1.data.toList, fitV fs[k].2.data.toList)] := by
  unfold fitLs; rw [List.take_succ_eq_append_getElem h, List.map_append]; rfl
theorem fitLs_len (fs : List Pr2) (k : Nat) (h : k ≤ fs.length) : (fitLs fs k).length = k := by unfold fitLs; simp; omega
theorem fitLs_done (fs : List Pr2) (k : Nat) (h : ¬ (k < fs.length ∧ k < 3)) (hk : k ≤ fs.length) (h3 : k ≤ 3) : fldsOf (fitLs fs k ++ [([104, 79, 83, 116], [97, 46, 98])]) = fitFs fs := by
  have e : fs.take k = fs.take 3 := by
    by_cases h1 : k < 3
    · rw [List.take_of_length_le (i := k) (by omega), List.take_of_length_le (i := 3) (by omega)]
    · rw [show k = 3 from by omega]
  unfold fitFs fitLs
  rw [e, ← fldsOf_toL ((fs.take 3).map fitF ++ [hostF]), List.map_append, List.map_map]; rfl
def greatsB : ByteArray := ⟨#[65, 66, 67, 68, 69, 70, 71, 72, 73, 74, 75, 76, 77, 78, 79, 80, 81, 82, 83, 84, 85, 86, 87, 88, 89, 90]⟩
def commonB : ByteArray := ⟨commonL.toArray⟩
def shownB : ByteArray := ⟨shownL.toArray⟩
theorem cat_M (x : List UInt8) : ((⟨#[77]⟩ : ByteArray) ++ ⟨x.toArray⟩).data.toList = 77 :: x := by simp
theorem cat_T (x : List UInt8) : ((⟨#[47]⟩ : ByteArray) ++ ⟨x.toArray⟩).data.toList = 47 :: x := by simp
theorem cat_X (x : List UInt8) : ((⟨#[88, 45]⟩ : ByteArray) ++ ⟨x.toArray⟩).data.toList = [88, 45] ++ x := by simp
structure FitI (w : World) (m t : ByteArray) (v : Value) (body : ByteArray) (W : World) : Prop where
  q : RoAt w.heap.size m t v body W
  r : RoAt (w.heap.size + 1) ⟨#[]⟩ ⟨#[]⟩ (.slice none 0 0) ⟨#[]⟩ W
  b : Below w.heap.size w W
theorem FitI.step {w W W' : World} {m t : ByteArray} {v : Value} {body : ByteArray} (h : FitI w m t v body W) (hb : Below W.heap.size W W') : FitI w m t v body W' :=
  ⟨h.q.below hb h.q.lt, h.r.below hb h.r.lt, bel_of h.b hb⟩
theorem FitI.drew {w W : World} {m t : ByteArray} {v : Value} {body : ByteArray} (h : FitI w m t v body W) : FitI w m t v body W.drew := h.step (Below.refl _ _).drew
theorem FitI.cells {w W : World} {m t : ByteArray} {v : Value} {body : ByteArray} (h : FitI w m t v body W) : W.cell? ⟨w.heap.size, 0, none⟩ = some (.string m) ∧ W.cell? ⟨w.heap.size, 1, none⟩ = some (.string t) ∧ W.cell? ⟨w.heap.size, 3, none⟩ = some (.string body) :=
  ⟨h.q.cells.1, h.q.cells.2.1, h.q.cells.2.2.2⟩
structure FitJ (w : World) (m t : ByteArray) (v : Value) (body : ByteArray) (g : Nat) (W : World) : Prop where
  i : FitI w m t v body W
  z : RoAt g ⟨#[]⟩ ⟨#[]⟩ (.slice none 0 0) ⟨#[]⟩ W
  lt : w.heap.size + 1 < g
theorem FitJ.step {w W W' : World} {m t : ByteArray} {v : Value} {body : ByteArray} {g : Nat} (h : FitJ w m t v body g W) (hb : Below W.heap.size W W') : FitJ w m t v body g W' :=
  ⟨h.i.step hb, h.z.below hb h.z.lt, h.lt⟩
theorem FitI.alloc {w W : World} {m t : ByteArray} {v : Value} {body : ByteArray} (h : FitI w m t v body W) : FitJ w m t v body W.heap.size (W.alloc (.cells #[.string ⟨#[]⟩, .string ⟨#[]⟩, .slice none 0 0, .string ⟨#[]⟩] 24)) :=
  ⟨h.step ((Below.refl _ _).alloc (Nat.le_refl _) _), heap_alloc_new W _, h.r.lt⟩
theorem FitJ.cells {w W : World} {m t : ByteArray} {v : Value} {body : ByteArray} {g : Nat} (h : FitJ w m t v body g W) : W.cell? ⟨w.heap.size, 0, none⟩ = some (.string m) ∧ W.cell? ⟨w.heap.size, 1, none⟩ = some (.string t) ∧ W.cell? ⟨w.heap.size, 3, none⟩ = some (.string body) := h.i.cells
theorem FitJ.zs {w W : World} {m t : ByteArray} {v : Value} {body : ByteArray} {g : Nat} (h : FitJ w m t v body g W) : g < W.heap.size ∧ (w.heap.size ≠ g ∧ g ≠ w.heap.size) ∧ W.cell? ⟨g, 0, none⟩ = some (.string ⟨#[]⟩) ∧ W.cell? ⟨g, 1, none⟩ = some (.string ⟨#[]⟩) ∧ W.cell? ⟨g, 2, none⟩ = some (.slice none 0 0) ∧ W.cell? ⟨g, 3, none⟩ = some (.string ⟨#[]⟩) ∧ W.frozen? ⟨g, 0, none⟩ = false ∧ W.frozen? ⟨g, 1, none⟩ = false ∧ W.frozen? ⟨g, 2, none⟩ = false ∧ W.frozen? ⟨g, 3, none⟩ = false :=
  ⟨h.z.lt, ⟨by have := h.lt; omega, by have := h.lt; omega⟩, h.z.cells.1, h.z.cells.2.1, h.z.cells.2.2.1, h.z.cells.2.2.2, h.z.free 0, h.z.free 1, h.z.free 2, h.z.free 3⟩
theorem FitI.done {w W : World} {m t : ByteArray} {v : Value} {body : ByteArray} (h : FitI w m t v body W) (FM FT FB : ByteArray) : w.heap.size + 1 < W.heap.size ∧ Hid (FitI w m t v body (W.alloc (.cells #[.string FM, .string FT, .slice none 0 0, .string FB] 24)) ∧ RoAt W.heap.size FM FT (.slice none 0 0) FB (W.alloc (.cells #[.string FM, .string FT, .slice none 0 0, .string FB] 24))) :=
  ⟨h.r.lt, h.step ((Below.refl _ _).alloc (Nat.le_refl _) _), heap_alloc_new W _⟩
theorem FitJ.done {w W : World} {m t : ByteArray} {v : Value} {body : ByteArray} {g : Nat} (h : FitJ w m t v body g W) (FM FT FB : ByteArray) : w.heap.size + 1 < g ∧ Hid (FitI w m t v body ((((W.setCell ⟨g, 0, none⟩ (.string FM)).setCell ⟨g, 1, none⟩ (.string FT)).setCell ⟨g, 2, none⟩ (.slice none 0 0)).setCell ⟨g, 3, none⟩ (.string FB)) ∧ RoAt g FM FT (.slice none 0 0) FB ((((W.setCell ⟨g, 0, none⟩ (.string FM)).setCell ⟨g, 1, none⟩ (.string FT)).setCell ⟨g, 2, none⟩ (.slice none 0 0)).setCell ⟨g, 3, none⟩ (.string FB))) := by
  have hl := h.lt
  have n1 : w.heap.size ≠ g := by omega
  have n2 : w.heap.size + 1 ≠ g := by omega
  refine ⟨hl, ⟨(((h.i.q.other n1 0 _).other n1 1 _).other n1 2 _).other n1 3 _, (((h.i.r.other n2 0 _).other n2 1 _).other n2 2 _).other n2 3 _, (((h.i.b.setCell (by show w.heap.size ≤ g; omega) _).setCell (by show w.heap.size ≤ g; omega) _).setCell (by show w.heap.size ≤ g; omega) _).setCell (by show w.heap.size ≤ g; omega) _⟩, (((h.z.set0 _).set1 _).set2 _).set3 _⟩
theorem drawnB_size (s ab : List UInt8) (n : Nat) : (⟨(drawnL s ab n).toArray⟩ : ByteArray).size ≤ n := by
  have h := drawn_len s ab n
  have h2 : (⟨(drawnL s ab n).toArray⟩ : ByteArray).data.toList.length = (⟨(drawnL s ab n).toArray⟩ : ByteArray).size := by rw [Array.length_toList]; rfl
  have h3 : (⟨(drawnL s ab n).toArray⟩ : ByteArray).data.toList = drawnL s ab n := rfl
  rw [← h2, h3]; exact h
theorem fit_end {w w8 : World} {fs : List Pr2} {g k gg cap : Nat} {FM FT FB : ByteArray} (how : w8.ownsRow (g + 1) 31 2 (.slice (some ⟨gg, 0, none⟩) (k + 1) cap) (k + 1) (flat (fitLs fs k) ++ [.string ⟨#[104, 79, 83, 116]⟩, .string ⟨#[97, 46, 98]⟩])) (hb : Below w.heap.size w w8) (hd : fldsOf (fitLs fs k ++ [([104, 79, 83, 116], [97, 46, 98])]) = fitFs fs) (hfl : (fitLs fs k).length = k) (hg : w.heap.size + 1 < g) :
    (∃ a' ca', Ending.returned (.agg #[.string FM, .string FT, .slice (some ⟨gg, 0, none⟩) (k + 1) cap, .string FB]) = .returned (.agg #[.string FM, .string FT, .slice a' (fitFs fs).length ca', .string FB]) ∧ FoAt (fitFs fs) a' (((((w8.setCell ⟨g, 2, none⟩ (.slice (some ⟨gg, 0, none⟩) (k + 1) cap)).setCell ⟨w.heap.size + 1, 0, none⟩ (.string FM)).setCell ⟨w.heap.size + 1, 1, none⟩ (.string FT)).setCell ⟨w.heap.size + 1, 2, none⟩ (.slice (some ⟨gg, 0, none⟩) (k + 1) cap)).setCell ⟨w.heap.size + 1, 3, none⟩ (.string FB))) ∧
    Below w.heap.size w (((((w8.setCell ⟨g, 2, none⟩ (.slice (some ⟨gg, 0, none⟩) (k + 1) cap)).setCell ⟨w.heap.size + 1, 0, none⟩ (.string FM)).setCell ⟨w.heap.size + 1, 1, none⟩ (.string FT)).setCell ⟨w.heap.size + 1, 2, none⟩ (.slice (some ⟨gg, 0, none⟩) (k + 1) cap)).setCell ⟨w.heap.size + 1, 3, none⟩ (.string FB)) := by
  have ow9 := owns_other (owns_other (owns_other (owns_other (owns_other how (g := g) (by omega) 2 (.slice (some ⟨gg, 0, none⟩) (k + 1) cap)) (g := w.heap.size + 1) (by omega) 0 (.string FM)) (g := w.heap.size + 1) (by omega) 1 (.string FT)) (g := w.heap.size + 1) (by omega) 2 (.slice (some ⟨gg, 0, none⟩) (k + 1) cap)) (g := w.heap.size + 1) (by omega) 3 (.string FB)
  refine ⟨?_, ((((hb.setCell (by show w.heap.size ≤ g; omega) _).setCell (Nat.le_succ _) _).setCell (Nat.le_succ _) _).setCell (Nat.le_succ _) _).setCell (Nat.le_succ _) _⟩
  have e9 : flat (fitLs fs k ++ [([104, 79, 83, 116], [97, 46, 98])]) = flat (fitLs fs k) ++ [.string ⟨#[104, 79, 83, 116]⟩, .string ⟨#[97, 46, 98]⟩] := flat_snoc _ _
  have l9 : (fitLs fs k ++ [([104, 79, 83, 116], [97, 46, 98])]).length = k + 1 := by rw [List.length_append, hfl]; rfl
  rw [← e9] at ow9
  generalize hW : ((((w8.setCell ⟨g, 2, none⟩ (.slice (some ⟨gg, 0, none⟩) (k + 1) cap)).setCell ⟨w.heap.size + 1, 0, none⟩ (.string FM)).setCell ⟨w.heap.size + 1, 1, none⟩ (.string FT)).setCell ⟨w.heap.size + 1, 2, none⟩ (.slice (some ⟨gg, 0, none⟩) (k + 1) cap)).setCell ⟨w.heap.size + 1, 3, none⟩ (.string FB) = W at *
  have ow10 : W.ownsRow (g + 1) 31 2 (.slice (some ⟨gg, 0, none⟩) (k + 1) cap) (fitLs fs k ++ [([104, 79, 83, 116], [97, 46, 98])]).length (flat (fitLs fs k ++ [([104, 79, 83, 116], [97, 46, 98])])) := by rw [l9]; exact ow9
  obtain ⟨a', c', hv, hfa⟩ := flat_at ow10
  rw [hd] at hv hfa
  exact ⟨a', c', by rw [hv], hfa.fo⟩
set_option maxRecDepth 100000 in
set_option maxHeartbeats 4000000 in
theorem fit_any (m t : ByteArray) (fs : List Pr2) (a : Option Addr) (ca : Nat) (body : ByteArray) (w : World) (hf : FoAt fs a w) (hm : m.size ≤ maxLen) (ht : t.size ≤ maxLen)
    (hz : ∀ i (h : i < fs.length), fs[i].1.size ≤ maxLen ∧ fs[i].2.size ≤ maxLen) :
    Calls Tryz.prog 4 #[.agg #[.string m, .string t, .slice a fs.length ca, .string body]] w fun e w' => (∃ a' ca', e = .returned (.agg #[.string ⟨(fitM m.data.toList).toArray⟩, .string ⟨(fitT t.data.toList).toArray⟩, .slice a' (fitFs fs).length ca', .string ⟨(body.data.toList.take 200).toArray⟩]) ∧ FoAt (fitFs fs) a' w') ∧ Below w.heap.size w w' := by
  obtain ⟨i0, hi, hz0, hz1, hz2⟩ := info_parts Tryz.info36
  have HF := hid hf
  have HZ := hid hz
  have HD1 : Hid (∀ W, Calls Tryz.prog 10 #[.string m, .string ⟨#[65, 66, 67, 68, 69, 70, 71, 72, 73, 74, 75, 76, 77, 78, 79, 80, 81, 82, 83, 84, 85, 86, 87, 88, 89, 90]⟩, .int .i64 7] W fun e w' => e = .returned (.string ⟨(drawnL m.data.toList greatsL 7).toArray⟩) ∧ Below W.heap.size W w') := fun W => drawn_any m greatsB 7 W hm (by omega) (by decide) (by decide)
  have HD2 : Hid (∀ W, Calls Tryz.prog 10 #[.string t, .string ⟨#[97, 98, 99, 100, 101, 102, 103, 104, 105, 106, 107, 108, 109, 110, 111, 112, 113, 114, 115, 116, 117, 118, 119, 120, 121, 122, 48, 49, 50, 51, 52, 53, 54, 55, 56, 57, 47, 46, 45, 95, 126, 63, 61, 38]⟩, .int .i64 40] W fun e w' => e = .returned (.string ⟨(drawnL t.data.toList commonL 40).toArray⟩) ∧ Below W.heap.size W w') := fun W => drawn_any t commonB 40 W ht (by omega) (by decide) (by decide)
  have HU := hid (fun W => upTo_any body 200 W (by omega))
  have hA := ((Below.refl w.heap.size w).alloc (Nat.le_refl _) (.cells #[.string m, .string t, .slice a fs.length ca, .string body] 24)).alloc (by simp) (.cells #[.string ⟨#[]⟩, .string ⟨#[]⟩, .slice none 0 0, .string ⟨#[]⟩] 24)
  have z1 : (w.alloc (.cells #[.string m, .string t, .slice a fs.length ca, .string body] 24)).heap.size = w.heap.size + 1 := by simp
  have ro0 : RoAt w.heap.size m t (.slice a fs.length ca) body (w.alloc (.cells #[.string m, .string t, .slice a fs.length ca, .string body] 24)) := heap_alloc_new w _
  have ro1 := ro0.below ((Below.refl _ _).alloc (Nat.le_refl _) (.cells #[.string ⟨#[]⟩, .string ⟨#[]⟩, .slice none 0 0, .string ⟨#[]⟩] 24)) ro0.lt
  have rz1 : RoAt (w.heap.size + 1) ⟨#[]⟩ ⟨#[]⟩ (.slice none 0 0) ⟨#[]⟩ ((w.alloc (.cells #[.string m, .string t, .slice a fs.length ca, .string body] 24)).alloc (.cells #[.string ⟨#[]⟩, .string ⟨#[]⟩, .slice none 0 0, .string ⟨#[]⟩] 24)) := by
    have := heap_alloc_new (w.alloc (.cells #[.string m, .string t, .slice a fs.length ca, .string body] 24)) (.cells #[.string ⟨#[]⟩, .string ⟨#[]⟩, .slice none 0 0, .string ⟨#[]⟩] 24)
    rw [z1] at this; exact this
  have I1 : FitI w m t (.slice a fs.length ca) body ((w.alloc (.cells #[.string m, .string t, .slice a fs.length ca, .string body] 24)).alloc (.cells #[.string ⟨#[]⟩, .string ⟨#[]⟩, .slice none 0 0, .string ⟨#[]⟩] 24)) := ⟨ro1, rz1, hA⟩
  clear hf hz z1 ro0 ro1 rz1 hA
  have hM := bytes_of (cat_M (drawnL m.data.toList greatsL 7))
  have hT := bytes_of (cat_T (drawnL t.data.toList commonL 40))
  have z7 := drawnB_size m.data.toList greatsL 7
  have z40 := drawnB_size t.data.toList commonL 40
  rw [show (77 :: drawnL m.data.toList greatsL 7) = fitM m.data.toList from rfl] at hM
  rw [show (47 :: drawnL t.data.toList commonL 40) = fitT t.data.toList from rfl] at hT
  generalize (⟨(drawnL m.data.toList greatsL 7).toArray⟩ : ByteArray) = D1 at *
  generalize (⟨(drawnL t.data.toList commonL 40).toArray⟩ : ByteArray) = D2 at *
  generalize (⟨(fitM m.data.toList).toArray⟩ : ByteArray) = FM at *
  generalize (⟨(fitT t.data.toList).toArray⟩ : ByteArray) = FT at *
  generalize (⟨(body.data.toList.take 200).toArray⟩ : ByteArray) = FB at *
  have q1 : ¬ (9223372036854775807 < (⟨#[77]⟩ : ByteArray).size + D1.size) := by have : (⟨#[77]⟩ : ByteArray).size = 1 := rfl; omega
  have q2 : ¬ (9223372036854775807 < 1 + D1.size) := by omega
  have q3 : ¬ (9223372036854775807 < (⟨#[47]⟩ : ByteArray).size + D2.size) := by have : (⟨#[47]⟩ : ByteArray).size = 1 := rfl; omega
  have q4 : ¬ (9223372036854775807 < 1 + D2.size) := by omega
  go_enter Tryz.func4, Tryz.ntmps4
  go_upto_region 1 with fail
  generalize (w.alloc (.cells #[.string m, .string t, .slice a fs.length ca, .string body] 24)).alloc (.cells #[.string ⟨#[]⟩, .string ⟨#[]⟩, .slice none 0 0, .string ⟨#[]⟩] 24) = w1 at *
  have Id := hid I1.drew
  have Jd := hid (I1.alloc.step (Below.refl _ _).drew)
  have al1 := I1.q.lt
  obtain ⟨c0, c1, c3⟩ := I1.cells
  have HI1 := hid I1
  clear I1
  go_cut [3] from 7 (fun p wx => ∃ g, p = .pointer (some ⟨g, 0, none⟩) ∧ w.heap.size + 1 < g ∧ Hid (FitI w m t (.slice a fs.length ca) body wx ∧ RoAt g FM FT (.slice none 0 0) FB wx))
  case first =>
    go_region_held3 (fun W => W.cell? ⟨w.heap.size, 0, none⟩ = some (.string m) ∧ W.cell? ⟨w.heap.size, 1, none⟩ = some (.string t) ∧ W.cell? ⟨w.heap.size, 3, none⟩ = some (.string body)) (go_keep)
      (first
        | (go_at_call_of 10 (Value.int IntKind.i64 7); refine (HD1.out _).mono ?_; rintro e wM ⟨rfl, hbM⟩; have IM := hid (Id.out.step hbM); clear hbM; obtain ⟨m0, m1, m3⟩ := IM.out.cells; have alM := IM.out.q.lt)
        | (go_at_call_of 10 (Value.int IntKind.i64 7); refine (HD1.out _).mono ?_; rintro e wM ⟨rfl, hbM⟩; have IM := hid (Jd.out.step hbM); clear hbM; obtain ⟨m0, m1, m3⟩ := IM.out.cells; obtain ⟨zl, ⟨zn, zm⟩, z0, z1, z2, z3, f0, f1, f2, f3⟩ := IM.out.zs)
        | (go_at_call_of 10 (Value.int IntKind.i64 40); refine (HD2.out _).mono ?_; rintro e wT ⟨rfl, hbT⟩; have IT := hid (IM.out.step hbT); clear hbT; obtain ⟨t0, t1, t3⟩ := IT.out.cells; obtain ⟨zl, ⟨zn, zm⟩, z0, z1, z2, z3, f0, f1, f2, f3⟩ := IT.out.zs)
        | (go_at_call_of 10 (Value.int IntKind.i64 40); refine (HD2.out _).mono ?_; rintro e wT ⟨rfl, hbT⟩; have IT := hid (IM.out.step hbT); clear hbT; obtain ⟨t0, t1, t3⟩ := IT.out.cells; have alT := IT.out.q.lt)
        | (go_at_call_of 10 (Value.int IntKind.i64 40); refine (HD2.out _).mono ?_; rintro e wT ⟨rfl, hbT⟩; have IT := hid (IM.out.alloc.step hbT); clear hbT; obtain ⟨t0, t1, t3⟩ := IT.out.cells; obtain ⟨zl, ⟨zn, zm⟩, z0, z1, z2, z3, f0, f1, f2, f3⟩ := IT.out.zs)
        | (go_at_call 11; refine (HU.out _).mono ?_; rintro e wU ⟨rfl, hwU⟩; subst hwU))
    all_goals (try go_wp2_with fail)
    all_goals go_meet
    all_goals
      refine ⟨_, rfl, ?_⟩
      exact IT.out.done FM FT FB
  case rest =>
    obtain ⟨g, rfl, hg, HC⟩ := hcut
    obtain ⟨I2, rg2⟩ := HC.out
    clear HD1 HD2 HU hM hT z7 z40 q1 q2 q3 q4 c0 c1 c3 HC Id Jd HI1 al1
    go_wp2
    go_loopw [4, 5, 6] (fun i _ _ wr => ∃ (k : Nat) (v : Value), k ≤ fs.length ∧ k ≤ 3 ∧ i = .int .i64 k ∧ FitI w m t (.slice a fs.length ca) body wr ∧ RoAt g FM FT v FB wr ∧ wr.ownsRow (g + 1) 31 2 v k (flat (fitLs fs k)) ∧ g + 1 ≤ wr.heap.size) (fun i _ _ _ => 3 - (intOf i).toNat)
    case atStart => exact ⟨0, .slice none 0 0, Nat.zero_le _, Nat.zero_le _, rfl, I2, rg2, World.ownsRow_nil _ _ _ _, rg2.lt⟩
    case round =>
      obtain ⟨k, v, hk, hk3, rfl, I3, rg3, hown, hgz⟩ := hrel
      obtain ⟨av, nv, cv, rfl⟩ := owns_form hown
      by_cases hlt : k < fs.length ∧ k < 3
      · obtain ⟨hl1, hl2⟩ := hlt
        obtain ⟨gf, of, rfl, hgf, hc1, hc2⟩ := (HF.out.below I3.b) k hl1
        obtain ⟨hz1', hz2'⟩ := HZ.out k hl1
        have HN := hid (fitLs_next fs k hl1)
        have HG : Hid (∀ W, Calls Tryz.prog 10 #[.string fs[k].1, .string ⟨#[65, 66, 67, 68, 69, 70, 71, 72, 73, 74, 75, 76, 77, 78, 79, 80, 81, 82, 83, 84, 85, 86, 87, 88, 89, 90]⟩, .int .i64 8] W fun e w' => e = .returned (.string ⟨(drawnL fs[k].1.data.toList greatsL 8).toArray⟩) ∧ Below W.heap.size W w') := fun W => drawn_any fs[k].1 greatsB 8 W hz1' (by omega) (by decide) (by decide)
        have HS : Hid (∀ W, Calls Tryz.prog 10 #[.string fs[k].2, .string ⟨#[32, 33, 34, 35, 36, 37, 38, 39, 40, 41, 42, 43, 44, 45, 46, 47, 48, 49, 50, 51, 52, 53, 54, 55, 56, 57, 58, 59, 60, 61, 62, 63, 64, 65, 66, 67, 68, 69, 70, 71, 72, 73, 74, 75, 76, 77, 78, 79, 80, 81, 82, 83, 84, 85, 86, 87, 88, 89, 90, 91, 93, 94, 95, 97, 98, 99, 100, 101, 102, 103, 104, 105, 106, 107, 108, 109, 110, 111, 112, 113, 114, 115, 116, 117, 118, 119, 120, 121, 122, 123, 124, 125, 126, 9, 233]⟩, .int .i64 30] W fun e w' => e = .returned (.string ⟨(drawnL fs[k].2.data.toList shownL 30).toArray⟩) ∧ Below W.heap.size W w') := fun W => drawn_any fs[k].2 shownB 30 W hz2' (by omega) (by decide) (by decide)
        have hX := bytes_of (cat_X (drawnL fs[k].1.data.toList greatsL 8))
        have z8 := drawnB_size fs[k].1.data.toList greatsL 8
        have z30 := drawnB_size fs[k].2.data.toList shownL 30
        have HBR := hid (fun W => bare_any ⟨(drawnL fs[k].2.data.toList shownL 30).toArray⟩ W (by omega))
        rw [show ([88, 45] ++ drawnL fs[k].1.data.toList greatsL 8) = fitN fs[k].1.data.toList from rfl] at hX
        have HBR' : Hid (∀ W, Calls Tryz.prog 12 #[.string ⟨(drawnL fs[k].2.data.toList shownL 30).toArray⟩] W fun e w' => e = .returned (.string ⟨(fitV fs[k].2.data.toList).toArray⟩) ∧ w' = W) := HBR
        clear HBR
        generalize (⟨(drawnL fs[k].1.data.toList greatsL 8).toArray⟩ : ByteArray) = D3 at *
        generalize (⟨(drawnL fs[k].2.data.toList shownL 30).toArray⟩ : ByteArray) = D4 at *
        generalize hXN : fitN fs[k].1.data.toList = XN at *
        generalize hXV : fitV fs[k].2.data.toList = XV at *
        generalize fs[k].1 = fn at *
        generalize fs[k].2 = fv at *
        clear hXN hXV
        obtain ⟨c0, c1, c2, c3⟩ := I3.q.cells
        have al3 := I3.q.lt
        go_wp2_with fail
        refine (HG.out _).mono ?_
        rintro e w4 ⟨rfl, hb4⟩
        have I4 := I3.step hb4
        have rg4 := rg3.below hb4 rg3.lt
        have ow4 := owns_below hown hb4
        have hc2' := cell_later hb4 hc2
        have hgf4 : gf < w4.heap.size := Nat.lt_of_lt_of_le hgf hb4.size
        have hgz4 : g + 1 ≤ w4.heap.size := Nat.le_trans hgz hb4.size
        clear HG c0 c1 c2 c3 al3 hb4 I3 rg3 hown hc1 hc2 hgf hgz
        obtain ⟨c0, c1, c2, c3⟩ := I4.q.cells
        have al4 := I4.q.lt
        go_wp2_with fail
        refine (HS.out _).mono ?_
        rintro e w5 ⟨rfl, hb5⟩
        have I5 := I4.step hb5
        have rg5 := rg4.below hb5 rg4.lt
        have ow5 := owns_below ow4 hb5
        have hgz5 : g + 1 ≤ w5.heap.size := Nat.le_trans hgz4 hb5.size
        clear HS c0 c1 c2 c3 al4 hb5 I4 rg4 ow4 hc2' hgf4 hgz4
        go_wp2_with fail
        refine (HBR'.out _).mono ?_
        rintro e w6 ⟨rfl, hw6⟩
        subst hw6
        clear HBR'
        obtain ⟨c0, c1, c2, c3⟩ := rg5.cells
        have v2 := rg5.free 2
        have szB : g < w6.heap.size := by omega
        go_wp2_with (at_builtin; refine wpList_append_lies _ rfl _ _ 22 rfl (g + 1) 31 i0 _ 2 32 Tryz.underlying22 hi hz0 hz1 hz2 rfl (by omega) (.slice av nv cv) k (flat (fitLs fs k)) rfl (ow5.alloc _) ⟨w6.heap.size, 0, none⟩ 1 1 [.string ⟨XN.toArray⟩, .string ⟨XV.toArray⟩] rfl rfl ?c1 ?c2 (by omega) ?c3 ?c4 ?c5 _ rfl ?_)
        case c1 =>
          intro j x hj
          match j, hj with
          | 0, hj => simp at hj; subst hj; simp [Addr.add]
          | 1, hj => simp at hj; subst hj; simp [Addr.add]
        case c2 => intro x hx; simp at hx; rcases hx with rfl | rfl <;> rfl
        case c3 => unfold maxLen; omega
        case c4 => omega
        case c5 => simp; omega
        intro gg cap w8 hown hgrow hat hlt
        have hE8 : Below w6.heap.size w6 (w6.alloc (.cells #[.string ⟨XN.toArray⟩, .string ⟨XV.toArray⟩] 31)) := (Below.refl _ _).alloc (Nat.le_refl _) _
        have I6 := I5.step hE8
        have hq8 := I6.q.grown hgrow (own_not ow5 (by have := hg; omega))
        have hr8 := I6.r.grown hgrow (own_not ow5 (by have := hg; omega))
        have rg8 := (rg5.below hE8 rg5.lt).grown hgrow (own_not ow5 (by omega))
        have hB8 : Below w.heap.size w w8 := I6.b.grown hgrow (by have := I5.b.size; simp; omega) (fun r hr => by have := own_ge ow5 r hr; omega)
        have sz8 : g + 1 ≤ w8.heap.size := by
          have h1 := hgrow.size
          simp at h1; omega
        obtain ⟨z0', z1', z2', z3'⟩ := rg8.cells
        have v2' := rg8.free 2
        have szC : g < w8.heap.size := by omega
        clear rg5 ow5 I5 hE8 I6 hgrow c0 c1 c2 c3 v2 szB
        go_wp2
        refine ⟨⟨k + 1, .slice (some ⟨gg, 0, none⟩) (k + 1) cap, by omega, by omega, by go_num, ⟨hq8.other (by omega) 2 _, hr8.other (by omega) 2 _, hB8.setCell (by show w.heap.size ≤ g; omega) _⟩, rg8.set2 _, ?_, by simpa using sz8⟩, by simp [intOf]; omega⟩
        rw [HN.out, flat_snoc]
        exact owns_other hown (by omega) 2 _
      · have HD := hid (fitLs_done fs k hlt hk hk3)
        have hfl := fitLs_len fs k hk
        obtain ⟨c0, c1, c2, c3⟩ := rg3.cells
        have v2 := rg3.free 2
        have szB : g < wr.heap.size := by omega
        obtain ⟨e0, e1, e2, e3⟩ := I3.q.cells
        have al3 := I3.q.lt
        have hcc : ((k : Int) < (fs.length : Int) ∧ (k : Int) < 3) ∨ ¬ ((k : Int) < (fs.length : Int)) ∨ ((k : Int) < (fs.length : Int) ∧ ¬ (k : Int) < 3) := by omega
        rcases hcc with hcc | hcc | ⟨hcc, hcd⟩
        · exact absurd (And.intro (Int.ofNat_lt.1 hcc.1) (by omega)) hlt
        all_goals
          go_wp2_with (at_builtin; refine wpList_append_lies _ rfl _ _ 22 rfl (g + 1) 31 i0 _ 2 32 Tryz.underlying22 hi hz0 hz1 hz2 rfl (by omega) (.slice av nv cv) k (flat (fitLs fs k)) rfl (hown.alloc _) ⟨wr.heap.size, 0, none⟩ 1 1 [.string ⟨#[104, 79, 83, 116]⟩, .string ⟨#[97, 46, 98]⟩] rfl rfl ?c1 ?c2 (by omega) ?c3 ?c4 ?c5 _ rfl ?_)
          case c2 => exact ⟨rfl, rfl⟩
          case c3 => unfold maxLen; omega
          case c4 => omega
          case c5 => omega
          intro gg cap w8 hown2 hgrow hat hlt2
          have hE8 : Below wr.heap.size wr (wr.alloc (.cells #[.string ⟨#[104, 79, 83, 116]⟩, .string ⟨#[97, 46, 98]⟩] 31)) := (Below.refl _ _).alloc (Nat.le_refl _) _
          have I6 := I3.step hE8
          have hr8 := I6.r.grown hgrow (own_not hown (by have := hg; omega))
          have rg8 := (rg3.below hE8 rg3.lt).grown hgrow (own_not hown (by omega))
          have hB8 : Below w.heap.size w w8 := I6.b.grown hgrow (by have := I3.b.size; simp; omega) (fun r hr => by have := own_ge hown r hr; omega)
          have sz8 : g + 1 ≤ w8.heap.size := by
            have h1 := hgrow.size
            simp at h1; omega
          obtain ⟨z0', z1', z2', z3'⟩ := rg8.cells
          have v2' := rg8.free 2
          have szC : g < w8.heap.size := by omega
          obtain ⟨r0, r1, r2, r3⟩ := hr8.cells
          have y0 := hr8.free 0
          have y1 := hr8.free 1
          have y2 := hr8.free 2
          have y3 := hr8.free 3
          have szD : w.heap.size + 1 < w8.heap.size := by omega
          have hgn : g ≠ w.heap.size + 1 := by omega
          have hgm : w.heap.size + 1 ≠ g := by omega
          have HOW := hid hown2
          have HB8 := hid hB8
          clear rg3 hown I3 hE8 I6 hgrow c0 c1 c2 c3 v2 szB e0 e1 e2 e3 al3 hown2 hB8
          go_wp2
          refine bodyPost_ret (v := .agg #[.string FM, .string FT, .slice (some ⟨gg, 0, none⟩) (k + 1) cap, .string FB]) (by simp [results, Tryz.results4, go_sem, r0, r1, r2, r3]) rfl ?_
          exact fit_end HOW.out HB8.out HD.out hfl hg
end Go.Proofs.YtaekbmfcnkpelaaGreatDoor
