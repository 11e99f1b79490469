/- Texts that follow one another, joined. -/
import Derived.Test.YtpfendckgeoonaaGreatDoorJoin33
/- The statement's own small configuration. -/
namespace Go.Proofs.YtpfendckgeoonaaGreatDoor
open Go.RowKit

theorem flatMap_get {α : Type} {sz : Nat} {f : α → List Value} (hf : ∀ x, (f x).length = sz) : ∀ (l : List α) (i : Nat) (h : i < l.length) (j : Nat) (v : Value), (f l[i])[j]? = some v → (l.flatMap f)[i * sz + j]? = some v
  | [], i, h, _, _, _ => absurd h (by simp)
  | x :: r, 0, _, j, v, hv => by
    rw [List.flatMap_cons]
    simp only [Nat.zero_mul, Nat.zero_add]
    simp only [List.getElem_cons_zero] at hv
    obtain ⟨hj, rfl⟩ := List.getElem?_eq_some_iff.1 hv
    rw [List.getElem?_append_left hj]; exact hv
  | x :: r, i + 1, h, j, v, hv => by
    have ih := flatMap_get hf r i (by simpa using h) j v (by simpa using hv)
    rw [List.flatMap_cons, List.getElem?_append_right (by rw [hf x, Nat.succ_mul]; omega), hf x]
    rw [show (i + 1) * sz + j - sz = i * sz + j by rw [Nat.succ_mul]; omega]
    exact ih
theorem mu_of_block {α : Type} {sz : Nat} {f : α → List Value} (hf : ∀ x, (f x).length = sz) {l : List α} {g : Nat} {cur : Array Value} {e : TypeId} {w : World} (hb : w.heap[g]? = some (.cells cur e (0, 0))) (hc : cur.toList = l.flatMap f) : MuAt sz f l (some ⟨g, 0, none⟩) w := fun i hi => by
  refine ⟨g, 0, rfl, (Array.getElem?_eq_some_iff.1 hb).1, fun j v hv => ?_⟩
  have := flatMap_get hf l i hi j v hv
  rw [Lib.cell_of_heap hb, Nat.zero_add, ← Array.getElem?_toList, hc]
  exact this
theorem six_alloc (w : World) (o1 o2 o3 o4 o5 o6 : Obj) : Below w.heap.size w ((((((w.alloc o1).alloc o2).alloc o3).alloc o4).alloc o5).alloc o6) ∧ ((((((w.alloc o1).alloc o2).alloc o3).alloc o4).alloc o5).alloc o6).heap[w.heap.size + 1 + 1 + 1 + 1]? = some o5 := by
  have b1 := (Below.refl w.heap.size w).alloc (Nat.le_refl _) o1
  have b2 := b1.alloc b1.size o2
  have b3 := b2.alloc b2.size o3
  have b4 := b3.alloc b3.size o4
  have b5 := b4.alloc b4.size o5
  have b6 := b5.alloc b5.size o6
  refine ⟨b6, ?_⟩
  have hz : ((((w.alloc o1).alloc o2).alloc o3).alloc o4).heap.size = w.heap.size + 1 + 1 + 1 + 1 := by simp
  have hn := heap_alloc_new ((((w.alloc o1).alloc o2).alloc o3).alloc o4) o5
  rw [hz] at hn
  generalize hW : (((((w.alloc o1).alloc o2).alloc o3).alloc o4).alloc o5) = W at *
  have c := (Below.refl W.heap.size W).alloc (Nat.le_refl _) o6
  have hl : w.heap.size + 1 + 1 + 1 + 1 < W.heap.size := (Array.getElem?_eq_some_iff.1 hn).1
  rw [c.block _ hl]
  exact hn
def smallR : List Rt := [⟨⟨#[71, 69, 84]⟩, ⟨#[47, 104, 105, 47, 58, 110, 97, 109, 101]⟩, ⟨2, 200, ⟨#[]⟩, ⟨#[110, 97, 109, 101]⟩⟩⟩, ⟨⟨#[71, 69, 84]⟩, ⟨#[47, 117, 112]⟩, ⟨4, 200, ⟨#[]⟩, ⟨#[]⟩⟩⟩, ⟨⟨#[71, 69, 84]⟩, ⟨#[47, 108, 97, 98, 101, 108, 47, 42, 120]⟩, ⟨3, 204, ⟨#[88, 45, 73, 116]⟩, ⟨#[120]⟩⟩⟩]
set_option maxRecDepth 100000 in
set_option maxHeartbeats 1000000 in
theorem small_any (w : World) :
    Calls Tryz.prog 15 #[.bool false] w fun x w' => (∃ g, w.heap.size < g ∧ x = .returned (.agg #[.int .i64 200, .int .i64 50, .slice (some ⟨g, 0, none⟩) 3 3, .slice none 0 0]) ∧ MuAt 6 Rt.cells smallR (some ⟨g, 0, none⟩) w') ∧ Below w.heap.size w w' := by
  go_enter Tryz.func15, Tryz.ntmps15
  go_wp2
  refine bodyPost_ret (v := .agg #[.int .i64 200, .int .i64 50, .slice (some ⟨w.heap.size + 1 + 1 + 1 + 1, 0, none⟩) 3 3, .slice none 0 0]) (by simp [results, Tryz.results15, go_sem]) rfl ?_
  refine ⟨⟨w.heap.size + 1 + 1 + 1 + 1, by omega, rfl, ?_⟩, (six_alloc w _ _ _ _ _ _).1⟩
  refine mu_of_block (sz := 6) (f := Rt.cells) (l := smallR) (fun _ => rfl) (six_alloc w _ _ _ _ _ _).2 ?_
  rfl
end Go.Proofs.YtpfendckgeoonaaGreatDoor

/- The statement's own 'right' and 'route'. -/
namespace Go.Proofs.YtpfendckgeoonaaGreatDoor
open Go.RowKit

set_option maxRecDepth 100000 in
set_option maxHeartbeats 400000 in
theorem tFind_no (p : Value) (m s : ByteArray) (w : World) (hp : Pm.isPath s.data.toList = false) (hs : s.size ≤ 140737488355328) :
    Calls Tryz.prog 39 #[p, .string m, .string s] w fun r w' => r = .returned (.tuple #[.int .i64 0, .slice none 0 0, .int .i64 3]) ∧ Below w.heap.size w w' := by
  have HIP := hid (fun W => wIsPath_any s W hs)
  rw [hp] at HIP
  go_enter Tryz.func39, Tryz.ntmps39
  go_wp2_with fail
  refine (HIP.out _).mono ?_
  rintro e w1 ⟨rfl, hb1⟩
  go_wp2_with fail
  refine bodyPost_ret (v := .tuple #[.int .i64 0, .slice none 0 0, .int .i64 3]) (by simp [results, Tryz.results39, go_sem]) rfl ?_
  exact ⟨rfl, hb1⟩
set_option maxHeartbeats 400000 in
theorem pFind_no (gt : Nat) (m s : ByteArray) (w : World) (hp : Pm.isPath s.data.toList = false) (hs : s.size ≤ 140737488355328) :
    Calls Tryz.prog 21 #[.pointer (some ⟨gt, 0, none⟩), .string m, .string s] w fun r w' => r = .returned (.tuple #[.int .i64 0, .slice none 0 0, .int .i64 3]) ∧ Below w.heap.size w w' := by
  have HF := hid (fun p => tFind_no p m s w hp hs)
  go_enter Tryz.func21, Tryz.ntmps21
  go_wp2_with fail
  refine (HF.out _).mono ?_
  rintro e w1 ⟨rfl, hb1⟩
  go_wp2_with fail
  refine bodyPost_ret (v := .tuple #[.int .i64 0, .slice none 0 0, .int .i64 3]) (by simp [results, Tryz.results21, go_sem]) rfl ?_
  exact ⟨rfl, hb1⟩
/- which route it is: none, or its number and parameters -/
def rouG (m l : List UInt8) (es : List Ent) : Int × List Prm := if Pm.isPath l = true ∧ (leadG m l es).2.2 = 0 then ((leadG m l es).1, (leadG m l es).2.1) else (-1, [])
def RoPost (F : Int × List Prm) (w : World) (x : Ending) (w' : World) : Prop :=
  (∃ vv, x = .returned (.tuple #[.int .i64 F.1, vv]) ∧ w'.ownsRow w.heap.size 54 2 vv F.2.length (prCells F.2)) ∧ Below w.heap.size w w'
set_option maxRecDepth 100000 in
set_option maxHeartbeats 2000000 in
theorem route_any (gt B : Nat) (es : List Ent) (v : Value) (m s : ByteArray) (w : World) (hT : TbAt gt 0 B es v w) (hs : s.size ≤ 140737488355328) :
    Calls Tryz.prog 9 #[.pointer (some ⟨gt, 0, none⟩), .string m, .string s] w (RoPost (rouG m.data.toList s.data.toList es) w) := by
  have lt0 := hT.lt
  have hbe := beq_head m
  have hsl : s.data.toList.length = s.size := by simp
  cases hp : Pm.isPath s.data.toList
  · have HF := hid (fun (m' : ByteArray) W => pFind_no gt m' s W hp hs)
    have hR : rouG m.data.toList s.data.toList es = (-1, []) := if_neg (fun h => by rw [hp] at h; simp at h)
    rw [hR]
    clear hT hR hp
    go_enter Tryz.func9, Tryz.ntmps9
    go_wp2_with fail
    refine (HF.out _ _).mono ?_
    rintro x w1 ⟨rfl, hb1⟩
    by_cases hh : m.data.toList = hdL
    · rw [decide_eq_true hh] at hbe
      go_wp2_with fail
      refine (HF.out _ _).mono ?_
      rintro x w2 ⟨rfl, hb2⟩
      have hB := bel_of hb1 hb2
      go_wp2_with fail
      refine bodyPost_ret (v := .tuple #[.int .i64 (-1), .slice none 0 0]) (by simp [results, Tryz.results9, go_sem]) rfl ?_
      exact ⟨⟨_, rfl, World.ownsRow_nil _ _ _ _⟩, hB⟩
    · rw [decide_eq_false hh] at hbe
      go_wp2_with fail
      refine bodyPost_ret (v := .tuple #[.int .i64 (-1), .slice none 0 0]) (by simp [results, Tryz.results9, go_sem]) rfl ?_
      exact ⟨⟨_, rfl, World.ownsRow_nil _ _ _ _⟩, hb1⟩
  · have h1 : 1 ≤ s.size := by
      unfold Pm.isPath at hp
      rw [Bool.and_eq_true] at hp
      rcases Nat.eq_zero_or_pos s.size with q | q
      · have : s.data.toList = [] := List.eq_nil_of_length_eq_zero (by omega)
        rw [this] at hp; exact absurd hp.2 (by decide)
      · exact q
    have HF := hid (fun (m' : ByteArray) W (hW : Below w.heap.size w W) => pFind_any gt B es v m' s W (hT.below hW) hp h1 hs)
    have hR : rouG m.data.toList s.data.toList es = if (leadG m.data.toList s.data.toList es).2.2 = 0 then (((leadG m.data.toList s.data.toList es).1 : Int), (leadG m.data.toList s.data.toList es).2.1) else (-1, []) := by
      unfold rouG; simp only [hp, true_and]
    have hL : leadG m.data.toList s.data.toList es = if (findG m.data.toList s.data.toList es 0).2.2 ≠ 0 ∧ m.data.toList = hdL then findG gtL s.data.toList es 0 else findG m.data.toList s.data.toList es 0 := rfl
    have hgl : (⟨#[71, 69, 84]⟩ : ByteArray).data.toList = gtL := rfl
    generalize rouG m.data.toList s.data.toList es = RR at *
    generalize leadG m.data.toList s.data.toList es = LG at *
    have HF1 := hid (HF.out m)
    have HF2 := hid (HF.out ⟨#[71, 69, 84]⟩)
    rw [hgl] at HF2
    generalize findG m.data.toList s.data.toList es 0 = FF at *
    generalize findG gtL s.data.toList es 0 = GG at *
    have HRR := hid hR
    have HLL := hid hL
    clear hT hR hL hp HF hgl
    go_enter Tryz.func9, Tryz.ntmps9
    go_wp2_with fail
    refine (HF1.out _ (Below.refl _ _)).mono ?_
    rintro x w1 ⟨⟨vv, rfl, ow⟩, hb1⟩
    have HO := hid ow
    clear ow HF1
    by_cases q : FF.2.2 = 0
    · have hR := HRR.out
      have hLF : LG = FF := by rw [HLL.out, if_neg (fun h => h.1 q)]
      rw [hLF, if_pos q] at hR
      subst hR
      have hq : (FF.2.2 != 0) = false := by rw [q]; rfl
      clear HRR HLL HF2 hLF
      go_wp2_with fail
      refine bodyPost_ret (v := .tuple #[.int .i64 FF.1, vv]) (by simp [results, Tryz.results9, go_sem]) rfl ?_
      exact ⟨⟨_, rfl, HO.out⟩, hb1⟩
    · have hq : (FF.2.2 != 0) = true := by simpa using q
      by_cases hh : m.data.toList = hdL
      · rw [decide_eq_true hh] at hbe
        have hR := HRR.out
        have hLF : LG = GG := by rw [HLL.out, if_pos ⟨q, hh⟩]
        rw [hLF] at hR
        have HR2 := hid hR
        clear HRR HLL HO hLF hR
        go_wp2_with fail
        refine (HF2.out _ hb1).mono ?_
        rintro x w2 ⟨⟨vg, rfl, og⟩, hb2⟩
        have hB := bel_of hb1 hb2
        have HO2 := hid (owns_base og hb1.size)
        have hR := HR2.out
        clear og HF2 HR2
        by_cases q2 : GG.2.2 = 0
        · rw [if_pos q2] at hR
          subst hR
          have hq2 : (GG.2.2 != 0) = false := by rw [q2]; rfl
          go_wp2_with fail
          refine bodyPost_ret (v := .tuple #[.int .i64 GG.1, vg]) (by simp [results, Tryz.results9, go_sem]) rfl ?_
          exact ⟨⟨_, rfl, HO2.out⟩, hB⟩
        · rw [if_neg q2] at hR
          subst hR
          have hq2 : (GG.2.2 != 0) = true := by simpa using q2
          go_wp2_with fail
          refine bodyPost_ret (v := .tuple #[.int .i64 (-1), .slice none 0 0]) (by simp [results, Tryz.results9, go_sem]) rfl ?_
          exact ⟨⟨_, rfl, World.ownsRow_nil _ _ _ _⟩, hB⟩
      · rw [decide_eq_false hh] at hbe
        have hR := HRR.out
        have hLF : LG = FF := by rw [HLL.out, if_neg (fun h => hh h.2)]
        rw [hLF, if_neg q] at hR
        subst hR
        clear HRR HLL HF2 hLF
        go_wp2_with fail
        refine bodyPost_ret (v := .tuple #[.int .i64 (-1), .slice none 0 0]) (by simp [results, Tryz.results9, go_sem]) rfl ?_
        exact ⟨⟨_, rfl, World.ownsRow_nil _ _ _ _⟩, hb1⟩
end Go.Proofs.YtpfendckgeoonaaGreatDoor
