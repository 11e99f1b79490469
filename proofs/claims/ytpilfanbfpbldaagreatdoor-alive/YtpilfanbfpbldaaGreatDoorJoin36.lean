/- Texts that follow one another, joined. -/
import Derived.Test.YtpilfanbfpbldaaGreatDoorJoin35
import Derived.KernelRfl
import Derived.Test.YtpilfanbfpbldaaGreatDoorJoin04
import Derived.Deep.RegionLaw
/- The statement's own small configuration. -/
namespace Go.Proofs.YtpilfanbfpbldaaGreatDoor
open Go.RowKit

theorem flatMap_get {α : Type} {sz : Nat} {f : α → List Value} (hf : ∀ x, (f x).length = sz) : ∀ (l : List α) (i : Nat) (h : i < l.length) (j : Nat) (v : Value), (f l[i])[j]? = some v → (l.flatMap f)[i * sz + j]? = some v
  | [], i, h, _, _, _ => absurd h (by simp)
  | x :: r, 0, _, j, v, hv => by
    rw [List.flatMap_cons]
    simp only [Nat.zero_mul, Nat.zero_add]
    simp only [List.getElem_cons_zero] at hv
    obtain ⟨hj, rfl⟩ := List.getElem?_eq_some_iff.1 hv
    rw [List.getElem?_append_left hj]; exact hv
  | x :: r, i + 1, h, j, v, hv => by
    have ih := flatMap_get hf r i (by simpa using h) j v (by simpa using hv)
    rw [List.flatMap_cons, List.getElem?_append_right (by rw [hf x, Nat.succ_mul]; omega), hf x]
    rw [show (i + 1) * sz + j - sz = i * sz + j by rw [Nat.succ_mul]; omega]
    exact ih
theorem mu_of_block {α : Type} {sz : Nat} {f : α → List Value} (hf : ∀ x, (f x).length = sz) {l : List α} {g : Nat} {cur : Array Value} {e : TypeId} {w : World} (hb : w.heap[g]? = some (.cells cur e (0, 0))) (hc : cur.toList = l.flatMap f) : MuAt sz f l (some ⟨g, 0, none⟩) w := fun i hi => by
  refine ⟨g, 0, rfl, (Array.getElem?_eq_some_iff.1 hb).1, fun j v hv => ?_⟩
  have := flatMap_get hf l i hi j v hv
  rw [Lib.cell_of_heap hb, Nat.zero_add, ← Array.getElem?_toList, hc]
  exact this
theorem six_alloc (w : World) (o1 o2 o3 o4 o5 o6 : Obj) : Below w.heap.size w ((((((w.alloc o1).alloc o2).alloc o3).alloc o4).alloc o5).alloc o6) ∧ ((((((w.alloc o1).alloc o2).alloc o3).alloc o4).alloc o5).alloc o6).heap[w.heap.size + 1 + 1 + 1 + 1]? = some o5 := by
  have b1 := (Below.refl w.heap.size w).alloc (Nat.le_refl _) o1
  have b2 := b1.alloc b1.size o2
  have b3 := b2.alloc b2.size o3
  have b4 := b3.alloc b3.size o4
  have b5 := b4.alloc b4.size o5
  have b6 := b5.alloc b5.size o6
  refine ⟨b6, ?_⟩
  have hz : ((((w.alloc o1).alloc o2).alloc o3).alloc o4).heap.size = w.heap.size + 1 + 1 + 1 + 1 := by simp
  have hn := heap_alloc_new ((((w.alloc o1).alloc o2).alloc o3).alloc o4) o5
  rw [hz] at hn
  generalize hW : (((((w.alloc o1).alloc o2).alloc o3).alloc o4).alloc o5) = W at *
  have c := (Below.refl W.heap.size W).alloc (Nat.le_refl _) o6
  have hl : w.heap.size + 1 + 1 + 1 + 1 < W.heap.size := (Array.getElem?_eq_some_iff.1 hn).1
  rw [c.block _ hl]
  exact hn
def smallR : List Rt := [⟨⟨#[71, 69, 84]⟩, ⟨#[47, 104, 105, 47, 58, 110, 97, 109, 101]⟩, ⟨2, 200, ⟨#[]⟩, ⟨#[110, 97, 109, 101]⟩⟩⟩, ⟨⟨#[71, 69, 84]⟩, ⟨#[47, 117, 112]⟩, ⟨4, 200, ⟨#[]⟩, ⟨#[]⟩⟩⟩, ⟨⟨#[71, 69, 84]⟩, ⟨#[47, 108, 97, 98, 101, 108, 47, 42, 120]⟩, ⟨3, 204, ⟨#[88, 45, 73, 116]⟩, ⟨#[120]⟩⟩⟩]
set_option maxRecDepth 100000 in
set_option maxHeartbeats 1000000 in
theorem small_any (w : World) :
    Calls Tryz.prog 5 #[.bool false] w fun x w' => (∃ g, w.heap.size < g ∧ x = .returned (.agg #[.int .i64 200, .int .i64 50, .slice (some ⟨g, 0, none⟩) 3 3, .slice none 0 0]) ∧ MuAt 6 Rt.cells smallR (some ⟨g, 0, none⟩) w') ∧ Below w.heap.size w w' := by
  go_enter Tryz.func5, Tryz.ntmps5
  go_wp2
  refine bodyPost_ret (v := .agg #[.int .i64 200, .int .i64 50, .slice (some ⟨w.heap.size + 1 + 1 + 1 + 1, 0, none⟩) 3 3, .slice none 0 0]) (by simp [results, Tryz.results5, go_sem]) rfl ?_
  refine ⟨⟨w.heap.size + 1 + 1 + 1 + 1, by omega, rfl, ?_⟩, (six_alloc w _ _ _ _ _ _).1⟩
  refine mu_of_block (sz := 6) (f := Rt.cells) (l := smallR) (fun _ => rfl) (six_alloc w _ _ _ _ _ _).2 ?_
  rfl
end Go.Proofs.YtpilfanbfpbldaaGreatDoor

/- The small configuration's answers, reckoned. -/
namespace Go.Proofs.YtpilfanbfpbldaaGreatDoor
open Go.RowKit

def smW (b : Bool) : List Wr := if b = true then [⟨3, ⟨#[]⟩, ⟨#[]⟩, 0⟩] else []
def smC (b : Bool) : Cf := ⟨200, 50, smallR, smW b⟩
def askHello : List UInt8 := [71, 69, 84, 32, 47, 104, 105, 47, 121, 111, 117, 32, 72, 84, 84, 80, 47, 49, 46, 49, 13, 10, 72, 111, 115, 116, 58, 32, 97, 13, 10, 13, 10]
def askUpset : List UInt8 := [71, 69, 84, 32, 47, 117, 112, 32, 72, 84, 84, 80, 47, 49, 46, 49, 13, 10, 72, 111, 115, 116, 58, 32, 97, 13, 10, 13, 10]
def askSneak : List UInt8 := [71, 69, 84, 32, 47, 108, 97, 98, 101, 108, 47, 97, 37, 48, 100, 37, 48, 97, 88, 32, 72, 84, 84, 80, 47, 49, 46, 49, 13, 10, 72, 111, 115, 116, 58, 32, 97, 13, 10, 13, 10]
def askCheat : List UInt8 := [71, 69, 84, 32, 47, 108, 97, 98, 101, 108, 47, 97, 37, 48, 100, 37, 48, 97, 88, 58, 32, 121, 32, 72, 84, 84, 80, 47, 49, 46, 49, 13, 10, 72, 111, 115, 116, 58, 32, 97, 13, 10, 13, 10]
def saidYou : List UInt8 := [72, 84, 84, 80, 47, 49, 46, 49, 32, 50, 48, 48, 32, 79, 75, 13, 10, 67, 111, 110, 116, 101, 110, 116, 45, 76, 101, 110, 103, 116, 104, 58, 32, 51, 13, 10, 13, 10, 121, 111, 117]
def saidSaved : List UInt8 := [72, 84, 84, 80, 47, 49, 46, 49, 32, 53, 48, 48, 32, 73, 110, 116, 101, 114, 110, 97, 108, 32, 83, 101, 114, 118, 101, 114, 32, 69, 114, 114, 111, 114, 13, 10, 67, 111, 110, 116, 101, 110, 116, 45, 76, 101, 110, 103, 116, 104, 58, 32, 53, 13, 10, 13, 10, 115, 97, 118, 101, 100]
def saidShut : List UInt8 := [72, 84, 84, 80, 47, 49, 46, 49, 32, 53, 48, 48, 32, 73, 110, 116, 101, 114, 110, 97, 108, 32, 83, 101, 114, 118, 101, 114, 32, 69, 114, 114, 111, 114, 13, 10, 67, 111, 110, 116, 101, 110, 116, 45, 76, 101, 110, 103, 116, 104, 58, 32, 48, 13, 10, 67, 111, 110, 110, 101, 99, 116, 105, 111, 110, 58, 32, 99, 108, 111, 115, 101, 13, 10, 13, 10]
def saidFive : List UInt8 := [72, 84, 84, 80, 47, 49, 46, 49, 32, 53, 48, 48, 32, 73, 110, 116, 101, 114, 110, 97, 108, 32, 83, 101, 114, 118, 101, 114, 32, 69, 114, 114, 111, 114, 13, 10, 67, 111, 110, 116, 101, 110, 116, 45, 76, 101, 110, 103, 116, 104, 58, 32, 48, 13, 10, 13, 10]
def saidBad : List UInt8 := [72, 84, 84, 80, 47, 49, 46, 49, 32, 52, 48, 48, 32, 66, 97, 100, 32, 82, 101, 113, 117, 101, 115, 116, 13, 10, 67, 111, 110, 116, 101, 110, 116, 45, 76, 101, 110, 103, 116, 104, 58, 32, 48, 13, 10, 67, 111, 110, 110, 101, 99, 116, 105, 111, 110, 58, 32, 99, 108, 111, 115, 101, 13, 10, 13, 10]
def askL (k : Nat) : List UInt8 := if k = 0 then askHello else if k = 1 then askUpset else if k = 2 then askSneak else askCheat
def saidL (k : Nat) (b : Bool) : List UInt8 := if k = 0 then saidYou else if k = 1 then (if b = true then saidSaved else saidShut) else if k = 2 then saidFive else saidBad
def hdrF (t : List UInt8) (n : Nat) : FrameR := (0, [71, 69, 84], t, [([72, 111, 115, 116], [97])], [], n)
theorem fr_none : frameG [] 200 50 = frameBad 2 := by kernel_rfl
theorem fr_hello : frameG askHello 200 50 = hdrF [47, 104, 105, 47, 121, 111, 117] 33 := by kernel_rfl
theorem fr_upset : frameG askUpset 200 50 = hdrF [47, 117, 112] 29 := by kernel_rfl
theorem fr_sneak : frameG askSneak 200 50 = hdrF [47, 108, 97, 98, 101, 108, 47, 97, 37, 48, 100, 37, 48, 97, 88] 41 := by kernel_rfl
theorem fr_cheat : frameG askCheat 200 50 = frameBad 3 := by kernel_rfl
theorem an_hello (b : Bool) : textS (smC b) (hdrF [47, 104, 105, 47, 121, 111, 117] 33) = saidYou ∧ (ansS (smC b) (hdrF [47, 104, 105, 47, 121, 111, 117] 33)).cl = false ∧ (ledS (smC b) (hdrF [47, 104, 105, 47, 121, 111, 117] 33)).st = 200 ∧ (ledS (smC b) (hdrF [47, 104, 105, 47, 121, 111, 117] 33)).ro = 0 := by
  cases b <;> exact ⟨by kernel_rfl, by kernel_rfl, by kernel_rfl, by kernel_rfl⟩
theorem an_upset (b : Bool) : textS (smC b) (hdrF [47, 117, 112] 29) = saidL 1 b ∧ (ansS (smC b) (hdrF [47, 117, 112] 29)).cl = !b ∧ (ledS (smC b) (hdrF [47, 117, 112] 29)).st = 200 ∧ (ledS (smC b) (hdrF [47, 117, 112] 29)).ro = 1 := by
  cases b <;> exact ⟨by kernel_rfl, by kernel_rfl, by kernel_rfl, by kernel_rfl⟩
theorem an_sneak (b : Bool) : textS (smC b) (hdrF [47, 108, 97, 98, 101, 108, 47, 97, 37, 48, 100, 37, 48, 97, 88] 41) = saidFive ∧ (ansS (smC b) (hdrF [47, 108, 97, 98, 101, 108, 47, 97, 37, 48, 100, 37, 48, 97, 88] 41)).cl = false ∧ (ledS (smC b) (hdrF [47, 108, 97, 98, 101, 108, 47, 97, 37, 48, 100, 37, 48, 97, 88] 41)).st = 200 ∧ (ledS (smC b) (hdrF [47, 108, 97, 98, 101, 108, 47, 97, 37, 48, 100, 37, 48, 97, 88] 41)).ro = 2 := by
  cases b <;> exact ⟨by kernel_rfl, by kernel_rfl, by kernel_rfl, by kernel_rfl⟩
theorem an_cheat : rendL [] (refSt 3) [] [] true = saidBad := by kernel_rfl
theorem give_one {C : Cf} {F : FrameR} {l : List UInt8} {out : List UInt8} {rq : Nat} {hs : List Int} {t : List UInt8} {cl : Bool} {ro : Nat} (h0 : frameG [] C.hd C.bd = frameBad 2) (hF : frameG l C.hd C.bd = F) (h1 : F.1 = 0) (hu : F.2.2.2.2.2 = l.length) (ht : textS C F = t) (hc : (ansS C F).cl = cl) (hs2 : (ledS C F).st = 200) (hr : (ledS C F).ro = ro) :
    giveS C ⟨[], out, rq, false, hs⟩ l = ⟨[], out ++ t, rq + 1, cl, hs.set ro ((hs[ro]?).getD 0 + 1)⟩ := by
  have hl : 0 < l.length := by
    cases l with
    | nil => rw [← hF, h0] at h1; exact absurd h1 (by decide)
    | cons => simp
  obtain ⟨n, hn⟩ : ∃ n, l.length = n + 1 := ⟨l.length - 1, by omega⟩
  unfold giveS
  simp only [List.nil_append, List.length_nil, Nat.zero_add]
  rw [giveL, if_neg (by simp), hF, if_neg (by rw [h1]; decide), if_pos h1]
  have ho : oneS C F ⟨l, out, rq, false, hs⟩ = ⟨[], out ++ t, rq + 1, cl, hs.set ro ((hs[ro]?).getD 0 + 1)⟩ := by
    unfold oneS hitS
    rw [ht, hc, if_pos hs2, hr, hu, List.drop_length]
    unfold sayS
    cases cl <;> rfl
  rw [ho, hn, giveL]
  cases cl
  · rw [if_neg (by simp)]
    simp only [h0]
    exact if_pos rfl
  · rw [if_pos rfl]
theorem alive_plain (b : Bool) (k : Nat) (hk : k < 4) (out : List UInt8) (rq : Nat) (hs : List Int) :
    giveS (smC b) ⟨[], out, rq, false, hs⟩ (askL k) = ⟨[], out ++ saidL k b, if k < 3 then rq + 1 else rq, decide (k = 3) || (decide (k = 1) && !b), if k < 3 then hs.set k ((hs[k]?).getD 0 + 1) else hs⟩ := by
  match k, hk with
  | 0, _ => exact give_one fr_none fr_hello rfl rfl (an_hello b).1 (an_hello b).2.1 (an_hello b).2.2.1 (an_hello b).2.2.2
  | 1, _ =>
    have := give_one (C := smC b) (out := out) (rq := rq) (hs := hs) fr_none fr_upset rfl rfl (an_upset b).1 (an_upset b).2.1 (an_upset b).2.2.1 (an_upset b).2.2.2
    cases b <;> exact this
  | 2, _ => exact give_one fr_none fr_sneak rfl rfl (an_sneak b).1 (an_sneak b).2.1 (an_sneak b).2.2.1 (an_sneak b).2.2.2
  | 3, _ =>
    have e : frameG (askL 3) (smC b).hd (smC b).bd = frameBad 3 := fr_cheat
    unfold giveS
    simp only [List.nil_append, List.length_nil, Nat.zero_add]
    rw [giveL, if_neg (by simp)]
    simp only [e]
    rw [if_neg (by decide), if_neg (by decide)]
    have e2 : (frameBad 3).1 = 3 := rfl
    rw [e2]
    unfold noS
    rw [an_cheat]
    rfl
end Go.Proofs.YtpilfanbfpbldaaGreatDoor

/- How great what is framed can be, and how great its answer. -/
namespace Go.Proofs.YtpilfanbfpbldaaGreatDoor
open Go.RowKit

theorem split_le {l x : List UInt8} (h : x ∈ Lib.split l [32]) : x.length ≤ l.length := by
  have e : (Pm.partsB ⟨l.toArray⟩).map (·.data.toList) = Lib.split l [32] := Pm.partsB_data ⟨l.toArray⟩
  rw [← e] at h
  obtain ⟨b, hb, rfl⟩ := List.mem_map.1 h
  have h1 := Pm.partsB_le hb
  have h2 : (ByteArray.mk l.toArray).size = l.length := by show l.toArray.size = l.length; simp
  have h3 : b.data.toList.length = b.size := by simp
  omega
theorem first_le (l : List UInt8) : (Pm.firstS l).2.1.length ≤ l.length ∧ (Pm.firstS l).2.2.length ≤ l.length := by
  unfold Pm.firstS
  split
  · rename_i a b c h
    have ha : a ∈ Lib.split l [32] := by rw [h]; simp
    have hb : b ∈ Lib.split l [32] := by rw [h]; simp
    split
    · split
      · exact ⟨split_le ha, split_le hb⟩
      · exact ⟨Nat.zero_le _, Nat.zero_le _⟩
    · exact ⟨Nat.zero_le _, Nat.zero_le _⟩
  · exact ⟨Nat.zero_le _, Nat.zero_le _⟩
theorem headS_mt (M : Nat) (f : Nat) : ∀ (first : Bool) (l : List UInt8) (lim : Nat) (m tg : List UInt8) (fs : List Pm.Fld) (u : Nat), l.length ≤ M → m.length ≤ M → tg.length ≤ M → (Pm.headS f first l lim m tg fs u).1 = 0 → (Pm.headS f first l lim m tg fs u).2.1.length ≤ M ∧ (Pm.headS f first l lim m tg fs u).2.2.1.length ≤ M := by
  induction f with
  | zero => intro first l lim m tg fs u _ _ _ h; exact absurd (show (2 : Int) = 0 from h) (by decide)
  | succ f ih =>
    intro first l lim m tg fs u hl hm ht h
    rw [headS_succ] at h ⊢
    have hd : (l.drop (Pm.lineS l lim 5).2.2).length ≤ M := by rw [List.length_drop]; omega
    by_cases h2 : (Pm.lineS l lim 5).1 ≠ 0
    · rw [if_pos h2] at h; exact absurd h h2
    · have hk := Pm.lineS_ok (l := l) (lim := lim) (long := 5) (by decide) (by omega)
      rw [if_neg h2] at h ⊢
      by_cases h3 : first = true
      · rw [if_pos h3] at h ⊢
        have hf := first_le (Pm.lineS l lim 5).2.1
        by_cases h4 : (Pm.firstS (Pm.lineS l lim 5).2.1).1 ≠ 0
        · rw [if_pos h4] at h; exact absurd h h4
        · rw [if_neg h4] at h ⊢
          exact ih _ _ _ _ _ _ _ hd (by omega) (by omega) h
      · rw [if_neg h3] at h ⊢
        by_cases h4 : (Pm.lineS l lim 5).2.1 = []
        · rw [if_pos h4]; exact ⟨hm, ht⟩
        · rw [if_neg h4] at h ⊢
          cases h5 : Pm.fieldS (Pm.lineS l lim 5).2.1 with
          | none => rw [h5] at h; exact absurd (show (3 : Int) = 0 from h) (by decide)
          | some f' =>
            rw [h5] at h
            exact ih _ _ _ _ _ _ _ hd hm ht h
theorem chunksS_body (hd : Nat) (bd : Int) (f : Nat) : ∀ (l body : List UInt8) (u : Nat), (chunksS f l hd bd body u).1 = 0 → (chunksS f l hd bd body u).2.1.length ≤ body.length + l.length := by
  induction f with
  | zero => intro l body u h; exact absurd (show (2 : Int) = 0 from h) (by decide)
  | succ f ih =>
    intro l body u h
    have hl := line_len l 10 3
    rw [chunksS_succ] at h ⊢
    by_cases h2 : sizeE l ≠ 0
    · rw [if_pos h2] at h; exact absurd h h2
    · rw [if_neg h2] at h ⊢
      by_cases h3 : 0 < sizeN l
      · rw [if_pos h3] at h ⊢
        have hc := chunkS_len (l.drop (Pm.lineS l 10 3).2.2) (sizeN l).toNat (bd - body.length)
        generalize chunkS (l.drop (Pm.lineS l 10 3).2.2) (sizeN l).toNat (bd - body.length) = C at hc h ⊢
        rw [List.length_drop] at hc
        by_cases h5 : C.1 ≠ 0
        · rw [if_pos h5] at h; exact absurd h h5
        · rw [if_neg h5] at h ⊢
          have := ih _ _ _ h
          rw [List.length_append, List.length_drop] at this
          omega
      · rw [if_neg h3] at h ⊢
        generalize Pm.trailS (hd + 1) (l.drop (Pm.lineS l 10 3).2.2) hd 0 = T at h ⊢
        by_cases h5 : T.1 ≠ 0
        · rw [if_pos h5] at h; exact absurd h h5
        · rw [if_neg h5]; simp
theorem bodyS_body (l : List UInt8) (hd : Nat) (bd : Int) (c : Bool) (n : Nat) (h : (bodyS l hd bd c n).1 = 0) : (bodyS l hd bd c n).2.1.length ≤ l.length := by
  unfold bodyS at h ⊢
  split
  · rename_i hc
    rw [if_pos hc] at h
    have := chunksS_body hd bd (l.length + 1) l [] 0 h
    simpa using this
  · split
    · exact Nat.zero_le _
    · simp only [List.length_take]; omega
structure FrSm (l : List UInt8) (F : FrameR) : Prop where
  m : F.2.1.length ≤ l.length
  t : F.2.2.1.length ≤ l.length
  n : F.2.2.2.1.length ≤ 500
  f : ∀ x ∈ F.2.2.2.1, x.1.length + x.2.length ≤ 500
  b : F.2.2.2.2.1.length ≤ l.length
  u : 0 < F.2.2.2.2.2
  v : F.2.2.2.2.2 ≤ l.length
theorem frame_small (l : List UInt8) (hd bd : Int) (h : (frameG l hd bd).1 = 0) : FrSm l (frameG l hd bd) := by
  unfold frameG at h ⊢
  split at h
  · rename_i hr
    rw [if_pos hr]
    obtain ⟨-, s2, -, s4⟩ := frameS_say l hd.toNat bd
    have sf := frameS_flds l hd.toNat bd
    refine ⟨?_, ?_, by omega, ?_, ?_, s2 h, s4⟩
    all_goals
      unfold frameS at h ⊢
      have hm := headS_mt l.length (hd.toNat + 1) true l hd.toNat [] [] [] 0 (Nat.le_refl _) (Nat.zero_le _) (Nat.zero_le _)
      have hf := headS_flds (hd.toNat + 1) true l hd.toNat [] [] [] 0
      generalize Pm.headS (hd.toNat + 1) true l hd.toNat [] [] [] 0 = H at *
      simp only at h ⊢
      split at h
      · rename_i h1; exact absurd h h1
      rename_i h1
      rw [if_neg h1]
      have h1' : H.1 = 0 := by omega
      split at h
      · rename_i h2; exact absurd h h2
      rename_i h2
      rw [if_neg h2]
      split at h
      · rename_i h3; exact absurd h h3
      rename_i h3
      rw [if_neg h3]
    · exact (hm h1').1
    · exact (hm h1').2
    · intro x hx
      rcases (hf h1').2 x hx with q | q
      · simp at q
      · omega
    · have := bodyS_body (l.drop H.2.2.2.2) hd.toNat bd (framOf (fldsOf H.2.2.2.1) bd).2.1 (framOf (fldsOf H.2.2.2.1) bd).2.2.toNat (by omega)
      rw [List.length_drop] at this
      simp only; omega
  · exact absurd h (by decide)
theorem fldsL_add (a b : List Pr2) : (fldsL (a ++ b)).length = (fldsL a).length + (fldsL b).length := by
  unfold fldsL; rw [List.flatMap_append, List.length_append]
theorem fldsL_one (n v : ByteArray) : (fldsL [(n, v)]).length = n.size + v.size + 4 := by
  unfold fldsL; simp [fldL]; omega
theorem fldsL_all {K : Nat} : ∀ (fs : List Pr2), (∀ p ∈ fs, p.1.size + p.2.size ≤ K) → (fldsL fs).length ≤ fs.length * (K + 4)
  | [], _ => by simp [fldsL]
  | (n, v) :: r, h => by
    have h1 := h (n, v) (by simp)
    have h2 := fldsL_all r (fun p hp => h p (by simp [hp]))
    have e : fldsL ((n, v) :: r) = fldsL ([(n, v)] ++ r) := rfl
    rw [e, fldsL_add, fldsL_one, List.length_cons, Nat.succ_mul]
    simp only at h1
    omega
theorem ware_sum {x : Wr} {qf : List Prm} {qb : ByteArray} {G : Option An} {N : Nat} (hx : x.n.size ≤ 1048576 ∧ x.v.size ≤ 1048576) (hl : qf.length ≤ 500) (hf : ∀ p ∈ qf, p.1.size + p.2.size ≤ 500) (h : ∀ a, G = some a → (fldsL a.fs).length ≤ N) {a : An} (e : wareG x qf qb G = some a) : (fldsL a.fs).length ≤ N + 2097156 := by
  unfold wareG at e
  split at e
  · obtain ⟨b, hb, rfl⟩ := Option.map_eq_some_iff.1 e
    have := h b hb
    simp only [fldsL_add, fldsL_one]; omega
  split at e
  · split at e
    · have := h a e; omega
    · cases e; simp [fldsL]
  split at e
  · split at e
    · cases e; simp [fldsL]
    · have := h a e; omega
  split at e
  · cases G with
    | none => cases e; simp [fldsL]
    | some b => have := h a e; omega
  split at e
  · obtain ⟨b, hb, rfl⟩ := Option.map_eq_some_iff.1 e
    have h1 := h b hb
    simp only [fldsL_add]
    have h2 := fldsL_all (K := 1000) ((valsOf qf x.n.data.toList).map (fun v => (x.n, v))) (fun p hp => by
      obtain ⟨v, hv, rfl⟩ := List.mem_map.1 hp
      unfold valsOf at hv
      obtain ⟨q, hq, rfl⟩ := List.mem_map.1 hv
      obtain ⟨hq1, hq2⟩ := List.mem_filter.1 hq
      have hz := hf q hq1
      have hn : q.1.data.toList.length = x.n.data.toList.length := by
        rcases Nat.decEq q.1.data.toList.length x.n.data.toList.length with c | c
        · rw [Pm.alike_ne c] at hq2; exact absurd hq2 (by simp)
        · exact c
      have e1 : q.1.data.toList.length = q.1.size := by simp
      have e2 : x.n.data.toList.length = x.n.size := by simp
      simp only; omega)
    have h3 := valsOf_le qf x.n.data.toList
    rw [List.length_map] at h2
    omega
  · have := h a e; omega
theorem thr_sum {qf : List Prm} {qb : ByteArray} {h : Hn} {ps : List Prm} (hl : qf.length ≤ 500) (hf : ∀ p ∈ qf, p.1.size + p.2.size ≤ 500) (ht : h.t.size ≤ 1048576) (hp : ∀ p ∈ ps, p.2.size ≤ 4000000) : ∀ (ws : List Wr) (a : An), (∀ x ∈ ws, x.n.size ≤ 1048576 ∧ x.v.size ≤ 1048576) → thrG qf qb h ps ws = some a → (fldsL a.fs).length ≤ 6000000 + ws.length * 2097156
  | [], a, _, e => by
    have hs := st_small h.n.data.toList ps hp
    have e' : handG h qb ps = some a := e
    unfold handG at e'
    split at e'
    · cases e'; simp [fldsL]
    split at e'
    · cases e'; simp [fldsL]
    split at e'
    · cases e'; simp [fldsL]
    split at e'
    · cases e'; rw [fldsL_one]; omega
    · cases e'
  | x :: r, a, hw, e => by
    have := ware_sum (hw x (by simp)) hl hf (fun b hb => thr_sum hl hf ht hp r b (fun y hy => hw y (by simp [hy])) hb) (e := e)
    rw [List.length_cons]; omega
end Go.Proofs.YtpilfanbfpbldaaGreatDoor

/- A connection's send. -/
namespace Go.Proofs.YtpilfanbfpbldaaGreatDoor
open Go.RowKit

theorem infoU8 : (Tryz.prog.info? 5).map (fun i => (i.zero, i.size, i.bytes)) = some (some (.int .u8 0), 1, 1) := by kernel_rfl
theorem step_call {P : Program} {w : World} {ops : Array Oper} {o : Oper} {a : Act} {K : Act → World → Prop} {Q : Exit → Act → World → Prop} {E : Prop} {f : FuncId} {fn : Func} (hgd : o.guard = none) (hf : P.funcs[f]? = some fn) (hname : (fn.name == "runtime.NumGoroutine") = false) (hb : fn.body.isSome = true) (xs : Array Operand) (ts : Array TypeId)
    (ho : o.op = .call { callee := .value (.func f), args := xs, argTypes := ts }) (args : Array Value) (hx : xs.map a.eval = args) {R : World → Prop} {v : Value}
    (hc : Calls P f args w fun e w' => e = .returned v ∧ R w') (h : ∀ w', R w' → K (a.put o.dst v) w') :
    if Region.wanted o (yielded ops a.tmps) = true then Oper.wp P o a w K Q else E := by
  have hw : Region.wanted o (yielded ops a.tmps) = true := by simp [Region.wanted, hgd]
  rw [if_pos hw]
  obtain ⟨cd, hcd⟩ := Option.isSome_iff_exists.1 hb
  have hr := Go.MuLone.run_callFunc_enter (P := P) hf hname hcd args w
  have e : (execOp a.eval o).run P w = .ok (.enter f args) w := by
    unfold execOp
    simp only [ho]
    simp [resolve, invoke, go_sem]
    rw [hx]; exact hr
  unfold Oper.wp
  rw [e, Oper.upon_enter]
  exact hc.mono fun e w' ⟨h1, h2⟩ => by subst h1; exact h w' h2
/- what a connection is behind an answer -/
def shutB (cl : Bool) (held : ByteArray) : ByteArray := if cl = true then ⟨#[]⟩ else held
theorem str_bytes (l : List UInt8) (s : ByteArray) : Lib.byteCells l ++ Lib.strCells s = Lib.byteCells (l ++ s.data.toList) := by
  simp [Lib.byteCells, Lib.strCells]
structure SnI (V : Sv) (c : Nat) (vo : Value) (held : ByteArray) (out : List UInt8) (rq : Nat) (cl : Bool) (w : World) (W : World) : Prop where
  i : ∃ vo', CnI V c vo' held out rq cl W ∧ ∀ r, vo'.ownBlock = some r → vo.ownBlock = some r ∨ w.heap.size ≤ r
  k : Kx (c :: vo.ownBlock.toList) w W
theorem bytes_len (l : List UInt8) : (Lib.byteCells l).length = l.length := by simp [Lib.byteCells]
theorem sn_done {V : Sv} {c : Nat} {vo : Value} {held : ByteArray} {out : List UInt8} {rq : Nat} {cl : Bool} {w w1 w2 w3 : World} {ad : Option Addr} {n cap : Nat} {text : ByteArray} (I : CnI V c vo held out rq cl w) (lw : V.s < w.heap.size) (lh : V.h < w.heap.size) (hA : Below w.heap.size w w1) (hb : Below w1.heap.size w1 w2) (hO : OwnO V.w1.heap.size 5 (.slice ad n cap) (Lib.byteCells out ++ Lib.strCells text) w3) (hg : w2.grownBy w3 vo.ownBlock) (hr : ∀ r, (Value.slice ad n cap).ownBlock = some r → vo.ownBlock = some r ∨ w2.heap.size ≤ r) : SnI V c vo held (out ++ text.data.toList) rq cl w (w3.setCell ⟨c, 2, none⟩ (.slice ad n cap)) := by
  have hB2 := bel_of hA hb
  have hz := hB2.size
  have lc := I.lt
  have k1 : Kx (c :: vo.ownBlock.toList) w w2 := Kx.of hB2
  have k2 : Kx (c :: vo.ownBlock.toList) w2 w3 := Kx.grown hg (fun k hk => by rw [hk]; simp)
  have k3 : Kx (c :: vo.ownBlock.toList) w3 (w3.setCell ⟨c, 2, none⟩ (.slice ad n cap)) := Kx.set _ _ (by simp)
  have hnc : (Value.slice ad n cap).ownBlock ≠ some c := fun e => by
    rcases hr c e with q | q
    · exact I.o1 q
    · omega
  have hb3 : w3.heap[c]? = some (.cells (cnC V held vo rq cl) 81 (0, 0)) := by
    rw [hg.block c (by omega) (fun e => I.o1 e.symm), hB2.block c lc]; exact I.blk
  refine ⟨⟨.slice ad n cap, ⟨heap_set hb3 2 (.slice ad n cap), ?_, I.ge, I.n1, I.n2, hnc, fun e => ?_, fun e => ?_⟩, fun r e => ?_⟩, (k1.trans k2 (fun _ h => .inl h)).trans k3 (fun _ h => .inl h)⟩
  · rw [← str_bytes]
    exact hO.keep fun r e => Below.heap_setCell _ _ _ _ (fun q => hnc (by rw [e, q]))
  · rcases hr _ e with q | q
    · exact I.o2 q
    · omega
  · rcases hr _ e with q | q
    · exact I.o3 q
    · omega
  · rcases hr r e with q | q
    · exact .inl q
    · exact .inr (by omega)
set_option maxRecDepth 100000 in
set_option maxHeartbeats 4000000 in
theorem send_of (V : Sv) (c : Nat) (vo : Value) (held : ByteArray) (out : List UInt8) (rq : Nat) (cl : Bool) (m : ByteArray) (st : Int) (pa : Option Addr) (pn pc : Nat) (b : ByteArray) (acl : Bool) (text : ByteArray) (w : World) (I : CnI V c vo held out rq cl w) (lw : V.s < w.heap.size) (lh : V.h < w.heap.size) (lv : V.w1.heap.size ≤ w.heap.size) (hlen : out.length + text.size ≤ 140737488355328)
    (HR : ∀ W, Below w.heap.size w W → Calls Tryz.prog 36 #[.string m, .agg (anA st (.slice pa pn pc) b acl)] W fun e w' => e = .returned (.string text) ∧ Below W.heap.size W w') :
    Calls Tryz.prog 23 #[.pointer (some ⟨c, 0, none⟩), .string m, .agg (anA st (.slice pa pn pc) b acl)] w fun x w' => x = .returned (.tuple #[]) ∧ SnI V c vo (shutB acl held) (out ++ text.data.toList) rq (acl || cl) w w' := by
  obtain ⟨i0, hi, hz0, hz1, hz2⟩ := info_parts infoU8
  have hA := (Below.refl w.heap.size w).alloc (Nat.le_refl _) (.cells (anA st (.slice pa pn pc) b acl) 89)
  have b1 := heap_alloc_new w (.cells (anA st (.slice pa pn pc) b acl) 89)
  have z1 : (w.alloc (.cells (anA st (.slice pa pn pc) b acl) 89)).heap.size = w.heap.size + 1 := by simp
  have a0 : (w.alloc (.cells (anA st (.slice pa pn pc) b acl) 89)).cell? ⟨w.heap.size, 0, none⟩ = some (.int .i64 st) := by rw [Lib.cell_of_heap b1]; rfl
  have a1 : (w.alloc (.cells (anA st (.slice pa pn pc) b acl) 89)).cell? ⟨w.heap.size, 1, none⟩ = some (.slice pa pn pc) := by rw [Lib.cell_of_heap b1]; rfl
  have a2 : (w.alloc (.cells (anA st (.slice pa pn pc) b acl) 89)).cell? ⟨w.heap.size, 2, none⟩ = some (.string b) := by rw [Lib.cell_of_heap b1]; rfl
  have a3 : (w.alloc (.cells (anA st (.slice pa pn pc) b acl) 89)).cell? ⟨w.heap.size, 3, none⟩ = some (.bool acl) := by rw [Lib.cell_of_heap b1]; rfl
  have I1 := I.below hA
  obtain ⟨-, -, c2, -, -⟩ := I1.cells
  have lc := I1.lt
  have lc0 := I.lt
  have hvo : ∀ r, vo.ownBlock = some r → r < w.heap.size := fun r hr => (I.out.lt hr).2
  have HRR := hid HR
  have HI := hid I
  have HI1 := hid I1
  have HB1 := hid b1
  have hun : Tryz.prog.underlying 79 = some (.slice 5) := Tryz.underlying79
  have hus : Tryz.prog.underlying 9 = some .string := Tryz.underlying9
  have hsl : ∃ va vn vc, vo = .slice va vn vc := by obtain ⟨va, vc, e⟩ := I.out.sl; exact ⟨va, _, vc, e⟩
  obtain ⟨va, vn, vc, rfl⟩ := hsl
  clear HR I I1 b1
  go_enter Tryz.func23, Tryz.ntmps23
  go_upto_region 1 with fail
  generalize w.alloc (.cells (anA st (.slice pa pn pc) b acl) 89) = w1 at *
  have cd2 : w1.drew.cell? ⟨c, 2, none⟩ = some (.slice va vn vc) := c2
  go_region_law (first | (refine step_call (f := 36) rfl Tryz.func36 (by kernel_rfl) (by kernel_rfl) _ _ rfl #[.string m, .agg (anA st (.slice pa pn pc) b acl)] (by simp [Act.eval]) (HRR.out w1.drew hA.drew) ?_; intro w2 hb2; have hb2' : Below w1.heap.size w1 w2 := (Below.refl w1.heap.size w1).drew.trans hb2; obtain ⟨-, -, e2, -, -⟩ := (HI1.out.below hb2').cells; have lq2 : w.heap.size < w2.heap.size := Nat.lt_of_lt_of_le (by rw [z1]; omega) hb2'.size; have O2 := (HI1.out.below hb2').out; have B2 := (HI1.out.below hb2').blk; clear hb2) | (refine step_append_ownO w2 rfl (.tmp 10) (.tmp 13) 79 9 rfl V.w1.heap.size 5 i0 hun hus hi hz0 hz1 hz2 (.slice va vn vc) (Lib.byteCells out) (by simp [Act.eval]) O2 text (by simp [Act.eval]) (by rw [bytes_len]; exact hlen) (by omega) ?_; intro ad n cap w3 hO3 hg3 hr3; have e3 : w3.cell? ⟨c, 2, none⟩ = some (.slice va vn vc) := (by rw [World.cell?_of_block (w := w2) (hg3.block c (by omega) (fun e => HI.out.o1 e.symm))]; exact e2); have zf3 : w3.frozen? ⟨c, 2, none⟩ = false := (by rw [World.frozen?_of_block (w := w2) (hg3.block c (by omega) (fun e => HI.out.o1 e.symm))]; exact Lib.frozen_of_heap B2 2)))
  all_goals
    have SD := sn_done HI.out lw lh hA hb2' hO3 hg3 hr3
    have q3 : (w3.setCell ⟨c, 2, none⟩ (.slice ad n cap)).cell? ⟨w.heap.size, 3, none⟩ = some (.bool acl) := by
      rw [World.cell?_setCell_other _ _ _ _ (by simp), World.cell?_of_block (w := w2) (hg3.block w.heap.size lq2 (fun e => by have := hvo _ e.symm; omega)), cell_later hb2' a3]
    generalize w3.setCell ⟨c, 2, none⟩ (.slice ad n cap) = W at *
    obtain ⟨⟨vo', J, hr'⟩, kk⟩ := SD
    have HJ := hid J
    have HCL := hid (close_any V c vo' held _ rq cl W J)
    have lqW := block_lt_of_cell q3
    clear J e2 e3 zf3 O2 B2 hO3 hg3 hr3 HI HI1 HRR HB1 cd2 c2 a0 a1 a2 a3
    cases acl
    · go_wp2_with fail
      refine bodyPost_end (v := .tuple #[]) (by simp [results, Tryz.results23, go_sem]) rfl ?_
      exact ⟨rfl, ⟨vo', HJ.out, hr'⟩, kk⟩
    · go_wp2_with (go_at_call 37; refine HCL.out.mono ?_; rintro x w4 ⟨rfl, J4, k4⟩)
      refine bodyPost_end (v := .tuple #[]) (by simp [results, Tryz.results23, go_sem]) rfl ?_
      exact ⟨rfl, ⟨vo', J4, hr'⟩, kk.trans k4 (fun b hb => by simp at hb; subst hb; exact .inl (by simp))⟩
end Go.Proofs.YtpilfanbfpbldaaGreatDoor
