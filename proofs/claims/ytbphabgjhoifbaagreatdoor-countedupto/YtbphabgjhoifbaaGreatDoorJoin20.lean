/- Texts that follow one another, joined. -/
import Derived.Laws.RangeAny
import Derived.Test.YtbphabgjhoifbaaGreatDoorJoin02
import Derived.BigQuiet
import Derived.Deep.QuietTactic
import Derived.WalkMore
import Derived.Deep.LoopGhost
import Derived.Shelf.Strings.IndexAnyAll
import Derived.Test.YtbphabgjhoifbaaGreatDoorJoin17
import Derived.Deep.RegionHeld3
/- Runes and their bytes: what is told apart by the bytes below 128. -/
namespace Go.Proofs.YtbphabgjhoifbaaGreatDoor

theorem decode_span (s : ByteArray) (pos : Nat) (h : pos < s.size) (ha : 128 ≤ (s[pos]'h).toNat) :
    pos + (Utf8.decode s pos).2 ≤ s.size ∧ ∀ j, j < (Utf8.decode s pos).2 → 128 ≤ (s.get! (pos + j)).toNat := by
  have hn : ¬ (s[pos]'h).toNat < 128 := by omega
  have h0 : 128 ≤ (s.get! (pos + 0)).toNat := by rw [get_at s pos h]; exact ha
  have key : ∀ k, (decide (pos + k < s.size) && (s.get! (pos + k)).toNat / 64 == 2) = true → pos + k < s.size ∧ 128 ≤ (s.get! (pos + k)).toNat := by
    intro k hk
    simp only [Bool.and_eq_true, decide_eq_true_eq, beq_iff_eq] at hk
    omega
  have one : pos + 1 ≤ s.size ∧ ∀ j, j < 1 → 128 ≤ (s.get! (pos + j)).toNat := by
    refine ⟨by omega, fun j hj => ?_⟩
    obtain rfl : j = 0 := by omega
    exact h0
  simp only [Utf8.decode, get_at s pos h, hn, if_false]
  repeat' split
  all_goals first | exact one | skip
  · rename_i h1 _
    rw [Bool.and_eq_true] at h1
    have k1 := key 1 h1.2
    refine ⟨by simp only; omega, fun j hj => ?_⟩
    have hj2 : j < 2 := hj
    rcases (show j = 0 ∨ j = 1 by omega) with rfl | rfl
    · exact h0
    · exact k1.2
  · rename_i h1 _
    rw [Bool.and_eq_true, Bool.and_eq_true] at h1
    have k1 := key 1 h1.1.2
    have k2 := key 2 h1.2
    refine ⟨by simp only; omega, fun j hj => ?_⟩
    have hj2 : j < 3 := hj
    rcases (show j = 0 ∨ j = 1 ∨ j = 2 by omega) with rfl | rfl | rfl
    · exact h0
    · exact k1.2
    · exact k2.2
  · rename_i h1 _
    rw [Bool.and_eq_true, Bool.and_eq_true, Bool.and_eq_true] at h1
    have k1 := key 1 h1.1.1.2
    have k2 := key 2 h1.1.2
    have k3 := key 3 h1.2
    refine ⟨by simp only; omega, fun j hj => ?_⟩
    have hj2 : j < 4 := hj
    rcases (show j = 0 ∨ j = 1 ∨ j = 2 ∨ j = 3 by omega) with rfl | rfl | rfl | rfl
    · exact h0
    · exact k1.2
    · exact k2.2
    · exact k3.2
theorem decode_valid (s : ByteArray) (pos : Nat) (h : pos < s.size) (ha : 128 ≤ (s[pos]'h).toNat) : Utf8.valid (Utf8.decode s pos).1 = true := by
  have hn : ¬ (s[pos]'h).toNat < 128 := by omega
  have hb : ∀ k, (s.get! (pos + k)).toNat < 256 := fun k => (s.get! (pos + k)).toNat_lt
  have b0 := hb 0
  have b1 := hb 1
  rw [get_at s pos h] at b0
  have e : Utf8.valid ((Utf8.runeError : Nat) : Int) = true := by decide
  simp only [Utf8.decode, get_at s pos h, hn, if_false]
  repeat' split
  all_goals first | (with_reducible exact e) | skip
  · rename_i h1 h2
    rw [Bool.and_eq_true] at h1
    have h3 : (s[pos]'h).toNat / 32 = 6 := by simpa using h1.1
    simp only [Utf8.valid, Bool.or_eq_true, Bool.and_eq_true, decide_eq_true_eq]
    left
    omega
  · rename_i h1 h2
    rw [Bool.and_eq_true] at h2
    exact h2.2
  · rename_i h1 h2
    rw [Bool.and_eq_true] at h2
    exact h2.2
theorem encode_high (r : Nat) (h : 128 ≤ r) (hv : Utf8.valid (r : Int) = true) :
    (∃ a b : UInt8, 128 ≤ b.toNat ∧ Utf8.encode (r : Int) = ⟨#[a, b]⟩) ∨ (∃ a b c : UInt8, 128 ≤ c.toNat ∧ Utf8.encode (r : Int) = ⟨#[a, b, c]⟩) ∨ (∃ a b c d : UInt8, 128 ≤ d.toNat ∧ Utf8.encode (r : Int) = ⟨#[a, b, c, d]⟩) := by
  have hl : ∀ x : Nat, 128 ≤ (UInt8.ofNat (128 + x % 64)).toNat := fun x => by
    rw [UInt8.toNat_ofNat']
    have : x % 64 < 64 := Nat.mod_lt _ (by decide)
    rw [Nat.mod_eq_of_lt (by omega)]
    omega
  have hn : ¬ r < 128 := by omega
  unfold Utf8.encode
  simp only [hv, if_true, Int.toNat_natCast, hn, if_false]
  by_cases h1 : r < 2048
  · left
    exact ⟨_, _, hl r, by rw [if_pos h1]⟩
  · rw [if_neg h1]
    by_cases h2 : r < 65536
    · right; left
      exact ⟨_, _, _, hl r, by rw [if_pos h2]⟩
    · right; right
      exact ⟨_, _, _, _, hl r, by rw [if_neg h2]⟩
end Go.Proofs.YtbphabgjhoifbaaGreatDoor

/- A rune beyond ASCII is not among the bytes that end a line. -/
namespace Go.Proofs.YtbphabgjhoifbaaGreatDoor
open Go.RowKit

set_option maxHeartbeats 1000000 in
theorem validRune_high (r : Nat) (w : World) (hv : Utf8.valid (r : Int) = true) :
    Calls Tryz.prog 199 #[.int .i32 r] w fun e w' => e = .returned (.bool true) ∧ w' = w := by
  unfold Utf8.valid at hv
  simp only [Bool.or_eq_true, Bool.and_eq_true, decide_eq_true_eq] at hv
  rcases hv with ⟨h1, h2⟩ | ⟨h1, h2⟩
  · go_enter Tryz.func199, Tryz.ntmps199
    go_wp2
    go_ret
    exact ⟨rfl, rfl⟩
  · have h3 : (0 : Int) ≤ r := by omega
    have h4 : decide ((r : Int) < 55296) = false := decide_eq_false (by omega)
    have h5 : (57343 : Int) < r := by omega
    go_enter Tryz.func199, Tryz.ntmps199
    go_wp2
    go_ret
    exact ⟨rfl, rfl⟩
def endersB : ByteArray := ⟨#[13, 10, 0]⟩
theorem high_none (l : List UInt8) (h : ∀ x ∈ l, x.toNat < 128) (c : UInt8) (hc : 128 ≤ c.toNat) : Lib.indexByte l c = -1 := by
  induction l with
  | nil => rfl
  | cons x l ih =>
    have hx := h x (by simp)
    rw [Lib.indexByte, ih (fun y hy => h y (by simp [hy]))]
    have hne : (x == c) = false := by
      rw [beq_eq_false_iff_ne]; intro e; rw [e] at hx; omega
    rw [hne]; rfl
theorem ib_none (s : ByteArray) (h : ∀ x ∈ s.data.toList, x.toNat < 128) (b : UInt8) (hb : 128 ≤ b.toNat) (W : World) : Calls Tryz.prog 131 #[.string s, .int .u8 b.toNat] W fun e w' => e = .returned (.int .i64 (-1)) ∧ w' = W := by
  refine (Tryz.strings_IndexByte s (b.toNat : Int) W).mono fun e w' h1 => ⟨h1.1.trans ?_, h1.2⟩
  have e2 : ((b.toNat : Int)).toNat.toUInt8 = b := by simp
  rw [e2, high_none _ h b hb]
set_option maxRecDepth 100000 in
set_option maxHeartbeats 4000000 in
theorem indexRune_high (r : Nat) (w : World) (h1 : 128 ≤ r) (h2 : r ≤ 2147483647) (h3 : r ≠ 65533) (hv : Utf8.valid (r : Int) = true) :
    Calls Tryz.prog 152 #[.string endersB, .int .i32 r] w fun e w' => e = .returned (.int .i64 (-1)) ∧ Below w.heap.size w w' := by
  have HV := hid (fun W => validRune_high r W hv)
  have e1 : decide ((r : Int) < 128) = false := decide_eq_false (by omega)
  have e0 : (0 : Int) ≤ r := by omega
  have e2 : ((r : Int) == 65533) = false := by rw [beq_eq_false_iff_ne]; omega
  have hsz : endersB.size = 3 := rfl
  have hen := encode_high r h1 hv
  clear hv h3
  rcases hen with ⟨a, b, hb, hen⟩ | ⟨a, b, c, hb, hen⟩ | ⟨a, b, c, d, hb, hen⟩
  · obtain ⟨rs, hrs⟩ : ∃ rs : ByteArray, rs = ⟨#[a, b]⟩ := ⟨_, rfl⟩
    have hz : rs.size = 2 := by rw [hrs]; rfl
    have hb1 : rs[1]'(by omega) = b := by subst hrs; rfl
    have hs1 : endersB[1]'(by decide) = 10 := rfl
    have hx : ((10 : Int) != (b.toNat : Int)) = true := by simp; omega
    have hw2 : IntKind.i64.wrap 2 = 2 := by decide
    have HIB := hid (fun W => ib_none (endersB.extract 2 3) (by decide) b hb W)
    rw [← hrs] at hen
    clear hrs
    go_enter Tryz.func152, Tryz.ntmps152
    go_wp2_with (go_at_call 199; refine (HV.out _).mono ?_; rintro e w' ⟨rfl, rfl⟩)
    go_step3
    go_wp2_with fail
    go_loopw [9, 10] (fun i f wr => i = .int .i64 1 ∧ f = .int .i64 0 ∧ wr = w') (fun _ _ _ => 0)
    case atStart => exact ⟨rfl, rfl, rfl⟩
    case round =>
      obtain ⟨rfl, rfl, rfl⟩ := hrel
      go_wp2_with fail
      go_step3
      go_wp2_with fail
      go_quiet (fail)
      have hbq : Below wr.heap.size wr (wr.drewN nq) := below_drewN (Below.refl _ _) _
      generalize wr.drewN nq = wq at *
      go_wp2_with fail
      go_quiet (first | (go_at_call 131; exact Calls.quiet_of_same (HIB.out _)))
      go_wp2_with fail
      rw [Exit.noGoto_ret]
      go_wp2_with fail
      try rw [Exit.noGoto_ret]
      go_ret
      exact ⟨rfl, below_drewN hbq _⟩
  · obtain ⟨rs, hrs⟩ : ∃ rs : ByteArray, rs = ⟨#[a, b, c]⟩ := ⟨_, rfl⟩
    have hz : rs.size = 3 := by rw [hrs]; rfl
    have hb1 : rs[2]'(by omega) = c := by subst hrs; rfl
    have hs1 : endersB[2]'(by decide) = 0 := rfl
    have hx : ((0 : Int) != (c.toNat : Int)) = true := by simp; omega
    have hw2 : IntKind.i64.wrap 3 = 3 := by decide
    have HIB := hid (fun W => ib_none (endersB.extract 3 3) (by decide) c hb W)
    rw [← hrs] at hen
    clear hrs
    go_enter Tryz.func152, Tryz.ntmps152
    go_wp2_with (go_at_call 199; refine (HV.out _).mono ?_; rintro e w' ⟨rfl, rfl⟩)
    go_step3
    go_wp2_with fail
    go_loopw [9, 10] (fun i f wr => i = .int .i64 2 ∧ f = .int .i64 0 ∧ wr = w') (fun _ _ _ => 0)
    case atStart => exact ⟨rfl, rfl, rfl⟩
    case round =>
      obtain ⟨rfl, rfl, rfl⟩ := hrel
      go_wp2_with fail
      go_step3
      go_wp2_with fail
      go_quiet (fail)
      have hbq : Below wr.heap.size wr (wr.drewN nq) := below_drewN (Below.refl _ _) _
      generalize wr.drewN nq = wq at *
      go_wp2_with fail
      go_quiet (first | (go_at_call 131; exact Calls.quiet_of_same (HIB.out _)))
      go_wp2_with fail
      rw [Exit.noGoto_ret]
      go_wp2_with fail
      try rw [Exit.noGoto_ret]
      go_ret
      exact ⟨rfl, below_drewN hbq _⟩
  · obtain ⟨rs, hrs⟩ : ∃ rs : ByteArray, rs = ⟨#[a, b, c, d]⟩ := ⟨_, rfl⟩
    have hz : rs.size = 4 := by rw [hrs]; rfl
    rw [← hrs] at hen
    clear hrs
    go_enter Tryz.func152, Tryz.ntmps152
    go_wp2_with (go_at_call 199; refine (HV.out _).mono ?_; rintro e w' ⟨rfl, rfl⟩)
    go_step3
    go_wp2_with fail
    go_loopw [9, 10] (fun i f wr => i = .int .i64 3 ∧ f = .int .i64 0 ∧ wr = w') (fun _ _ _ => 0)
    case atStart => exact ⟨rfl, rfl, rfl⟩
    case round =>
      obtain ⟨rfl, rfl, rfl⟩ := hrel
      go_wp2_with fail
      try rw [Exit.noGoto_ret]
      go_ret
      exact ⟨rfl, Below.refl _ _⟩
set_option maxRecDepth 100000 in
set_option maxHeartbeats 4000000 in
theorem indexRune_bad (w : World) :
    Calls Tryz.prog 152 #[.string endersB, .int .i32 65533] w fun e w' => e = .returned (.int .i64 (-1)) ∧ Below w.heap.size w w' := by
  have hsz : endersB.size = 3 := rfl
  have hit : ∀ i, Below w.heap.size w (w.iter endersB i) := fun i => (Below.refl w.heap.size w).alloc (Nat.le_refl _) (.stringIter endersB i)
  have HIT := hid hit
  have hlow : ∀ i (h : i < endersB.size), (endersB[i]'h).toNat < 128 := by decide
  have HLOW := hid hlow
  clear hit hlow
  go_enter Tryz.func152, Tryz.ntmps152
  go_wp2_with fail
  go_loopg [5, 6] 3 (fun g _ _ wx => ∃ i : Nat, i + g = 3 ∧ wx = w.iter endersB i)
  case atStart => exact ⟨0, by omega, rfl⟩
  case round =>
    obtain ⟨i, hig, rfl⟩ := hrel
    cases gk with
    | zero =>
      obtain rfl : i = 3 := by omega
      have hnx := run_next_end (P := Tryz.prog) w endersB 3
      rw [hsz] at hnx
      go_wp2_with fail
      go_ret
      exact ⟨rfl, HIT.out 3⟩
    | succ g =>
      have hi : i < endersB.size := by omega
      have hx := HLOW.out i hi
      have hnx := fun ty => run_next_ascii (P := Tryz.prog) w endersB i ty hi hx
      generalize endersB[i]'hi = x at *
      have hne : ((x.toNat : Int) == 65533) = false := by rw [beq_eq_false_iff_ne]; omega
      go_wp2_with fail
      go_roundg g
      case measure => omega
      case rel => exact ⟨i + 1, by omega, rfl⟩
end Go.Proofs.YtbphabgjhoifbaaGreatDoor

/- strings.ContainsAny of the bytes that end a line, whatever the text. -/
namespace Go.Proofs.YtbphabgjhoifbaaGreatDoor
open Go.RowKit

theorem noAny_span {s chars : List UInt8} {i k : Nat} (h : Lib.NoAny s chars i) (hk : ∀ j (x : UInt8), i ≤ j → j < i + k → s[j]? = some x → chars.contains x = false) : Lib.NoAny s chars (i + k) := fun j b hj hb => by
  by_cases e : j < i
  · exact h j b e hb
  · exact hk j b (by omega) hj hb
theorem high_not (x : UInt8) (h : 128 ≤ x.toNat) : endersB.data.toList.contains x = false := by
  have h1 : x ≠ 13 := fun e => by subst e; simp at h
  have h2 : x ≠ 10 := fun e => by subst e; simp at h
  have h3 : x ≠ 0 := fun e => by subst e; simp at h
  show List.contains [13, 10, 0] x = false
  simp [h1, h2, h3]
theorem span_not (s : ByteArray) (i : Nat) (hi : i < s.size) (ha : 128 ≤ (s[i]'hi).toNat) (h : Lib.NoAny s.data.toList endersB.data.toList i) : Lib.NoAny s.data.toList endersB.data.toList (i + (Utf8.decode s i).2) := by
  obtain ⟨d1, d2⟩ := decode_span s i hi ha
  refine noAny_span h fun j x h1 h2 hx => high_not x ?_
  have hj := d2 (j - i) (by omega)
  have e : i + (j - i) = j := by omega
  rw [e] at hj
  have hjs : j < s.size := by omega
  have e2 : s.get! j = s[j]'hjs := get_at s j hjs
  have e3 := Lib.data_getElem? s j hjs
  rw [e3, Option.some.injEq] at hx
  rw [← hx, ← e2]
  exact hj
theorem any_ends : ∀ l : List UInt8, decide (0 ≤ Lib.indexAny l endersB.data.toList) = l.any fun x => x == 13 || x == 10 || x == 0
  | [] => rfl
  | b :: l => by
    have ih := any_ends l
    have hge := Lib.indexAny_ge endersB.data.toList l
    rw [List.any_cons, ← ih, Lib.indexAny]
    have hc : endersB.data.toList.contains b = (b == 13 || b == 10 || b == 0) := by
      show List.contains [13, 10, 0] b = _
      rw [Bool.eq_iff_iff]
      simp [or_assoc]
    rw [hc]
    cases hb : (b == 13 || b == 10 || b == 0)
    · simp only [Bool.false_eq_true, if_false, Bool.false_or]
      by_cases hm : Lib.indexAny l endersB.data.toList = -1
      · rw [hm]; rfl
      · have h0 : (Lib.indexAny l endersB.data.toList == -1) = false := by simpa using hm
        rw [h0]
        simp only [Bool.false_eq_true, if_false]
        rw [Bool.eq_iff_iff, decide_eq_true_iff, decide_eq_true_iff]
        omega
    · simp
theorem indexRune_wide (r : Nat) (w : World) (h1 : 128 ≤ r) (h2 : r ≤ 2147483647) (hv : Utf8.valid (r : Int) = true) :
    Calls Tryz.prog 152 #[.string endersB, .int .i32 r] w fun e w' => e = .returned (.int .i64 (-1)) ∧ Below w.heap.size w w' := by
  by_cases h3 : r = 65533
  · subst h3; exact indexRune_bad w
  · exact indexRune_high r w h1 h2 h3 hv
theorem indexRune_low (x : UInt8) (w : World) (h : x.toNat < 128) :
    Calls Tryz.prog 152 #[.string endersB, .int .i32 x.toNat] w fun e w' => e = .returned (.int .i64 (Lib.indexByte endersB.data.toList x)) ∧ w' = w := by
  have e : ((x.toNat : Int)).toNat.toUInt8 = x := by simp
  have := Tryz.strings_IndexRune_ascii endersB (x.toNat : Int) w (by omega) (by omega)
  rw [e] at this
  exact this
def setIt (b : Nat) (s : ByteArray) (i : Nat) (w : World) : World := { w with heap := w.heap.setIfInBounds b (.stringIter s i) }
structure ItI (b : Nat) (s : ByteArray) (i : Nat) (w wx : World) : Prop where
  blk : wx.heap[b]? = some (.stringIter s i)
  bl : Below b w wx
  lt : b < wx.heap.size
theorem next_it {P : Program} {w : World} {b : Nat} {s : ByteArray} {i : Nat} (h : w.heap[b]? = some (.stringIter s i)) (ty : TypeId) (hi : i < s.size) :
    (Instr.next (.pointer (some ⟨b, 0, none⟩)) true ty).run P w = .ok (.tuple #[.bool true, .int .i64 i, .int .i32 (Utf8.decode s i).1]) (setIt b s (i + (Utf8.decode s i).2) w) := by
  simp only [Instr.next, getObj, setObj, Sem.run_bind, Sem.run, h, Result.andThen, hi, if_true, setIt]
  simp [goInt]
theorem next_out {P : Program} {w : World} {b : Nat} {s : ByteArray} {i : Nat} (h : w.heap[b]? = some (.stringIter s i)) (ty : TypeId) (hi : ¬ i < s.size) :
    (Instr.next (.pointer (some ⟨b, 0, none⟩)) true ty).run P w = .ok (.tuple #[.bool false]) w := by
  simp [Instr.next, getObj, Sem.run, h, hi]
theorem ItI.next {b : Nat} {s : ByteArray} {i : Nat} {w wx : World} (h : ItI b s i w wx) (j : Nat) : ItI b s j w (setIt b s j wx) := by
  have hl := h.lt
  refine ⟨by simp [setIt, hl], h.bl.trans ⟨rfl, rfl, rfl, by simp [setIt], fun k hk => ?_⟩, by simpa [setIt] using hl⟩
  simp only [setIt]
  rw [Array.getElem?_setIfInBounds_ne (by omega)]
theorem ItI.below {b : Nat} {s : ByteArray} {i : Nat} {w wx w3 : World} (h : ItI b s i w wx) (hb : Below wx.heap.size wx w3) : ItI b s i w w3 := by
  have hl := h.lt
  exact ⟨by rw [hb.block b hl]; exact h.blk, h.bl.trans (hb.mono (by omega)), Nat.lt_of_lt_of_le hl hb.size⟩
theorem itI_new (s : ByteArray) (w : World) : ItI w.heap.size s 0 w (w.iter s 0) := ⟨World.iter_heap w s 0, (Below.refl w.heap.size w).alloc (Nat.le_refl _) _, by simp [World.iter]⟩
set_option maxRecDepth 1000000 in
set_option maxHeartbeats 4000000 in
theorem indexAny_few (s : ByteArray) (w : World) (h8 : s.size ≤ 8) :
    Calls Tryz.prog 119 #[.string s, .string endersB] w fun e w' => e = .returned (.int .i64 (Lib.indexAny s.data.toList endersB.data.toList)) ∧ Below w.heap.size w w' := by
  have hsz : endersB.size = 3 := rfl
  have hemp : endersB.toList.isEmpty = false := by rw [Lib.toList_data]; rfl
  have h8z : decide ((8 : Int) < (s.size : Int)) = false := decide_eq_false (by omega)
  have I0 := hid (itI_new s w)
  have N0 := hid (Lib.NoAny.zero s.data.toList endersB.data.toList)
  go_enter Tryz.func119, Tryz.ntmps119
  go_wp2_with (go_at_call 153; refine (Tryz.strings_shouldUseASCIISet _ _).mono ?_; rintro e w' ⟨rfl, hw⟩; rw [hw, h8z])
  go_loopg [9, 10] s.size (fun g _ _ wx => ∃ i : Nat, i + g = s.size ∧ ItI w.heap.size s i w wx ∧ Hid (Lib.NoAny s.data.toList endersB.data.toList i))
  case atStart => exact ⟨0, by omega, I0.out, N0⟩
  case round =>
    obtain ⟨i, hig, II, HN⟩ := hrel
    clear I0 N0
    by_cases hi : i < s.size
    · have hnx := fun ty => next_it (P := Tryz.prog) II.blk ty hi
      by_cases hx : (s[i]'hi).toNat < 128
      · have hd := decode_ascii s i hi hx
        rw [hd] at hnx
        have I2 := II.next (i + 1)
        have hxl : s.data.toList[i]? = some (s[i]'hi) := Lib.data_getElem? s i hi
        generalize s[i]'hi = x at *
        have Hx := hid hxl
        have HR := hid (fun W => indexRune_low x W hx)
        have hcon := Lib.contains_iff_indexByte endersB.data.toList x
        generalize Lib.indexByte endersB.data.toList x = K at *
        have lt2 := I2.lt
        simp only at hnx
        clear hxl hd
        cases hin : endersB.data.toList.contains x
        · have HS := hid (HN.out.succ Hx.out hin)
          rw [hin] at hcon
          have hlt : ¬ ((0 : Int) ≤ K) := of_decide_eq_false hcon.symm
          clear hcon
          go_wp2_with (go_at_call 152; refine (HR.out _).mono ?_; rintro e w' ⟨rfl, rfl⟩)
          go_roundg (gk - 1)
          case measure => omega
          case rel => exact ⟨i + 1, by omega, I2, HS⟩
        · have HS := hid (Lib.indexAny_hit HN.out Hx.out hin)
          rw [hin] at hcon
          have hge : (0 : Int) ≤ K := of_decide_eq_true hcon.symm
          clear hcon
          go_wp2_with (go_at_call 152; refine (HR.out _).mono ?_; rintro e w' ⟨rfl, rfl⟩)
          go_ret
          exact ⟨ret_int HS.out.symm, I2.bl⟩
      · have hx2 : 128 ≤ (s[i]'hi).toNat := by omega
        obtain ⟨d1, d2⟩ := decode_high s i hi hx2
        have d3 := decode_le s i
        have d4 := decode_valid s i hi hx2
        have d5 := (decode_span s i hi hx2).1
        have HS := hid (span_not s i hi hx2 HN.out)
        generalize (Utf8.decode s i).1 = rr at *
        generalize (Utf8.decode s i).2 = dd at *
        have I2 := II.next (i + dd)
        have HR := hid (fun W => indexRune_wide rr W d1 d3 d4)
        have lt2 := I2.lt
        clear d4 hx hx2
        go_wp2_with (go_at_call 152; refine (HR.out _).mono ?_; rintro e w3 ⟨rfl, hb3⟩)
        go_roundg (gk - dd)
        case measure => omega
        case rel => exact ⟨i + dd, by omega, I2.below hb3, HS⟩
    · have hnx := fun ty => next_out (P := Tryz.prog) II.blk ty hi
      have hie : i = s.data.toList.length := by have := Lib.size_eq s; omega
      have HS := hid (Lib.indexAny_none (hie ▸ HN.out))
      clear hie
      go_wp2_with fail
      go_ret
      exact ⟨ret_int HS.out.symm, II.bl⟩
theorem indexAny_all (s : ByteArray) (w : World) (hs : s.size < 4294967281) :
    Calls Tryz.prog 119 #[.string s, .string endersB] w fun e w' => e = .returned (.int .i64 (Lib.indexAny s.data.toList endersB.data.toList)) ∧ Below w.heap.size w w' := by
  by_cases h8 : s.size ≤ 8
  · exact indexAny_few s w h8
  · have h116 : (Tryz.prog.info? (Tryz.lays153_ren.t 116)).map (fun i => (i.zero, i.size)) = some (some (.agg (Array.replicate 256 (.bool false))), 256) := by kernel_rfl
    refine (Any.strings_IndexAny_long Tryz.lays153 (zero_of_info h116).1 (zero_of_info h116).2 s endersB w (by decide) (by omega) hs (by decide) ?_).mono fun e w' ⟨h1, h2⟩ => ⟨h1, ?_⟩
    · intro j b hb
      have hm : b ∈ endersB.data.toList := List.mem_of_getElem? hb
      have hall : ∀ x ∈ endersB.data.toList, x.toNat < 128 := by decide
      exact hall b hm
    · rw [h2]
      exact ((Below.refl _ _).alloc (Nat.le_refl _) _).alloc (by simp) _
set_option maxHeartbeats 1000000 in
theorem containsAny_all (s : ByteArray) (w : World) (hs : s.size < 4294967281) :
    Calls Tryz.prog 86 #[.string s, .string endersB] w fun e w' => e = .returned (.bool (s.data.toList.any fun x => x == 13 || x == 10 || x == 0)) ∧ Below w.heap.size w w' := by
  have HI := hid (indexAny_all s w hs)
  rw [← any_ends]
  generalize Lib.indexAny s.data.toList endersB.data.toList = K at *
  go_enter Tryz.func86, Tryz.ntmps86
  go_wp2_with (go_at_call 119; refine HI.out.mono ?_; rintro e w1 ⟨rfl, hb1⟩)
  go_ret
  exact ⟨rfl, hb1⟩
end Go.Proofs.YtbphabgjhoifbaaGreatDoor

/- A cell that is set to what it holds. -/
namespace Go.Proofs.YtbphabgjhoifbaaGreatDoor
open Go.RowKit

theorem set_same (cs : Array Value) (k : Nat) (v : Value) (h : cs[k]? = some v) : cs.setIfInBounds k v = cs := by
  apply Array.ext_getElem?
  intro i
  rw [Array.getElem?_setIfInBounds]
  by_cases e : k = i
  · subst e
    rw [if_pos rfl]
    split
    · exact h.symm
    · rename_i hn
      rw [Array.getElem?_eq_none (by omega)] at h; cases h
  · rw [if_neg e]
theorem set_self {w : World} {g k : Nat} {cs : Array Value} {T : TypeId} {v : Value} (hb : w.heap[g]? = some (.cells cs T (0, 0))) (hk : cs[k]? = some v) (b : Nat) : (w.setCell ⟨g, k, none⟩ v).heap[b]? = w.heap[b]? := by
  by_cases e : b = g
  · subst e
    rw [heap_setCell_same _ b k _ _ _ hb, hb, set_same cs k v hk]
  · exact heap_setCell_other w ⟨g, k, none⟩ b v e
/- the row of fields an answer owns: what its cells hold, and that they may be set to it -/
theorem own_row {w : World} {B : Nat} {T : TypeId} {vv : Value} {fs : List Prm} (h : w.ownsRow B T 2 vv fs.length (prCells fs)) (hn : fs ≠ []) : ∃ (g cap : Nat) (cs : Array Value), vv = .slice (some ⟨g, 0, none⟩) fs.length cap ∧ B ≤ g ∧ g < w.heap.size ∧ w.heap[g]? = some (.cells cs T (0, 0)) ∧ ∀ (j : Nat) (u : Value), (prCells fs)[j]? = some u → cs[j]? = some u := by
  obtain ⟨h1, h2⟩ := h
  rcases h2 with ⟨_, h0⟩ | ⟨g, cap, cur, hv, hB, hg, _, _, _, hc⟩
  · exact absurd (List.eq_nil_of_length_eq_zero h0) hn
  · refine ⟨g, cap, cur, hv, hB, ?_, hg, fun j u hj => ?_⟩
    · rcases Nat.lt_or_ge g w.heap.size with h' | h'
      · exact h'
      · simp [Array.getElem?_eq_none h'] at hg
    · have h3 : (cur.toList.take (fs.length * 2))[j]? = some u := by rw [hc]; exact hj
      rw [List.getElem?_take] at h3
      split at h3
      · simpa using h3
      · cases h3
theorem prC_get : ∀ (es : List Prm) (i : Nat) (h : i < es.length), (prCells es)[i * 2]? = some (.string es[i].1) ∧ (prCells es)[i * 2 + 1]? = some (.string es[i].2)
  | e :: r, 0, _ => by simp [prCells]
  | e :: r, i + 1, h => by
    have := prC_get r i (by simpa using h)
    have e2 : prCells (e :: r) = .string e.1 :: .string e.2 :: prCells r := by simp [prCells]
    rw [e2, show (i + 1) * 2 = i * 2 + 1 + 1 by omega]
    simpa using this
end Go.Proofs.YtbphabgjhoifbaaGreatDoor

/- An answer in memory of its own. -/
namespace Go.Proofs.YtbphabgjhoifbaaGreatDoor
open Go.RowKit

structure OwI (st : Int) (b : ByteArray) (cl : Bool) (fs : List Prm) (vv : Value) (B : Nat) (w wr : World) : Prop where
  a : AnB w.heap.size st vv b cl wr
  r : AnB (w.heap.size + 1) 0 (.slice none 0 0) ⟨#[]⟩ false wr
  o : wr.ownsRow B 133 2 vv fs.length (prCells fs)
  bl : Below B w wr
theorem OwI.next {st : Int} {b : ByteArray} {cl : Bool} {fs : List Prm} {vv : Value} {B : Nat} {w wr w2 : World} {g cap k : Nat} (h : OwI st b cl fs vv B w wr) (hB : B ≤ w.heap.size) (hb : Below wr.heap.size wr w2) (hv : vv = .slice (some ⟨g, 0, none⟩) fs.length cap) (hk : k < fs.length) :
    OwI st b cl fs vv B w ((w2.setCell ⟨g, k * 2, none⟩ (.string fs[k].1)).setCell ⟨g, k * 2 + 1, none⟩ (.string fs[k].2)) := by
  have o2 := owns_below h.o hb
  obtain ⟨g', cap', cs, e, hBg, hlt, hg, hcs⟩ := own_row o2 (fun e => by rw [e] at hk; simp at hk)
  rw [hv] at e
  simp only [Value.slice.injEq, Option.some.injEq, Addr.mk.injEq, and_true, true_and] at e
  obtain ⟨rfl, -⟩ := e
  obtain ⟨p1, p2⟩ := prC_get fs k hk
  have s1 := set_self hg (hcs _ _ p1)
  have s2 := set_self (by rw [s1]; exact hg) (hcs _ _ p2)
  have s : ∀ q, ((w2.setCell ⟨g, k * 2, none⟩ (.string fs[k].1)).setCell ⟨g, k * 2 + 1, none⟩ (.string fs[k].2)).heap[q]? = w2.heap[q]? := fun q => (s2 q).trans (s1 q)
  exact ⟨(h.a.below hb).keep (s _), (h.r.below hb).keep (s _), keepB o2 (fun q _ => s q), ((h.bl.trans (hb.mono (Nat.le_trans hB (by have := h.bl.size; omega)))).setCell hBg _).setCell hBg _⟩
set_option maxRecDepth 100000 in
set_option maxHeartbeats 8000000 in
theorem ownA_any (st : Int) (fs : List Prm) (vv : Value) (b : ByteArray) (cl : Bool) (B : Nat) (w : World) (ho : w.ownsRow B 133 2 vv fs.length (prCells fs)) (hB : B ≤ w.heap.size) (hl : fs.length ≤ 100000000) (hz : ∀ i (h : i < fs.length), fs[i].1.size ≤ 281474976710656 ∧ fs[i].2.size ≤ 281474976710656) (hb : b.size ≤ 281474976710656) :
    Calls Tryz.prog 61 #[.agg #[.int .i64 st, vv, .string b, .bool cl]] w fun x w' => x = .returned (.agg #[.int .i64 st, vv, .string b, .bool cl]) ∧ w'.ownsRow B 133 2 vv fs.length (prCells fs) ∧ Below B w w' := by
  have hA1 := (Below.refl w.heap.size w).alloc (Nat.le_refl _) (.cells #[.int .i64 st, vv, .string b, .bool cl] 64)
  have hA := hA1.alloc hA1.size (.cells #[.int .i64 0, .slice none 0 0, .string ⟨#[]⟩, .bool false] 64)
  have z1 : (w.alloc (.cells #[.int .i64 st, vv, .string b, .bool cl] 64)).heap.size = w.heap.size + 1 := by simp
  have g0 : AnB w.heap.size st vv b cl (w.alloc (.cells #[.int .i64 st, vv, .string b, .bool cl] 64)) := heap_alloc_new w _
  have g1 := g0.below ((Below.refl _ _).alloc (Nat.le_refl _) (.cells #[.int .i64 0, .slice none 0 0, .string ⟨#[]⟩, .bool false] 64))
  have h0 : AnB (w.heap.size + 1) 0 (.slice none 0 0) ⟨#[]⟩ false ((w.alloc (.cells #[.int .i64 st, vv, .string b, .bool cl] 64)).alloc (.cells #[.int .i64 0, .slice none 0 0, .string ⟨#[]⟩, .bool false] 64)) := by
    rw [← z1]; exact heap_alloc_new _ _
  have I0 : Hid (OwI st b cl fs vv B w ((w.alloc (.cells #[.int .i64 st, vv, .string b, .bool cl] 64)).alloc (.cells #[.int .i64 0, .slice none 0 0, .string ⟨#[]⟩, .bool false] 64))) := ⟨g1, h0, owns_below ho hA, hA.mono hB⟩
  have HZ := hid hz
  have hno : ∀ r, vv.ownBlock = some r → r < w.heap.size := own_ltw ho
  have HNO := hid hno
  obtain ⟨av, cv, rfl⟩ := sl_of ho
  clear g0 g1 h0 z1 ho hA1 hA hz hno
  go_enter Tryz.func61, Tryz.ntmps61
  go_wp2_with fail
  generalize (w.alloc (.cells #[.int .i64 st, .slice av fs.length cv, .string b, .bool cl] 64)).alloc (.cells #[.int .i64 0, .slice none 0 0, .string ⟨#[]⟩, .bool false] 64) = w1 at *
  go_loopw [8] (fun i wr => ∃ k : Nat, k ≤ fs.length ∧ i = .int .i64 k ∧ Hid (OwI st b cl fs (.slice av fs.length cv) B w wr)) (fun i _ => fs.length - (intOf i).toNat)
  case atStart => exact ⟨0, Nat.zero_le _, rfl, I0⟩
  case round =>
    clear I0
    obtain ⟨k, hk, rfl, I⟩ := hrel
    by_cases hlt : k < fs.length
    · obtain ⟨g, cap, cs, e, hBg, hgl, hg, hcs⟩ := own_row I.out.o (fun e => by rw [e] at hlt; simp at hlt)
      have HNX := hid (fun (w2 : World) (hb : Below wr.heap.size wr w2) => I.out.next hB hb e hlt)
      simp only [Value.slice.injEq, true_and] at e
      obtain ⟨rfl, rfl⟩ := e
      obtain ⟨p1, p2⟩ := prC_get fs k hlt
      have c1 : wr.cell? ⟨g, k * 2, none⟩ = some (.string fs[k].1) := by rw [Lib.cell_of_heap hg]; exact hcs _ _ p1
      have c2 : wr.cell? ⟨g, k * 2 + 1, none⟩ = some (.string fs[k].2) := by rw [Lib.cell_of_heap hg]; exact hcs _ _ p2
      obtain ⟨x0, x1, x2, x3⟩ := I.out.a.cells
      have la := I.out.a.lt
      have hng : g < w.heap.size := HNO.out g rfl
      obtain ⟨zn, zv⟩ := HZ.out k hlt
      have fz := fun j => Lib.frozen_of_heap hg j
      have HG := hid hg
      generalize fs[k] = x at *
      obtain ⟨xn, xv⟩ := x
      simp only at c1 c2 zn zv HNX
      clear I p1 p2 hcs hg
      have n1 : w.heap.size ≠ g := by omega
      have n2 : wr.heap.size ≠ g := by omega
      have HKP : Hid (∀ W : World, W.cell? ⟨w.heap.size, 1, none⟩ = some (.slice (some ⟨g, 0, none⟩) fs.length cv) → W.cell? ⟨wr.heap.size, 0, none⟩ = some (.string xn) → W.cell? ⟨wr.heap.size, 1, none⟩ = some (.string xv) → ((W.setCell ⟨g, k * 2, none⟩ (.string xn)).setCell ⟨g, k * 2 + 1, none⟩ (.string xv)).cell? ⟨w.heap.size, 1, none⟩ = some (.slice (some ⟨g, 0, none⟩) fs.length cv) ∧ ((W.setCell ⟨g, k * 2, none⟩ (.string xn)).setCell ⟨g, k * 2 + 1, none⟩ (.string xv)).cell? ⟨wr.heap.size, 0, none⟩ = some (.string xn) ∧ ((W.setCell ⟨g, k * 2, none⟩ (.string xn)).setCell ⟨g, k * 2 + 1, none⟩ (.string xv)).cell? ⟨wr.heap.size, 1, none⟩ = some (.string xv)) := by
        intro W e0 e1 e2
        have hx : ∀ (q j i : Nat) (u : Value) (V : World), q ≠ g → (V.setCell ⟨g, i, none⟩ u).cell? ⟨q, j, none⟩ = V.cell? ⟨q, j, none⟩ := fun q j i u V hq => by
          rw [World.cell?_setCell_other _ _ _ _ (fun e => by simp only [Addr.mk.injEq] at e; first | exact hq e.1 | exact hq e.1.symm)]
        rw [hx _ _ _ _ _ n1, hx _ _ _ _ _ n1, hx _ _ _ _ _ n2, hx _ _ _ _ _ n2, hx _ _ _ _ _ n2, hx _ _ _ _ _ n2]
        exact ⟨e0, e1, e2⟩
      have hbF := ((Below.refl wr.heap.size wr).alloc (Nat.le_refl _) (.cells #[.string xn, .string xv] 133)).drew
      have HC := hid (own_any xn xv (wr.alloc (.cells #[.string xn, .string xv] 133)).drew zn zv)
      have t0 : (wr.alloc (.cells #[.string xn, .string xv] 133)).drew.cell? ⟨wr.heap.size, 0, none⟩ = some (.string xn) := by simp
      have t1 : (wr.alloc (.cells #[.string xn, .string xv] 133)).drew.cell? ⟨wr.heap.size, 1, none⟩ = some (.string xv) := by simp
      have T0 := hid t0
      have T1 := hid t1
      have HFZ := hid fz
      have kb0 : (0 : Int) ≤ (k : Int) := by omega
      have kb1 : (k : Int) < (fs.length : Int) := by omega
      clear t0 t1 fz HZ
      go_upto_region 4 with fail
      go_region_held3 (fun W => W.cell? ⟨w.heap.size, 1, none⟩ = some (.slice (some ⟨g, 0, none⟩) fs.length cv) ∧ W.cell? ⟨wr.heap.size, 0, none⟩ = some (.string xn) ∧ W.cell? ⟨wr.heap.size, 1, none⟩ = some (.string xv)) (first | exact HKEEP.out | go_keep)
        (first | (go_at_call 91; refine HC.out.mono ?_; rintro e w2 ⟨rfl, hb2⟩; have hbD := bel_of hbF hb2; have HW := hid (HNX.out w2 hbD); have m0 := cell_later hb2 T0.out; have m1 := cell_later hb2 T1.out; have m2 := cell_later hbD x1; have m3 := cell_later hbD c1; have m4 := cell_later hbD c2; have m5 : g < w2.heap.size := block_lt_of_cell m3; have hg2 := (hbD.block g hgl).trans HG.out; have fz0 := Lib.frozen_of_heap hg2 (k * 2); have fz1 := Lib.frozen_of_heap hg2 (k * 2 + 1); have HKEEP := hid (HKP.out w2 m2 m0 m1); clear hg2))
      all_goals clear HC HKP HNX HG
      all_goals go_wp2_with fail
      all_goals exact ⟨⟨k + 1, by omega, by go_num, HW⟩, by simp [intOf]; omega⟩
    · have hne : ¬ (k : Int) < (fs.length : Int) := by omega
      have HC := hid (clone_any b wr hb)
      obtain ⟨x0, x1, x2, x3⟩ := I.out.a.cells
      have la := I.out.a.lt
      have HEND : Hid (∀ w2 : World, Below wr.heap.size wr w2 → AnB w.heap.size st (.slice av fs.length cv) b cl w2 ∧ AnB w.heap.size st (.slice av fs.length cv) b cl (w2.setCell ⟨w.heap.size, 2, none⟩ (.string b)) ∧ AnB (w.heap.size + 1) 0 (.slice none 0 0) ⟨#[]⟩ false (w2.setCell ⟨w.heap.size, 2, none⟩ (.string b)) ∧ (setA (w.heap.size + 1) st (.slice av fs.length cv) b cl (w2.setCell ⟨w.heap.size, 2, none⟩ (.string b))).ownsRow B 133 2 (.slice av fs.length cv) fs.length (prCells fs) ∧ Below B w (setA (w.heap.size + 1) st (.slice av fs.length cv) b cl (w2.setCell ⟨w.heap.size, 2, none⟩ (.string b)))) := by
        intro w2 hb2
        have a2 := I.out.a.below hb2
        have s := set_self (k := 2) (v := .string b) a2 rfl
        refine ⟨a2, a2.keep (s _), (I.out.r.below hb2).keep (s _), owns_setA (keepB (owns_below I.out.o hb2) (fun q _ => s q)) (fun e => by have := HNO.out _ e; omega), below_setA ((I.out.bl.trans (hb2.mono (by have := I.out.bl.size; omega))).setCell hB _) (by omega)⟩
      clear I HZ HNO
      go_wp2_with (go_at_call 44; refine HC.out.mono ?_; rintro e w2 ⟨rfl, hb2⟩; obtain ⟨a2, a3, r3, o3, b3⟩ := HEND.out w2 hb2; have l2 := a2.lt; obtain ⟨v0, v1, v2, v3⟩ := a2.cells; have vf := a2.free 2; obtain ⟨y0, y1, y2, y3⟩ := a3.cells; obtain ⟨c0, c1, c2, c3⟩ := r3.cells; have f0 := r3.free 0; have f1 := r3.free 1; have f2 := r3.free 2; have f3 := r3.free 3; have l3 := r3.lt; obtain ⟨d0, d1, d2, d3⟩ := (r3.set st (.slice av fs.length cv) b cl).cells; unfold setA at d0 d1 d2 d3; have HF := hid (And.intro o3 b3); clear o3 b3 a2 a3 r3 HEND)
      refine bodyPost_ret (v := .agg #[.int .i64 st, .slice av fs.length cv, .string b, .bool cl]) (by simp [results, Tryz.results61, go_sem, d0, d1, d2, d3]) rfl ?_
      exact ⟨rfl, HF.out.1, HF.out.2⟩
end Go.Proofs.YtbphabgjhoifbaaGreatDoor
