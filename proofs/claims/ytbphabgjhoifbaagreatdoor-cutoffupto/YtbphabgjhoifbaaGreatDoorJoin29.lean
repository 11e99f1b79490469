/- Texts that follow one another, joined. -/
import Derived.Test.YtbphabgjhoifbaaGreatDoorJoin28
import Derived.Test.YtbphabgjhoifbaaGreatDoorJoin15
import Derived.Test.YtbphabgjhoifbaaGreatDoorJoin25
import Derived.Test.YtbphabgjhoifbaaGreatDoorJoin26
import Derived.Test.YtbphabgjhoifbaaGreatDoorJoin13
import Derived.KernelRfl
/- looks: all lists that the book holds read as they were written; nothing old in memory turns. -/
namespace Go.Proofs.YtbphabgjhoifbaaGreatDoor
open Go.RowKit

theorem owns_at1 {w : World} {B : Nat} {e : TypeId} {v : Value} {n : Nat} {xs : List Value} (h : w.ownsRow B e 1 v n xs) : ∃ a c, v = .slice a n c ∧ ∀ i (_ : i < n) (hx : i < xs.length), ∃ g, a = some ⟨g, 0, none⟩ ∧ g < w.heap.size ∧ w.cell? ⟨g, i, none⟩ = some xs[i] := by
  obtain ⟨h1, h2⟩ := h
  rcases h2 with ⟨rfl, rfl⟩ | ⟨g, cap, cur, rfl, _, hg, _, _, _, hc⟩
  · exact ⟨none, 0, rfl, fun i hi => absurd hi (by omega)⟩
  · refine ⟨some ⟨g, 0, none⟩, cap, rfl, fun i hi hx => ⟨g, rfl, heap_lt hg, ?_⟩⟩
    rw [Lib.cell_of_heap hg]
    have h3 : (cur.toList.take (n * 1))[i]? = some xs[i] := by rw [hc, List.getElem?_eq_getElem hx]
    rw [List.getElem?_take] at h3
    split at h3
    · simpa using h3
    · cases h3

end Go.Proofs.YtbphabgjhoifbaaGreatDoor

/- looks of a book that holds fields alone; Frame at any limits, the program's and the reference's; frames. -/
namespace Go.Proofs.YtbphabgjhoifbaaGreatDoor
open Go.RowKit

/- what Frame answers, at any limits -/
def frameG (l : List UInt8) (hd bd : Int) : FrameR := if 32 ≤ hd ∧ hd ≤ 500 ∧ 0 ≤ bd ∧ bd ≤ 200 then frameS l hd.toNat bd else frameBad 1
theorem frameS_flds (l : List UInt8) (hd : Nat) (bd : Int) : (frameS l hd bd).2.2.2.1.length ≤ hd := by
  unfold frameS
  have hf := headS_flds (hd + 1) true l hd [] [] [] 0
  generalize Pm.headS (hd + 1) true l hd [] [] [] 0 = H at *
  simp only
  split
  · exact Nat.zero_le _
  · rename_i h1
    split
    · exact Nat.zero_le _
    · split
      · exact Nat.zero_le _
      · have := (hf (by simpa using h1)).1
        simpa using this
theorem frameG_flds (l : List UInt8) (hd bd : Int) : (frameG l hd bd).2.2.2.1.length ≤ 500 ∧ ((frameG l hd bd).1 ≠ 0 → (frameG l hd bd).2.2.2.1 = []) := by
  unfold frameG
  by_cases h : 32 ≤ hd ∧ hd ≤ 500 ∧ 0 ≤ bd ∧ bd ≤ 200
  · rw [if_pos h]
    have h1 := frameS_flds l hd.toNat bd
    refine ⟨by omega, fun h2 => ?_⟩
    rw [frameS_bad _ _ _ h2]; rfl
  · rw [if_neg h]; exact ⟨Nat.zero_le _, fun _ => rfl⟩
def FrPost (FR : FrameR) (B : Nat) (r : Ending) (w' : World) : Prop :=
  ∃ v, r = .returned (.tuple #[.agg #[.string ⟨FR.2.1.toArray⟩, .string ⟨FR.2.2.1.toArray⟩, v, .string ⟨FR.2.2.2.2.1.toArray⟩], .int .i64 FR.2.2.2.2.2, .int .i64 FR.1]) ∧ w'.ownsRow B 133 2 v FR.2.2.2.1.length (flat FR.2.2.2.1)
theorem pFrameG_any (hd bd : Int) (s : ByteArray) (mx : Int) (w : World) (hs : s.size ≤ 281474976710656) (hm : w.cell? ⟨1, 0, none⟩ = some (.int .i64 mx)) :
    Calls Tryz.prog 20 #[.agg #[.int .i64 hd, .int .i64 bd], .string s] w fun r w' => FrPost (frameG s.data.toList hd bd) w.heap.size r w' ∧ Below w.heap.size w w' := by
  unfold frameG
  by_cases h : 32 ≤ hd ∧ hd ≤ 500 ∧ 0 ≤ bd ∧ bd ≤ 200
  · rw [if_pos h]
    obtain ⟨n, rfl⟩ : ∃ n : Nat, hd = n := ⟨hd.toNat, by omega⟩
    rw [Int.toNat_natCast]
    exact pFrame_any n bd s mx w (by omega) (by omega) (by omega) (by omega) (by omega) hm
  · rw [if_neg h]
    refine (pFrame_bad hd bd s w h).mono ?_
    rintro e w' ⟨rfl, hb⟩
    exact ⟨⟨.slice none 0 0, rfl, World.ownsRow_nil _ _ _ _⟩, hb⟩
end Go.Proofs.YtbphabgjhoifbaaGreatDoor

/- A server and its connections: plain mathematics. -/
namespace Go.Proofs.YtbphabgjhoifbaaGreatDoor
open Go.RowKit

/- what a connection holds, and how often each route was found -/
structure Cs where
  held : List UInt8
  out : List UInt8
  rq : Nat
  cl : Bool
  hs : List Int
/- a configuration -/
structure Cf where
  hd : Int
  bd : Int
  rs : List Rt
  ws : List Wr
/- where a framed request leads, and its answer -/
def ledS (C : Cf) (F : FrameR) : DsR := pdG C.hd C.bd C.rs C.ws F.2.1 F.2.2.1
def ansS (C : Cf) (F : FrameR) : Rp := repD (ledS C F) C.rs C.ws (fldsOf F.2.2.2.1) ⟨F.2.2.2.2.1.toArray⟩
def textS (C : Cf) (F : FrameR) : List UInt8 := rendL F.2.1 (ansS C F).st (ansS C F).fs (ansS C F).b.data.toList (ansS C F).cl
def sayS (S : Cs) (t : List UInt8) (cl : Bool) : Cs := if cl = true then ⟨[], S.out ++ t, S.rq, true, S.hs⟩ else ⟨S.held, S.out ++ t, S.rq, S.cl, S.hs⟩
def oneS (C : Cf) (F : FrameR) (S : Cs) : Cs := sayS ⟨S.held.drop F.2.2.2.2.2, S.out, S.rq + 1, S.cl, hitS (ledS C F).st (ledS C F).ro S.hs⟩ (textS C F) (ansS C F).cl
def noS (e : Int) (S : Cs) : Cs := sayS S (rendL [] (refSt e) [] [] true) true
def giveL (C : Cf) : Nat → Cs → Cs
  | 0, S => S
  | k + 1, S => if S.cl = true then S else if (frameG S.held C.hd C.bd).1 = 2 then S
    else if (frameG S.held C.hd C.bd).1 = 0 then giveL C k (oneS C (frameG S.held C.hd C.bd) S) else noS (frameG S.held C.hd C.bd).1 S
theorem giveL_closed (C : Cf) (k : Nat) (S : Cs) (h : S.cl = true) : giveL C k S = S := by
  cases k with
  | zero => rfl
  | succ k => rw [giveL, if_pos h]
def giveS (C : Cf) (S : Cs) (t : List UInt8) : Cs := giveL C (S.held.length + t.length + 1) ⟨S.held ++ t, S.out, S.rq, S.cl, S.hs⟩
/- a server's site goes by a configuration -/
structure SvOk (V : Sv) (C : Cf) (es : List Ent) (v vh vw : Value) (mx : Int) : Prop where
  hd : V.hd = C.hd
  bd : V.bd = C.bd
  S : StI V.gs V.gs es (C.rs.map Rt.h) C.ws v vh vw V.w1
  es : es.map Ent.bare = C.rs.map rtBare
  E : (cfgE C.hd C.bd C.rs C.ws).2 = 0
  rs : ∀ r ∈ C.rs, RtSm r
  ws : ∀ x ∈ C.ws, x.n.size ≤ 1048576 ∧ x.v.size ≤ 1048576
  mx : V.w1.cell? ⟨1, 0, none⟩ = some (.int .i64 mx)
  tab : Lib.TabBelow Tryz.prog V.w1.heap.size V.w1 "internal/strconv.uint64pow10" .u64 Lib.pow10Tab
theorem SvI.site {V : Sv} {hs : List Int} {w : World} (h : SvI V hs w) {C : Cf} {es : List Ent} {v vh vw : Value} {mx : Int} (ok : SvOk V C es v vh vw mx) : StI V.gs V.gs es (C.rs.map Rt.h) C.ws v vh vw w := ok.S.below h.bel
theorem SvI.mx {V : Sv} {hs : List Int} {w : World} (h : SvI V hs w) {C : Cf} {es : List Ent} {v vh vw : Value} {mx : Int} (ok : SvOk V C es v vh vw mx) : w.cell? ⟨1, 0, none⟩ = some (.int .i64 mx) := cell_later h.bel ok.mx
end Go.Proofs.YtbphabgjhoifbaaGreatDoor

/- The small configuration's answers, reckoned. -/
namespace Go.Proofs.YtbphabgjhoifbaaGreatDoor
open Go.RowKit

def smW (b : Bool) : List Wr := if b = true then [⟨3, ⟨#[]⟩, ⟨#[]⟩, 0⟩] else []
def smC (b : Bool) : Cf := ⟨200, 50, smallR, smW b⟩
def askHello : List UInt8 := [71, 69, 84, 32, 47, 104, 105, 47, 121, 111, 117, 32, 72, 84, 84, 80, 47, 49, 46, 49, 13, 10, 72, 111, 115, 116, 58, 32, 97, 13, 10, 13, 10]
def askUpset : List UInt8 := [71, 69, 84, 32, 47, 117, 112, 32, 72, 84, 84, 80, 47, 49, 46, 49, 13, 10, 72, 111, 115, 116, 58, 32, 97, 13, 10, 13, 10]
def askSneak : List UInt8 := [71, 69, 84, 32, 47, 108, 97, 98, 101, 108, 47, 97, 37, 48, 100, 37, 48, 97, 88, 32, 72, 84, 84, 80, 47, 49, 46, 49, 13, 10, 72, 111, 115, 116, 58, 32, 97, 13, 10, 13, 10]
def askCheat : List UInt8 := [71, 69, 84, 32, 47, 108, 97, 98, 101, 108, 47, 97, 37, 48, 100, 37, 48, 97, 88, 58, 32, 121, 32, 72, 84, 84, 80, 47, 49, 46, 49, 13, 10, 72, 111, 115, 116, 58, 32, 97, 13, 10, 13, 10]
def saidYou : List UInt8 := [72, 84, 84, 80, 47, 49, 46, 49, 32, 50, 48, 48, 32, 79, 75, 13, 10, 67, 111, 110, 116, 101, 110, 116, 45, 76, 101, 110, 103, 116, 104, 58, 32, 51, 13, 10, 13, 10, 121, 111, 117]
def saidSaved : List UInt8 := [72, 84, 84, 80, 47, 49, 46, 49, 32, 53, 48, 48, 32, 73, 110, 116, 101, 114, 110, 97, 108, 32, 83, 101, 114, 118, 101, 114, 32, 69, 114, 114, 111, 114, 13, 10, 67, 111, 110, 116, 101, 110, 116, 45, 76, 101, 110, 103, 116, 104, 58, 32, 53, 13, 10, 13, 10, 115, 97, 118, 101, 100]
def saidShut : List UInt8 := [72, 84, 84, 80, 47, 49, 46, 49, 32, 53, 48, 48, 32, 73, 110, 116, 101, 114, 110, 97, 108, 32, 83, 101, 114, 118, 101, 114, 32, 69, 114, 114, 111, 114, 13, 10, 67, 111, 110, 116, 101, 110, 116, 45, 76, 101, 110, 103, 116, 104, 58, 32, 48, 13, 10, 67, 111, 110, 110, 101, 99, 116, 105, 111, 110, 58, 32, 99, 108, 111, 115, 101, 13, 10, 13, 10]
def saidFive : List UInt8 := [72, 84, 84, 80, 47, 49, 46, 49, 32, 53, 48, 48, 32, 73, 110, 116, 101, 114, 110, 97, 108, 32, 83, 101, 114, 118, 101, 114, 32, 69, 114, 114, 111, 114, 13, 10, 67, 111, 110, 116, 101, 110, 116, 45, 76, 101, 110, 103, 116, 104, 58, 32, 48, 13, 10, 13, 10]
def saidBad : List UInt8 := [72, 84, 84, 80, 47, 49, 46, 49, 32, 52, 48, 48, 32, 66, 97, 100, 32, 82, 101, 113, 117, 101, 115, 116, 13, 10, 67, 111, 110, 116, 101, 110, 116, 45, 76, 101, 110, 103, 116, 104, 58, 32, 48, 13, 10, 67, 111, 110, 110, 101, 99, 116, 105, 111, 110, 58, 32, 99, 108, 111, 115, 101, 13, 10, 13, 10]
def askL (k : Nat) : List UInt8 := if k = 0 then askHello else if k = 1 then askUpset else if k = 2 then askSneak else askCheat
def saidL (k : Nat) (b : Bool) : List UInt8 := if k = 0 then saidYou else if k = 1 then (if b = true then saidSaved else saidShut) else if k = 2 then saidFive else saidBad
def hdrF (t : List UInt8) (n : Nat) : FrameR := (0, [71, 69, 84], t, [([72, 111, 115, 116], [97])], [], n)
theorem fr_none : frameG [] 200 50 = frameBad 2 := by kernel_rfl
theorem fr_hello : frameG askHello 200 50 = hdrF [47, 104, 105, 47, 121, 111, 117] 33 := by kernel_rfl
theorem fr_upset : frameG askUpset 200 50 = hdrF [47, 117, 112] 29 := by kernel_rfl
theorem fr_sneak : frameG askSneak 200 50 = hdrF [47, 108, 97, 98, 101, 108, 47, 97, 37, 48, 100, 37, 48, 97, 88] 41 := by kernel_rfl
theorem fr_cheat : frameG askCheat 200 50 = frameBad 3 := by kernel_rfl
theorem an_hello (b : Bool) : textS (smC b) (hdrF [47, 104, 105, 47, 121, 111, 117] 33) = saidYou ∧ (ansS (smC b) (hdrF [47, 104, 105, 47, 121, 111, 117] 33)).cl = false ∧ (ledS (smC b) (hdrF [47, 104, 105, 47, 121, 111, 117] 33)).st = 200 ∧ (ledS (smC b) (hdrF [47, 104, 105, 47, 121, 111, 117] 33)).ro = 0 := by
  cases b <;> exact ⟨by kernel_rfl, by kernel_rfl, by kernel_rfl, by kernel_rfl⟩
theorem an_upset (b : Bool) : textS (smC b) (hdrF [47, 117, 112] 29) = saidL 1 b ∧ (ansS (smC b) (hdrF [47, 117, 112] 29)).cl = !b ∧ (ledS (smC b) (hdrF [47, 117, 112] 29)).st = 200 ∧ (ledS (smC b) (hdrF [47, 117, 112] 29)).ro = 1 := by
  cases b <;> exact ⟨by kernel_rfl, by kernel_rfl, by kernel_rfl, by kernel_rfl⟩
theorem an_sneak (b : Bool) : textS (smC b) (hdrF [47, 108, 97, 98, 101, 108, 47, 97, 37, 48, 100, 37, 48, 97, 88] 41) = saidFive ∧ (ansS (smC b) (hdrF [47, 108, 97, 98, 101, 108, 47, 97, 37, 48, 100, 37, 48, 97, 88] 41)).cl = false ∧ (ledS (smC b) (hdrF [47, 108, 97, 98, 101, 108, 47, 97, 37, 48, 100, 37, 48, 97, 88] 41)).st = 200 ∧ (ledS (smC b) (hdrF [47, 108, 97, 98, 101, 108, 47, 97, 37, 48, 100, 37, 48, 97, 88] 41)).ro = 2 := by
  cases b <;> exact ⟨by kernel_rfl, by kernel_rfl, by kernel_rfl, by kernel_rfl⟩
theorem an_cheat : rendL [] (refSt 3) [] [] true = saidBad := by kernel_rfl
theorem give_one {C : Cf} {F : FrameR} {l : List UInt8} {out : List UInt8} {rq : Nat} {hs : List Int} {t : List UInt8} {cl : Bool} {ro : Nat} (h0 : frameG [] C.hd C.bd = frameBad 2) (hF : frameG l C.hd C.bd = F) (h1 : F.1 = 0) (hu : F.2.2.2.2.2 = l.length) (ht : textS C F = t) (hc : (ansS C F).cl = cl) (hs2 : (ledS C F).st = 200) (hr : (ledS C F).ro = ro) :
    giveS C ⟨[], out, rq, false, hs⟩ l = ⟨[], out ++ t, rq + 1, cl, hs.set ro ((hs[ro]?).getD 0 + 1)⟩ := by
  have hl : 0 < l.length := by
    cases l with
    | nil => rw [← hF, h0] at h1; exact absurd h1 (by decide)
    | cons => simp
  obtain ⟨n, hn⟩ : ∃ n, l.length = n + 1 := ⟨l.length - 1, by omega⟩
  unfold giveS
  simp only [List.nil_append, List.length_nil, Nat.zero_add]
  rw [giveL, if_neg (by simp), hF, if_neg (by rw [h1]; decide), if_pos h1]
  have ho : oneS C F ⟨l, out, rq, false, hs⟩ = ⟨[], out ++ t, rq + 1, cl, hs.set ro ((hs[ro]?).getD 0 + 1)⟩ := by
    unfold oneS hitS
    rw [ht, hc, if_pos hs2, hr, hu, List.drop_length]
    unfold sayS
    cases cl <;> rfl
  rw [ho, hn, giveL]
  cases cl
  · rw [if_neg (by simp)]
    simp only [h0]
    exact if_pos rfl
  · rw [if_pos rfl]
theorem alive_plain (b : Bool) (k : Nat) (hk : k < 4) (out : List UInt8) (rq : Nat) (hs : List Int) :
    giveS (smC b) ⟨[], out, rq, false, hs⟩ (askL k) = ⟨[], out ++ saidL k b, if k < 3 then rq + 1 else rq, decide (k = 3) || (decide (k = 1) && !b), if k < 3 then hs.set k ((hs[k]?).getD 0 + 1) else hs⟩ := by
  match k, hk with
  | 0, _ => exact give_one fr_none fr_hello rfl rfl (an_hello b).1 (an_hello b).2.1 (an_hello b).2.2.1 (an_hello b).2.2.2
  | 1, _ =>
    have := give_one (C := smC b) (out := out) (rq := rq) (hs := hs) fr_none fr_upset rfl rfl (an_upset b).1 (an_upset b).2.1 (an_upset b).2.2.1 (an_upset b).2.2.2
    cases b <;> exact this
  | 2, _ => exact give_one fr_none fr_sneak rfl rfl (an_sneak b).1 (an_sneak b).2.1 (an_sneak b).2.2.1 (an_sneak b).2.2.2
  | 3, _ =>
    have e : frameG (askL 3) (smC b).hd (smC b).bd = frameBad 3 := fr_cheat
    unfold giveS
    simp only [List.nil_append, List.length_nil, Nat.zero_add]
    rw [giveL, if_neg (by simp)]
    simp only [e]
    rw [if_neg (by decide), if_neg (by decide)]
    have e2 : (frameBad 3).1 = 3 := rfl
    rw [e2]
    unfold noS
    rw [an_cheat]
    rfl
end Go.Proofs.YtbphabgjhoifbaaGreatDoor

/- How great what is framed can be, and how great its answer. -/
namespace Go.Proofs.YtbphabgjhoifbaaGreatDoor
open Go.RowKit

theorem split_le {l x : List UInt8} (h : x ∈ Lib.split l [32]) : x.length ≤ l.length := by
  have e : (Pm.partsB ⟨l.toArray⟩).map (·.data.toList) = Lib.split l [32] := Pm.partsB_data ⟨l.toArray⟩
  rw [← e] at h
  obtain ⟨b, hb, rfl⟩ := List.mem_map.1 h
  have h1 := Pm.partsB_le hb
  have h2 : (ByteArray.mk l.toArray).size = l.length := by show l.toArray.size = l.length; simp
  have h3 : b.data.toList.length = b.size := by simp
  omega
theorem first_le (l : List UInt8) : (Pm.firstS l).2.1.length ≤ l.length ∧ (Pm.firstS l).2.2.length ≤ l.length := by
  unfold Pm.firstS
  split
  · rename_i a b c h
    have ha : a ∈ Lib.split l [32] := by rw [h]; simp
    have hb : b ∈ Lib.split l [32] := by rw [h]; simp
    split
    · split
      · exact ⟨split_le ha, split_le hb⟩
      · exact ⟨Nat.zero_le _, Nat.zero_le _⟩
    · exact ⟨Nat.zero_le _, Nat.zero_le _⟩
  · exact ⟨Nat.zero_le _, Nat.zero_le _⟩
theorem headS_mt (M : Nat) (f : Nat) : ∀ (first : Bool) (l : List UInt8) (lim : Nat) (m tg : List UInt8) (fs : List Pm.Fld) (u : Nat), l.length ≤ M → m.length ≤ M → tg.length ≤ M → (Pm.headS f first l lim m tg fs u).1 = 0 → (Pm.headS f first l lim m tg fs u).2.1.length ≤ M ∧ (Pm.headS f first l lim m tg fs u).2.2.1.length ≤ M := by
  induction f with
  | zero => intro first l lim m tg fs u _ _ _ h; exact absurd (show (2 : Int) = 0 from h) (by decide)
  | succ f ih =>
    intro first l lim m tg fs u hl hm ht h
    rw [headS_succ] at h ⊢
    have hd : (l.drop (Pm.lineS l lim 5).2.2).length ≤ M := by rw [List.length_drop]; omega
    by_cases h2 : (Pm.lineS l lim 5).1 ≠ 0
    · rw [if_pos h2] at h; exact absurd h h2
    · have hk := Pm.lineS_ok (l := l) (lim := lim) (long := 5) (by decide) (by omega)
      rw [if_neg h2] at h ⊢
      by_cases h3 : first = true
      · rw [if_pos h3] at h ⊢
        have hf := first_le (Pm.lineS l lim 5).2.1
        by_cases h4 : (Pm.firstS (Pm.lineS l lim 5).2.1).1 ≠ 0
        · rw [if_pos h4] at h; exact absurd h h4
        · rw [if_neg h4] at h ⊢
          exact ih _ _ _ _ _ _ _ hd (by omega) (by omega) h
      · rw [if_neg h3] at h ⊢
        by_cases h4 : (Pm.lineS l lim 5).2.1 = []
        · rw [if_pos h4]; exact ⟨hm, ht⟩
        · rw [if_neg h4] at h ⊢
          cases h5 : Pm.fieldS (Pm.lineS l lim 5).2.1 with
          | none => rw [h5] at h; exact absurd (show (3 : Int) = 0 from h) (by decide)
          | some f' =>
            rw [h5] at h
            exact ih _ _ _ _ _ _ _ hd hm ht h
theorem chunksS_body (hd : Nat) (bd : Int) (f : Nat) : ∀ (l body : List UInt8) (u : Nat), (chunksS f l hd bd body u).1 = 0 → (chunksS f l hd bd body u).2.1.length ≤ body.length + l.length := by
  induction f with
  | zero => intro l body u h; exact absurd (show (2 : Int) = 0 from h) (by decide)
  | succ f ih =>
    intro l body u h
    have hl := line_len l 10 3
    rw [chunksS_succ] at h ⊢
    by_cases h2 : sizeE l ≠ 0
    · rw [if_pos h2] at h; exact absurd h h2
    · rw [if_neg h2] at h ⊢
      by_cases h3 : 0 < sizeN l
      · rw [if_pos h3] at h ⊢
        have hc := chunkS_len (l.drop (Pm.lineS l 10 3).2.2) (sizeN l).toNat (bd - body.length)
        generalize chunkS (l.drop (Pm.lineS l 10 3).2.2) (sizeN l).toNat (bd - body.length) = C at hc h ⊢
        rw [List.length_drop] at hc
        by_cases h5 : C.1 ≠ 0
        · rw [if_pos h5] at h; exact absurd h h5
        · rw [if_neg h5] at h ⊢
          have := ih _ _ _ h
          rw [List.length_append, List.length_drop] at this
          omega
      · rw [if_neg h3] at h ⊢
        generalize Pm.trailS (hd + 1) (l.drop (Pm.lineS l 10 3).2.2) hd 0 = T at h ⊢
        by_cases h5 : T.1 ≠ 0
        · rw [if_pos h5] at h; exact absurd h h5
        · rw [if_neg h5]; simp
theorem bodyS_body (l : List UInt8) (hd : Nat) (bd : Int) (c : Bool) (n : Nat) (h : (bodyS l hd bd c n).1 = 0) : (bodyS l hd bd c n).2.1.length ≤ l.length := by
  unfold bodyS at h ⊢
  split
  · rename_i hc
    rw [if_pos hc] at h
    have := chunksS_body hd bd (l.length + 1) l [] 0 h
    simpa using this
  · split
    · exact Nat.zero_le _
    · simp only [List.length_take]; omega
structure FrSm (l : List UInt8) (F : FrameR) : Prop where
  m : F.2.1.length ≤ l.length
  t : F.2.2.1.length ≤ l.length
  n : F.2.2.2.1.length ≤ 500
  f : ∀ x ∈ F.2.2.2.1, x.1.length + x.2.length ≤ 500
  b : F.2.2.2.2.1.length ≤ l.length
  u : 0 < F.2.2.2.2.2
  v : F.2.2.2.2.2 ≤ l.length
theorem frame_small (l : List UInt8) (hd bd : Int) (h : (frameG l hd bd).1 = 0) : FrSm l (frameG l hd bd) := by
  unfold frameG at h ⊢
  split at h
  · rename_i hr
    rw [if_pos hr]
    obtain ⟨-, s2, -, s4⟩ := frameS_say l hd.toNat bd
    have sf := frameS_flds l hd.toNat bd
    refine ⟨?_, ?_, by omega, ?_, ?_, s2 h, s4⟩
    all_goals
      unfold frameS at h ⊢
      have hm := headS_mt l.length (hd.toNat + 1) true l hd.toNat [] [] [] 0 (Nat.le_refl _) (Nat.zero_le _) (Nat.zero_le _)
      have hf := headS_flds (hd.toNat + 1) true l hd.toNat [] [] [] 0
      generalize Pm.headS (hd.toNat + 1) true l hd.toNat [] [] [] 0 = H at *
      simp only at h ⊢
      split at h
      · rename_i h1; exact absurd h h1
      rename_i h1
      rw [if_neg h1]
      have h1' : H.1 = 0 := by omega
      split at h
      · rename_i h2; exact absurd h h2
      rename_i h2
      rw [if_neg h2]
      split at h
      · rename_i h3; exact absurd h h3
      rename_i h3
      rw [if_neg h3]
    · exact (hm h1').1
    · exact (hm h1').2
    · intro x hx
      rcases (hf h1').2 x hx with q | q
      · simp at q
      · omega
    · have := bodyS_body (l.drop H.2.2.2.2) hd.toNat bd (framOf (fldsOf H.2.2.2.1) bd).2.1 (framOf (fldsOf H.2.2.2.1) bd).2.2.toNat (by omega)
      rw [List.length_drop] at this
      simp only; omega
  · exact absurd h (by decide)
theorem fldsL_add (a b : List Pr2) : (fldsL (a ++ b)).length = (fldsL a).length + (fldsL b).length := by
  unfold fldsL; rw [List.flatMap_append, List.length_append]
theorem fldsL_one (n v : ByteArray) : (fldsL [(n, v)]).length = n.size + v.size + 4 := by
  unfold fldsL; simp [fldL]; omega
theorem fldsL_all {K : Nat} : ∀ (fs : List Pr2), (∀ p ∈ fs, p.1.size + p.2.size ≤ K) → (fldsL fs).length ≤ fs.length * (K + 4)
  | [], _ => by simp [fldsL]
  | (n, v) :: r, h => by
    have h1 := h (n, v) (by simp)
    have h2 := fldsL_all r (fun p hp => h p (by simp [hp]))
    have e : fldsL ((n, v) :: r) = fldsL ([(n, v)] ++ r) := rfl
    rw [e, fldsL_add, fldsL_one, List.length_cons, Nat.succ_mul]
    simp only at h1
    omega
theorem ware_sum {x : Wr} {qf : List Prm} {qb : ByteArray} {G : Option An} {N : Nat} (hx : x.n.size ≤ 1048576 ∧ x.v.size ≤ 1048576) (hl : qf.length ≤ 500) (hf : ∀ p ∈ qf, p.1.size + p.2.size ≤ 500) (h : ∀ a, G = some a → (fldsL a.fs).length ≤ N) {a : An} (e : wareG x qf qb G = some a) : (fldsL a.fs).length ≤ N + 2097156 := by
  unfold wareG at e
  split at e
  · obtain ⟨b, hb, rfl⟩ := Option.map_eq_some_iff.1 e
    have := h b hb
    simp only [fldsL_add, fldsL_one]; omega
  split at e
  · split at e
    · have := h a e; omega
    · cases e; simp [fldsL]
  split at e
  · split at e
    · cases e; simp [fldsL]
    · have := h a e; omega
  split at e
  · cases G with
    | none => cases e; simp [fldsL]
    | some b => have := h a e; omega
  split at e
  · obtain ⟨b, hb, rfl⟩ := Option.map_eq_some_iff.1 e
    have h1 := h b hb
    simp only [fldsL_add]
    have h2 := fldsL_all (K := 1000) ((valsOf qf x.n.data.toList).map (fun v => (x.n, v))) (fun p hp => by
      obtain ⟨v, hv, rfl⟩ := List.mem_map.1 hp
      unfold valsOf at hv
      obtain ⟨q, hq, rfl⟩ := List.mem_map.1 hv
      obtain ⟨hq1, hq2⟩ := List.mem_filter.1 hq
      have hz := hf q hq1
      have hn : q.1.data.toList.length = x.n.data.toList.length := by
        rcases Nat.decEq q.1.data.toList.length x.n.data.toList.length with c | c
        · rw [Pm.alike_ne c] at hq2; exact absurd hq2 (by simp)
        · exact c
      have e1 : q.1.data.toList.length = q.1.size := by simp
      have e2 : x.n.data.toList.length = x.n.size := by simp
      simp only; omega)
    have h3 := valsOf_le qf x.n.data.toList
    rw [List.length_map] at h2
    omega
  · have := h a e; omega
theorem thr_sum {qf : List Prm} {qb : ByteArray} {h : Hn} {ps : List Prm} (hl : qf.length ≤ 500) (hf : ∀ p ∈ qf, p.1.size + p.2.size ≤ 500) (ht : h.t.size ≤ 1048576) (hp : ∀ p ∈ ps, p.2.size ≤ 4000000) : ∀ (ws : List Wr) (a : An), (∀ x ∈ ws, x.n.size ≤ 1048576 ∧ x.v.size ≤ 1048576) → thrG qf qb h ps ws = some a → (fldsL a.fs).length ≤ 6000000 + ws.length * 2097156
  | [], a, _, e => by
    have hs := st_small h.n.data.toList ps hp
    have e' : handG h qb ps = some a := e
    unfold handG at e'
    split at e'
    · cases e'; simp [fldsL]
    split at e'
    · cases e'; simp [fldsL]
    split at e'
    · cases e'; simp [fldsL]
    split at e'
    · cases e'; rw [fldsL_one]; omega
    · cases e'
  | x :: r, a, hw, e => by
    have := ware_sum (hw x (by simp)) hl hf (fun b hb => thr_sum hl hf ht hp r b (fun y hy => hw y (by simp [hy])) hb) (e := e)
    rw [List.length_cons]; omega
end Go.Proofs.YtbphabgjhoifbaaGreatDoor
