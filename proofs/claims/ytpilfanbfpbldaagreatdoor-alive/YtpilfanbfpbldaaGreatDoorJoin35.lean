/- Texts that follow one another, joined. -/
import Derived.Test.YtpilfanbfpbldaaGreatDoorJoin34
import Derived.Test.YtpilfanbfpbldaaGreatDoorJoin04
import Derived.Test.YtpilfanbfpbldaaGreatDoorJoin30
import Derived.Test.YtpilfanbfpbldaaGreatDoorJoin31
import Derived.Test.YtpilfanbfpbldaaGreatDoorJoin18
/- looks: all lists that the book holds read as they were written; nothing old in memory turns. -/
namespace Go.Proofs.YtpilfanbfpbldaaGreatDoor
open Go.RowKit

end Go.Proofs.YtpilfanbfpbldaaGreatDoor

/- looks of a book that holds fields alone; Frame at any limits, the program's and the reference's; frames. -/
namespace Go.Proofs.YtpilfanbfpbldaaGreatDoor
open Go.RowKit

/- what Frame answers, at any limits -/
def frameG (l : List UInt8) (hd bd : Int) : FrameR := if 32 ≤ hd ∧ hd ≤ 500 ∧ 0 ≤ bd ∧ bd ≤ 200 then frameS l hd.toNat bd else frameBad 1
theorem frameS_flds (l : List UInt8) (hd : Nat) (bd : Int) : (frameS l hd bd).2.2.2.1.length ≤ hd := by
  unfold frameS
  have hf := headS_flds (hd + 1) true l hd [] [] [] 0
  generalize Pm.headS (hd + 1) true l hd [] [] [] 0 = H at *
  simp only
  split
  · exact Nat.zero_le _
  · rename_i h1
    split
    · exact Nat.zero_le _
    · split
      · exact Nat.zero_le _
      · have := (hf (by simpa using h1)).1
        simpa using this
end Go.Proofs.YtpilfanbfpbldaaGreatDoor

/- A server and its connections: plain mathematics. -/
namespace Go.Proofs.YtpilfanbfpbldaaGreatDoor
open Go.RowKit

/- what a connection holds, and how often each route was found -/
structure Cs where
  held : List UInt8
  out : List UInt8
  rq : Nat
  cl : Bool
  hs : List Int
/- a configuration -/
structure Cf where
  hd : Int
  bd : Int
  rs : List Rt
  ws : List Wr
/- where a framed request leads, and its answer -/
def ledS (C : Cf) (F : FrameR) : DsR := pdG C.hd C.bd C.rs C.ws F.2.1 F.2.2.1
def ansS (C : Cf) (F : FrameR) : Rp := repD (ledS C F) C.rs C.ws (fldsOf F.2.2.2.1) ⟨F.2.2.2.2.1.toArray⟩
def textS (C : Cf) (F : FrameR) : List UInt8 := rendL F.2.1 (ansS C F).st (ansS C F).fs (ansS C F).b.data.toList (ansS C F).cl
def sayS (S : Cs) (t : List UInt8) (cl : Bool) : Cs := if cl = true then ⟨[], S.out ++ t, S.rq, true, S.hs⟩ else ⟨S.held, S.out ++ t, S.rq, S.cl, S.hs⟩
def oneS (C : Cf) (F : FrameR) (S : Cs) : Cs := sayS ⟨S.held.drop F.2.2.2.2.2, S.out, S.rq + 1, S.cl, hitS (ledS C F).st (ledS C F).ro S.hs⟩ (textS C F) (ansS C F).cl
def noS (e : Int) (S : Cs) : Cs := sayS S (rendL [] (refSt e) [] [] true) true
def giveL (C : Cf) : Nat → Cs → Cs
  | 0, S => S
  | k + 1, S => if S.cl = true then S else if (frameG S.held C.hd C.bd).1 = 2 then S
    else if (frameG S.held C.hd C.bd).1 = 0 then giveL C k (oneS C (frameG S.held C.hd C.bd) S) else noS (frameG S.held C.hd C.bd).1 S
theorem giveL_closed (C : Cf) (k : Nat) (S : Cs) (h : S.cl = true) : giveL C k S = S := by
  cases k with
  | zero => rfl
  | succ k => rw [giveL, if_pos h]
def giveS (C : Cf) (S : Cs) (t : List UInt8) : Cs := giveL C (S.held.length + t.length + 1) ⟨S.held ++ t, S.out, S.rq, S.cl, S.hs⟩
/- a server's site goes by a configuration -/
structure SvOk (V : Sv) (C : Cf) (es : List Ent) (v vh vw : Value) (mx : Int) : Prop where
  hd : V.hd = C.hd
  bd : V.bd = C.bd
  S : StI V.gs V.gs es (C.rs.map Rt.h) C.ws v vh vw V.w1
  es : es.map Ent.bare = C.rs.map rtBare
  E : (cfgE C.hd C.bd C.rs C.ws).2 = 0
  rs : ∀ r ∈ C.rs, RtSm r
  ws : ∀ x ∈ C.ws, x.n.size ≤ 1048576 ∧ x.v.size ≤ 1048576
  mx : V.w1.cell? ⟨1, 0, none⟩ = some (.int .i64 mx)
  tab : Lib.TabBelow Tryz.prog V.w1.heap.size V.w1 "internal/strconv.uint64pow10" .u64 Lib.pow10Tab
theorem SvI.site {V : Sv} {hs : List Int} {w : World} (h : SvI V hs w) {C : Cf} {es : List Ent} {v vh vw : Value} {mx : Int} (ok : SvOk V C es v vh vw mx) : StI V.gs V.gs es (C.rs.map Rt.h) C.ws v vh vw w := ok.S.below h.bel
theorem SvI.mx {V : Sv} {hs : List Int} {w : World} (h : SvI V hs w) {C : Cf} {es : List Ent} {v vh vw : Value} {mx : Int} (ok : SvOk V C es v vh vw mx) : w.cell? ⟨1, 0, none⟩ = some (.int .i64 mx) := cell_later h.bel ok.mx
end Go.Proofs.YtpilfanbfpbldaaGreatDoor

/- The statement's own small helpers: a path ahead of a question mark, the path beside. -/
namespace Go.Proofs.YtpilfanbfpbldaaGreatDoor
open Go.RowKit

end Go.Proofs.YtpilfanbfpbldaaGreatDoor
