/- Texts that follow one another, joined. -/
import Derived.Test.YtjfllmogiknneaaGreatDoorJoin01
import Derived.Test.YtjfllmogiknneaaGreatDoorJoin07
/- oneNumber and framingOf answer what the plain mathematics says of the values; nothing old in memory turns. -/
namespace Go.Proofs.YtjfllmogiknneaaGreatDoor
open Go.RowKit

theorem ret_slot {a b c d : Int} (h : a = b) (h' : c = d) : Ending.returned (.tuple #[.int .i64 a, .int .i64 c]) = .returned (.tuple #[.int .i64 b, .int .i64 d]) := by rw [h, h']
def datas (l : List ByteArray) : List (List UInt8) := l.map (·.data.toList)

end Go.Proofs.YtjfllmogiknneaaGreatDoor

/- framingOf answers what the plain mathematics says of the fields; nothing old in memory turns. -/
namespace Go.Proofs.YtjfllmogiknneaaGreatDoor
open Go.RowKit

def nHost : List UInt8 := [72, 111, 115, 116]
def nLength : List UInt8 := [67, 111, 110, 116, 101, 110, 116, 45, 76, 101, 110, 103, 116, 104]
def nCoding : List UInt8 := [84, 114, 97, 110, 115, 102, 101, 114, 45, 69, 110, 99, 111, 100, 105, 110, 103]
def nChunked : List UInt8 := [99, 104, 117, 110, 107, 101, 100]
/- the error; whether the body is told in chunks; its length -/
def framS (hosts : Nat) (lens cods : List (List UInt8)) (most : Int) : Int × Bool × Int :=
  if hosts ≠ 1 then (3, false, 0)
  else if 0 < cods.length ∧ 0 < lens.length then (3, false, 0)
  else if Pm.oneE lens ≠ 0 then (3, false, 0)
  else if 1 < cods.length ∨ (cods.length = 1 ∧ Pm.alike (cods.headD []) nChunked = false) then (6, false, 0)
  else if most < Pm.oneN lens then (4, false, 0)
  else (0, decide (cods.length = 1), Pm.oneN lens)
def framOf (fs : List (ByteArray × ByteArray)) (most : Int) : Int × Bool × Int :=
  framS (valsOf fs nHost).length (datas (valsOf fs nLength)) (datas (valsOf fs nCoding)) most

theorem vals_size {fs : List (ByteArray × ByteArray)} {name : List UInt8} (h : ∀ f ∈ fs, f.2.size ≤ maxLen) : ∀ i (hi : i < (valsOf fs name).length), (valsOf fs name)[i].size ≤ maxLen := by
  intro i hi
  have h1 := List.getElem_mem hi
  unfold valsOf at h1
  rw [List.mem_map] at h1
  obtain ⟨f, hf, he⟩ := h1
  have h2 := h f (List.mem_filter.1 hf).1
  unfold valsOf
  rw [← he]; exact h2

theorem cell_keep {w w' : World} {a : Addr} {v : Value} (hb : Below w.heap.size w w') (h : w.cell? a = some v) : w'.cell? a = some v := cell_later hb h
theorem froz_keep {w w' : World} {a : Addr} {v : Value} (hb : Below w.heap.size w w') (h : w.cell? a = some v) (hf : w.frozen? a = false) : w'.frozen? a = false := by
  rw [hb.frozen (block_lt_of_cell h)]; exact hf

theorem alike_chunked (c : ByteArray) (w : World) (hc : c.size ≤ maxLen) :
    Calls Tryz.prog 91 #[.string c, .string ⟨#[99, 104, 117, 110, 107, 101, 100]⟩] w fun e w' => e = .returned (.bool (Pm.alike c.data.toList nChunked)) ∧ Below w.heap.size w w' := wAlike_any c ⟨#[99, 104, 117, 110, 107, 101, 100]⟩ w hc

end Go.Proofs.YtjfllmogiknneaaGreatDoor

/- A reader's bytes, size and chunk: the error, what is read, the new place, as the plain mathematics says; no other block turns. -/
namespace Go.Proofs.YtjfllmogiknneaaGreatDoor
open Go.RowKit

def sizeN (l : List UInt8) : Int := if (Pm.lineS l 10 3).1 = 0 then Pm.numN 16 8 (Pm.lineS l 10 3).2.1 else 0
def sizeE (l : List UInt8) : Int := if (Pm.lineS l 10 3).1 = 0 then (if Pm.numE 16 8 (Pm.lineS l 10 3).2.1 = 0 then 0 else 3) else (Pm.lineS l 10 3).1

end Go.Proofs.YtjfllmogiknneaaGreatDoor
