/- Texts that follow one another, joined. -/
import Derived.Test.YtpfendckgeoonaaGreatDoorJoin06
import Derived.Deep.QuietTactic
import Derived.BigQuiet
import Derived.Test.YtpfendckgeoonaaGreatDoorJoin00
import Derived.Laws.BytesArg
/- The reference's numbers: number, Decimal and Hex answer what the plain mathematics says; nothing old in memory turns. -/
namespace Go.Proofs.YtpfendckgeoonaaGreatDoor
open Go.RowKit

theorem dig_at {base : Int} (hb : base = 10 ∨ base = 16) (d : ByteArray) (hd : d.data.toList = Pm.digs16.take base.toNat) (c : UInt8) :
    Lib.indexByte d.data.toList (Pm.small c) = if Pm.dval c < base then Pm.dval c else -1 := by
  rw [hd]
  rcases hb with rfl | rfl
  · exact Pm.dig_at10 c
  · exact Pm.dig_at16 c

theorem numM_neg {base most : Int} {l : List UInt8} (hb : 0 ≤ base) (hb2 : base ≤ 16) (hm : most ≤ 9) (h : Pm.numM base most l < 0) : Pm.numN base most l = 0 ∧ Pm.numE base most l = 1 := by
  unfold Pm.numM at h
  split at h
  · rename_i h1
    have h2 := h1
    simp only [Pm.numOk, Bool.and_eq_true, decide_eq_true_eq] at h1
    have := Pm.numv_bd base l hb hb2 h1.2 (by omega); omega
  · rename_i h1
    simp [Pm.numN, Pm.numE, h1]
theorem numM_pos {base most : Int} {l : List UInt8} (h : 0 ≤ Pm.numM base most l) : Pm.numN base most l = Pm.numM base most l ∧ Pm.numE base most l = 0 := by
  unfold Pm.numM at h ⊢
  split at h
  · rename_i h1
    simp [Pm.numN, Pm.numE, h1]
  · omega

end Go.Proofs.YtpfendckgeoonaaGreatDoor

/- Ahead and Unescape, the reference's and the program's: each answers what the plain mathematics says; nothing old in memory turns. -/
namespace Go.Proofs.YtpfendckgeoonaaGreatDoor
open Go.RowKit

theorem hid {p : Prop} (h : p) : Hid p := h
theorem ret_strs {a b c d : ByteArray} (h : a = b) (h' : c = d) : Ending.returned (.tuple #[.string a, .string c]) = .returned (.tuple #[.string b, .string d]) := by rw [h, h']
theorem ret_strint {k : IntKind} {a b : ByteArray} {c d : Int} (h : a = b) (h' : c = d) : Ending.returned (.tuple #[.string a, .int k c]) = .returned (.tuple #[.string b, .int k d]) := by rw [h, h']
theorem bytes_of {a : ByteArray} {l : List UInt8} (h : a.data.toList = l) : a = ⟨l.toArray⟩ := by
  obtain ⟨⟨m⟩⟩ := a; simp at h; subst h; rfl
theorem size_of {a : ByteArray} {l : List UInt8} (h : a.data.toList = l) : a.size = l.length := by
  rw [← h]; simp

theorem conv_one (v : Int) (W : World) : (convert 108 9 (.slice (some ⟨W.heap.size, 0, none⟩) 1 1)).run Tryz.prog (W.alloc (.cells #[.int .u8 v] 5)) = .ok (.string (strOfNums [v])) (W.alloc (.cells #[.int .u8 v] 5)) := by
  refine run_convert_bytes_arg (W.alloc (.cells #[.int .u8 v] 5)) 108 5 Tryz.underlying108 Tryz.underlying5 W.heap.size 0 1 1 [v] rfl ?_ 9 Tryz.underlying9
  intro i hi
  obtain rfl : i = 0 := by omega
  simp
theorem strOf_one (v : Int) : (strOfNums [v]).data.toList = [v.toNat.toUInt8] := rfl
theorem strOf_size (v : Int) : (strOfNums [v]).size = 1 := rfl

def lenOf (v : Value) : Nat := match v with | .string s => s.size | _ => 0

end Go.Proofs.YtpfendckgeoonaaGreatDoor
