/- Ahead and Unescape, the reference's and the program's: each answers what the plain mathematics says; nothing old in memory turns. -/
import Derived.Test.YtomnojeoodaheaaDoorPlainB
import Derived.Test.YtomnojeoodaheaaDoorWalkD
import Derived.Laws.BytesArg
namespace Go.Proofs.YtomnojeoodaheaaDoor
open Go.RowKit

theorem hid {p : Prop} (h : p) : Hid p := h
theorem ret_strs {a b c d : ByteArray} (h : a = b) (h' : c = d) : Ending.returned (.tuple #[.string a, .string c]) = .returned (.tuple #[.string b, .string d]) := by rw [h, h']
theorem ret_strint {k : IntKind} {a b : ByteArray} {c d : Int} (h : a = b) (h' : c = d) : Ending.returned (.tuple #[.string a, .int k c]) = .returned (.tuple #[.string b, .int k d]) := by rw [h, h']
theorem bytes_of {a : ByteArray} {l : List UInt8} (h : a.data.toList = l) : a = ⟨l.toArray⟩ := by
  obtain ⟨⟨m⟩⟩ := a; simp at h; subst h; rfl
theorem size_of {a : ByteArray} {l : List UInt8} (h : a.data.toList = l) : a.size = l.length := by
  rw [← h]; simp

theorem conv_one (v : Int) (W : World) : (convert 61 9 (.slice (some ⟨W.heap.size, 0, none⟩) 1 1)).run Tryd.prog (W.alloc (.cells #[.int .u8 v] 5)) = .ok (.string (strOfNums [v])) (W.alloc (.cells #[.int .u8 v] 5)) := by
  refine run_convert_bytes_arg (W.alloc (.cells #[.int .u8 v] 5)) 61 5 Tryd.underlying61 Tryd.underlying5 W.heap.size 0 1 1 [v] rfl ?_ 9 Tryd.underlying9
  intro i hi
  obtain rfl : i = 0 := by omega
  simp
theorem strOf_one (v : Int) : (strOfNums [v]).data.toList = [v.toNat.toUInt8] := rfl
theorem strOf_size (v : Int) : (strOfNums [v]).size = 1 := rfl

def lenOf (v : Value) : Nat := match v with | .string s => s.size | _ => 0

end Go.Proofs.YtomnojeoodaheaaDoor
