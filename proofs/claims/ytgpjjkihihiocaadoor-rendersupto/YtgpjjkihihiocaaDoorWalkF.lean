/- The program's Unescape answers what the plain mathematics says, of every text of at most 2^47 bytes; nothing old in memory turns. -/
import Derived.Test.YtgpjjkihihiocaaDoorWalkE
namespace Go.Proofs.YtgpjjkihihiocaaDoor
open Go.RowKit

theorem cells_snoc (o : List UInt8) (c : UInt8) : Lib.byteCells o ++ [.int .u8 c.toNat] = Lib.byteCells (o ++ [c]) := by simp [Lib.byteCells]
theorem cells_snocI (o : List UInt8) (v : Int) (h0 : 0 ≤ v) (h1 : v ≤ 255) : Lib.byteCells o ++ [.int .u8 v] = Lib.byteCells (o ++ [v.toNat.toUInt8]) := by
  rw [← cells_snoc]
  have : ((v.toNat.toUInt8).toNat : Int) = v := by
    have h2 : v.toNat < 256 := by omega
    have h3 : (v.toNat.toUInt8).toNat = v.toNat := by simp [Nat.mod_eq_of_lt h2]
    rw [h3]; omega
  rw [this]
theorem cells_len (o : List UInt8) : (Lib.byteCells o).length = o.length := by simp [Lib.byteCells]

end Go.Proofs.YtgpjjkihihiocaaDoor
