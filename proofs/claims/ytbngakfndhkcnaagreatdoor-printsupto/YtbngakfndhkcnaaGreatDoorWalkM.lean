/- The first line of a head: the error, the method, the target, as the plain mathematics says; nothing old in memory turns. -/
import Derived.Test.YtbngakfndhkcnaaGreatDoorWalkL
namespace Go.Proofs.YtbngakfndhkcnaaGreatDoor
open Go.RowKit

theorem ret_first {k : IntKind} {a b c d : ByteArray} {x y : Int} (h : a = b) (h' : c = d) (hx : x = y) : Ending.returned (.tuple #[.string a, .string c, .int k x]) = .returned (.tuple #[.string b, .string d, .int k y]) := by rw [h, h', hx]

end Go.Proofs.YtbngakfndhkcnaaGreatDoor
