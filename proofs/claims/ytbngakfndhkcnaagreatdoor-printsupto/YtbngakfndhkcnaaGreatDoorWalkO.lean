/- oneNumber and framingOf answer what the plain mathematics says of the values; nothing old in memory turns. -/
import Derived.Test.YtbngakfndhkcnaaGreatDoorPlainE
import Derived.Test.YtbngakfndhkcnaaGreatDoorWalkN
namespace Go.Proofs.YtbngakfndhkcnaaGreatDoor
open Go.RowKit

theorem ret_slot {a b c d : Int} (h : a = b) (h' : c = d) : Ending.returned (.tuple #[.int .i64 a, .int .i64 c]) = .returned (.tuple #[.int .i64 b, .int .i64 d]) := by rw [h, h']
def datas (l : List ByteArray) : List (List UInt8) := l.map (·.data.toList)

end Go.Proofs.YtbngakfndhkcnaaGreatDoor
