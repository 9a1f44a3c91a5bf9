/-
  The reference's Sum: the eight numbers' bytes.
-/
import Derived.Test.YtnaclalbeocpkaaGreatDoorRefL14
namespace Go.Proofs.YtnaclalbeocpkaaGreatDoor
open Go Go.RowKit

theorem hbyte_of (l : List UInt32) (p : Nat) : hbyte l p = byteOf (at32 l (p / 4)) (p % 4) := rfl

end Go.Proofs.YtnaclalbeocpkaaGreatDoor
