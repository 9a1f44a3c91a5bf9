/-
  The reference's Sum: its second loop: the row of 64 numbers of a block.
-/
import Derived.Test.YtnaclalbeocpkaaGreatDoorKitRef
import Derived.Test.YtnaclalbeocpkaaGreatDoorRefL4
namespace Go.Proofs.YtnaclalbeocpkaaGreatDoor
open Go Go.RowKit

end Go.Proofs.YtnaclalbeocpkaaGreatDoor
