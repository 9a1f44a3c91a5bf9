/-
  The reference's Sum: what the rounds made comes to what was before.
-/
import Derived.Test.YtnaclalbeocpkaaGreatDoorRefL8
namespace Go.Proofs.YtnaclalbeocpkaaGreatDoor
open Go Go.RowKit

end Go.Proofs.YtnaclalbeocpkaaGreatDoor
