/-
  The reference's Sum: its rounds.
-/
import Derived.Test.YtnaclalbeocpkaaGreatDoorRefL8
namespace Go.Proofs.YtnaclalbeocpkaaGreatDoor
open Go Go.RowKit

end Go.Proofs.YtnaclalbeocpkaaGreatDoor
