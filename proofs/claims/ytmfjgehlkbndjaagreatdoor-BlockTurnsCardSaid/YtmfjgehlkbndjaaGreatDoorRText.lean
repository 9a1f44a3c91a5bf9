/-
  The walk of the reference's Text: the same digits, laid in front.
-/
import Derived.Test.YtmfjgehlkbndjaaGreatDoorLawAlive
import Derived.Test.YtmfjgehlkbndjaaGreatDoorHex
namespace Go.Proofs.YtmfjgehlkbndjaaGreatDoor
open Go Go.RowKit

section
variable {P : Program} {ops : Array Oper} {C : World → Prop} {Q : Act → Prop} {rest : List Oper} {o : Oper} {a : Act}
end

end Go.Proofs.YtmfjgehlkbndjaaGreatDoor
