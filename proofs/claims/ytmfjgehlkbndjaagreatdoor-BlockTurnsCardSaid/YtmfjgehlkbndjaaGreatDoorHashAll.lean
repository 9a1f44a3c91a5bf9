/-
  Joined: TxHash0, TxHash.
-/
import Derived.Test.YtmfjgehlkbndjaaGreatDoorTxChAll
/-
  Layer 10: what is signed, the program's and the reference's.
-/
namespace Go.Proofs.YtmfjgehlkbndjaaGreatDoor
open Go Go.RowKit

section
variable {ops : Array Oper} {Q : Exit → Act → World → Prop} {rest : List Oper} {o : Oper} {a : Act} {w : World}
end
end Go.Proofs.YtmfjgehlkbndjaaGreatDoor

/-
  Layer 10: what is signed, the reference's.
-/
namespace Go.Proofs.YtmfjgehlkbndjaaGreatDoor
open Go Go.RowKit

end Go.Proofs.YtmfjgehlkbndjaaGreatDoor
