/-
  Joined: BkRef, BkRefP.
-/
import Derived.Test.YtmfjgehlkbndjaaGreatDoorBkA
/-
  Layer 11: the reference's Parse of blocks.
-/
namespace Go.Proofs.YtmfjgehlkbndjaaGreatDoor
open Go Go.RowKit

variable {Lm : Nat}
/-! ### four bytes as a number -/
section
variable {P : Program} {ops : Array Oper} {Q : Exit → Act → World → Prop} {rest : List Oper} {o : Oper} {a : Act} {w : World} {S : World → Prop}
end
end Go.Proofs.YtmfjgehlkbndjaaGreatDoor

/-
  Layer 11: the reference's Parse of blocks, whole.
-/
namespace Go.Proofs.YtmfjgehlkbndjaaGreatDoor
open Go Go.RowKit

section
variable {ops : Array Oper} {Q : Exit → Act → World → Prop} {rest : List Oper} {o : Oper} {a : Act} {w : World}
end
end Go.Proofs.YtmfjgehlkbndjaaGreatDoor
