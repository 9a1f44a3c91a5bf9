/-
  Two facts on the program that each statement's proof asks for.
-/
import Derived.Test.YtmfjgehlkbndjaaGreatDoorRows
import Derived.ProofKit
namespace Go.Proofs.YtmfjgehlkbndjaaGreatDoor
open Go.RowKit

theorem own : ownKnob Tryz.prog.godebug = none := by kernel_rfl
theorem laidOut : laidOutB Tryz.prog = true := by kernel_rfl
end Go.Proofs.YtmfjgehlkbndjaaGreatDoor
