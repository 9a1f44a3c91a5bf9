/-
  Two facts on the program that each statement's proof asks for.
-/
import Derived.Test.YtdeggdmoijfhdaaDoorRows
import Derived.ProofKit
namespace Go.Proofs.YtdeggdmoijfhdaaDoor
open Go.RowKit

theorem own : ownKnob Tryd.prog.godebug = none := by kernel_rfl
theorem laidOut : laidOutB Tryd.prog = true := by kernel_rfl
end Go.Proofs.YtdeggdmoijfhdaaDoor
