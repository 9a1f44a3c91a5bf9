/-
  Two facts on the program that each statement's proof asks for.
-/
import Derived.Test.YtalcopfhofijlaaRows
import Derived.ProofKit
namespace Go.Proofs.Ytalcopfhofijlaa
open Go.RowKit

theorem own : ownKnob Try.prog.godebug = none := by kernel_rfl
theorem laidOut : laidOutB Try.prog = true := by kernel_rfl
end Go.Proofs.Ytalcopfhofijlaa
