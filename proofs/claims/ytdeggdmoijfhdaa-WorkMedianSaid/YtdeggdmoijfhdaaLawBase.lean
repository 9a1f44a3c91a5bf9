/-
  Two facts on the program that each statement's proof asks for.
-/
import Derived.Test.YtdeggdmoijfhdaaRows
import Derived.ProofKit
namespace Go.Proofs.Ytdeggdmoijfhdaa
open Go.RowKit

theorem own : ownKnob Try.prog.godebug = none := by kernel_rfl
theorem laidOut : laidOutB Try.prog = true := by kernel_rfl
end Go.Proofs.Ytdeggdmoijfhdaa
