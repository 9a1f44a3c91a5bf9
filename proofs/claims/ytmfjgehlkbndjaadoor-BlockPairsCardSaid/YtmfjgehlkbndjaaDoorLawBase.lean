/-
  Two facts on the program that each statement's proof asks for.
-/
import Derived.Test.YtmfjgehlkbndjaaDoorRows
import Derived.ProofKit
namespace Go.Proofs.YtmfjgehlkbndjaaDoor
open Go.RowKit

theorem own : ownKnob Tryd.prog.godebug = none := by kernel_rfl
theorem laidOut : laidOutB Tryd.prog = true := by kernel_rfl
end Go.Proofs.YtmfjgehlkbndjaaDoor
