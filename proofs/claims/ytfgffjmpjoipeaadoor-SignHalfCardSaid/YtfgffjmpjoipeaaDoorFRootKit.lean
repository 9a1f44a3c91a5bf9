/-
  Roots, as package field tells them (for layer 4).
-/
import Derived.Test.YtfgffjmpjoipeaaDoorFRef4
namespace Go.Proofs.YtfgffjmpjoipeaaDoor
open Go Go.RowKit

/-- the power that is a root, if any is -/
def rootOf (m a : Nat) : Nat := a ^ ((m + 1) / 4) % m
def HasRoot (m a : Nat) : Prop := rootOf m a * rootOf m a % m = a % m
end Go.Proofs.YtfgffjmpjoipeaaDoor
