/-
  The walk of the statement WideSums.
-/
import Derived.Test.YtdeggdmoijfhdaaWRefAll
import Derived.Test.YtdeggdmoijfhdaaKitAll
namespace Go.Proofs.Ytdeggdmoijfhdaa
open Go Go.RowKit

theorem cmp_lt (x y : Nat) : decide (cmpI x y < 0) = decide (x < y) := by
  unfold cmpI; rw [decide_eq_decide]
  split
  · constructor <;> intro _ <;> omega
  · split <;> (constructor <;> intro _ <;> omega)
theorem cmp_ge (x y : Nat) : decide (cmpI x y ≥ 0) = decide (y ≤ x) := by
  unfold cmpI; rw [decide_eq_decide]
  split
  · constructor <;> intro _ <;> omega
  · split <;> (constructor <;> intro _ <;> omega)
end Go.Proofs.Ytdeggdmoijfhdaa
