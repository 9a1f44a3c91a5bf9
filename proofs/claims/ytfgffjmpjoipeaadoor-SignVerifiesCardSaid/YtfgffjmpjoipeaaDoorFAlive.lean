/-
  The walk of the statements' own 'fieldAlive'.
-/
import Derived.Test.YtfgffjmpjoipeaaDoorFAll
namespace Go.Proofs.YtfgffjmpjoipeaaDoor
open Go Go.RowKit

theorem fIn_as {m a : Nat} {b : Bool} (hm : Modu m) (g : Nat) (ma : a < M256) (h : decide (a < m) = b) (w : World) (hr : Row w g 89 (wcells m)) :
    Calls Tryd.prog 56 #[.pointer (some ⟨g, 0, none⟩), WV a] w fun e w' => e = .returned (.bool b) ∧ Below w.heap.size w w' := by
  subst h; exact fIn_any hm a g ma w hr
theorem fInv_as {m a x : Nat} (hm : Modu m) (g : Nat) (ma : a < M256) (h0 : a % m ≠ 0) (h : a ^ (m - 2) % m = x) (w : World) (hr : Row w g 89 (wcells m)) :
    Calls Tryd.prog 58 #[.pointer (some ⟨g, 0, none⟩), WV a] w fun e w' => e = .returned (.tuple #[WV x, .int .i64 0]) ∧ Below w.heap.size w w' := by
  subst h; exact fInv_pos hm a g ma h0 w hr
end Go.Proofs.YtfgffjmpjoipeaaDoor
