/-
  Layer 8: the walks of the reference's push and Lock.
-/
import Derived.Test.YtnaclalbeocpkaaGreatDoorLbRefR
namespace Go.Proofs.YtnaclalbeocpkaaGreatDoor
open Go Go.RowKit

theorem strInfo0L : (Tryz.prog.info? 9).map (fun i => (i.zero, i.size, i.bytes)) = some (some (textV []), 1, 16) := by kernel_rfl
theorem strInfoL : ∃ i, Tryz.prog.info? 9 = some i ∧ i.zero = some (textV []) ∧ i.size = 1 ∧ i.bytes = 16 := by
  have h := strInfo0L
  cases hi : Tryz.prog.info? 9 with
  | none => rw [hi] at h; cases h
  | some i =>
    rw [hi] at h
    simp only [Option.map_some, Option.some.injEq, Prod.mk.injEq] at h
    exact ⟨i, rfl, h⟩
/-- a deed in a row, rows as they are over a world -/
def DR (w : World) (g : Nat) (d : Deed) : Prop := Row w g 25 (dcells d)
theorem DR.below {w w' : World} {g : Nat} {d : Deed} (h : DR w g d) (hb : Below w.heap.size w w') : DR w' g d := Row.onL h hb
theorem row_dr {w : World} {g : Nat} {d : Deed} (h : Row w g 25 (dcells d)) : DR w g d := h
end Go.Proofs.YtnaclalbeocpkaaGreatDoor
