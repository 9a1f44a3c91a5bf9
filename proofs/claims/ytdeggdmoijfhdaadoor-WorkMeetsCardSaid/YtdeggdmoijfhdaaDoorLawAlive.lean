/-
  The walk of the statements' own 'digestAlive', and what the plain sum says of nothing and of three letters, by the kernel.
-/
import Derived.Test.YtdeggdmoijfhdaaDoorDigText
import Derived.Test.YtdeggdmoijfhdaaDoorKitAll
namespace Go.Proofs.YtdeggdmoijfhdaaDoor
open Go.RowKit

set_option maxRecDepth 100000 in
theorem sha_nil : B (at8 (sha []) 0) = 227 ∧ B (at8 (sha []) 1) = 176 ∧ B (at8 (sha []) 2) = 196 ∧ B (at8 (sha []) 3) = 66 := by decide +kernel
set_option maxRecDepth 100000 in
theorem sha_abc : textTo (sha [97, 98, 99]) 32 = [97, 100, 49, 53, 48, 48, 102, 50, 54, 49, 102, 102, 49, 48, 98, 52, 57, 99, 55, 97, 49, 55, 57, 54, 97, 51, 54, 49, 48, 51, 98, 48, 50, 51, 50, 50, 97, 101, 53, 100, 100, 101, 52, 48, 52, 49, 52, 49, 101, 97, 99, 102, 48, 49, 56, 102, 98, 102, 49, 54, 55, 56, 98, 97] := by decide +kernel

theorem bytesInfo0 : (Tryd.prog.info? 57).map (fun i => (i.zero, i.size)) = some (some (.slice none 0 0), 1) := by kernel_rfl
theorem bytesInfo : ∃ i, Tryd.prog.info? 57 = some i ∧ i.zero = some (.slice none 0 0) ∧ i.size = 1 := by
  have h := bytesInfo0
  cases hq : Tryd.prog.info? 57 with
  | none => rw [hq] at h; cases h
  | some i => rw [hq] at h; simp at h; exact ⟨i, rfl, h.1, h.2⟩
theorem IsVals.one {w : World} {v : Value} {l : List Value} (h : IsVals w v l) : v.oneCell' = true := by
  obtain ⟨ao, c, rfl, _⟩ := h; rfl
end Go.Proofs.YtdeggdmoijfhdaaDoor
