/-
  The walk of the statements' own 'digestAlive', and what the plain sum says of nothing and of three letters, by the kernel.
-/
import Derived.Test.YtmfjgehlkbndjaaGreatDoorDigText
import Derived.Test.YtmfjgehlkbndjaaGreatDoorKitAll
namespace Go.Proofs.YtmfjgehlkbndjaaGreatDoor
open Go.RowKit

theorem bytesInfo0 : (Tryz.prog.info? 38).map (fun i => (i.zero, i.size)) = some (some (.slice none 0 0), 1) := by kernel_rfl
theorem bytesInfo : ∃ i, Tryz.prog.info? 38 = some i ∧ i.zero = some (.slice none 0 0) ∧ i.size = 1 := by
  have h := bytesInfo0
  cases hq : Tryz.prog.info? 38 with
  | none => rw [hq] at h; cases h
  | some i => rw [hq] at h; simp at h; exact ⟨i, rfl, h.1, h.2⟩
theorem IsVals.one {w : World} {v : Value} {l : List Value} (h : IsVals w v l) : v.oneCell' = true := by
  obtain ⟨ao, c, rfl, _⟩ := h; rfl
end Go.Proofs.YtmfjgehlkbndjaaGreatDoor
