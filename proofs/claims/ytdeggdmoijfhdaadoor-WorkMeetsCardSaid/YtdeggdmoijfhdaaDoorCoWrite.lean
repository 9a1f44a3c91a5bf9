/-
  Layer 9: the walks of what writes: references, outputs and coins as bytes, the program's and the reference's.
-/
import Derived.Test.YtdeggdmoijfhdaaDoorCoSame
import Derived.Test.YtdeggdmoijfhdaaDoorPcAll
namespace Go.Proofs.YtdeggdmoijfhdaaDoor
open Go Go.RowKit

theorem clamp4 : clampS 4 = 4 := by decide
theorem clamp8 : clampS 8 = 8 := by decide
theorem fixed4_len (n : Nat) : (fixedL n 4).length = 4 := fixedL_len n 4
theorem outL_le {n : Int} {l : List UInt8} {m : Nat} (h : l.length ≤ m) : (outL n l).length ≤ m + 17 := by
  have := textL_le h
  unfold outL; rw [List.length_append, fixedL_len]; omega
theorem bysInfoC : ∃ i, Tryd.prog.info? 57 = some i ∧ i.zero = some (.slice none 0 0) ∧ i.size = 1 := by
  have h1 : (Tryd.prog.info? 57).map (·.size) = some 1 := info_bytesP
  have h2 : ((Tryd.prog.info? 57).bind (·.zero)) = some (.slice none 0 0) := by kernel_rfl
  cases hq : Tryd.prog.info? 57 with
  | none => simp [hq] at h1
  | some i =>
    rw [hq] at h1 h2
    exact ⟨i, rfl, h2, by simpa using h1⟩
theorem vals_oneC {w : World} {v : Value} {l : List Value} (h : IsVals w v l) : v.oneCell' = true := by obtain ⟨ao, c, rfl, _⟩ := h; rfl
theorem areLists_oneC {w : World} {g : Nat} {E : TypeId} {x : Value} {l : List UInt8} (h : Row w g E #[x]) (hx : IsVals w x (l.map VB)) : AreLists w (.slice (some ⟨g, 0, none⟩) 1 1) [l] := areLists_one h hx
theorem textsL_one (l : List UInt8) : textsL [l] = textL l := by simp [textsL]
end Go.Proofs.YtdeggdmoijfhdaaDoor
