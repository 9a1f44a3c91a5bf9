/-
  What comes into the statements of layer 12, opened: numbers of 32 bits, alone and two in a row.
-/
import Derived.Test.YtdeggdmoijfhdaaLawFrameW
namespace Go.Proofs.Ytdeggdmoijfhdaa
open Go.ChangeShapes Go.WideShapes Go.ChangeAt Go.RowKit

theorem bounds_u32 {z : Int} (h : (Lit.int .u32 z).wf = true) : ∃ n : Nat, z = n ∧ n < 4294967296 := by
  simp [Lit.wf, IntKind.min, IntKind.max, IntKind.bits, IntKind.signed] at h
  exact ⟨z.toNat, by omega, by omega⟩
set_option maxRecDepth 100000 in
/-- two numbers of 32 bits that came in -/
theorem open_two32 {H : Type} {enc : TypeId × Value → H} {W : World} {base : Nat} {sp : Nat → Bool} {held : Bool} {r : Reach} {b0 : Nat} {v : Value} {d : DataW H} {ps : List MemPlace}
    (hv : Value.okWide Try.prog W r b0 47 v) (hd : DataW.Trod enc Try.prog W base sp held 47 v d ps) : ∃ (j k : Nat), j < 4294967296 ∧ k < 4294967296 ∧ v = .agg #[.int .u32 (j : Int), .int .u32 (k : Int)] := by
  obtain ⟨f, rfl, hw⟩ := open_intArr Try.underlying47 Try.underlying28 (by kernel_rfl) (by kernel_rfl) hv hd
  obtain ⟨j, ej, hj⟩ := bounds_u32 (hw 0 (by decide))
  obtain ⟨k, ek, hk⟩ := bounds_u32 (hw 1 (by decide))
  refine ⟨j, k, hj, hk, ?_⟩
  rw [← ej, ← ek]; rfl
end Go.Proofs.Ytdeggdmoijfhdaa
