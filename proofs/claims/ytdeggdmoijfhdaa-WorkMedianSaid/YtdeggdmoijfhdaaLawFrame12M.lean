/-
  A slice of numbers of 32 bits that came in, as a list.
-/
import Derived.Test.YtdeggdmoijfhdaaSoMem
import Derived.Test.YtdeggdmoijfhdaaLawFrame12
namespace Go.Proofs.Ytdeggdmoijfhdaa
open Go.ChangeShapes Go.WideShapes Go.ChangeAt Go.RowKit Go

set_option maxRecDepth 100000 in
theorem open_u32s {H : Type} {enc : TypeId × Value → H} {W : World} {base : Nat} {sp : Nat → Bool} {held : Bool} {r : Reach} {b0 : Nat} {v : Value} {d : DataW H} {ps : List MemPlace} (hsp : ∀ b, sp b = true)
    (hv : Value.okWide Try.prog W r b0 45 v) (hd : DataW.Trod enc Try.prog W base sp held 45 v d ps) : ∃ l : List Nat, IsVals W v (l.map VW) := by
  obtain ⟨ao, len, cap, rfl⟩ := okWide_slice Try.underlying45 hv
  obtain ⟨fuel, hf⟩ := hd
  simp only [Value.cells] at hf
  rcases open_ints Try.underlying45 Try.underlying28 (by kernel_rfl) hf with ⟨hcs, _⟩ | ⟨a, len', cap', zs, hcs, _, hl, hm, hz, _, hcell, hwz⟩
  · simp at hcs
    obtain ⟨rfl, rfl, rfl⟩ := hcs
    exact ⟨[], isVals_nil W⟩
  · simp at hcs
    obtain ⟨rfl, rfl, rfl⟩ := hcs
    rw [hsp, if_pos rfl] at hz
    have hlen : ((zs.take len).map fun z => z.toNat).length = len := by simp; omega
    refine ⟨(zs.take len).map fun z => z.toNat, some a, cap, by rw [List.length_map, hlen], by rw [List.length_map, hlen]; exact hl, (fun h => by cases h), fun j u hu => ⟨a, rfl, ?_⟩⟩
    have hj : j < len := by have := (List.getElem?_eq_some_iff.1 hu).1; rw [List.length_map, hlen] at this; exact this
    have hjz : j < zs.length := by omega
    rw [hcell j hjz]
    simp [hj, hjz] at hu
    rw [← hu]
    obtain ⟨x, hx, -⟩ := bounds_u32 (hwz _ (List.getElem_mem hjz))
    simp [hjz, VW]
    omega
end Go.Proofs.Ytdeggdmoijfhdaa
