/-
  Points as bytes: the walks of package curve's Bytes and of the reference's.
-/
import Derived.Test.YtfgffjmpjoipeaaDoorCvBytes0
namespace Go.Proofs.YtfgffjmpjoipeaaDoor
open Go Go.RowKit
open Cv

theorem b8Info0 : (Tryd.prog.info? 5).map (fun i => (i.zero, i.size, i.bytes)) = some (some (.int .u8 0), 1, 1) := by kernel_rfl
theorem b8Info : ∃ i, Tryd.prog.info? 5 = some i ∧ i.zero = some (.int .u8 0) ∧ i.size = 1 ∧ i.bytes = 1 := by
  have h := b8Info0
  cases hq : Tryd.prog.info? 5 with
  | none => rw [hq] at h; cases h
  | some i => rw [hq] at h; simp at h; exact ⟨i, rfl, h.1, h.2.1, h.2.2⟩
def BytesPost (w : World) (l : List UInt8) (e : Ending) (w' : World) : Prop := ∃ v, e = .returned v ∧ IsVals w' v (l.map VB) ∧ Below w.heap.size w w'
def OwnB (w : World) (base : Nat) (v : Value) (l : List UInt8) : Prop := w.ownsRow base 5 1 v (l.map VB).length (l.map VB)
theorem vbs_one (l : List UInt8) : ∀ u ∈ l.map VB, u.oneCell' = true := fun u hu => by
  simp at hu; obtain ⟨x, -, rfl⟩ := hu; rfl
theorem VB_ofNat {k : Nat} (h : k < 256) : VB (UInt8.ofNat k) = .int .u8 (k : Int) := by
  show Value.int .u8 (B (UInt8.ofNat k)) = _
  unfold B; rw [ofNat_toNat h]
theorem bcells_list (x : Nat) : (bcells (bytesOf x)).toList = (bytes32 x).map VB := by
  apply List.ext_getElem?
  intro p
  rw [Array.getElem?_toList]
  by_cases hp : p < 32
  · unfold bcells bytes32
    rw [tab_get 32 _ p hp, List.getElem?_map, List.getElem?_map, List.getElem?_range hp]
    show _ = some (VB (UInt8.ofNat (bytesOf x p)))
    rw [VB_ofNat (bytesOf_lt x p)]
  · rw [Array.getElem?_eq_none (by rw [bcells_size]; omega), List.getElem?_eq_none (by rw [List.length_map, bytes32_length]; omega)]
theorem info_arr32C (f : Nat → Nat) : (Tryd.prog.info? 39).map (·.size) = some (bcells f).size := by rw [bcells_size]; exact info_arr32
section
variable {ops : Array Oper} {Q : Exit → Act → World → Prop} {rest : List Oper} {o : Oper} {a : Act} {w : World}
theorem isVals_b32 {w : World} {g x : Nat} (h : Row w g 39 (bcells (bytesOf x))) : IsVals w (.slice (some ⟨g, 0, none⟩) 32 32) ((bytes32 x).map VB) := by
  have h2 := isVals_row h 0 32 32 (by rw [bcells_size]; decide) (Nat.le_refl _)
  have e : (bcells (bytesOf x)).extract 0 (0 + 32) = bcells (bytesOf x) := by
    have : (bcells (bytesOf x)).extract 0 (0 + 32) = (bcells (bytesOf x)).extract 0 (bcells (bytesOf x)).size := by rw [bcells_size]
    rw [this]; simp
  rw [e, bcells_list] at h2; exact h2
end
end Go.Proofs.YtfgffjmpjoipeaaDoor
