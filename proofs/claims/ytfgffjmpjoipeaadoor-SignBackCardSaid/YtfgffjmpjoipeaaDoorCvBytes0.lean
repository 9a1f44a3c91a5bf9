/-
  Points as bytes, plain: what bytes a point has, which point bytes are, and that one undoes the other. No walk here.
-/
import Derived.Test.YtfgffjmpjoipeaaDoorFRootKit
import Derived.Test.YtfgffjmpjoipeaaDoorCvRef4
namespace Go.Proofs.YtfgffjmpjoipeaaDoor
open Go Go.RowKit
open Cv

/-- 32 bytes, the highest first -/
def bytes32 (a : Nat) : List UInt8 := (List.range 32).map fun i => UInt8.ofNat (bytesOf a i)
theorem bytes32_length (a : Nat) : (bytes32 a).length = 32 := by unfold bytes32; simp
theorem bytesOf_lt (a i : Nat) : bytesOf a i < 256 := Nat.mod_lt _ (by decide)
theorem ofNat_toNat {k : Nat} (h : k < 256) : (UInt8.ofNat k).toNat = k := by
  rw [UInt8.toNat_ofNat']; exact Nat.mod_eq_of_lt h
theorem bytes32_at (a i : Nat) (hi : i < 32) : ((bytes32 a).getD i 0).toNat = bytesOf a i := by
  unfold bytes32
  rw [List.getD_eq_getElem?_getD, List.getElem?_map, List.getElem?_range hi]
  exact ofNat_toNat (bytesOf_lt a i)
/-- the number of bytes, the highest first -/
def numOf (r : List UInt8) : Nat := bnum (fun i => (r.getD (31 - i) 0).toNat) 32
theorem bnum_same {f g : Nat → Nat} : ∀ k, (∀ i, i < k → f i = g i) → bnum f k = bnum g k
  | 0, _ => rfl
  | k + 1, h => by
    show bnum f k + f k * 2 ^ (8 * k) = bnum g k + g k * 2 ^ (8 * k)
    rw [bnum_same k (fun i hi => h i (by omega)), h k (by omega)]
theorem byte_lt (r : List UInt8) (i : Nat) : (r.getD i 0).toNat < 256 := UInt8.toNat_lt _
theorem numOf_lt (r : List UInt8) : numOf r < M256 := bnum_M256 _ fun _ => byte_lt r _
theorem numOf_bytes (a : Nat) (ha : a < M256) : numOf (bytes32 a) = a := by
  unfold numOf
  rw [bnum_same 32 (g := nbyte a) (fun i hi => by rw [bytes32_at a (31 - i) (by omega)]; unfold bytesOf; rw [show 31 - (31 - i) = i by omega]), bnum_self]
  exact Nat.mod_eq_of_lt ha
theorem bytes_numOf (r : List UInt8) (hr : r.length = 32) : bytes32 (numOf r) = r := by
  apply List.ext_getElem?
  intro p
  by_cases hp : p < 32
  · unfold bytes32
    rw [List.getElem?_map, List.getElem?_range hp, List.getElem?_eq_getElem (by omega)]
    show some (UInt8.ofNat (bytesOf (numOf r) p)) = some r[p]
    have e : bytesOf (numOf r) p = r[p].toNat := by
      unfold bytesOf numOf
      rw [bnum_byte (fun i => (r.getD (31 - i) 0).toNat) (fun _ => byte_lt r _) (31 - p) 32 (by omega)]
      show (r.getD (31 - (31 - p)) 0).toNat = _
      rw [show 31 - (31 - p) = p by omega, List.getD_eq_getElem?_getD, List.getElem?_eq_getElem (by omega)]; rfl
    rw [e, UInt8.ofNat_toNat]
  · rw [List.getElem?_eq_none (by rw [bytes32_length]; omega), List.getElem?_eq_none (by omega)]
instance (m a : Nat) : Decidable (HasRoot m a) := inferInstanceAs (Decidable (rootOf m a * rootOf m a % m = a % m))
end Go.Proofs.YtfgffjmpjoipeaaDoor
