/-
  The reference's Sum: a number's four bytes, the last first.
-/
import Derived.Test.YtnaclalbeocpkaaGreatDoorRefL8
namespace Go.Proofs.YtnaclalbeocpkaaGreatDoor
open Go Go.RowKit

/-- the k-th byte of a number, the highest first -/
def byteOf (x : UInt32) (k : Nat) : UInt8 := UInt8.ofNat (x.toNat / 2 ^ (24 - 8 * k))
theorem I_div256 (x : UInt32) (k : Nat) : (I x / 2 ^ (8 * k)).tdiv 256 = I x / 2 ^ (8 * (k + 1)) := by
  have h0 : 0 ≤ I x / 2 ^ (8 * k) := Int.ediv_nonneg (I_lo x) (Int.pow_nonneg (by decide))
  rw [Int.tdiv_eq_ediv_of_nonneg h0, Int.ediv_ediv_of_nonneg (Int.pow_nonneg (by decide)), show 8 * (k + 1) = 8 * k + 8 by omega, Int.pow_add]
  rfl
theorem I_byte (x : UInt32) (k : Nat) (hk : k ≤ 3) : (I x / 2 ^ (8 * k)).tmod 256 % 256 = B (byteOf x (3 - k)) := by
  have h0 : 0 ≤ I x / 2 ^ (8 * k) := Int.ediv_nonneg (I_lo x) (Int.pow_nonneg (by decide))
  rw [Int.tmod_eq_emod_of_nonneg h0]
  unfold B byteOf I
  rw [UInt8.toNat_ofNat', show 24 - 8 * (3 - k) = 8 * k by omega, Int.natCast_emod, Int.natCast_ediv, Int.natCast_pow]
  exact Int.emod_emod_of_dvd _ (Int.dvd_refl _)

end Go.Proofs.YtnaclalbeocpkaaGreatDoor
