/-
  The walks of the reference's small functions: right and down, over numbers of 32 bits that lie in 64, and its keys.
-/
import Derived.Test.YtnaclalbeocpkaaGreatDoorRText
namespace Go.Proofs.YtnaclalbeocpkaaGreatDoor
open Go Go.RowKit

/-- a number of 32 bits in one of 64 -/
abbrev V64 (x : UInt32) : Value := .int .u64 (I x)

theorem rright_num (x : UInt32) (n : Nat) (h1 : 1 ≤ n) (h2 : n ≤ 31) :
    (bits .or .u64 (I x / 2 ^ n) (I x * 2 ^ (32 - n))).tmod 4294967296 = I (rotr x n) := by
  have hx := x.toNat_lt
  have e1 : I x * 2 ^ (32 - n) = ((x.toNat * 2 ^ (32 - n) : Nat) : Int) := by unfold I; rw [Int.natCast_mul, Int.natCast_pow]; rfl
  have e2 : I x / 2 ^ n = ((x.toNat / 2 ^ n : Nat) : Int) := by unfold I; rw [Int.natCast_ediv, Int.natCast_pow]; rfl
  have l2 : x.toNat / 2 ^ n < 18446744073709551616 := by have := Nat.div_le_self x.toNat (2 ^ n); omega
  have hp : 2 ^ (32 - n) ≤ 2 ^ 31 := Nat.pow_le_pow_right (by decide) (by omega)
  have l1 : x.toNat * 2 ^ (32 - n) < 18446744073709551616 := by
    have := Nat.mul_le_mul (Nat.le_of_lt hx) hp
    omega
  rw [e1, e2, u64_or_nat _ _ l2 l1]
  unfold I
  rw [rotr_toNat, Int.tmod_eq_emod_of_nonneg (by omega)]
  rfl

theorem shl_in (x : UInt32) (n : Nat) (h1 : 1 ≤ n) : 0 ≤ I x * 2 ^ (32 - n) ∧ I x * 2 ^ (32 - n) < 18446744073709551616 := by
  have hx := x.toNat_lt
  have e1 : I x * 2 ^ (32 - n) = ((x.toNat * 2 ^ (32 - n) : Nat) : Int) := by unfold I; rw [Int.natCast_mul, Int.natCast_pow]; rfl
  have hp : 2 ^ (32 - n) ≤ 2 ^ 31 := Nat.pow_le_pow_right (by decide) (by omega)
  have := Nat.mul_le_mul (Nat.le_of_lt hx) hp
  rw [e1]; omega

theorem info_u64b : (Tryz.prog.info? 79).map (·.size) = some 1 := by kernel_rfl

def keyParts : Array (Nat × Value) := ((List.range 64).map fun j => (j, V64 (at32 kTab j))).toArray
end Go.Proofs.YtnaclalbeocpkaaGreatDoor
