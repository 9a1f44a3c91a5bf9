/-
  The walk of the reference's Padded: bytes, with all that comes behind them.
-/
import Derived.Test.YtnaclalbeocpkaaGreatDoorRefBits
import Derived.Test.YtnaclalbeocpkaaGreatDoorKitAll
namespace Go.Proofs.YtnaclalbeocpkaaGreatDoor
open Go Go.RowKit

theorem be_byte (n j : Nat) (hj : j < 8) : ((n : Int) * 8 / 2 ^ (8 * (7 - j))).tmod 256 % 256 = B (UInt8.ofNat (n * 8 / 2 ^ (56 - 8 * j))) := by
  rw [show 8 * (7 - j) = 56 - 8 * j by omega, ← be64_byte n j, Int.tmod_eq_emod_of_nonneg (Int.ediv_nonneg (by omega) (Int.pow_nonneg (by decide)))]
  omega
theorem padded_eq (L : List UInt8) (k : Nat) (hk : k = (119 - L.length % 64) % 64) : (L ++ (128 :: List.replicate k 0)) ++ (be64 (L.length * 8)).take 8 = padded L := by
  subst hk
  unfold padded tailOf
  rw [List.take_of_length_le (by simp [be64]), List.append_assoc, List.cons_append]

end Go.Proofs.YtnaclalbeocpkaaGreatDoor
