/-
  The walks of math/bits.Mul64 and Len64, and of wide's mulAdd.
-/
import Derived.Test.YtajpdmcbdekpbaaDoorWAdd
namespace Go.Proofs.YtajpdmcbdekpbaaDoor
open Go Go.RowKit

theorem and32 (x : Nat) (h : x < 18446744073709551616) : bits .and .u64 (x : Int) 4294967295 = ((x % 4294967296 : Nat) : Int) := by
  have := u64_and_nat x 4294967295 h (by decide)
  rw [show (4294967295 : Int) = ((4294967295 : Nat) : Int) from rfl, this, show (4294967295 : Nat) = 2 ^ 32 - 1 from rfl, Nat.and_two_pow_sub_one_eq_mod]

theorem wrap64 (n : Nat) : IntKind.u64.wrap (n : Int) = ((n % 18446744073709551616 : Nat) : Int) := by
  rw [IntKind.wrap_u64]; omega
theorem wrap64_lt (n : Nat) (h : n < 18446744073709551616) : IntKind.u64.wrap (n : Int) = (n : Int) := by rw [wrap64, Nat.mod_eq_of_lt h]
theorem mul_lt32 {a b : Nat} (ha : a < 4294967296) (hb : b < 4294967296) : a * b ≤ 18446744065119617025 := by
  have := Nat.mul_le_mul (Nat.le_of_lt_succ ha) (Nat.le_of_lt_succ hb)
  omega
theorem mul64_hi (x y : Nat) (hx : x < 18446744073709551616) (hy : y < 18446744073709551616) :
    IntKind.u64.wrap (IntKind.u64.wrap (IntKind.u64.wrap ((x : Int) / 4294967296 * ((y : Int) / 4294967296)) +
      IntKind.u64.wrap (IntKind.u64.wrap ((x : Int) / 4294967296 * ((y : Int) % 4294967296)) + IntKind.u64.wrap ((x : Int) % 4294967296 * ((y : Int) % 4294967296)) / 4294967296) / 4294967296) +
      IntKind.u64.wrap (bits BinOp.and IntKind.u64 (IntKind.u64.wrap (IntKind.u64.wrap ((x : Int) / 4294967296 * ((y : Int) % 4294967296)) + IntKind.u64.wrap ((x : Int) % 4294967296 * ((y : Int) % 4294967296)) / 4294967296)) 4294967295 +
        IntKind.u64.wrap ((x : Int) % 4294967296 * ((y : Int) / 4294967296))) / 4294967296) = ((x * y / 18446744073709551616 : Nat) : Int) := by
  have ex1 : (x : Int) / 4294967296 = ((x / 4294967296 : Nat) : Int) := by omega
  have ex0 : (x : Int) % 4294967296 = ((x % 4294967296 : Nat) : Int) := by omega
  have ey1 : (y : Int) / 4294967296 = ((y / 4294967296 : Nat) : Int) := by omega
  have ey0 : (y : Int) % 4294967296 = ((y % 4294967296 : Nat) : Int) := by omega
  rw [ex1, ex0, ey1, ey0]
  have hx1 : x / 4294967296 < 4294967296 := by omega
  have hx0 : x % 4294967296 < 4294967296 := by omega
  have hy1 : y / 4294967296 < 4294967296 := by omega
  have hy0 : y % 4294967296 < 4294967296 := by omega
  have hxy : x * y = x / 4294967296 * (y / 4294967296) * 18446744073709551616 + (x / 4294967296 * (y % 4294967296) + x % 4294967296 * (y / 4294967296)) * 4294967296 + x % 4294967296 * (y % 4294967296) := by
    conv => lhs; rw [show x = x / 4294967296 * 4294967296 + x % 4294967296 by omega, show y = y / 4294967296 * 4294967296 + y % 4294967296 by omega]
    generalize x / 4294967296 = a; generalize x % 4294967296 = b; generalize y / 4294967296 = c; generalize y % 4294967296 = d
    rw [Nat.add_mul, Nat.mul_add, Nat.mul_add, Nat.add_mul]
    rw [show a * 4294967296 * (c * 4294967296) = a * c * 18446744073709551616 by rw [Nat.mul_mul_mul_comm]]
    rw [show a * 4294967296 * d = a * d * 4294967296 by rw [Nat.mul_right_comm], show b * (c * 4294967296) = b * c * 4294967296 by rw [Nat.mul_assoc]]
    omega
  rw [hxy]
  have hp := mul_lt32 hx1 hy1; have hq := mul_lt32 hx1 hy0; have hr := mul_lt32 hx0 hy1; have hs := mul_lt32 hx0 hy0
  generalize x / 4294967296 = a at *; generalize x % 4294967296 = b at *; generalize y / 4294967296 = c at *; generalize y % 4294967296 = d at *
  simp only [← Int.natCast_mul]
  generalize a * c = p at *; generalize a * d = q at *; generalize b * c = r at *; generalize b * d = s at *
  rw [wrap64_lt p (by omega), wrap64_lt q (by omega), wrap64_lt r (by omega), wrap64_lt s (by omega)]
  have e1 : (s : Int) / 4294967296 = ((s / 4294967296 : Nat) : Int) := by omega
  rw [e1, ← Int.natCast_add, wrap64_lt (q + s / 4294967296) (by omega), and32 _ (by omega), ← Int.natCast_add, wrap64_lt ((q + s / 4294967296) % 4294967296 + r) (by omega)]
  have e2 : ((q + s / 4294967296 : Nat) : Int) / 4294967296 = (((q + s / 4294967296) / 4294967296 : Nat) : Int) := by omega
  rw [e2, ← Int.natCast_add]
  have hxy2 : p * 18446744073709551616 + (q + r) * 4294967296 + s < 340282366920938463463374607431768211456 := by
    rw [← hxy]
    exact Nat.lt_of_le_of_lt (Nat.mul_le_mul (Nat.le_of_lt_succ hx) (Nat.le_of_lt_succ hy)) (by decide)
  rw [wrap64_lt (p + (q + s / 4294967296) / 4294967296) (by omega)]
  have e3 : (((q + s / 4294967296) % 4294967296 + r : Nat) : Int) / 4294967296 = ((((q + s / 4294967296) % 4294967296 + r) / 4294967296 : Nat) : Int) := by omega
  rw [e3, ← Int.natCast_add, wrap64_lt _ (by omega)]
  congr 1
  omega

set_option maxRecDepth 100000 in
set_option maxHeartbeats 1000000 in
theorem Mul64_any (x y : Nat) (hx : x < 18446744073709551616) (hy : y < 18446744073709551616) (w : World) :
    Calls Tryd.prog 53 #[.int .u64 x, .int .u64 y] w fun e w' => e = .returned (.tuple #[.int .u64 ((x * y / 18446744073709551616 : Nat) : Int), .int .u64 ((x * y % 18446744073709551616 : Nat) : Int)]) ∧ w = w' := by
  have h1 := and32 x hx
  have h2 := and32 y hy
  go_enter Tryd.func53, Tryd.ntmps53
  go_wp2
  refine bodyPost_ret (results_tmp2 Tryd.results53 _ _ _) rfl ⟨?_, rfl⟩
  show Ending.returned (.tuple #[.int .u64 _, .int .u64 (IntKind.u64.wrap ((x : Int) * (y : Int)))]) = _
  rw [mul64_hi x y hx hy, ← Int.natCast_mul, wrap64]

set_option maxRecDepth 100000 in
set_option maxHeartbeats 1000000 in
theorem mulAdd_any (x y p q : Nat) (hx : x < 18446744073709551616) (hy : y < 18446744073709551616) (hp : p < 18446744073709551616) (hq : q < 18446744073709551616) (w : World) :
    Calls Tryd.prog 51 #[.int .u64 x, .int .u64 y, .int .u64 p, .int .u64 q] w fun e w' => e = .returned (.tuple #[.int .u64 (((x * y + p + q) % 18446744073709551616 : Nat) : Int), .int .u64 (((x * y + p + q) / 18446744073709551616 : Nat) : Int)]) ∧ w = w' := by
  go_enter Tryd.func51, Tryd.ntmps51
  go_wp2_with (first
    | (go_at_call 53; refine (Mul64_any x y hx hy _).mono ?_; rintro e w1 ⟨rfl, rfl⟩; (generalize hhi : x * y / 18446744073709551616 = hi); (generalize hlo : x * y % 18446744073709551616 = lo); have Hhi := Lib.hid hhi; have Hlo := Lib.hid hlo; clear hhi hlo)
    | ((with_reducible change wpList _ _ _ (Oper.mk (some 22) _ _ _ _ _ :: _) _ _); refine kCallV3 _ _ _ _ _ _ _ _ _ rfl rfl rfl rfl rfl (run_add64W lo p 0 (by decide) _) ?_; (generalize hc1 : (lo + p + 0) / 18446744073709551616 = c1); (generalize hs1 : (lo + p + 0) % 18446744073709551616 = s1); have Hc1 := Lib.hid hc1; have Hs1 := Lib.hid hs1; clear hc1 hs1)
    | ((with_reducible change wpList _ _ _ (Oper.mk (some 31) _ _ _ _ _ :: _) _ _); refine kCallV3 _ _ _ _ _ _ _ _ _ rfl rfl rfl rfl rfl (run_add64W s1 q 0 (by decide) _) ?_; (generalize hc2 : (s1 + q + 0) / 18446744073709551616 = c2); (generalize hs2 : (s1 + q + 0) % 18446744073709551616 = s2); have Hc2 := Lib.hid hc2; have Hs2 := Lib.hid hs2; clear hc2 hs2))
  refine bodyPost_ret (results_tmp2 Tryd.results51 _ _ _) rfl ⟨?_, rfl⟩
  have h1 := Hhi.out; have h2 := Hlo.out; have h3 := Hc1.out; have h4 := Hs1.out; have h5 := Hc2.out; have h6 := Hs2.out
  have hle : x * y ≤ 340282366920938463426481119284349108225 := Nat.mul_le_mul (Nat.le_of_lt_succ hx) (Nat.le_of_lt_succ hy)
  generalize x * y = xy at *
  show Ending.returned (.tuple #[.int .u64 (s2 : Int), .int .u64 (IntKind.u64.wrap (IntKind.u64.wrap ((hi : Int) + (c1 : Int)) + (c2 : Int)))]) = _
  rw [← Int.natCast_add, wrap64, ← Int.natCast_add, wrap64]
  have e1 : s2 = (xy + p + q) % 18446744073709551616 := by omega
  have e2 : ((hi + c1) % 18446744073709551616 + c2) % 18446744073709551616 = (xy + p + q) / 18446744073709551616 := by omega
  rw [e1, e2]
end Go.Proofs.YtajpdmcbdekpbaaDoor
