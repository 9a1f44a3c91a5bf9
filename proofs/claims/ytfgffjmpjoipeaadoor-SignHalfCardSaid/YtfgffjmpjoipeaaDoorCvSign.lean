/-
  Signatures, plainly: what is signed by a secret is verified by its public point. No walk here, no program.
-/
import Derived.Test.YtfgffjmpjoipeaaDoorPlainAll
namespace Go.Proofs.YtfgffjmpjoipeaaDoor
open Cv

/-! ### remainders -/
theorem mod_mul_left {N a b : Nat} (c : Nat) (h : a % N = b % N) : c * a % N = c * b % N := by
  rw [Nat.mul_mod, h, ← Nat.mul_mod]
theorem mod_mul_right {N a b : Nat} (c : Nat) (h : a % N = b % N) : a * c % N = b * c % N := by
  rw [Nat.mul_mod, h, ← Nat.mul_mod]
theorem mod_add_both {N a b c d : Nat} (h : a % N = b % N) (k : c % N = d % N) : (a + c) % N = (b + d) % N := by
  rw [Nat.add_mod, h, k, ← Nat.add_mod]
/-- the two factors of which the sum is k -/
theorem sign_factors {N d k z r s w : Nat} (hw : s * w % N = 1) (hs : s * k % N = (z + r * d) % N) : (z * w % N + d * (r * w % N)) % N = k % N := by
  have e1 : (z * w % N + d * (r * w % N)) % N = (z * w + d * (r * w)) % N := mod_add_both (Nat.mod_mod _ _) (mod_mul_left d (Nat.mod_mod _ _))
  have e2 : z * w + d * (r * w) = (z + r * d) * w := by rw [Nat.add_mul, Nat.mul_comm d, Nat.mul_right_comm]
  have e3 : (z + r * d) * w % N = s * k * w % N := mod_mul_right w hs.symm
  have e4 : s * k * w % N = k * (s * w) % N := by rw [Nat.mul_comm s k, Nat.mul_assoc]
  have e5 : k * (s * w) % N = k % N := by rw [Nat.mul_mod, hw, Nat.mul_one, Nat.mod_mod]
  rw [e1, e2, e3, e4, e5]
/-- both less than nothing: the product is the same -/
theorem neg_mul_neg {N s k : Nat} (hs : s ≤ N) (hk : k ≤ N) : (N - s) * (N - k) % N = s * k % N := by
  obtain ⟨a, rfl⟩ := Nat.exists_eq_add_of_le hs
  obtain ⟨b, hb⟩ := Nat.exists_eq_add_of_le hk
  rw [show s + a - s = a by omega, show s + a - k = b by omega]
  -- a b + s b = (s + a) b and s b + s k = s (s + a)
  have h1 : (a * b + s * b) % (s + a) = 0 := by rw [← Nat.add_mul, Nat.add_comm a s, Nat.mul_mod_right]
  have h2 : (s * k + s * b) % (s + a) = 0 := by rw [← Nat.mul_add, ← hb, Nat.mul_mod_left]
  have h3 : (a * b + s * b + s * k) % (s + a) = s * k % (s + a) := by rw [Nat.add_mod, h1, Nat.zero_add, Nat.mod_mod]
  have h4 : (a * b + (s * k + s * b)) % (s + a) = a * b % (s + a) := by rw [Nat.add_mod, h2, Nat.add_zero, Nat.mod_mod]
  rw [← h4, ← h3]; congr 1; omega

/-! ### the base, so many times -/
theorem base_mod {j k : Nat} (h : j % NN = k % NN) : Pt.times ivP gPt j = Pt.times ivP gPt k := by
  rw [← goodP.times_mod gPt_on base_N j, h, goodP.times_mod gPt_on base_N k]
theorem base_on (k : Nat) : (Pt.times ivP gPt k).On := goodP.times_on gPt_on k
/-- the base, j times and (d times) i times -/
theorem base_both (d i j : Nat) : Pt.add ivP (Pt.times ivP gPt j) (Pt.times ivP (Pt.times ivP gPt d) i) = Pt.times ivP gPt (j + d * i) := by
  rw [goodP.times_mul gPt_on, ← goodP.times_add gPt_on]
/-- N is the least: below it there is a point -/
theorem base_some {k : Nat} (h : k % NN ≠ 0) : Pt.times ivP gPt k ≠ .o := fun e => by
  have hi := inv_mul NN_prime (not_dvd_mod.2 h)
  have h1 : Pt.times ivP gPt (k * k ^ (NN - 2)) = .o := by rw [← goodP.times_mul gPt_on, e, goodP.times_o]
  have h2 : Pt.times ivP gPt (k * k ^ (NN - 2)) = Pt.times ivP gPt 1 := base_mod (by rw [hi]; decide)
  rw [h1, Good.times_one] at h2
  cases h2
theorem base_neg {k : Nat} (h : k ≤ NN) : Pt.times ivP gPt (NN - k) = (Pt.times ivP gPt k).neg := goodP.neg_times gPt_on base_N h
/-- what is signed: S as it comes out -/
theorem sign_whole {d k z r s w : Nat} (hw : s * w % NN = 1) (hs : s * k % NN = (z + r * d) % NN) :
    Pt.add ivP (Pt.times ivP gPt (z * w % NN)) (Pt.times ivP (Pt.times ivP gPt d) (r * w % NN)) = Pt.times ivP gPt k := by
  rw [base_both]
  exact base_mod (sign_factors hw hs)
/-- N less S: the other point of the same X -/
theorem sign_other {d k z r s w : Nat} (hsN : s ≤ NN) (hk : k ≤ NN) (hw : (NN - s) * w % NN = 1) (hs : s * k % NN = (z + r * d) % NN) :
    Pt.add ivP (Pt.times ivP gPt (z * w % NN)) (Pt.times ivP (Pt.times ivP gPt d) (r * w % NN)) = (Pt.times ivP gPt k).neg := by
  rw [← base_neg hk]
  exact sign_whole hw (by rw [neg_mul_neg hsN hk]; exact hs)
end Go.Proofs.YtfgffjmpjoipeaaDoor
