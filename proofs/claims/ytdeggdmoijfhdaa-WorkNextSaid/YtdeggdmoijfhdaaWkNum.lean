/-
  Layer 12, plain: what the program counts, and that it is what was asked.
-/
import Derived.Test.YtdeggdmoijfhdaaWkPlain
namespace Go.Proofs.Ytdeggdmoijfhdaa
open Go

theorem zero_toNat {u : Int} (h : u ≤ 0) : (u * 8).toNat = 0 := by omega
theorem up_toNat (k : Nat) : (((k : Int)) * 8).toNat = 8 * k := by omega
theorem down_toNat (k : Nat) : (-((k : Int)) * 8).toNat = 0 := by omega
theorem neg_toNat (k : Nat) : (-(-(k : Int)) * 8).toNat = 8 * k := by omega
theorem easy_ge : 8388607 ≤ easyN := by decide
/-- the easiest one, moved down, against M -/
theorem wk_over (b : Nat) : (easyN / 2 ^ ((((b / 16777216 : Nat) : Int) - 3) * 8).toNat < b % 8388608) ↔ easyN < rawN b := by
  have hm := Nat.mod_lt b (show 0 < 8388608 by decide)
  have he := easy_ge
  unfold rawN
  by_cases h : b / 16777216 ≤ 3
  · rw [if_pos h, zero_toNat (by omega), Nat.pow_zero, Nat.div_one]
    have := Nat.div_le_self (b % 8388608) (256 ^ (3 - b / 16777216))
    omega
  · obtain ⟨k, hk⟩ : ∃ k : Nat, b / 16777216 = k + 3 := ⟨b / 16777216 - 3, by omega⟩
    rw [if_neg h, hk, show (((k + 3 : Nat) : Int) - 3) = (k : Int) by omega, up_toNat, ← pow256, Nat.add_sub_cancel]
    exact Nat.div_lt_iff_lt_mul (pow256_pos k)
theorem wk_moved {b : Nat} (h : rawN b ≤ easyN) : b % 8388608 * 2 ^ ((((b / 16777216 : Nat) : Int) - 3) * 8).toNat % M256 / 2 ^ (-(((b / 16777216 : Nat) : Int) - 3) * 8).toNat = rawN b := by
  have hm := Nat.mod_lt b (show 0 < 8388608 by decide)
  have hl := Nat.lt_of_le_of_lt h easy_lt
  unfold rawN at h hl ⊢
  by_cases h3 : b / 16777216 ≤ 3
  · obtain ⟨k, hk⟩ : ∃ k : Nat, 3 = b / 16777216 + k := ⟨3 - b / 16777216, by omega⟩
    rw [if_pos h3, show ((b / 16777216 : Nat) : Int) - 3 = -(k : Int) by omega, neg_toNat, zero_toNat (by omega), Nat.pow_zero, Nat.mul_one, ← pow256, show 3 - b / 16777216 = k by omega, Nat.mod_eq_of_lt (Nat.lt_trans hm (by decide))]
  · obtain ⟨k, hk⟩ : ∃ k : Nat, b / 16777216 = k + 3 := ⟨b / 16777216 - 3, by omega⟩
    rw [if_neg h3] at h hl ⊢
    rw [hk] at h hl ⊢
    rw [Nat.add_sub_cancel] at h hl ⊢
    rw [show (((k + 3 : Nat) : Int) - 3) = (k : Int) by omega, up_toNat, down_toNat, ← pow256, Nat.pow_zero, Nat.div_one]
    exact Nat.mod_eq_of_lt hl
theorem wk_easy : 8388607 * 2 ^ ((29 : Int) * 8).toNat % M256 / 2 ^ (-(29 : Int) * 8).toNat = easyN := by decide +kernel
/-- the three highest bytes -/
theorem wk_top {n : Nat} (h : n < M256) : n * 2 ^ ((3 - ((byteN n : Nat) : Int)) * 8).toNat % M256 / 2 ^ (-(3 - ((byteN n : Nat) : Int)) * 8).toNat = topN n := by
  have ht := topN_lt n
  unfold topN at ht ⊢
  by_cases h3 : byteN n ≤ 3
  · obtain ⟨k, hk⟩ : ∃ k : Nat, 3 = byteN n + k := ⟨3 - byteN n, by omega⟩
    rw [if_pos h3] at ht ⊢
    rw [show 3 - byteN n = k by omega] at ht ⊢
    rw [show 3 - ((byteN n : Nat) : Int) = (k : Int) by omega, up_toNat, down_toNat, Nat.pow_zero, Nat.div_one, ← pow256]
    exact Nat.mod_eq_of_lt (Nat.lt_trans ht (by decide))
  · obtain ⟨k, hk⟩ : ∃ k : Nat, byteN n = k + 3 := ⟨byteN n - 3, by omega⟩
    rw [if_neg h3, show 3 - ((byteN n : Nat) : Int) = -(k : Int) by omega, neg_toNat, zero_toNat (by omega), Nat.pow_zero, Nat.mul_one, ← pow256, Nat.mod_eq_of_lt h, hk, Nat.add_sub_cancel]
theorem or_size (m s : Nat) (h : m < 16777216) : m ||| (s <<< 24) = m + 16777216 * s := by
  rw [Nat.or_comm, ← Nat.shiftLeft_add_eq_or_of_lt (show m < 2 ^ 24 by omega), Nat.shiftLeft_eq, Nat.add_comm, Nat.mul_comm]
/-- 2 to the power of 256, divided -/
theorem wk_work {o : Nat} (h0 : 0 < o) (h : o ≤ M256) : (M256 - o) / o + 1 = 2 ^ 256 / o := by
  have := Nat.div_eq_sub_div h0 h
  rw [show 2 ^ 256 = M256 from rfl, this]
theorem wk_scaled (t s : Nat) : t / 4200 * s + t % 4200 * s / 4200 = t * s / 4200 := by
  have h := Nat.div_add_mod t 4200
  conv => rhs; rw [← h, Nat.add_mul, Nat.mul_assoc]
  rw [Nat.mul_add_div (by decide)]
theorem expand_bad {b : Nat} (h : badN b) : expandN b = (0, 121) := if_pos h
theorem expand_ok {b : Nat} (h : ¬ badN b) : expandN b = (rawN b, 0) := if_neg h
theorem raw_lt {b : Nat} (h : ¬ badN b) : rawN b < M256 := Nat.lt_of_le_of_lt (not_bad h).2.2 easy_lt
theorem work_bad {b : Nat} (h : badN b) : workN b = 0 := if_pos h
theorem work_ok {b : Nat} (h : ¬ badN b) : workN b = 2 ^ 256 / (rawN b + 1) := if_neg h
theorem work_lt (b : Nat) : workN b < M256 := by
  unfold workN
  split
  · decide
  · next h =>
    obtain ⟨-, h1, -⟩ := not_bad h
    rw [Nat.div_lt_iff_lt_mul (by omega)]
    exact Nat.lt_of_lt_of_le (by decide) (Nat.mul_le_mul_left M256 (show 2 ≤ rawN b + 1 by omega))
theorem compact_easy : compactN easyN = 545259519 := by
  have hb : byteN easyN = 32 := by
    apply Nat.le_antisymm
    · exact (byteN_le easyN 32).2 (by decide +kernel)
    · apply Nat.le_of_not_lt; intro h
      have := (byteN_le easyN 31).1 (by omega)
      exact absurd this (by decide +kernel)
  have ht : topN easyN = 8388607 := by
    unfold topN; rw [hb, if_neg (by decide)]; decide +kernel
  unfold compactN
  rw [ht, hb, if_pos (by decide)]
theorem compact_lt {n : Nat} (h : n < M256) : compactN n < 4294967296 := by
  have h1 := topN_lt n
  have h2 := byteN_max h
  unfold compactN; split <;> omega
theorem next_ge {b f l : Nat} (h : easyN < rawN b * spanN f l / 4200) (hb : ¬ badN b) : nextN b f l = 545259519 := by
  unfold nextN nextT
  rw [if_neg hb, Nat.min_eq_right (Nat.le_of_lt h), compact_easy]
theorem next_le {b f l : Nat} (h : rawN b * spanN f l / 4200 ≤ easyN) (hb : ¬ badN b) : nextN b f l = compactN (rawN b * spanN f l / 4200) := by
  unfold nextN nextT
  rw [if_neg hb, Nat.min_eq_left h]
theorem next_bad {b : Nat} (f l : Nat) (hb : badN b) : nextN b f l = 545259519 := if_pos hb
end Go.Proofs.Ytdeggdmoijfhdaa
