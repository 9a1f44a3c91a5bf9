/-
  Joined: WkPlain, WkNum, WkKit, WkFunc, WkFunc2.
-/
import Derived.Test.YtdeggdmoijfhdaaWAll
import Derived.Test.YtdeggdmoijfhdaaKitAll
import Derived.Test.YtdeggdmoijfhdaaBkTree
import Derived.Test.YtdeggdmoijfhdaaKit12
/-
  Layer 12, plain: targets in four bytes and back, what is kept, how hard the next one is.
-/
namespace Go.Proofs.Ytdeggdmoijfhdaa
open Go

/-- the greatest target -/
def easyN : Nat := 8388607 * 256 ^ 29
/-- the number that four bytes tell -/
def rawN (b : Nat) : Nat := if b / 16777216 ≤ 3 then b % 8388608 / 256 ^ (3 - b / 16777216) else b % 8388608 * 256 ^ (b / 16777216 - 3)
def badN (b : Nat) : Prop := b / 8388608 % 2 = 1 ∨ rawN b = 0 ∨ easyN < rawN b
instance (b : Nat) : Decidable (badN b) := by unfold badN; infer_instance
def expandN (b : Nat) : Nat × Nat := if badN b then (0, 121) else (rawN b, 0)
/-- how many bytes a number has -/
def byteN (n : Nat) : Nat := (blen n + 7) / 8
/-- its three highest bytes -/
def topN (n : Nat) : Nat := if byteN n ≤ 3 then n * 256 ^ (3 - byteN n) else n / 256 ^ (byteN n - 3)
def compactN (n : Nat) : Nat := if topN n < 8388608 then topN n + 16777216 * byteN n else topN n / 256 + 16777216 * (byteN n + 1)
def workN (b : Nat) : Nat := if badN b then 0 else 2 ^ 256 / (rawN b + 1)
/-- the time that went by, as far as it counts -/
def spanN (first last : Nat) : Nat := if last < first + 1050 then 1050 else if 16800 < last - first then 16800 else last - first
def nextT (b first last : Nat) : Nat := min (rawN b * spanN first last / 4200) easyN
def nextN (b first last : Nat) : Nat := if badN b then 545259519 else compactN (nextT b first last)
theorem pow256 (n : Nat) : 256 ^ n = 2 ^ (8 * n) := by rw [Nat.pow_mul]
theorem pow256_pos (n : Nat) : 0 < 256 ^ n := Nat.pow_pos (by decide)
theorem byteN_le (n k : Nat) : byteN n ≤ k ↔ n < 256 ^ k := by
  rw [pow256, ← blen_le]; unfold byteN; omega
theorem byteN_lt (n : Nat) : n < 256 ^ byteN n := (byteN_le n _).1 (Nat.le_refl _)
theorem byteN_ge {n k : Nat} (h : k < byteN n) : 256 ^ k ≤ n := by
  apply Nat.le_of_not_lt; intro h'; have := (byteN_le n k).2 h'; omega
theorem byteN_pos {n : Nat} (h : 0 < n) : 0 < byteN n := by
  have := blen_pos n (by omega); unfold byteN; omega
theorem byteN_max {n : Nat} (h : n < 2 ^ 256) : byteN n ≤ 32 := by
  rw [byteN_le, pow256]; exact h
theorem split256 {a b : Nat} (h : a ≤ b) : 256 ^ b = 256 ^ a * 256 ^ (b - a) := by rw [← Nat.pow_add]; congr 1; omega
theorem topN_lt (n : Nat) : topN n < 16777216 := by
  unfold topN
  split
  · next h =>
    have h1 := byteN_lt n
    have h2 : 256 ^ byteN n * 256 ^ (3 - byteN n) = 256 ^ 3 := by rw [← Nat.pow_add]; congr 1; omega
    have h3 := Nat.mul_lt_mul_of_pos_right h1 (pow256_pos (3 - byteN n))
    rw [h2] at h3; exact h3
  · next h =>
    have h1 := byteN_lt n
    rw [Nat.div_lt_iff_lt_mul (pow256_pos _)]
    have h2 : 16777216 * 256 ^ (byteN n - 3) = 256 ^ byteN n := by
      rw [show (16777216 : Nat) = 256 ^ 3 by decide, ← Nat.pow_add]; congr 1; omega
    rw [h2]; exact h1
theorem topN_ge {n : Nat} (h0 : 0 < n) : 65536 ≤ topN n := by
  have hp := byteN_pos h0
  have h1 := byteN_ge (n := n) (k := byteN n - 1) (by omega)
  unfold topN
  split
  · next h =>
    have h2 : 256 ^ (byteN n - 1) * 256 ^ (3 - byteN n) = 256 ^ 2 := by rw [← Nat.pow_add]; congr 1; omega
    have h3 := Nat.mul_le_mul_right (256 ^ (3 - byteN n)) h1
    rw [h2] at h3; exact h3
  · next h =>
    rw [Nat.le_div_iff_mul_le (pow256_pos _)]
    have h2 : 65536 * 256 ^ (byteN n - 3) = 256 ^ (byteN n - 1) := by
      rw [show (65536 : Nat) = 256 ^ 2 by decide, ← Nat.pow_add]; congr 1; omega
    rw [h2]; exact h1
theorem compactN_zero : compactN 0 = 0 := by decide
theorem byteN_zero : byteN 0 = 0 := by decide
theorem byteN_step {n : Nat} (h : 0 < n) : byteN n = byteN (n / 256) + 1 := by
  have h1 : byteN (n / 256) ≤ byteN n - 1 := by
    rw [byteN_le, Nat.div_lt_iff_lt_mul (by decide), ← Nat.pow_succ, show (byteN n - 1).succ = byteN n by have := byteN_pos h; omega]
    exact byteN_lt n
  have h2 : byteN n ≤ byteN (n / 256) + 1 := by
    rw [byteN_le, Nat.pow_succ, ← Nat.div_lt_iff_lt_mul (by decide)]
    exact byteN_lt _
  have := byteN_pos h
  omega
/-- a number's bytes, the highest first -/
def beL (n : Nat) : List Nat := if n = 0 then [] else beL (n / 256) ++ [n % 256]
termination_by n
decreasing_by omega
theorem beL_zero : beL 0 = [] := by unfold beL; rfl
theorem beL_pos {n : Nat} (h : 0 < n) : beL n = beL (n / 256) ++ [n % 256] := by rw [beL, if_neg (by omega)]
theorem beL_add {x c : Nat} (hc : c < 256) : beL (256 * x + c) = if x = 0 ∧ c = 0 then [] else beL x ++ [c] := by
  split
  · next h => rw [h.1, h.2, Nat.mul_zero, Nat.add_zero, beL_zero]
  · rw [beL_pos (by omega), show (256 * x + c) / 256 = x by omega, show (256 * x + c) % 256 = c by omega]
theorem beL_len : ∀ n : Nat, (beL n).length = byteN n := by
  intro n
  induction n using Nat.strongRecOn with
  | ind n ih =>
    by_cases h : n = 0
    · subst h; rw [beL_zero, byteN_zero]; rfl
    · rw [beL_pos (by omega), List.length_append, ih (n / 256) (by omega), byteN_step (n := n) (by omega)]; rfl
theorem beL_nil {n : Nat} : beL n = [] ↔ n = 0 := by
  constructor
  · intro h
    by_cases h0 : n = 0
    · exact h0
    · rw [beL_pos (by omega)] at h; simp at h
  · rintro rfl; exact beL_zero
theorem beL_at : ∀ (n k : Nat), k < byteN n → (beL n)[k]? = some (n / 256 ^ (byteN n - 1 - k) % 256) := by
  intro n
  induction n using Nat.strongRecOn with
  | ind n ih =>
    intro k hk
    by_cases h : n = 0
    · subst h; rw [byteN_zero] at hk; omega
    · have hs := byteN_step (n := n) (by omega)
      rw [beL_pos (by omega)]
      by_cases hk2 : k < byteN (n / 256)
      · rw [List.getElem?_append_left (by rw [beL_len]; exact hk2), ih (n / 256) (by omega) k hk2, Nat.div_div_eq_div_mul, Nat.mul_comm, ← Nat.pow_succ, show (byteN (n / 256) - 1 - k).succ = byteN n - 1 - k by omega]
      · have : k = byteN (n / 256) := by omega
        subst this
        rw [List.getElem?_append_right (by rw [beL_len]; exact Nat.le_refl _), beL_len, Nat.sub_self, show byteN n - 1 - byteN (n / 256) = 0 by omega, Nat.pow_zero, Nat.div_one]; rfl
theorem beL_lt {n x : Nat} (h : x ∈ beL n) : x < 256 := by
  obtain ⟨k, hk⟩ := List.mem_iff_getElem?.1 h
  have hl := (List.getElem?_eq_some_iff.1 hk).1
  rw [beL_len] at hl
  rw [beL_at n k hl] at hk
  cases hk
  exact Nat.mod_lt _ (by decide)
/-- so many of the highest bytes, noughts behind them -/
def preN (n k : Nat) : Nat := if byteN n ≤ k then n * 256 ^ (k - byteN n) else n / 256 ^ (byteN n - k)
theorem preN_zero (n : Nat) : preN n 0 = 0 := by
  unfold preN
  by_cases h : byteN n ≤ 0
  · have h1 := (byteN_le n 0).1 h
    have : n = 0 := by simpa using h1
    subst this; rw [if_pos h, Nat.zero_mul]
  · rw [if_neg h]; exact Nat.div_eq_of_lt (byteN_lt n)
theorem preN_step (n k : Nat) : preN n (k + 1) = 256 * preN n k + (if k < byteN n then n / 256 ^ (byteN n - 1 - k) % 256 else 0) := by
  unfold preN
  by_cases h : byteN n ≤ k
  · rw [if_pos h, if_pos (by omega), if_neg (by omega), show k + 1 - byteN n = k - byteN n + 1 by omega, Nat.pow_succ, ← Nat.mul_assoc, Nat.mul_comm _ 256]; rfl
  · rw [if_neg h, if_pos (by omega : k < byteN n)]
    have e : n / 256 ^ (byteN n - k) = n / 256 ^ (byteN n - 1 - k) / 256 := by
      rw [Nat.div_div_eq_div_mul, ← Nat.pow_succ, show (byteN n - 1 - k).succ = byteN n - k by omega]
    rw [e]
    by_cases h2 : byteN n ≤ k + 1
    · rw [if_pos h2, show k + 1 - byteN n = 0 by omega, show byteN n - 1 - k = 0 by omega, Nat.pow_zero, Nat.mul_one, Nat.div_one]; omega
    · rw [if_neg h2, show byteN n - (k + 1) = byteN n - 1 - k by omega]; omega
theorem preN_three (n : Nat) : preN n 3 = topN n := rfl
/-- what four bytes keep of a number: all but so many of its lowest bytes -/
theorem raw_compact {n : Nat} (h0 : 0 < n) (h : n < 2 ^ 256) : ∃ d, compactN n < 4294967296 ∧ compactN n / 8388608 % 2 = 0 ∧ rawN (compactN n) = n / 256 ^ d * 256 ^ d ∧ (d = 0 ∨ 32768 * 256 ^ d ≤ n) ∧ (d = 0 ∨ (d = byteN n - 3 ∧ topN n < 8388608 ∨ d = byteN n - 2 ∧ 8388608 ≤ topN n)) := by
  have h1 := topN_lt n
  have h2 := topN_ge h0
  have h3 := byteN_max h
  have h4 := byteN_pos h0
  unfold compactN
  by_cases ht : topN n < 8388608
  · rw [if_pos ht]
    have e1 : (topN n + 16777216 * byteN n) / 16777216 = byteN n := by omega
    have e2 : (topN n + 16777216 * byteN n) % 8388608 = topN n := by omega
    have e3 : (topN n + 16777216 * byteN n) / 8388608 % 2 = 0 := by omega
    by_cases hb : byteN n ≤ 3
    · refine ⟨0, by omega, e3, ?_, .inl rfl, .inl rfl⟩
      unfold rawN
      rw [e1, e2, if_pos hb, Nat.pow_zero, Nat.div_one, Nat.mul_one]
      unfold topN
      rw [if_pos hb, Nat.mul_div_cancel _ (pow256_pos _)]
    · refine ⟨byteN n - 3, by omega, e3, ?_, .inr ?_, .inr (.inl ⟨rfl, ht⟩)⟩
      · unfold rawN
        rw [e1, e2, if_neg hb]
        unfold topN
        rw [if_neg hb]
      · have h5 := byteN_ge (n := n) (k := byteN n - 1) (by omega)
        rw [split256 (a := byteN n - 3) (b := byteN n - 1) (by omega), show byteN n - 1 - (byteN n - 3) = 2 by omega] at h5
        have := pow256_pos (byteN n - 3)
        omega
  · rw [if_neg ht]
    have e1 : (topN n / 256 + 16777216 * (byteN n + 1)) / 16777216 = byteN n + 1 := by omega
    have e2 : (topN n / 256 + 16777216 * (byteN n + 1)) % 8388608 = topN n / 256 := by omega
    have e3 : (topN n / 256 + 16777216 * (byteN n + 1)) / 8388608 % 2 = 0 := by omega
    by_cases hb : byteN n ≤ 2
    · refine ⟨0, by omega, e3, ?_, .inl rfl, .inl rfl⟩
      unfold rawN
      rw [e1, e2, if_pos (by omega), Nat.pow_zero, Nat.div_one, Nat.mul_one]
      unfold topN
      rw [if_pos (by omega), show 256 ^ (3 - byteN n) = 256 ^ (3 - (byteN n + 1)) * 256 by rw [← Nat.pow_succ, show (3 - (byteN n + 1)).succ = 3 - byteN n by omega], ← Nat.mul_assoc, Nat.mul_div_cancel _ (by decide), Nat.mul_div_cancel _ (pow256_pos _)]
    · have et : topN n / 256 = n / 256 ^ (byteN n - 2) := by
        unfold topN
        by_cases hb3 : byteN n ≤ 3
        · rw [if_pos hb3, show byteN n = 3 by omega]; simp
        · rw [if_neg hb3, Nat.div_div_eq_div_mul, ← Nat.pow_succ, show (byteN n - 3).succ = byteN n - 2 by omega]
      refine ⟨byteN n - 2, by omega, e3, ?_, .inr ?_, .inr (.inr ⟨rfl, by omega⟩)⟩
      · unfold rawN
        rw [e1, e2, if_neg (by omega), et, show byteN n + 1 - 3 = byteN n - 2 by omega]
      · have h5 : 32768 ≤ topN n / 256 := by omega
        rw [et, Nat.le_div_iff_mul_le (pow256_pos _)] at h5
        exact h5
theorem raw_exact {m k : Nat} (hm : m < 8388608) (h0 : 0 < m * 256 ^ k) (h : m * 256 ^ k < 2 ^ 256) : rawN (compactN (m * 256 ^ k)) = m * 256 ^ k := by
  obtain ⟨d, -, -, e, -, hd⟩ := raw_compact h0 h
  rw [e]
  have hdk : d ≤ k := by
    have hb : byteN (m * 256 ^ k) ≤ k + 3 := by
      rw [byteN_le, Nat.pow_add, Nat.mul_comm]
      exact Nat.mul_lt_mul_of_pos_left (by omega) (pow256_pos k)
    rcases hd with rfl | ⟨rfl, -⟩ | ⟨rfl, ht⟩
    · omega
    · omega
    · apply Nat.le_of_not_lt
      intro hk
      have hbk : byteN (m * 256 ^ k) = k + 3 := by omega
      have : topN (m * 256 ^ k) = m := by
        unfold topN
        rw [hbk]
        by_cases h3 : k + 3 ≤ 3
        · have : k = 0 := by omega
          subst this; simp
        · rw [if_neg h3, show k + 3 - 3 = k by omega, Nat.mul_div_cancel _ (pow256_pos _)]
      omega
  rw [split256 hdk, Nat.mul_comm (256 ^ d), ← Nat.mul_assoc, Nat.mul_div_cancel _ (pow256_pos _)]
theorem easy_lt : easyN < 2 ^ 256 := by decide
theorem not_bad {b : Nat} (h : ¬ badN b) : b / 8388608 % 2 = 0 ∧ 0 < rawN b ∧ rawN b ≤ easyN := by
  unfold badN at h; omega
theorem raw_form (b : Nat) : ∃ m k, rawN b = m * 256 ^ k ∧ m < 8388608 := by
  have h := Nat.mod_lt b (show 0 < 8388608 by decide)
  unfold rawN
  split
  · exact ⟨_, 0, by rw [Nat.pow_zero, Nat.mul_one], Nat.lt_of_le_of_lt (Nat.div_le_self _ _) h⟩
  · exact ⟨_, _, rfl, h⟩
/-- of a target that came of four bytes nothing is lost -/
theorem compact_back {b : Nat} (h : ¬ badN b) : ¬ badN (compactN (rawN b)) ∧ rawN (compactN (rawN b)) = rawN b := by
  obtain ⟨h1, h2, h3⟩ := not_bad h
  obtain ⟨m, k, e, hm⟩ := raw_form b
  have hl := Nat.lt_of_le_of_lt h3 easy_lt
  have e2 : rawN (compactN (rawN b)) = rawN b := by rw [e] at h2 hl ⊢; exact raw_exact hm h2 hl
  obtain ⟨d, -, hs, -⟩ := raw_compact h2 hl
  exact ⟨by unfold badN; omega, e2⟩
/-- any target in four bytes and back -/
theorem compact_keeps {n : Nat} (h0 : 0 < n) (h : n ≤ easyN) : ¬ badN (compactN n) ∧ rawN (compactN n) ≤ n ∧ blen (rawN (compactN n)) = blen n ∧ blen (n - rawN (compactN n)) ≤ blen n - 15 := by
  obtain ⟨d, -, hs, e, hd, -⟩ := raw_compact h0 (Nat.lt_of_le_of_lt h easy_lt)
  have hle : rawN (compactN n) ≤ n := by rw [e]; exact Nat.div_mul_le_self _ _
  have hge := blen_ge n (by omega)
  have hlt := blen_lt n
  have hdb : d = 0 ∨ 8 * d + 15 < blen n := by
    rcases hd with hd | hd
    · exact .inl hd
    · right
      apply Nat.lt_of_not_le
      intro hh
      have := (blen_le n (8 * d + 15)).1 hh
      rw [Nat.pow_add, ← pow256] at this
      omega
  have hpw : 2 ^ (blen n - 1) ≤ rawN (compactN n) := by
    rw [e]
    have : 2 ^ (blen n - 1) = 2 ^ (blen n - 1 - 8 * d) * 256 ^ d := by
      rw [pow256, ← Nat.pow_add]; congr 1; omega
    rw [this]
    refine Nat.mul_le_mul_right _ ?_
    rw [Nat.le_div_iff_mul_le (pow256_pos _), ← this]; exact hge
  have hpos : 0 < rawN (compactN n) := Nat.lt_of_lt_of_le (Nat.pow_pos (by decide)) hpw
  refine ⟨by unfold badN; omega, hle, blen_unique _ _ (Nat.lt_of_le_of_lt hle hlt) (.inr hpw), ?_⟩
  rw [blen_le]
  have hm : n - rawN (compactN n) = n % 256 ^ d := by
    rw [e]; have := Nat.div_add_mod n (256 ^ d); rw [Nat.mul_comm] at this; omega
  rw [hm]
  rcases hdb with rfl | hdb
  · rw [Nat.pow_zero, Nat.mod_one]; exact Nat.pow_pos (by decide)
  · refine Nat.lt_of_lt_of_le (Nat.mod_lt _ (pow256_pos d)) ?_
    rw [pow256]; exact Nat.pow_le_pow_right (by decide) (by omega)
/-- of two targets the less one is more work -/
theorem work_less {a b : Nat} (ha : ¬ badN a) (hb : ¬ badN b) (h : rawN a < rawN b) : workN b ≤ workN a := by
  unfold workN
  rw [if_neg ha, if_neg hb]
  exact Nat.div_le_div_left (by omega) (by omega)
theorem span_le (f l : Nat) : 1050 ≤ spanN f l ∧ spanN f l ≤ 16800 := by
  unfold spanN; split
  · omega
  · split <;> omega
/-- the next target: four times harder or easier at most -/
theorem next_bounds {b : Nat} (f l : Nat) (h : ¬ badN b) : nextT b f l ≤ easyN ∧ (nextT b f l = 0 → blen (rawN b) ≤ 2) ∧ blen (nextT b f l) ≤ blen (rawN b) + 2 ∧ blen (rawN b) ≤ blen (nextT b f l) + 2 := by
  obtain ⟨-, h1, h2⟩ := not_bad h
  obtain ⟨s1, s2⟩ := span_le f l
  have hx : rawN b * 1050 ≤ rawN b * spanN f l ∧ rawN b * spanN f l ≤ rawN b * 16800 := ⟨Nat.mul_le_mul_left _ s1, Nat.mul_le_mul_left _ s2⟩
  have hy : rawN b / 4 ≤ nextT b f l ∧ nextT b f l ≤ rawN b * 4 ∧ nextT b f l ≤ easyN := by unfold nextT; omega
  generalize nextT b f l = y at hy
  have hr := blen_lt (rawN b)
  have hb := blen_lt y
  refine ⟨hy.2.2, fun h0 => (blen_le _ 2).2 (by omega), (blen_le _ _).2 ?_, (blen_le _ _).2 ?_⟩
  · rw [Nat.pow_add]; omega
  · rw [Nat.pow_add]; omega
end Go.Proofs.Ytdeggdmoijfhdaa

/-
  Layer 12, plain: what the program counts, and that it is what was asked.
-/
namespace Go.Proofs.Ytdeggdmoijfhdaa
open Go

theorem zero_toNat {u : Int} (h : u ≤ 0) : (u * 8).toNat = 0 := by omega
theorem up_toNat (k : Nat) : (((k : Int)) * 8).toNat = 8 * k := by omega
theorem down_toNat (k : Nat) : (-((k : Int)) * 8).toNat = 0 := by omega
theorem neg_toNat (k : Nat) : (-(-(k : Int)) * 8).toNat = 8 * k := by omega
theorem easy_ge : 8388607 ≤ easyN := by decide
/-- the easiest one, moved down, against M -/
theorem wk_over (b : Nat) : (easyN / 2 ^ ((((b / 16777216 : Nat) : Int) - 3) * 8).toNat < b % 8388608) ↔ easyN < rawN b := by
  have hm := Nat.mod_lt b (show 0 < 8388608 by decide)
  have he := easy_ge
  unfold rawN
  by_cases h : b / 16777216 ≤ 3
  · rw [if_pos h, zero_toNat (by omega), Nat.pow_zero, Nat.div_one]
    have := Nat.div_le_self (b % 8388608) (256 ^ (3 - b / 16777216))
    omega
  · obtain ⟨k, hk⟩ : ∃ k : Nat, b / 16777216 = k + 3 := ⟨b / 16777216 - 3, by omega⟩
    rw [if_neg h, hk, show (((k + 3 : Nat) : Int) - 3) = (k : Int) by omega, up_toNat, ← pow256, Nat.add_sub_cancel]
    exact Nat.div_lt_iff_lt_mul (pow256_pos k)
theorem wk_moved {b : Nat} (h : rawN b ≤ easyN) : b % 8388608 * 2 ^ ((((b / 16777216 : Nat) : Int) - 3) * 8).toNat % M256 / 2 ^ (-(((b / 16777216 : Nat) : Int) - 3) * 8).toNat = rawN b := by
  have hm := Nat.mod_lt b (show 0 < 8388608 by decide)
  have hl := Nat.lt_of_le_of_lt h easy_lt
  unfold rawN at h hl ⊢
  by_cases h3 : b / 16777216 ≤ 3
  · obtain ⟨k, hk⟩ : ∃ k : Nat, 3 = b / 16777216 + k := ⟨3 - b / 16777216, by omega⟩
    rw [if_pos h3, show ((b / 16777216 : Nat) : Int) - 3 = -(k : Int) by omega, neg_toNat, zero_toNat (by omega), Nat.pow_zero, Nat.mul_one, ← pow256, show 3 - b / 16777216 = k by omega, Nat.mod_eq_of_lt (Nat.lt_trans hm (by decide))]
  · obtain ⟨k, hk⟩ : ∃ k : Nat, b / 16777216 = k + 3 := ⟨b / 16777216 - 3, by omega⟩
    rw [if_neg h3] at h hl ⊢
    rw [hk] at h hl ⊢
    rw [Nat.add_sub_cancel] at h hl ⊢
    rw [show (((k + 3 : Nat) : Int) - 3) = (k : Int) by omega, up_toNat, down_toNat, ← pow256, Nat.pow_zero, Nat.div_one]
    exact Nat.mod_eq_of_lt hl
theorem wk_easy : 8388607 * 2 ^ ((29 : Int) * 8).toNat % M256 / 2 ^ (-(29 : Int) * 8).toNat = easyN := by decide +kernel
/-- the three highest bytes -/
theorem wk_top {n : Nat} (h : n < M256) : n * 2 ^ ((3 - ((byteN n : Nat) : Int)) * 8).toNat % M256 / 2 ^ (-(3 - ((byteN n : Nat) : Int)) * 8).toNat = topN n := by
  have ht := topN_lt n
  unfold topN at ht ⊢
  by_cases h3 : byteN n ≤ 3
  · obtain ⟨k, hk⟩ : ∃ k : Nat, 3 = byteN n + k := ⟨3 - byteN n, by omega⟩
    rw [if_pos h3] at ht ⊢
    rw [show 3 - byteN n = k by omega] at ht ⊢
    rw [show 3 - ((byteN n : Nat) : Int) = (k : Int) by omega, up_toNat, down_toNat, Nat.pow_zero, Nat.div_one, ← pow256]
    exact Nat.mod_eq_of_lt (Nat.lt_trans ht (by decide))
  · obtain ⟨k, hk⟩ : ∃ k : Nat, byteN n = k + 3 := ⟨byteN n - 3, by omega⟩
    rw [if_neg h3, show 3 - ((byteN n : Nat) : Int) = -(k : Int) by omega, neg_toNat, zero_toNat (by omega), Nat.pow_zero, Nat.mul_one, ← pow256, Nat.mod_eq_of_lt h, hk, Nat.add_sub_cancel]
theorem or_size (m s : Nat) (h : m < 16777216) : m ||| (s <<< 24) = m + 16777216 * s := by
  rw [Nat.or_comm, ← Nat.shiftLeft_add_eq_or_of_lt (show m < 2 ^ 24 by omega), Nat.shiftLeft_eq, Nat.add_comm, Nat.mul_comm]
/-- 2 to the power of 256, divided -/
theorem wk_work {o : Nat} (h0 : 0 < o) (h : o ≤ M256) : (M256 - o) / o + 1 = 2 ^ 256 / o := by
  have := Nat.div_eq_sub_div h0 h
  rw [show 2 ^ 256 = M256 from rfl, this]
theorem wk_scaled (t s : Nat) : t / 4200 * s + t % 4200 * s / 4200 = t * s / 4200 := by
  have h := Nat.div_add_mod t 4200
  conv => rhs; rw [← h, Nat.add_mul, Nat.mul_assoc]
  rw [Nat.mul_add_div (by decide)]
theorem expand_bad {b : Nat} (h : badN b) : expandN b = (0, 121) := if_pos h
theorem expand_ok {b : Nat} (h : ¬ badN b) : expandN b = (rawN b, 0) := if_neg h
theorem raw_lt {b : Nat} (h : ¬ badN b) : rawN b < M256 := Nat.lt_of_le_of_lt (not_bad h).2.2 easy_lt
theorem work_bad {b : Nat} (h : badN b) : workN b = 0 := if_pos h
theorem work_ok {b : Nat} (h : ¬ badN b) : workN b = 2 ^ 256 / (rawN b + 1) := if_neg h
theorem work_lt (b : Nat) : workN b < M256 := by
  unfold workN
  split
  · decide
  · next h =>
    obtain ⟨-, h1, -⟩ := not_bad h
    rw [Nat.div_lt_iff_lt_mul (by omega)]
    exact Nat.lt_of_lt_of_le (by decide) (Nat.mul_le_mul_left M256 (show 2 ≤ rawN b + 1 by omega))
theorem compact_easy : compactN easyN = 545259519 := by
  have hb : byteN easyN = 32 := by
    apply Nat.le_antisymm
    · exact (byteN_le easyN 32).2 (by decide +kernel)
    · apply Nat.le_of_not_lt; intro h
      have := (byteN_le easyN 31).1 (by omega)
      exact absurd this (by decide +kernel)
  have ht : topN easyN = 8388607 := by
    unfold topN; rw [hb, if_neg (by decide)]; decide +kernel
  unfold compactN
  rw [ht, hb, if_pos (by decide)]
theorem compact_lt {n : Nat} (h : n < M256) : compactN n < 4294967296 := by
  have h1 := topN_lt n
  have h2 := byteN_max h
  unfold compactN; split <;> omega
theorem next_ge {b f l : Nat} (h : easyN < rawN b * spanN f l / 4200) (hb : ¬ badN b) : nextN b f l = 545259519 := by
  unfold nextN nextT
  rw [if_neg hb, Nat.min_eq_right (Nat.le_of_lt h), compact_easy]
theorem next_le {b f l : Nat} (h : rawN b * spanN f l / 4200 ≤ easyN) (hb : ¬ badN b) : nextN b f l = compactN (rawN b * spanN f l / 4200) := by
  unfold nextN nextT
  rw [if_neg hb, Nat.min_eq_left h]
theorem next_bad {b : Nat} (f l : Nat) (hb : badN b) : nextN b f l = 545259519 := if_pos hb
end Go.Proofs.Ytdeggdmoijfhdaa

/-
  Layer 12: single operations on whole numbers of 32 and 64 bits; contracts of package wide by the answers' names.
-/
namespace Go.Proofs.Ytdeggdmoijfhdaa
open Go Go.RowKit

section
variable {P : Program} {ops : Array Oper} {o : Oper} {a : Act} {S : World → Prop} {Q : Exit → Act → World → Prop} {rest : List Oper} {w : World}
theorem kYw {v : Value} (hy : YieldsIf P ops (fun w' => w' = w) o v a) (h : wpList P ops Q rest (a.put o.dst v) w) : wpList P ops Q (o :: rest) a w := by
  rcases hy with ⟨hg, hv⟩ | ⟨hg, rfl⟩
  · exact kPure _ hg (hv w rfl) h
  · simp only [wpList, hg]
    exact h
theorem yExtr (x : Operand) (i : Nat) (vs : Array Value) (v : Value) (ho : o.op = .extract x i) (hg : Region.wanted o (yielded ops a.tmps) = true) (hx : a.eval x = .tuple vs) (hv : vs[i]? = some v) : YieldsIf P ops S o v a :=
  yOf hg fun w _ => by
    unfold execOp; simp [ho, hx, Instr.extract, hv]
theorem yAddZ (T T2 : TypeId) (x y : Operand) (m n z : Int) (hz : m + n = z ∧ -9223372036854775808 ≤ z ∧ z < 9223372036854775808) (ho : o.op = .binOp .add T x y T2) (hg : Region.wanted o (yielded ops a.tmps) = true) (hx : a.eval x = .int .i64 m) (hy : a.eval y = .int .i64 n) : YieldsIf P ops S o (.int .i64 z) a :=
  yOf hg fun w _ => by
    obtain ⟨rfl, h1, h2⟩ := hz
    have e : IntKind.i64.wrap (m + n) = m + n := by rw [IntKind.wrap_i64]; omega
    unfold execOp; simp only [ho, hx, hy]; simp [eqGuard, binOp, Op.intArith, e]
theorem ySubZ (T T2 : TypeId) (x y : Operand) (m n z : Int) (hz : m - n = z ∧ -9223372036854775808 ≤ z ∧ z < 9223372036854775808) (ho : o.op = .binOp .sub T x y T2) (hg : Region.wanted o (yielded ops a.tmps) = true) (hx : a.eval x = .int .i64 m) (hy : a.eval y = .int .i64 n) : YieldsIf P ops S o (.int .i64 z) a :=
  yOf hg fun w _ => by
    obtain ⟨rfl, h1, h2⟩ := hz
    have e : IntKind.i64.wrap (m - n) = m - n := by rw [IntKind.wrap_i64]; omega
    unfold execOp; simp only [ho, hx, hy]; simp [eqGuard, binOp, Op.intArith, e]
theorem yMulZ (T T2 : TypeId) (x y : Operand) (m n z : Int) (hz : m * n = z ∧ -9223372036854775808 ≤ z ∧ z < 9223372036854775808) (ho : o.op = .binOp .mul T x y T2) (hg : Region.wanted o (yielded ops a.tmps) = true) (hx : a.eval x = .int .i64 m) (hy : a.eval y = .int .i64 n) : YieldsIf P ops S o (.int .i64 z) a :=
  yOf hg fun w _ => by
    obtain ⟨rfl, h1, h2⟩ := hz
    have e : IntKind.i64.wrap (m * n) = m * n := by rw [IntKind.wrap_i64]; omega
    unfold execOp; simp only [ho, hx, hy]; simp [eqGuard, binOp, Op.intArith, e]
theorem yNegZ (T : TypeId) (x : Operand) (m z : Int) (hz : -m = z ∧ -9223372036854775808 ≤ z ∧ z < 9223372036854775808) (ho : o.op = .unOp .neg T x) (hg : Region.wanted o (yielded ops a.tmps) = true) (hx : a.eval x = .int .i64 m) : YieldsIf P ops S o (.int .i64 z) a :=
  yOf hg fun w _ => by
    obtain ⟨rfl, h1, h2⟩ := hz
    have e : IntKind.i64.wrap (-m) = -m := by rw [IntKind.wrap_i64]; omega
    unfold execOp; simp only [ho, hx]; simp [Op.unary, Op.intArith, e]
/-- division and remainder of any kind of whole numbers that are not below 0 -/
theorem yQuoN (k : IntKind) (T T2 : TypeId) (x y : Operand) (m n z : Nat) (hz : m / n = z ∧ 0 < n ∧ k.wrap (m / n : Nat) = (m / n : Nat)) (ho : o.op = .binOp .quo T x y T2) (hg : Region.wanted o (yielded ops a.tmps) = true) (hx : a.eval x = .int k (m : Int)) (hy : a.eval y = .int k (n : Int)) : YieldsIf P ops S o (.int k (z : Int)) a :=
  yOf hg fun w _ => by
    obtain ⟨rfl, h1, h2⟩ := hz
    have e : (m : Int).tdiv (n : Int) = ((m / n : Nat) : Int) := by norm_cast
    have h0 : n ≠ 0 := by omega
    unfold execOp; simp only [ho, hx, hy]; simp only [eqGuard, binOp, Op.intDiv, e]
    simp [h0]
    exact_mod_cast h2
theorem yRemN (k : IntKind) (T T2 : TypeId) (x y : Operand) (m n z : Nat) (hz : m % n = z ∧ 0 < n) (ho : o.op = .binOp .rem T x y T2) (hg : Region.wanted o (yielded ops a.tmps) = true) (hx : a.eval x = .int k (m : Int)) (hy : a.eval y = .int k (n : Int)) : YieldsIf P ops S o (.int k (z : Int)) a :=
  yOf hg fun w _ => by
    obtain ⟨rfl, h1⟩ := hz
    have e : (m : Int).tmod (n : Int) = ((m % n : Nat) : Int) := by rw [Int.tmod_eq_emod_of_nonneg (Int.natCast_nonneg _)]; norm_cast
    have h0 : n ≠ 0 := by omega
    unfold execOp; simp only [ho, hx, hy]; simp only [eqGuard, binOp, Op.intDiv, e]
    simp [h0]
theorem yShrN (k : IntKind) (T T2 : TypeId) (x y : Operand) (n e z : Nat) (hz : n / 2 ^ e = z ∧ e ≤ k.bits) (ho : o.op = .binOp .shr T x y T2) (hg : Region.wanted o (yielded ops a.tmps) = true) (hx : a.eval x = .int k (n : Int)) (hy : a.eval y = .int .u64 (e : Int)) : YieldsIf P ops S o (.int k (z : Int)) a :=
  yOf hg fun w _ => by
    obtain ⟨rfl, h1⟩ := hz
    have e1 : (n : Int).fdiv (2 ^ e) = ((n / 2 ^ e : Nat) : Int) := by rw [Int.fdiv_eq_ediv_of_nonneg _ (by exact_mod_cast Nat.zero_le _)]; norm_cast
    unfold execOp; simp only [ho, hx, hy]; simp [eqGuard, binOp, Op.shift, Nat.min_eq_left h1, e1]
    intro h; omega
theorem yShlN (k : IntKind) (T T2 : TypeId) (x y : Operand) (n e z : Nat) (hz : n * 2 ^ e = z ∧ e ≤ k.bits ∧ k.wrap (n * 2 ^ e : Nat) = (n * 2 ^ e : Nat)) (ho : o.op = .binOp .shl T x y T2) (hg : Region.wanted o (yielded ops a.tmps) = true) (hx : a.eval x = .int k (n : Int)) (hy : a.eval y = .int .u64 (e : Int)) : YieldsIf P ops S o (.int k (z : Int)) a :=
  yOf hg fun w _ => by
    obtain ⟨rfl, h1, h2⟩ := hz
    rw [Int.natCast_mul, Int.natCast_pow] at h2
    unfold execOp; simp only [ho, hx, hy]; simp [eqGuard, binOp, Op.shift, Nat.min_eq_left h1]
    rw [if_neg (by omega)]
    have h3 : k.wrap ((n : Int) * 2 ^ e) = (n : Int) * 2 ^ e := h2
    rw [h3]
theorem yAndW (T T2 : TypeId) (x y : Operand) (m n z : Nat) (hz : m &&& n = z ∧ m < 4294967296 ∧ n < 4294967296) (ho : o.op = .binOp .and T x y T2) (hg : Region.wanted o (yielded ops a.tmps) = true) (hx : a.eval x = .int .u32 (m : Int)) (hy : a.eval y = .int .u32 (n : Int)) : YieldsIf P ops S o (.int .u32 (z : Int)) a :=
  yOf hg fun w _ => by
    obtain ⟨rfl, h1, h2⟩ := hz
    have e1 : (BitVec.ofNat 32 m &&& BitVec.ofNat 32 n).toNat = m &&& n := by
      rw [BitVec.toNat_and, BitVec.toNat_ofNat, BitVec.toNat_ofNat, Nat.mod_eq_of_lt h1, Nat.mod_eq_of_lt h2]
    have h3 : m &&& n < 4294967296 := Nat.lt_of_le_of_lt Nat.and_le_left h1
    unfold execOp; simp only [ho, hx, hy]; simp [eqGuard, binOp, Op.intBits, IntKind.bits]
    exact (congrArg (fun z : Nat => IntKind.u32.wrap (z : Int)) e1).trans (by rw [IntKind.wrap_u32]; omega)
theorem yOrW (T T2 : TypeId) (x y : Operand) (m n z : Nat) (hz : m ||| n = z ∧ m < 4294967296 ∧ n < 4294967296) (ho : o.op = .binOp .or T x y T2) (hg : Region.wanted o (yielded ops a.tmps) = true) (hx : a.eval x = .int .u32 (m : Int)) (hy : a.eval y = .int .u32 (n : Int)) : YieldsIf P ops S o (.int .u32 (z : Int)) a :=
  yOf hg fun w _ => by
    obtain ⟨rfl, h1, h2⟩ := hz
    have e1 : (BitVec.ofNat 32 m ||| BitVec.ofNat 32 n).toNat = m ||| n := by
      rw [BitVec.toNat_or, BitVec.toNat_ofNat, BitVec.toNat_ofNat, Nat.mod_eq_of_lt h1, Nat.mod_eq_of_lt h2]
    have h3 : m ||| n < 4294967296 := Nat.or_lt_two_pow (n := 32) h1 h2
    unfold execOp; simp only [ho, hx, hy]; simp [eqGuard, binOp, Op.intBits, IntKind.bits]
    exact (congrArg (fun z : Nat => IntKind.u32.wrap (z : Int)) e1).trans (by rw [IntKind.wrap_u32]; omega)
/-- sums and products of 32 bits that fit -/
theorem yAddWk (T T2 : TypeId) (x y : Operand) (m n z : Nat) (hz : m + n = z ∧ z < 4294967296) (ho : o.op = .binOp .add T x y T2) (hg : Region.wanted o (yielded ops a.tmps) = true) (hx : a.eval x = .int .u32 (m : Int)) (hy : a.eval y = .int .u32 (n : Int)) : YieldsIf P ops S o (.int .u32 (z : Int)) a :=
  yOf hg fun w _ => by
    obtain ⟨rfl, h1⟩ := hz
    have e : IntKind.u32.wrap ((m : Int) + (n : Int)) = ((m + n : Nat) : Int) := by rw [IntKind.wrap_u32]; omega
    unfold execOp; simp only [ho, hx, hy]; simp [eqGuard, binOp, Op.intArith, e]
theorem yMulWk (T T2 : TypeId) (x y : Operand) (m n z : Nat) (hz : m * n = z ∧ z < 4294967296) (ho : o.op = .binOp .mul T x y T2) (hg : Region.wanted o (yielded ops a.tmps) = true) (hx : a.eval x = .int .u32 (m : Int)) (hy : a.eval y = .int .u32 (n : Int)) : YieldsIf P ops S o (.int .u32 (z : Int)) a :=
  yOf hg fun w _ => by
    obtain ⟨rfl, h1⟩ := hz
    have e : IntKind.u32.wrap ((m : Int) * (n : Int)) = ((m * n : Nat) : Int) := by
      rw [IntKind.wrap_u32, ← Int.natCast_mul]; omega
    unfold execOp; simp only [ho, hx, hy]; simp [eqGuard, binOp, Op.intArith, e]
theorem yEqlK (T T2 : TypeId) (x y : Operand) (k : IntKind) (m n : Int) (b : Bool) (hb : decide (m = n) = b) (ho : o.op = .binOp .eql T x y T2) (hg : Region.wanted o (yielded ops a.tmps) = true) (hx : a.eval x = .int k m) (hy : a.eval y = .int k n) : YieldsIf P ops S o (.bool b) a :=
  yOf hg fun w _ => by
    subst hb
    unfold execOp; simp only [ho, hx, hy]; simp [eqGuard, binOp, Op.intCmp]; rfl
theorem yLssK (T T2 : TypeId) (x y : Operand) (k : IntKind) (m n : Int) (b : Bool) (hb : decide (m < n) = b) (ho : o.op = .binOp .lss T x y T2) (hg : Region.wanted o (yielded ops a.tmps) = true) (hx : a.eval x = .int k m) (hy : a.eval y = .int k n) : YieldsIf P ops S o (.bool b) a :=
  yOf hg fun w _ => by
    subst hb
    unfold execOp; simp only [ho, hx, hy]; simp [eqGuard, binOp, Op.intCmp]
theorem yGtrK (T T2 : TypeId) (x y : Operand) (k : IntKind) (m n : Int) (b : Bool) (hb : decide (m > n) = b) (ho : o.op = .binOp .gtr T x y T2) (hg : Region.wanted o (yielded ops a.tmps) = true) (hx : a.eval x = .int k m) (hy : a.eval y = .int k n) : YieldsIf P ops S o (.bool b) a :=
  yOf hg fun w _ => by
    subst hb
    unfold execOp; simp only [ho, hx, hy]; simp [eqGuard, binOp, Op.intCmp]
theorem yGeqK (T T2 : TypeId) (x y : Operand) (k : IntKind) (m n : Int) (b : Bool) (hb : decide (m ≥ n) = b) (ho : o.op = .binOp .geq T x y T2) (hg : Region.wanted o (yielded ops a.tmps) = true) (hx : a.eval x = .int k m) (hy : a.eval y = .int k n) : YieldsIf P ops S o (.bool b) a :=
  yOf hg fun w _ => by
    subst hb
    unfold execOp; simp only [ho, hx, hy]; simp [eqGuard, binOp, Op.intCmp]
theorem yNeqK (T T2 : TypeId) (x y : Operand) (k : IntKind) (m n : Int) (b : Bool) (hb : (!decide (m = n)) = b) (ho : o.op = .binOp .neq T x y T2) (hg : Region.wanted o (yielded ops a.tmps) = true) (hx : a.eval x = .int k m) (hy : a.eval y = .int k n) : YieldsIf P ops S o (.bool b) a := yNeqI T T2 x y k m n b ho hg hx hy hb
/-- whole numbers from one kind to another -/
theorem yConvK {T U : TypeId} {k j : IntKind} (hT : P.underlying T = some (.int k)) (hU : P.underlying U = some (.int j)) (x : Operand) (m z : Int) (hz : j.wrap m = z) (ho : o.op = .convert T U x) (hg : Region.wanted o (yielded ops a.tmps) = true) (hx : a.eval x = .int k m) : YieldsIf P ops S o (.int j z) a :=
  yOf hg fun w _ => by
    subst hz
    unfold execOp; simp [ho, hx, convert, run_underlying hT, run_underlying hU, Conv.intToInt]
end
theorem yMinL (x y : Operand) (m n z : Int) (hz : (if n < m then n else m) = z) {P : Program} {ops : Array Oper} {o : Oper} {a : Act} {S : World → Prop} {T : TypeId} (ho : o.op = .call { callee := .builtin .min, args := #[x, y], argTypes := #[T, T] }) (hg : Region.wanted o (yielded ops a.tmps) = true) (hx : a.eval x = .int .i64 m) (hy : a.eval y = .int .i64 n) : YieldsIf P ops S o (.int .i64 z) a :=
  yOf hg fun w _ => by
    subst hz
    unfold execOp
    simp only [ho, resolve, invoke, builtin, Sem.run_bind, Sem.run_pure, Result.andThen_ok, List.map_toArray, List.map_cons, List.map_nil, hx, hy, run_min_int2]
theorem yMaxL (x y : Operand) (m n z : Int) (hz : (if n > m then n else m) = z) {P : Program} {ops : Array Oper} {o : Oper} {a : Act} {S : World → Prop} {T : TypeId} (ho : o.op = .call { callee := .builtin .max, args := #[x, y], argTypes := #[T, T] }) (hg : Region.wanted o (yielded ops a.tmps) = true) (hx : a.eval x = .int .i64 m) (hy : a.eval y = .int .i64 n) : YieldsIf P ops S o (.int .i64 z) a :=
  yOf hg fun w _ => by
    subst hz
    unfold execOp
    simp only [ho, resolve, invoke, builtin, Sem.run_bind, Sem.run_pure, Result.andThen_ok, List.map_toArray, List.map_cons, List.map_nil, hx, hy, run_max_int2]
theorem wrap_u64N {n : Nat} (h : n < 18446744073709551616) : IntKind.u64.wrap (n : Int) = (n : Int) := by rw [IntKind.wrap_u64]; omega
theorem wrap_u32N {n : Nat} (h : n < 4294967296) : IntKind.u32.wrap (n : Int) = (n : Int) := by rw [IntKind.wrap_u32]; omega
theorem wrap_i64N {n : Nat} (h : n < 9223372036854775808) : IntKind.i64.wrap (n : Int) = (n : Int) := by rw [IntKind.wrap_i64]; omega

theorem wLeft_k {a : Nat} {z : Int} {r : Nat} (hz : z < 9223372036854775808) (h : a * 2 ^ z.toNat % M256 = r) (w : World) : Calls Try.prog 47 #[WV a, .int .i64 z] w fun e w' => e = .returned (WV r) ∧ Below w.heap.size w w' := by
  subst h; rw [WV_mod]; exact wLeft_any a z hz w
theorem wRight_k {a : Nat} {z : Int} {r : Nat} (ha : a < M256) (hz : z < 9223372036854775808) (h : a / 2 ^ z.toNat = r) (w : World) : Calls Try.prog 26 #[WV a, .int .i64 z] w fun e w' => e = .returned (WV r) ∧ Below w.heap.size w w' := by
  subst h; exact wRight_any a z ha hz w
theorem wLess_k {a b : Nat} {r : Bool} (ha : a < M256) (hb : b < M256) (h : decide (a < b) = r) (w : World) : Calls Try.prog 23 #[WV a, WV b] w fun e w' => e = .returned (.bool r) ∧ Below w.heap.size w w' := by
  subst h; exact wLess_any a b ha hb w
theorem wBits_k {a r : Nat} (ha : a < M256) (h : blen a = r) (w : World) : Calls Try.prog 11 #[WV a] w fun e w' => e = .returned (.int .i64 (r : Int)) ∧ Below w.heap.size w w' := by
  subst h; exact wBits_any a ha w
theorem wAdd_k {a b r : Nat} {c : Bool} (ha : a < M256) (hb : b < M256) (h : (a + b) % M256 = r ∧ decide (M256 ≤ a + b) = c) (w : World) : Calls Try.prog 39 #[WV a, WV b] w fun e w' => e = .returned (.tuple #[WV r, .bool c]) ∧ Below w.heap.size w w' := by
  obtain ⟨rfl, rfl⟩ := h; rw [WV_mod]; exact wAdd_any a b ha hb w
theorem wSub_k {a b r : Nat} {c : Bool} (ha : a < M256) (hb : b < M256) (h : (a + M256 - b) % M256 = r ∧ decide (a < b) = c) (w : World) : Calls Try.prog 24 #[WV a, WV b] w fun e w' => e = .returned (.tuple #[WV r, .bool c]) ∧ Below w.heap.size w w' := by
  obtain ⟨rfl, rfl⟩ := h; rw [WV_mod]; exact wSub_any a b ha hb w
theorem wMul_k {a b r h : Nat} (ha : a < M256) (hb : b < M256) (e : a * b % M256 = r ∧ a * b / M256 = h) (w : World) : Calls Try.prog 51 #[WV a, WV b] w fun e w' => e = .returned (.tuple #[WV r, WV h]) ∧ Below w.heap.size w w' := by
  obtain ⟨rfl, rfl⟩ := e; rw [WV_mod]; exact wMul_any a b ha hb w
theorem wDiv_k {a b q r : Nat} (ha : a < M256) (hb : b < M256) (e : a / b = q ∧ a % b = r) (w : World) : Calls Try.prog 40 #[WV a, WV b] w fun e w' => e = .returned (.tuple #[WV q, WV r]) ∧ Below w.heap.size w w' := by
  obtain ⟨rfl, rfl⟩ := e; exact wDiv_mod a b ha hb w
section
variable {ops : Array Oper} {o : Oper} {a : Act} {S : World → Prop} {Q : Exit → Act → World → Prop} {rest : List Oper} {w : World}
theorem yLoadW (x : Operand) (g n : Nat) (hr : ∀ w, S w → Row w g 24 (wcells n)) (ho : o.op = .load 24 x) (hg : Region.wanted o (yielded ops a.tmps) = true) (hx : a.eval x = .pointer (some ⟨g, 0, none⟩)) : YieldsIf Try.prog ops S o (.agg (wcells n)) a :=
  yOf hg fun w h => by
    have hl := run_loadPart (w := w) (n := (wcells n).size) (off := 0) (hr w h) Try.underlying24 rfl (info_WideC n) (by omega)
    rw [show (wcells n).extract 0 (0 + (wcells n).size) = wcells n by simp] at hl
    unfold execOp; simp only [ho, hx, Instr.loadAt, Instr.sureAddr, Sem.run_bind, Sem.run_pure, Result.andThen_ok, hl]
theorem yBuildW0 (ho : o.op = .build 24 #[]) (hg : Region.wanted o (yielded ops a.tmps) = true) : YieldsIf Try.prog ops S o (.agg (wcells 0)) a :=
  yOf hg fun w _ => by
    have hc : Try.prog.built 24 [] = some (wcells 0) := by rw [lit_zero]; kernel_rfl
    unfold execOp
    simp only [ho, Sem.run_bind]
    have := run_build w 24 #[] (wcells 0) hc
    simp [this]
theorem yNeqW (T2 : TypeId) (x y : Operand) (m n : Nat) (b : Bool) (hb : (!decide (m % M256 = n % M256)) = b) (ho : o.op = .binOp .neq 24 x y T2) (hg : Region.wanted o (yielded ops a.tmps) = true) (hx : a.eval x = .agg (wcells m)) (hy : a.eval y = .agg (wcells n)) : YieldsIf Try.prog ops S o (.bool b) a :=
  yOf hg fun w _ => by
    subst hb
    unfold execOp
    simp only [ho, hx, hy]
    have e := run_neqW m n x y w
    unfold WV at e
    rw [Sem.run_bind, e]; rfl
end
section
variable {P : Program} {ops : Array Oper} {Q : Exit → Act → World → Prop} {L : Act → World → Prop} {o : Oper} {a : Act} {w : World}
/-- a load and a call that may come in either order: what is known of the world outlasts both -/
theorem tTwoLC {k k' : Nat} {t : PT} {o' : Oper} {d d' : Tmp} (v v' : Value) (I : World → Prop) (hI : I w) (h0 : ops.toList[k]? = some o) (h0' : ops.toList[k']? = some o') (hd : o.dst = some d) (hd' : o'.dst = some d') (hne : d ≠ d')
    (hy : ∀ z, I z → YieldsIf P ops (fun x => x = z) o v a) (hz : ∀ z, I z → YieldsIf P ops (fun x => x = z) o v (a.put o'.dst v'))
    (hc : ∀ z, I z → ∀ R : Exit → Act → World → Prop, (∀ z', I z' → wpList P ops R [] (a.put o'.dst v') z') → wpList P ops R [o'] a z)
    (hc2 : ∀ z, I z → ∀ R : Exit → Act → World → Prop, (∀ z', I z' → wpList P ops R [] ((a.put o.dst v).put o'.dst v') z') → wpList P ops R [o'] (a.put o.dst v) z)
    (h : ∀ z, I z → wpPT P ops Q L t (fun _ => True) ((a.put o.dst v).put o'.dst v') z) : wpPT P ops Q L (.two k (.one k' t) k' (.one k t)) (fun _ => True) a w := by
  have e : (a.put o'.dst v').put o.dst v = (a.put o.dst v).put o'.dst v' := by
    rw [hd, hd']
    simp only [Act.put]
    rw [Array.setIfInBounds_comm _ _ (Ne.symm hne)]
  refine tTwo h0 h0' (kYw (hy w hI) (mixOn ⟨fun _ => True, fun _ h => h, trivial, tOne h0' (hc2 w hI _ fun z' hz' => mixOn ⟨fun _ => True, fun _ h => h, trivial, h z' hz'⟩)⟩)) (hc w hI _ fun z' hz' => mixOn ⟨fun _ => True, fun _ h => h, trivial, tOne h0 (kYw (hz z' hz') (mixOn ⟨fun _ => True, fun _ h => h, trivial, ?_⟩))⟩)
  rw [e]
  exact h z' hz'
end
end Go.Proofs.Ytdeggdmoijfhdaa

/-
  Layer 12: contracts of package work.
-/
namespace Go.Proofs.Ytdeggdmoijfhdaa
open Go Go.RowKit

set_option maxRecDepth 100000 in
set_option maxHeartbeats 8000000 in
theorem kParts_as {b m : Nat} {v u : Int} (hv : v = (b : Int)) (hb : b < 4294967296) (hm : b % 8388608 = m) (hu : ((b / 16777216 : Nat) : Int) - 3 = u) (w : World) : Calls Try.prog 25 #[.int .u32 v] w fun e w' => e = .returned (.tuple #[WV m, .int .i64 u]) ∧ Below w.heap.size w w' := by
  subst hv
  obtain ⟨e, He⟩ : ∃ v_ : Nat, Hid (b / 16777216 = v_) := ⟨_, Lib.hid rfl⟩
  rw [He.out] at hu
  have he : e < 256 := by rw [← He.out]; omega
  have hm2 : m < 8388608 := by omega
  have f5 : Hid (b &&& 8388607 = m ∧ b < 4294967296 ∧ 8388607 < 4294967296) := Lib.hid (⟨by rw [← hm]; exact Nat.and_two_pow_sub_one_eq_mod b 23, hb, by decide⟩)
  have f6 : Hid (IntKind.u64.wrap (m : Int) = (m : Int)) := Lib.hid (wrap_u64N (by omega))
  have f9 : Hid (b / 2 ^ 24 = e ∧ 24 ≤ IntKind.u32.bits) := Lib.hid (⟨He.out, by decide⟩)
  have f10 : Hid (IntKind.i64.wrap (e : Int) = (e : Int)) := Lib.hid (wrap_i64N (by omega))
  have f11 : Hid ((e : Int) - 3 = u ∧ -9223372036854775808 ≤ u ∧ u < 9223372036854775808) := Lib.hid (by omega)
  have hm3 : m < 18446744073709551616 := by omega
  clear hm hu
  have hM0 := mm_nil w
  (try unfold WV)
  go_enter Try.func25, Try.ntmps25
  go_wp2_with (first
    | ((with_reducible change wpList _ _ _ (Oper.mk (some 2) _ _ _ _ _ :: _) _ _); refine mmAlloc hM0 _ _ rfl rfl zero_Wide ?_; intro w1 hM1; clear hM0; go_frame)
    | ((with_reducible change wpList _ _ _ (Oper.mk (some 5) _ _ _ _ _ :: _) _ _); refine kYw (yAndW _ _ _ _ b 8388607 m f5.out rfl rfl rfl rfl) ?_; go_frame)
    | ((with_reducible change wpList _ _ _ (Oper.mk (some 6) _ _ _ _ _ :: _) _ _); refine kYw (yConvK Try.underlying28 Try.underlying22 _ m m f6.out rfl rfl rfl) ?_; go_frame)
    | (go_at_call 29; (with_reducible change Calls _ _ #[Value.int .u64 ((m : Int))] _ _); refine (wOf_any m hm3 _).mono ?_; rintro e w2 ⟨rfl, hB2⟩; have hM2 := hM1.on hB2; clear hB2 hM1; (try unfold WV); go_frame)
    | ((with_reducible change wpList _ _ _ (Oper.mk (some 9) _ _ _ _ _ :: _) _ _); refine kYw (yShrN .u32 _ _ _ _ b 24 e f9.out rfl rfl rfl rfl) ?_; go_frame)
    | ((with_reducible change wpList _ _ _ (Oper.mk (some 10) _ _ _ _ _ :: _) _ _); refine kYw (yConvK Try.underlying28 Try.underlying3 _ e e f10.out rfl rfl rfl) ?_; go_frame)
    | ((with_reducible change wpList _ _ _ (Oper.mk (some 11) _ _ _ _ _ :: _) _ _); refine kYw (ySubZ _ _ _ _ e 3 u f11.out rfl rfl rfl rfl) ?_; go_frame)
    | ((with_reducible change wpList _ _ _ (Oper.mk none (Op.store _ (Operand.tmp 2) (Operand.tmp 7)) _ _ _ _ :: _) _ _); refine mmStoreAt hM2 0 _ _ _ _ _ _ (wcells m) rfl rfl rfl rfl rfl (info_WideC _) (by simp only [wcells_size]) (wcells_one _) ?_; intro w3 hM3; dsimp only [List.set] at hM3; clear hM2; go_frame))
  exact result_row_tmp Try.results25 rfl rfl (hM3.get 0 rfl) Try.underlying24 rfl (info_WideC _) rfl ⟨rfl, hM3.below⟩
set_option maxRecDepth 100000 in
set_option maxHeartbeats 8000000 in
theorem kMoved_as {a x : Nat} {u : Int} (ha : a < M256) (hu : -1000 ≤ u ∧ u ≤ 1000) (hx : a * 2 ^ (u * 8).toNat % M256 / 2 ^ (-u * 8).toNat = x) (w : World) : Calls Try.prog 28 #[WV a, .int .i64 u] w fun e w' => e = .returned (WV x) ∧ Below w.heap.size w w' := by
  obtain ⟨y, Hy⟩ : ∃ v_ : Nat, Hid (a * 2 ^ (u * 8).toNat % M256 = v_) := ⟨_, Lib.hid rfl⟩
  rw [Hy.out] at hx
  have hy : y < M256 := by rw [← Hy.out]; exact Nat.mod_lt _ M256_pos
  obtain ⟨z, Hz⟩ : ∃ v_ : Int, Hid (u * 8 = v_) := ⟨_, Lib.hid rfl⟩
  obtain ⟨t, Ht⟩ : ∃ v_ : Int, Hid (-u = v_) := ⟨_, Lib.hid rfl⟩
  obtain ⟨s, Hs⟩ : ∃ v_ : Int, Hid (t * 8 = v_) := ⟨_, Lib.hid rfl⟩
  rw [Hz.out] at Hy
  rw [Ht.out, Hs.out] at hx
  have f7 : Hid (u * 8 = z ∧ -9223372036854775808 ≤ z ∧ z < 9223372036854775808) := Lib.hid (⟨Hz.out, by have := Hz.out; omega, by have := Hz.out; omega⟩)
  have f10 : Hid (-u = t ∧ -9223372036854775808 ≤ t ∧ t < 9223372036854775808) := Lib.hid (⟨Ht.out, by have := Ht.out; omega, by have := Ht.out; omega⟩)
  have f11 : Hid (t * 8 = s ∧ -9223372036854775808 ≤ s ∧ s < 9223372036854775808) := Lib.hid (⟨Hs.out, by have := Ht.out; have := Hs.out; omega, by have := Ht.out; have := Hs.out; omega⟩)
  have f12 : Hid (y / 2 ^ s.toNat = x) := Lib.hid (hx)
  clear hx
  have hM0 := mm_nil w
  (try unfold WV)
  go_enter Try.func28, Try.ntmps28
  go_wp2_with (first
    | ((with_reducible change wpList _ _ _ (Oper.mk (some 2) _ _ _ _ _ :: _) _ _); refine mmBox hM0 _ _ (wcells a) rfl rfl rfl ?_; intro w1 hM1; clear hM0; go_frame)
    | ((with_reducible change wpList _ _ _ (Oper.mk (some 4) _ _ _ _ _ :: _) _ _); refine mmAlloc hM1 _ _ rfl rfl zero_Wide ?_; intro w2 hM2; clear hM1; go_frame)
    | ((with_reducible change wpList _ _ _ (Oper.mk (some 5) _ _ _ _ _ :: _) _ _); refine kLoadRow _ _ _ _ _ _ rfl rfl rfl (hM2.get 1 rfl) Try.underlying24 rfl (info_WideC _) ?_; go_frame)
    | ((with_reducible change wpList _ _ _ (Oper.mk (some 7) _ _ _ _ _ :: _) _ _); refine kYw (yMulZ _ _ _ _ u 8 z f7.out rfl rfl rfl rfl) ?_; go_frame)
    | (go_at_call 47; (with_reducible change Calls _ _ #[Value.agg (wcells a), Value.int .i64 (z)] _ _); refine (wLeft_k f7.out.2.2 Hy.out _).mono ?_; rintro e w3 ⟨rfl, hB3⟩; have hM3 := hM2.on hB3; clear hB3 hM2; (try unfold WV); go_frame)
    | ((with_reducible change wpList _ _ _ (Oper.mk (some 10) _ _ _ _ _ :: _) _ _); refine kYw (yNegZ _ _ u t f10.out rfl rfl rfl) ?_; go_frame)
    | ((with_reducible change wpList _ _ _ (Oper.mk (some 11) _ _ _ _ _ :: _) _ _); refine kYw (yMulZ _ _ _ _ t 8 s f11.out rfl rfl rfl rfl) ?_; go_frame)
    | (go_at_call 26; (with_reducible change Calls _ _ #[Value.agg (wcells y), Value.int .i64 (s)] _ _); refine (wRight_k hy f11.out.2.2 f12.out _).mono ?_; rintro e w4 ⟨rfl, hB4⟩; have hM4 := hM3.on hB4; clear hB4 hM3; (try unfold WV); go_frame)
    | ((with_reducible change wpList _ _ _ (Oper.mk none (Op.store _ (Operand.tmp 4) (Operand.tmp 12)) _ _ _ _ :: _) _ _); refine mmStoreAt hM4 0 _ _ _ _ _ _ (wcells x) rfl rfl rfl rfl rfl (info_WideC _) (by simp only [wcells_size]) (wcells_one _) ?_; intro w5 hM5; dsimp only [List.set] at hM5; clear hM4; go_frame))
  exact result_row Try.results28 rfl (hM5.get 0 rfl) Try.underlying24 rfl (info_WideC _) rfl ⟨rfl, hM5.below⟩
set_option maxRecDepth 100000 in
set_option maxHeartbeats 8000000 in
theorem kEasiest_as {x : Nat} (hx : easyN = x) (w : World) : Calls Try.prog 27 #[] w fun e w' => e = .returned (WV x) ∧ Below w.heap.size w w' := by
  obtain ⟨m, Hm⟩ : ∃ v_ : Nat, Hid (8388607 = v_) := ⟨_, Lib.hid rfl⟩
  obtain ⟨u, Hu⟩ : ∃ v_ : Int, Hid (29 = v_) := ⟨_, Lib.hid rfl⟩
  have f1 : Hid (545259519 % 8388608 = m ∧ ((545259519 / 16777216 : Nat) : Int) - 3 = u) := Lib.hid (⟨by rw [← Hm.out], by rw [← Hu.out]; decide⟩)
  have f4 : Hid (m < M256 ∧ (-1000 ≤ u ∧ u ≤ 1000) ∧ m * 2 ^ (u * 8).toNat % M256 / 2 ^ (-u * 8).toNat = x) := Lib.hid (by rw [← Hm.out, ← Hu.out, ← hx]; exact ⟨by decide, by decide, wk_easy⟩)
  have f0 : Hid ((545259519 : Int) = ((545259519 : Nat) : Int)) := Lib.hid (rfl)
  clear hx Hm Hu
  have hM0 := mm_nil w
  (try unfold WV)
  go_enter Try.func27, Try.ntmps27
  go_wp2_with (first
    | ((with_reducible change wpList _ _ _ (Oper.mk (some 0) _ _ _ _ _ :: _) _ _); refine mmAlloc hM0 _ _ rfl rfl zero_Wide ?_; intro w1 hM1; clear hM0; go_frame)
    | (go_at_call 25; (with_reducible change Calls _ _ #[Value.int .u32 (545259519)] _ _); refine (kParts_as (b := 545259519) f0.out (by decide) f1.out.1 f1.out.2 _).mono ?_; rintro e w2 ⟨rfl, hB2⟩; have hM2 := hM1.on hB2; clear hB2 hM1; (try unfold WV); go_frame)
    | (go_at_call 28; (with_reducible change Calls _ _ #[Value.agg (wcells m), Value.int .i64 (u)] _ _); refine (kMoved_as f4.out.1 f4.out.2.1 f4.out.2.2 _).mono ?_; rintro e w3 ⟨rfl, hB3⟩; have hM3 := hM2.on hB3; clear hB3 hM2; (try unfold WV); go_frame)
    | ((with_reducible change wpList _ _ _ (Oper.mk none (Op.store _ (Operand.tmp 0) (Operand.tmp 4)) _ _ _ _ :: _) _ _); refine mmStoreAt hM3 0 _ _ _ _ _ _ (wcells x) rfl rfl rfl rfl rfl (info_WideC _) (by simp only [wcells_size]) (wcells_one _) ?_; intro w4 hM4; dsimp only [List.set] at hM4; clear hM3; go_frame))
  exact result_row Try.results27 rfl (hM4.get 0 rfl) Try.underlying24 rfl (info_WideC _) rfl ⟨rfl, hM4.below⟩
set_option maxRecDepth 100000 in
set_option maxHeartbeats 8000000 in
theorem kExpand_bad {b : Nat} (hb : b < 4294967296) (h : badN b) (w : World) : Calls Try.prog 9 #[.int .u32 (b : Int)] w fun e w' => e = .returned (.tuple #[WV 0, .int .i64 121]) ∧ Below w.heap.size w w' := by
  obtain ⟨m, Hm⟩ : ∃ v_ : Nat, Hid (b % 8388608 = v_) := ⟨_, Lib.hid rfl⟩
  obtain ⟨u, Hu⟩ : ∃ v_ : Int, Hid (((b / 16777216 : Nat) : Int) - 3 = v_) := ⟨_, Lib.hid rfl⟩
  obtain ⟨q, Hq⟩ : ∃ v_ : Nat, Hid (b / 2 ^ 23 = v_) := ⟨_, Lib.hid rfl⟩
  obtain ⟨p, Hp⟩ : ∃ v_ : Nat, Hid (q &&& 1 = v_) := ⟨_, Lib.hid rfl⟩
  have hm : m < M256 := by rw [← Hm.out]; exact Nat.lt_trans (Nat.mod_lt _ (by decide)) (by decide)
  have hu : -1000 ≤ u ∧ u ≤ 1000 := by have := Hu.out; omega
  have hq : q < 4294967296 := by rw [← Hq.out]; omega
  have f13 : Hid (b / 2 ^ 23 = q ∧ 23 ≤ IntKind.u32.bits) := Lib.hid (⟨Hq.out, by decide⟩)
  have f14 : Hid (q &&& 1 = p ∧ q < 4294967296 ∧ 1 < 4294967296) := Lib.hid (⟨Hp.out, hq, by decide⟩)
  have hp : p = b / 8388608 % 2 := by rw [← Hp.out, ← Hq.out]; exact Nat.and_two_pow_sub_one_eq_mod _ 1
  replace hp := Lib.hid hp
  by_cases h1 : Hid (b / 8388608 % 2 = 1)
  · have f15 : Hid ((!decide ((p : Int) = 0)) = true) := Lib.hid (by rw [hp.out, h1.out]; rfl)
    clear h h1 hp Hq Hp
    have hM0 := mm_nil w
    (try unfold WV)
    go_enter Try.func9, Try.ntmps9
    go_wp2_with (first
      | ((with_reducible change wpList _ _ _ (Oper.mk (some 2) _ _ _ _ _ :: _) _ _); refine mmAlloc hM0 _ _ rfl rfl zero_Wide ?_; intro w1 hM1; clear hM0; go_frame)
      | (go_at_call 25; (with_reducible change Calls _ _ #[Value.int .u32 ((b : Int))] _ _); refine (kParts_as rfl hb Hm.out Hu.out _).mono ?_; rintro e w2 ⟨rfl, hB2⟩; have hM2 := hM1.on hB2; clear hB2 hM1; (try unfold WV); go_frame)
      | ((with_reducible change wpList _ _ _ (Oper.mk (some 4) _ _ _ _ _ :: _) _ _); refine mmAlloc hM2 _ _ rfl rfl zero_Wide ?_; intro w3 hM3; clear hM2; go_frame)
      | ((with_reducible change wpList _ _ _ (Oper.mk none (Op.store _ (Operand.tmp 4) (Operand.tmp 10)) _ _ _ _ :: _) _ _); refine mmStoreAt hM3 0 _ _ _ _ _ _ (wcells m) rfl rfl rfl rfl rfl (info_WideC _) (by simp only [wcells_size]) (wcells_one _) ?_; intro w4 hM4; dsimp only [List.set] at hM4; clear hM3; go_frame))
    refine region_symT 12 _ [] [] [.val (.int .u32 ((b : Int))), .val (.int .u32 ((q : Int))), .val (.int .u32 ((p : Int))), .val (.bool true), .val (.bool true), .val (undef), .val (undef), .val (undef), .val (undef), .val (undef), .val (undef), .val (.bool true)] rfl (by kernel_rfl) (by kernel_rfl) (by kernel_rfl) (by kernel_rfl) rfl (by intro s hs; cases hs) (steps_all ⟨?_, ?_, ?_, ?_, ?_, ?_, ?_, ?_, ?_, ?_, ?_, ?_, trivial⟩) ?_
    · exact fun A W sz ot hbel ap dp => kMoveV _ _ rfl rfl (sO ot 0) (sE ap sz rfl)
    · exact fun A W sz ot hbel ap dp => kYw (yShrN .u32 _ _ _ _ b 23 q f13.out rfl rfl (sD dp 0 .data) rfl) (sE ap sz rfl)
    · exact fun A W sz ot hbel ap dp => kYw (yAndW _ _ _ _ q 1 p f14.out rfl rfl (sD dp 1 .data) rfl) (sE ap sz rfl)
    · exact fun A W sz ot hbel ap dp => kYw (yNeqK _ _ _ _ .u32 p 0 true f15.out rfl rfl (sD dp 2 .data) rfl) (sE ap sz rfl)
    · exact fun A W sz ot hbel ap dp => kMoveV _ _ rfl rfl (sD dp 3 .data) (sE ap sz rfl)
    · exact fun A W sz ot hbel ap dp => wpList_skip (unwanted_of rfl rfl (sD dp 4 .chain) (.inl rfl)) (sE ap sz rfl)
    · exact fun A W sz ot hbel ap dp => wpList_skip (unwanted_of rfl rfl (sD dp 4 .guard) (.inl rfl)) (sE ap sz rfl)
    · exact fun A W sz ot hbel ap dp => wpList_skip (unwanted_of rfl rfl (sD dp 4 .guard) (.inl rfl)) (sE ap sz rfl)
    · exact fun A W sz ot hbel ap dp => wpList_skip (unwanted_of rfl rfl (sD dp 4 .guard) (.inl rfl)) (sE ap sz rfl)
    · exact fun A W sz ot hbel ap dp => wpList_skip (unwanted_of rfl rfl (sD dp 4 .guard) (.inl rfl)) (sE ap sz rfl)
    · exact fun A W sz ot hbel ap dp => wpList_skip (unwanted_of rfl rfl (sD dp 4 .guard) (.inl rfl)) (sE ap sz rfl)
    · exact fun A W sz ot hbel ap dp => kPick _ _ _ true (.bool true) rfl rfl (sD dp 4 .data) rfl (sE ap sz rfl)
    intro w5 hB5
    dsimp only [AllV]
    intro hap
    dsimp only [putAll, List.take, List.drop]
    go_frame
    have hM5 := hM4.on hB5
    clear hB5 hM4 hap
    go_wp2_with (first
      | ((with_reducible change wpList _ _ _ (Oper.mk (some 24) _ _ _ _ _ :: _) _ _); refine kBuildW0 rfl rfl ?_; go_frame)
      | ((with_reducible change wpList _ _ _ (Oper.mk none (Op.store _ (Operand.tmp 2) (Operand.tmp 24)) _ _ _ _ :: _) _ _); refine mmStoreAt hM5 1 _ _ _ _ _ _ (wcells 0) rfl rfl rfl rfl rfl (info_WideC _) (by simp only [wcells_size]) (wcells_one _) ?_; intro w6 hM6; dsimp only [List.set] at hM6; clear hM5; go_frame))
    exact result_row_tmp Try.results9 rfl rfl (hM6.get 1 rfl) Try.underlying24 rfl (info_WideC _) rfl ⟨rfl, hM6.below⟩
  · have hp0 : p = 0 := by rw [hp.out]; have : ¬ (b / 8388608 % 2 = 1) := fun e => h1 (Lib.hid e); omega
    have f15 : Hid ((!decide ((p : Int) = 0)) = false) := Lib.hid (by rw [hp0]; rfl)
    obtain ⟨E, HE⟩ : ∃ v_ : Nat, Hid (easyN = v_) := ⟨_, Lib.hid rfl⟩
    obtain ⟨z, Hz⟩ : ∃ v_ : Int, Hid (u * 8 = v_) := ⟨_, Lib.hid rfl⟩
    obtain ⟨g, Hg⟩ : ∃ v_ : Nat, Hid (E / 2 ^ z.toNat = v_) := ⟨_, Lib.hid rfl⟩
    have hE : E < M256 := by rw [← HE.out]; exact easy_lt
    have hg : g < M256 := by rw [← Hg.out]; exact Nat.lt_of_le_of_lt (Nat.div_le_self _ _) hE
    have f19 : Hid (u * 8 = z ∧ -9223372036854775808 ≤ z ∧ z < 9223372036854775808) := Lib.hid (by have := Hz.out; omega)
    have hov : g < m ↔ easyN < rawN b := by rw [← Hg.out, ← HE.out, ← Hz.out, ← Hm.out, ← Hu.out]; exact wk_over b
    replace hov := Lib.hid hov
    by_cases h2 : easyN < rawN b
    · have f22 : Hid (decide (g < m) = true) := Lib.hid (by simp [hov.out.2 h2])
      clear h h1 h2 hov hp hp0 Hq Hp Hz
      have hM0 := mm_nil w
      (try unfold WV)
      go_enter Try.func9, Try.ntmps9
      go_wp2_with (first
        | ((with_reducible change wpList _ _ _ (Oper.mk (some 2) _ _ _ _ _ :: _) _ _); refine mmAlloc hM0 _ _ rfl rfl zero_Wide ?_; intro w1 hM1; clear hM0; go_frame)
        | (go_at_call 25; (with_reducible change Calls _ _ #[Value.int .u32 ((b : Int))] _ _); refine (kParts_as rfl hb Hm.out Hu.out _).mono ?_; rintro e w2 ⟨rfl, hB2⟩; have hM2 := hM1.on hB2; clear hB2 hM1; (try unfold WV); go_frame)
        | ((with_reducible change wpList _ _ _ (Oper.mk (some 4) _ _ _ _ _ :: _) _ _); refine mmAlloc hM2 _ _ rfl rfl zero_Wide ?_; intro w3 hM3; clear hM2; go_frame)
        | ((with_reducible change wpList _ _ _ (Oper.mk none (Op.store _ (Operand.tmp 4) (Operand.tmp 10)) _ _ _ _ :: _) _ _); refine mmStoreAt hM3 0 _ _ _ _ _ _ (wcells m) rfl rfl rfl rfl rfl (info_WideC _) (by simp only [wcells_size]) (wcells_one _) ?_; intro w4 hM4; dsimp only [List.set] at hM4; clear hM3; go_frame))
      refine region_symT 12 _ [] [] [.val (.int .u32 ((b : Int))), .val (.int .u32 ((q : Int))), .val (.int .u32 ((p : Int))), .val (.bool false), .val (.bool false), .val (.agg (wcells E)), .val (.int .i64 (u)), .val (.int .i64 (z)), .val (.agg (wcells g)), .val (.agg (wcells m)), .val (.bool true), .val (.bool true)] rfl (by kernel_rfl) (by kernel_rfl) (by kernel_rfl) (by kernel_rfl) rfl (by intro s hs; cases hs) (steps_all ⟨?_, ?_, ?_, ?_, ?_, ?_, ?_, ?_, ?_, ?_, ?_, ?_, trivial⟩) ?_
      · exact fun A W sz ot hbel ap dp => kMoveV _ _ rfl rfl (sO ot 0) (sE ap sz rfl)
      · exact fun A W sz ot hbel ap dp => kYw (yShrN .u32 _ _ _ _ b 23 q f13.out rfl rfl (sD dp 0 .data) rfl) (sE ap sz rfl)
      · exact fun A W sz ot hbel ap dp => kYw (yAndW _ _ _ _ q 1 p f14.out rfl rfl (sD dp 1 .data) rfl) (sE ap sz rfl)
      · exact fun A W sz ot hbel ap dp => kYw (yNeqK _ _ _ _ .u32 p 0 false f15.out rfl rfl (sD dp 2 .data) rfl) (sE ap sz rfl)
      · exact fun A W sz ot hbel ap dp => kMoveV _ _ rfl rfl (sD dp 3 .data) (sE ap sz rfl)
      · intro A W sz ot hbel ap dp
        refine kCall0 27 _ rfl (wanted_of rfl rfl (sD dp 4 .chain)) (by kernel_rfl)  ?_
        refine (kEasiest_as HE.out W).mono ?_
        rintro e r ⟨rfl, hBc⟩
        exact ⟨_, rfl, (sV ap sz hBc rfl)⟩
      · exact fun A W sz ot hbel ap dp => kMoveV _ _ rfl (wanted_of rfl rfl (sD dp 4 .guard)) (sO ot 5) (sE ap sz rfl)
      · exact fun A W sz ot hbel ap dp => kYw (yMulZ _ _ _ _ u 8 z f19.out rfl (wanted_of rfl rfl (sD dp 4 .guard)) (sD dp 6 .data) rfl) (sE ap sz rfl)
      · exact fun A W sz ot hbel ap dp => sCall2 26 rfl (sD dp 5 .data) (sD dp 7 .data) (sC (wRight_k hE f19.out.2.2 Hg.out W) ap sz (fun _ => rfl)) (wanted_of rfl rfl (sD dp 4 .guard))
      · exact fun A W sz ot hbel ap dp => kLoadRow _ _ _ _ _ _ rfl (wanted_of rfl rfl (sD dp 4 .guard)) (sO ot 4) ((hM4.get 0 rfl).on hbel) Try.underlying24 rfl (info_WideC _) (sE ap sz rfl)
      · exact fun A W sz ot hbel ap dp => sCall2 23 rfl (sD dp 8 .data) (sD dp 9 .data) (sC (wLess_k hg hm f22.out W) ap sz (fun _ => rfl)) (wanted_of rfl rfl (sD dp 4 .guard))
      · exact fun A W sz ot hbel ap dp => kPick _ _ _ false (.bool true) rfl rfl (sD dp 4 .data) (sD dp 10 .data) (sE ap sz rfl)
      intro w5 hB5
      dsimp only [AllV]
      intro hap
      dsimp only [putAll, List.take, List.drop]
      go_frame
      have hM5 := hM4.on hB5
      clear hB5 hM4 hap
      go_wp2_with (first
        | ((with_reducible change wpList _ _ _ (Oper.mk (some 24) _ _ _ _ _ :: _) _ _); refine kBuildW0 rfl rfl ?_; go_frame)
        | ((with_reducible change wpList _ _ _ (Oper.mk none (Op.store _ (Operand.tmp 2) (Operand.tmp 24)) _ _ _ _ :: _) _ _); refine mmStoreAt hM5 1 _ _ _ _ _ _ (wcells 0) rfl rfl rfl rfl rfl (info_WideC _) (by simp only [wcells_size]) (wcells_one _) ?_; intro w6 hM6; dsimp only [List.set] at hM6; clear hM5; go_frame))
      exact result_row_tmp Try.results9 rfl rfl (hM6.get 1 rfl) Try.underlying24 rfl (info_WideC _) rfl ⟨rfl, hM6.below⟩
    · have f22 : Hid (decide (g < m) = false) := Lib.hid (by have := fun e => h2 (hov.out.1 e); simpa using this)
      have ht : rawN b = 0 := by unfold badN at h; rcases h with h | h | h
                                 · exact absurd (Lib.hid h) h1
                                 · exact h
                                 · exact absurd h h2
      obtain ⟨t, Ht⟩ : ∃ v_ : Nat, Hid (rawN b = v_) := ⟨_, Lib.hid rfl⟩
      have f27 : Hid (m * 2 ^ (u * 8).toNat % M256 / 2 ^ (-u * 8).toNat = t) := Lib.hid (by rw [← Hm.out, ← Hu.out, ← Ht.out]; exact wk_moved (Nat.le_of_not_lt h2))
      have f30 : Hid (decide (t % M256 = 0 % M256) = true) := Lib.hid (by rw [← Ht.out, ht]; rfl)
      clear h h1 h2 hov hp hp0 Hq Hp Hz ht Ht
      have hM0 := mm_nil w
      (try unfold WV)
      go_enter Try.func9, Try.ntmps9
      go_wp2_with (first
        | ((with_reducible change wpList _ _ _ (Oper.mk (some 2) _ _ _ _ _ :: _) _ _); refine mmAlloc hM0 _ _ rfl rfl zero_Wide ?_; intro w1 hM1; clear hM0; go_frame)
        | (go_at_call 25; (with_reducible change Calls _ _ #[Value.int .u32 ((b : Int))] _ _); refine (kParts_as rfl hb Hm.out Hu.out _).mono ?_; rintro e w2 ⟨rfl, hB2⟩; have hM2 := hM1.on hB2; clear hB2 hM1; (try unfold WV); go_frame)
        | ((with_reducible change wpList _ _ _ (Oper.mk (some 4) _ _ _ _ _ :: _) _ _); refine mmAlloc hM2 _ _ rfl rfl zero_Wide ?_; intro w3 hM3; clear hM2; go_frame)
        | ((with_reducible change wpList _ _ _ (Oper.mk none (Op.store _ (Operand.tmp 4) (Operand.tmp 10)) _ _ _ _ :: _) _ _); refine mmStoreAt hM3 0 _ _ _ _ _ _ (wcells m) rfl rfl rfl rfl rfl (info_WideC _) (by simp only [wcells_size]) (wcells_one _) ?_; intro w4 hM4; dsimp only [List.set] at hM4; clear hM3; go_frame))
      refine region_symT 12 _ [] [] [.val (.int .u32 ((b : Int))), .val (.int .u32 ((q : Int))), .val (.int .u32 ((p : Int))), .val (.bool false), .val (.bool false), .val (.agg (wcells E)), .val (.int .i64 (u)), .val (.int .i64 (z)), .val (.agg (wcells g)), .val (.agg (wcells m)), .val (.bool false), .val (.bool false)] rfl (by kernel_rfl) (by kernel_rfl) (by kernel_rfl) (by kernel_rfl) rfl (by intro s hs; cases hs) (steps_all ⟨?_, ?_, ?_, ?_, ?_, ?_, ?_, ?_, ?_, ?_, ?_, ?_, trivial⟩) ?_
      · exact fun A W sz ot hbel ap dp => kMoveV _ _ rfl rfl (sO ot 0) (sE ap sz rfl)
      · exact fun A W sz ot hbel ap dp => kYw (yShrN .u32 _ _ _ _ b 23 q f13.out rfl rfl (sD dp 0 .data) rfl) (sE ap sz rfl)
      · exact fun A W sz ot hbel ap dp => kYw (yAndW _ _ _ _ q 1 p f14.out rfl rfl (sD dp 1 .data) rfl) (sE ap sz rfl)
      · exact fun A W sz ot hbel ap dp => kYw (yNeqK _ _ _ _ .u32 p 0 false f15.out rfl rfl (sD dp 2 .data) rfl) (sE ap sz rfl)
      · exact fun A W sz ot hbel ap dp => kMoveV _ _ rfl rfl (sD dp 3 .data) (sE ap sz rfl)
      · intro A W sz ot hbel ap dp
        refine kCall0 27 _ rfl (wanted_of rfl rfl (sD dp 4 .chain)) (by kernel_rfl)  ?_
        refine (kEasiest_as HE.out W).mono ?_
        rintro e r ⟨rfl, hBc⟩
        exact ⟨_, rfl, (sV ap sz hBc rfl)⟩
      · exact fun A W sz ot hbel ap dp => kMoveV _ _ rfl (wanted_of rfl rfl (sD dp 4 .guard)) (sO ot 5) (sE ap sz rfl)
      · exact fun A W sz ot hbel ap dp => kYw (yMulZ _ _ _ _ u 8 z f19.out rfl (wanted_of rfl rfl (sD dp 4 .guard)) (sD dp 6 .data) rfl) (sE ap sz rfl)
      · exact fun A W sz ot hbel ap dp => sCall2 26 rfl (sD dp 5 .data) (sD dp 7 .data) (sC (wRight_k hE f19.out.2.2 Hg.out W) ap sz (fun _ => rfl)) (wanted_of rfl rfl (sD dp 4 .guard))
      · exact fun A W sz ot hbel ap dp => kLoadRow _ _ _ _ _ _ rfl (wanted_of rfl rfl (sD dp 4 .guard)) (sO ot 4) ((hM4.get 0 rfl).on hbel) Try.underlying24 rfl (info_WideC _) (sE ap sz rfl)
      · exact fun A W sz ot hbel ap dp => sCall2 23 rfl (sD dp 8 .data) (sD dp 9 .data) (sC (wLess_k hg hm f22.out W) ap sz (fun _ => rfl)) (wanted_of rfl rfl (sD dp 4 .guard))
      · exact fun A W sz ot hbel ap dp => kPick _ _ _ false (.bool false) rfl rfl (sD dp 4 .data) (sD dp 10 .data) (sE ap sz rfl)
      intro w5 hB5
      dsimp only [AllV]
      intro hap
      dsimp only [putAll, List.take, List.drop]
      go_frame
      have hM5 := hM4.on hB5
      clear hB5 hM4 hap
      go_wp2_with (first
        | ((with_reducible change wpList _ _ _ (Oper.mk (some 25) _ _ _ _ _ :: _) _ _); refine kLoadRow _ _ _ _ _ _ rfl rfl rfl (hM5.get 0 rfl) Try.underlying24 rfl (info_WideC _) ?_; go_frame)
        | (go_at_call 28; (with_reducible change Calls _ _ #[Value.agg (wcells m), Value.int .i64 (u)] _ _); refine (kMoved_as hm hu f27.out _).mono ?_; rintro e w6 ⟨rfl, hB6⟩; have hM6 := hM5.on hB6; clear hB6 hM5; (try unfold WV); go_frame)
        | ((with_reducible change wpList _ _ _ (Oper.mk (some 6) _ _ _ _ _ :: _) _ _); refine mmAlloc hM6 _ _ rfl rfl zero_Wide ?_; intro w7 hM7; clear hM6; go_frame)
        | ((with_reducible change wpList _ _ _ (Oper.mk none (Op.store _ (Operand.tmp 6) (Operand.tmp 27)) _ _ _ _ :: _) _ _); refine mmStoreAt hM7 0 _ _ _ _ _ _ (wcells t) rfl rfl rfl rfl rfl (info_WideC _) (by simp only [wcells_size]) (wcells_one _) ?_; intro w8 hM8; dsimp only [List.set] at hM8; clear hM7; go_frame)
        | ((with_reducible change wpList _ _ _ (Oper.mk (some 28) _ _ _ _ _ :: _) _ _); refine kLoadRow _ _ _ _ _ _ rfl rfl rfl (hM8.get 0 rfl) Try.underlying24 rfl (info_WideC _) ?_; go_frame)
        | ((with_reducible change wpList _ _ _ (Oper.mk (some 29) _ _ _ _ _ :: _) _ _); refine kBuildW0 rfl rfl ?_; go_frame)
        | ((with_reducible change wpList _ _ _ (Oper.mk (some 30) _ _ _ _ _ :: _) _ _); refine kEqlW _ _ _ (t) (0) true rfl rfl rfl rfl (f30.out) ?_; go_frame)
        | ((with_reducible change wpList _ _ _ (Oper.mk (some 31) _ _ _ _ _ :: _) _ _); refine kBuildW0 rfl rfl ?_; go_frame)
        | ((with_reducible change wpList _ _ _ (Oper.mk none (Op.store _ (Operand.tmp 2) (Operand.tmp 31)) _ _ _ _ :: _) _ _); refine mmStoreAt hM8 2 _ _ _ _ _ _ (wcells 0) rfl rfl rfl rfl rfl (info_WideC _) (by simp only [wcells_size]) (wcells_one _) ?_; intro w9 hM9; dsimp only [List.set] at hM9; clear hM8; go_frame))
      exact result_row_tmp Try.results9 rfl rfl (hM9.get 2 rfl) Try.underlying24 rfl (info_WideC _) rfl ⟨rfl, hM9.below⟩
set_option maxRecDepth 100000 in
set_option maxHeartbeats 8000000 in
theorem kExpand_ok {b t : Nat} (hb : b < 4294967296) (h : ¬ badN b) (Ht : rawN b = t) (w : World) : Calls Try.prog 9 #[.int .u32 (b : Int)] w fun e w' => e = .returned (.tuple #[WV t, .int .i64 0]) ∧ Below w.heap.size w w' := by
  replace Ht := Lib.hid Ht
  obtain ⟨h1, h2, h3⟩ := not_bad h
  obtain ⟨m, Hm⟩ : ∃ v_ : Nat, Hid (b % 8388608 = v_) := ⟨_, Lib.hid rfl⟩
  obtain ⟨u, Hu⟩ : ∃ v_ : Int, Hid (((b / 16777216 : Nat) : Int) - 3 = v_) := ⟨_, Lib.hid rfl⟩
  obtain ⟨q, Hq⟩ : ∃ v_ : Nat, Hid (b / 2 ^ 23 = v_) := ⟨_, Lib.hid rfl⟩
  obtain ⟨p, Hp⟩ : ∃ v_ : Nat, Hid (q &&& 1 = v_) := ⟨_, Lib.hid rfl⟩
  have hm : m < M256 := by rw [← Hm.out]; exact Nat.lt_trans (Nat.mod_lt _ (by decide)) (by decide)
  have hu : -1000 ≤ u ∧ u ≤ 1000 := by have := Hu.out; omega
  have hq : q < 4294967296 := by rw [← Hq.out]; omega
  have f13 : Hid (b / 2 ^ 23 = q ∧ 23 ≤ IntKind.u32.bits) := Lib.hid (⟨Hq.out, by decide⟩)
  have f14 : Hid (q &&& 1 = p ∧ q < 4294967296 ∧ 1 < 4294967296) := Lib.hid (⟨Hp.out, hq, by decide⟩)
  have hp : p = b / 8388608 % 2 := by rw [← Hp.out, ← Hq.out]; exact Nat.and_two_pow_sub_one_eq_mod _ 1
  replace hp := Lib.hid hp
  have hp0 : p = 0 := by rw [hp.out]; exact h1
  have f15 : Hid ((!decide ((p : Int) = 0)) = false) := Lib.hid (by rw [hp0]; rfl)
  obtain ⟨E, HE⟩ : ∃ v_ : Nat, Hid (easyN = v_) := ⟨_, Lib.hid rfl⟩
  obtain ⟨z, Hz⟩ : ∃ v_ : Int, Hid (u * 8 = v_) := ⟨_, Lib.hid rfl⟩
  obtain ⟨g, Hg⟩ : ∃ v_ : Nat, Hid (E / 2 ^ z.toNat = v_) := ⟨_, Lib.hid rfl⟩
  have hE : E < M256 := by rw [← HE.out]; exact easy_lt
  have hg : g < M256 := by rw [← Hg.out]; exact Nat.lt_of_le_of_lt (Nat.div_le_self _ _) hE
  have f19 : Hid (u * 8 = z ∧ -9223372036854775808 ≤ z ∧ z < 9223372036854775808) := Lib.hid (by have := Hz.out; omega)
  have hov : g < m ↔ easyN < rawN b := by rw [← Hg.out, ← HE.out, ← Hz.out, ← Hm.out, ← Hu.out]; exact wk_over b
  replace hov := Lib.hid hov
  have f22 : Hid (decide (g < m) = false) := Lib.hid (by have := fun e => Nat.not_lt.2 h3 (hov.out.1 e); simpa using this)
  have f27 : Hid (m * 2 ^ (u * 8).toNat % M256 / 2 ^ (-u * 8).toNat = t) := Lib.hid (by rw [← Hm.out, ← Hu.out, ← Ht.out]; exact wk_moved h3)
  have f30 : Hid (decide (t % M256 = 0 % M256) = false) := Lib.hid (by rw [← Ht.out, Nat.mod_eq_of_lt (raw_lt h), Nat.zero_mod]; simp; omega)
  clear h h1 h2 h3 hov hp hp0 Hq Hp Hz Ht
  have hM0 := mm_nil w
  (try unfold WV)
  go_enter Try.func9, Try.ntmps9
  go_wp2_with (first
    | ((with_reducible change wpList _ _ _ (Oper.mk (some 2) _ _ _ _ _ :: _) _ _); refine mmAlloc hM0 _ _ rfl rfl zero_Wide ?_; intro w1 hM1; clear hM0; go_frame)
    | (go_at_call 25; (with_reducible change Calls _ _ #[Value.int .u32 ((b : Int))] _ _); refine (kParts_as rfl hb Hm.out Hu.out _).mono ?_; rintro e w2 ⟨rfl, hB2⟩; have hM2 := hM1.on hB2; clear hB2 hM1; (try unfold WV); go_frame)
    | ((with_reducible change wpList _ _ _ (Oper.mk (some 4) _ _ _ _ _ :: _) _ _); refine mmAlloc hM2 _ _ rfl rfl zero_Wide ?_; intro w3 hM3; clear hM2; go_frame)
    | ((with_reducible change wpList _ _ _ (Oper.mk none (Op.store _ (Operand.tmp 4) (Operand.tmp 10)) _ _ _ _ :: _) _ _); refine mmStoreAt hM3 0 _ _ _ _ _ _ (wcells m) rfl rfl rfl rfl rfl (info_WideC _) (by simp only [wcells_size]) (wcells_one _) ?_; intro w4 hM4; dsimp only [List.set] at hM4; clear hM3; go_frame))
  refine region_symT 12 _ [] [] [.val (.int .u32 ((b : Int))), .val (.int .u32 ((q : Int))), .val (.int .u32 ((p : Int))), .val (.bool false), .val (.bool false), .val (.agg (wcells E)), .val (.int .i64 (u)), .val (.int .i64 (z)), .val (.agg (wcells g)), .val (.agg (wcells m)), .val (.bool false), .val (.bool false)] rfl (by kernel_rfl) (by kernel_rfl) (by kernel_rfl) (by kernel_rfl) rfl (by intro s hs; cases hs) (steps_all ⟨?_, ?_, ?_, ?_, ?_, ?_, ?_, ?_, ?_, ?_, ?_, ?_, trivial⟩) ?_
  · exact fun A W sz ot hbel ap dp => kMoveV _ _ rfl rfl (sO ot 0) (sE ap sz rfl)
  · exact fun A W sz ot hbel ap dp => kYw (yShrN .u32 _ _ _ _ b 23 q f13.out rfl rfl (sD dp 0 .data) rfl) (sE ap sz rfl)
  · exact fun A W sz ot hbel ap dp => kYw (yAndW _ _ _ _ q 1 p f14.out rfl rfl (sD dp 1 .data) rfl) (sE ap sz rfl)
  · exact fun A W sz ot hbel ap dp => kYw (yNeqK _ _ _ _ .u32 p 0 false f15.out rfl rfl (sD dp 2 .data) rfl) (sE ap sz rfl)
  · exact fun A W sz ot hbel ap dp => kMoveV _ _ rfl rfl (sD dp 3 .data) (sE ap sz rfl)
  · intro A W sz ot hbel ap dp
    refine kCall0 27 _ rfl (wanted_of rfl rfl (sD dp 4 .chain)) (by kernel_rfl)  ?_
    refine (kEasiest_as HE.out W).mono ?_
    rintro e r ⟨rfl, hBc⟩
    exact ⟨_, rfl, (sV ap sz hBc rfl)⟩
  · exact fun A W sz ot hbel ap dp => kMoveV _ _ rfl (wanted_of rfl rfl (sD dp 4 .guard)) (sO ot 5) (sE ap sz rfl)
  · exact fun A W sz ot hbel ap dp => kYw (yMulZ _ _ _ _ u 8 z f19.out rfl (wanted_of rfl rfl (sD dp 4 .guard)) (sD dp 6 .data) rfl) (sE ap sz rfl)
  · exact fun A W sz ot hbel ap dp => sCall2 26 rfl (sD dp 5 .data) (sD dp 7 .data) (sC (wRight_k hE f19.out.2.2 Hg.out W) ap sz (fun _ => rfl)) (wanted_of rfl rfl (sD dp 4 .guard))
  · exact fun A W sz ot hbel ap dp => kLoadRow _ _ _ _ _ _ rfl (wanted_of rfl rfl (sD dp 4 .guard)) (sO ot 4) ((hM4.get 0 rfl).on hbel) Try.underlying24 rfl (info_WideC _) (sE ap sz rfl)
  · exact fun A W sz ot hbel ap dp => sCall2 23 rfl (sD dp 8 .data) (sD dp 9 .data) (sC (wLess_k hg hm f22.out W) ap sz (fun _ => rfl)) (wanted_of rfl rfl (sD dp 4 .guard))
  · exact fun A W sz ot hbel ap dp => kPick _ _ _ false (.bool false) rfl rfl (sD dp 4 .data) (sD dp 10 .data) (sE ap sz rfl)
  intro w5 hB5
  dsimp only [AllV]
  intro hap
  dsimp only [putAll, List.take, List.drop]
  go_frame
  have hM5 := hM4.on hB5
  clear hB5 hM4 hap
  go_wp2_with (first
    | ((with_reducible change wpList _ _ _ (Oper.mk (some 25) _ _ _ _ _ :: _) _ _); refine kLoadRow _ _ _ _ _ _ rfl rfl rfl (hM5.get 0 rfl) Try.underlying24 rfl (info_WideC _) ?_; go_frame)
    | (go_at_call 28; (with_reducible change Calls _ _ #[Value.agg (wcells m), Value.int .i64 (u)] _ _); refine (kMoved_as hm hu f27.out _).mono ?_; rintro e w6 ⟨rfl, hB6⟩; have hM6 := hM5.on hB6; clear hB6 hM5; (try unfold WV); go_frame)
    | ((with_reducible change wpList _ _ _ (Oper.mk (some 6) _ _ _ _ _ :: _) _ _); refine mmAlloc hM6 _ _ rfl rfl zero_Wide ?_; intro w7 hM7; clear hM6; go_frame)
    | ((with_reducible change wpList _ _ _ (Oper.mk none (Op.store _ (Operand.tmp 6) (Operand.tmp 27)) _ _ _ _ :: _) _ _); refine mmStoreAt hM7 0 _ _ _ _ _ _ (wcells t) rfl rfl rfl rfl rfl (info_WideC _) (by simp only [wcells_size]) (wcells_one _) ?_; intro w8 hM8; dsimp only [List.set] at hM8; clear hM7; go_frame)
    | ((with_reducible change wpList _ _ _ (Oper.mk (some 28) _ _ _ _ _ :: _) _ _); refine kLoadRow _ _ _ _ _ _ rfl rfl rfl (hM8.get 0 rfl) Try.underlying24 rfl (info_WideC _) ?_; go_frame)
    | ((with_reducible change wpList _ _ _ (Oper.mk (some 29) _ _ _ _ _ :: _) _ _); refine kBuildW0 rfl rfl ?_; go_frame)
    | ((with_reducible change wpList _ _ _ (Oper.mk (some 30) _ _ _ _ _ :: _) _ _); refine kEqlW _ _ _ (t) (0) false rfl rfl rfl rfl (f30.out) ?_; go_frame)
    | ((with_reducible change wpList _ _ _ (Oper.mk (some 32) _ _ _ _ _ :: _) _ _); refine kLoadRow _ _ _ _ _ _ rfl rfl rfl (hM8.get 0 rfl) Try.underlying24 rfl (info_WideC _) ?_; go_frame)
    | ((with_reducible change wpList _ _ _ (Oper.mk none (Op.store _ (Operand.tmp 2) (Operand.tmp 32)) _ _ _ _ :: _) _ _); refine mmStoreAt hM8 2 _ _ _ _ _ _ (wcells t) rfl rfl rfl rfl rfl (info_WideC _) (by simp only [wcells_size]) (wcells_one _) ?_; intro w9 hM9; dsimp only [List.set] at hM9; clear hM8; go_frame))
  exact result_row_tmp Try.results9 rfl rfl (hM9.get 2 rfl) Try.underlying24 rfl (info_WideC _) rfl ⟨rfl, hM9.below⟩
set_option maxRecDepth 100000 in
set_option maxHeartbeats 8000000 in
theorem kCompact_as {n r : Nat} (hn : n < M256) (hr : compactN n = r) (w : World) : Calls Try.prog 13 #[WV n] w fun e w' => e = .returned (.int .u32 (r : Int)) ∧ Below w.heap.size w w' := by
  obtain ⟨l, Hl⟩ : ∃ v_ : Nat, Hid (blen n = v_) := ⟨_, Lib.hid rfl⟩
  obtain ⟨c, Hc⟩ : ∃ v_ : Nat, Hid (l + 8 = v_) := ⟨_, Lib.hid rfl⟩
  obtain ⟨d, Hd⟩ : ∃ v_ : Nat, Hid (l + 7 = v_) := ⟨_, Lib.hid rfl⟩
  obtain ⟨s, Hs⟩ : ∃ v_ : Nat, Hid (byteN n = v_) := ⟨_, Lib.hid rfl⟩
  obtain ⟨u, Hu⟩ : ∃ v_ : Int, Hid (3 - (s : Int) = v_) := ⟨_, Lib.hid rfl⟩
  obtain ⟨t, Ht⟩ : ∃ v_ : Nat, Hid (topN n = v_) := ⟨_, Lib.hid rfl⟩
  have hs : s ≤ 32 := by rw [← Hs.out]; exact byteN_max hn
  have ht : t < 16777216 := by rw [← Ht.out]; exact topN_lt n
  have hl : l ≤ 256 := by rw [← Hl.out]; exact (blen_le n 256).2 hn
  have hc := Hc.out
  have hd := Hd.out
  have hu := Hu.out
  have f6 : Hid (blen n = l) := Hl
  have f7 : Hid ((l : Int) + 8 = (c : Int) ∧ -9223372036854775808 ≤ (c : Int) ∧ (c : Int) < 9223372036854775808) := Lib.hid (by omega)
  have f8 : Hid ((c : Int) - 1 = (d : Int) ∧ -9223372036854775808 ≤ (d : Int) ∧ (d : Int) < 9223372036854775808) := Lib.hid (by omega)
  have hds : d / 8 = s := by rw [← Hs.out, ← hd, ← Hl.out]; rfl
  have f9 : Hid (d / 8 = s ∧ 0 < 8 ∧ IntKind.i64.wrap ((d / 8 : Nat) : Int) = ((d / 8 : Nat) : Int)) := Lib.hid ⟨hds, by decide, wrap_i64N (by omega)⟩
  have f12 : Hid (3 - (s : Int) = u ∧ -9223372036854775808 ≤ u ∧ u < 9223372036854775808) := Lib.hid (by omega)
  have f13 : Hid ((-1000 ≤ u ∧ u ≤ 1000) ∧ n * 2 ^ (u * 8).toNat % M256 / 2 ^ (-u * 8).toNat = t) := Lib.hid ⟨by omega, by rw [← Hu.out, ← Hs.out, ← Ht.out]; exact wk_top hn⟩
  have f14 : Hid ((wcells t)[0]? = some (.int .u64 (t : Int))) := Lib.hid (by rw [wcells_get t 0 (by decide)]; unfold limb; rw [show P64 0 = 1 from rfl, Nat.div_one, Nat.mod_eq_of_lt (by omega)])
  have f15 : Hid (IntKind.u32.wrap (t : Int) = (t : Int)) := Lib.hid (wrap_u32N (by omega))
  by_cases h : t < 8388608
  · have f17 : Hid (decide ((t : Int) > 8388607) = false) := Lib.hid (by simp; omega)
    have hr : t + 16777216 * s = r := by rw [← hr]; unfold compactN; rw [Ht.out, Hs.out, if_pos h]
    obtain ⟨x, Hx⟩ : ∃ v_ : Nat, Hid (s * 2 ^ 24 = v_) := ⟨_, Lib.hid rfl⟩
    have x_lt : x < 4294967296 := by rw [← Hx.out]; omega
    have f24 : Hid (IntKind.u32.wrap (s : Int) = (s : Int)) := Lib.hid (wrap_u32N (by omega))
    have f25 : Hid (s * 2 ^ 24 = x ∧ 24 ≤ IntKind.u32.bits ∧ IntKind.u32.wrap ((s * 2 ^ 24 : Nat) : Int) = ((s * 2 ^ 24 : Nat) : Int)) := Lib.hid ⟨Hx.out, by decide, wrap_u32N (by rw [Hx.out]; exact x_lt)⟩
    have f26 : Hid (t ||| x = r ∧ t < 4294967296 ∧ x < 4294967296) := Lib.hid ⟨by rw [← hr, ← Hx.out, ← Nat.shiftLeft_eq]; exact or_size _ _ (by omega), by omega, x_lt⟩
    clear h hr x_lt Hx Ht Hs hs ht hc hd hu hds hl Hl Hc Hd Hu
    have hM0 := mm_nil w
    (try unfold WV)
    go_enter Try.func13, Try.ntmps13
    go_wp2_with (first
      | ((with_reducible change wpList _ _ _ (Oper.mk (some 1) _ _ _ _ _ :: _) _ _); refine mmBox hM0 _ _ (wcells n) rfl rfl rfl ?_; intro w1 hM1; clear hM0; go_frame)
      | ((with_reducible change wpList _ _ _ (Oper.mk (some 5) _ _ _ _ _ :: _) _ _); refine kLoadRow _ _ _ _ _ _ rfl rfl rfl (hM1.get 0 rfl) Try.underlying24 rfl (info_WideC _) ?_; go_frame)
      | (go_at_call 11; (with_reducible change Calls _ _ #[Value.agg (wcells n)] _ _); refine (wBits_k hn f6.out _).mono ?_; rintro e w2 ⟨rfl, hB2⟩; have hM2 := hM1.on hB2; clear hB2 hM1; (try unfold WV); go_frame)
      | ((with_reducible change wpList _ _ _ (Oper.mk (some 7) _ _ _ _ _ :: _) _ _); refine kYw (yAddZ _ _ _ _ l 8 c f7.out rfl rfl rfl rfl) ?_; go_frame)
      | ((with_reducible change wpList _ _ _ (Oper.mk (some 8) _ _ _ _ _ :: _) _ _); refine kYw (ySubZ _ _ _ _ c 1 d f8.out rfl rfl rfl rfl) ?_; go_frame)
      | ((with_reducible change wpList _ _ _ (Oper.mk (some 9) _ _ _ _ _ :: _) _ _); refine kYw (yQuoN .i64 _ _ _ _ d 8 s f9.out rfl rfl rfl rfl) ?_; go_frame)
      | ((with_reducible change wpList _ _ _ (Oper.mk (some 10) _ _ _ _ _ :: _) _ _); refine kLoadRow _ _ _ _ _ _ rfl rfl rfl (hM2.get 0 rfl) Try.underlying24 rfl (info_WideC _) ?_; go_frame)
      | ((with_reducible change wpList _ _ _ (Oper.mk (some 12) _ _ _ _ _ :: _) _ _); refine kYw (ySubZ _ _ _ _ 3 s u f12.out rfl rfl rfl rfl) ?_; go_frame)
      | (go_at_call 28; (with_reducible change Calls _ _ #[Value.agg (wcells n), Value.int .i64 (u)] _ _); refine (kMoved_as hn f13.out.1 f13.out.2 _).mono ?_; rintro e w3 ⟨rfl, hB3⟩; have hM3 := hM2.on hB3; clear hB3 hM2; (try unfold WV); go_frame)
      | ((with_reducible change wpList _ _ _ (Oper.mk (some 14) _ _ _ _ _ :: _) _ _); refine kIndex 24 22 _ _ .i64 (wcells t) 0 0 4 _ _ rfl rfl rfl rfl Try.underlying24 Try.underlying22 rfl info_w64 rfl (by decide) f14.out ?_; go_frame)
      | ((with_reducible change wpList _ _ _ (Oper.mk (some 15) _ _ _ _ _ :: _) _ _); refine kYw (yConvK Try.underlying22 Try.underlying28 _ t t f15.out rfl rfl rfl) ?_; go_frame)
      | ((with_reducible change wpList _ _ _ (Oper.mk (some 17) _ _ _ _ _ :: _) _ _); refine kYw (yGtrK _ _ _ _ .u32 t 8388607 false f17.out rfl rfl rfl rfl) ?_; go_frame)
      | ((with_reducible change wpList _ _ _ (Oper.mk (some 24) _ _ _ _ _ :: _) _ _); refine kYw (yConvK Try.underlying3 Try.underlying28 _ s s f24.out rfl rfl rfl) ?_; go_frame)
      | ((with_reducible change wpList _ _ _ (Oper.mk (some 25) _ _ _ _ _ :: _) _ _); refine kYw (yShlN .u32 _ _ _ _ s 24 x f25.out rfl rfl rfl rfl) ?_; go_frame)
      | ((with_reducible change wpList _ _ _ (Oper.mk (some 26) _ _ _ _ _ :: _) _ _); refine kYw (yOrW _ _ _ _ t x r f26.out rfl rfl rfl rfl) ?_; go_frame))
    go_ret
    exact ⟨rfl, hM3.below⟩
  · have f17 : Hid (decide ((t : Int) > 8388607) = true) := Lib.hid (by simp; omega)
    obtain ⟨t2, Ht2⟩ : ∃ v_ : Nat, Hid (t / 2 ^ 8 = v_) := ⟨_, Lib.hid rfl⟩
    obtain ⟨s2, Hs2⟩ : ∃ v_ : Nat, Hid (s + 1 = v_) := ⟨_, Lib.hid rfl⟩
    have ht2 := Ht2.out
    have hs2 := Hs2.out
    have hr : t2 + 16777216 * s2 = r := by rw [← hr, ← ht2, ← hs2]; unfold compactN; rw [Ht.out, Hs.out, if_neg h]
    have f19 : Hid (t / 2 ^ 8 = t2 ∧ 8 ≤ IntKind.u32.bits) := Lib.hid ⟨ht2, by decide⟩
    have f21 : Hid ((s : Int) + 1 = (s2 : Int) ∧ -9223372036854775808 ≤ (s2 : Int) ∧ (s2 : Int) < 9223372036854775808) := Lib.hid (by omega)
    obtain ⟨x, Hx⟩ : ∃ v_ : Nat, Hid (s2 * 2 ^ 24 = v_) := ⟨_, Lib.hid rfl⟩
    have x_lt : x < 4294967296 := by rw [← Hx.out]; omega
    have f24 : Hid (IntKind.u32.wrap (s2 : Int) = (s2 : Int)) := Lib.hid (wrap_u32N (by omega))
    have f25 : Hid (s2 * 2 ^ 24 = x ∧ 24 ≤ IntKind.u32.bits ∧ IntKind.u32.wrap ((s2 * 2 ^ 24 : Nat) : Int) = ((s2 * 2 ^ 24 : Nat) : Int)) := Lib.hid ⟨Hx.out, by decide, wrap_u32N (by rw [Hx.out]; exact x_lt)⟩
    have f26 : Hid (t2 ||| x = r ∧ t2 < 4294967296 ∧ x < 4294967296) := Lib.hid ⟨by rw [← hr, ← Hx.out, ← Nat.shiftLeft_eq]; exact or_size _ _ (by omega), by omega, x_lt⟩
    clear h hr x_lt Hx Ht Hs hs ht ht2 hs2 Ht2 Hs2 hc hd hu hds hl Hl Hc Hd Hu
    have hM0 := mm_nil w
    (try unfold WV)
    go_enter Try.func13, Try.ntmps13
    go_wp2_with (first
      | ((with_reducible change wpList _ _ _ (Oper.mk (some 1) _ _ _ _ _ :: _) _ _); refine mmBox hM0 _ _ (wcells n) rfl rfl rfl ?_; intro w1 hM1; clear hM0; go_frame)
      | ((with_reducible change wpList _ _ _ (Oper.mk (some 5) _ _ _ _ _ :: _) _ _); refine kLoadRow _ _ _ _ _ _ rfl rfl rfl (hM1.get 0 rfl) Try.underlying24 rfl (info_WideC _) ?_; go_frame)
      | (go_at_call 11; (with_reducible change Calls _ _ #[Value.agg (wcells n)] _ _); refine (wBits_k hn f6.out _).mono ?_; rintro e w2 ⟨rfl, hB2⟩; have hM2 := hM1.on hB2; clear hB2 hM1; (try unfold WV); go_frame)
      | ((with_reducible change wpList _ _ _ (Oper.mk (some 7) _ _ _ _ _ :: _) _ _); refine kYw (yAddZ _ _ _ _ l 8 c f7.out rfl rfl rfl rfl) ?_; go_frame)
      | ((with_reducible change wpList _ _ _ (Oper.mk (some 8) _ _ _ _ _ :: _) _ _); refine kYw (ySubZ _ _ _ _ c 1 d f8.out rfl rfl rfl rfl) ?_; go_frame)
      | ((with_reducible change wpList _ _ _ (Oper.mk (some 9) _ _ _ _ _ :: _) _ _); refine kYw (yQuoN .i64 _ _ _ _ d 8 s f9.out rfl rfl rfl rfl) ?_; go_frame)
      | ((with_reducible change wpList _ _ _ (Oper.mk (some 10) _ _ _ _ _ :: _) _ _); refine kLoadRow _ _ _ _ _ _ rfl rfl rfl (hM2.get 0 rfl) Try.underlying24 rfl (info_WideC _) ?_; go_frame)
      | ((with_reducible change wpList _ _ _ (Oper.mk (some 12) _ _ _ _ _ :: _) _ _); refine kYw (ySubZ _ _ _ _ 3 s u f12.out rfl rfl rfl rfl) ?_; go_frame)
      | (go_at_call 28; (with_reducible change Calls _ _ #[Value.agg (wcells n), Value.int .i64 (u)] _ _); refine (kMoved_as hn f13.out.1 f13.out.2 _).mono ?_; rintro e w3 ⟨rfl, hB3⟩; have hM3 := hM2.on hB3; clear hB3 hM2; (try unfold WV); go_frame)
      | ((with_reducible change wpList _ _ _ (Oper.mk (some 14) _ _ _ _ _ :: _) _ _); refine kIndex 24 22 _ _ .i64 (wcells t) 0 0 4 _ _ rfl rfl rfl rfl Try.underlying24 Try.underlying22 rfl info_w64 rfl (by decide) f14.out ?_; go_frame)
      | ((with_reducible change wpList _ _ _ (Oper.mk (some 15) _ _ _ _ _ :: _) _ _); refine kYw (yConvK Try.underlying22 Try.underlying28 _ t t f15.out rfl rfl rfl) ?_; go_frame)
      | ((with_reducible change wpList _ _ _ (Oper.mk (some 17) _ _ _ _ _ :: _) _ _); refine kYw (yGtrK _ _ _ _ .u32 t 8388607 true f17.out rfl rfl rfl rfl) ?_; go_frame)
      | ((with_reducible change wpList _ _ _ (Oper.mk (some 19) _ _ _ _ _ :: _) _ _); refine kYw (yShrN .u32 _ _ _ _ t 8 t2 f19.out rfl rfl rfl rfl) ?_; go_frame)
      | ((with_reducible change wpList _ _ _ (Oper.mk (some 21) _ _ _ _ _ :: _) _ _); refine kYw (yAddZ _ _ _ _ s 1 s2 f21.out rfl rfl rfl rfl) ?_; go_frame)
      | ((with_reducible change wpList _ _ _ (Oper.mk (some 24) _ _ _ _ _ :: _) _ _); refine kYw (yConvK Try.underlying3 Try.underlying28 _ s2 s2 f24.out rfl rfl rfl) ?_; go_frame)
      | ((with_reducible change wpList _ _ _ (Oper.mk (some 25) _ _ _ _ _ :: _) _ _); refine kYw (yShlN .u32 _ _ _ _ s2 24 x f25.out rfl rfl rfl rfl) ?_; go_frame)
      | ((with_reducible change wpList _ _ _ (Oper.mk (some 26) _ _ _ _ _ :: _) _ _); refine kYw (yOrW _ _ _ _ t2 x r f26.out rfl rfl rfl rfl) ?_; go_frame))
    go_ret
    exact ⟨rfl, hM3.below⟩
end Go.Proofs.Ytdeggdmoijfhdaa

/-
  Layer 12: contracts of package work: how hard it was, and how hard the next one must be.
-/
namespace Go.Proofs.Ytdeggdmoijfhdaa
open Go Go.RowKit

set_option maxRecDepth 100000 in
set_option maxHeartbeats 8000000 in
theorem kWork_as {b r : Nat} (hb : b < 4294967296) (hr : workN b = r) (w : World) : Calls Try.prog 17 #[.int .u32 (b : Int)] w fun e w' => e = .returned (WV r) ∧ Below w.heap.size w w' := by
  by_cases h : badN b
  · have hr : r = 0 := by rw [← hr]; exact work_bad h
    subst hr
    have hM0 := mm_nil w
    (try unfold WV)
    go_enter Try.func17, Try.ntmps17
    go_wp2_with (first
      | ((with_reducible change wpList _ _ _ (Oper.mk (some 2) _ _ _ _ _ :: _) _ _); refine mmAlloc hM0 _ _ rfl rfl zero_Wide ?_; intro w1 hM1; clear hM0; go_frame)
      | (go_at_call 9; (with_reducible change Calls _ _ #[Value.int .u32 ((b : Int))] _ _); refine (kExpand_bad hb h _).mono ?_; rintro e w2 ⟨rfl, hB2⟩; have hM2 := hM1.on hB2; clear hB2 hM1; (try unfold WV); go_frame)
      | ((with_reducible change wpList _ _ _ (Oper.mk (some 3) _ _ _ _ _ :: _) _ _); refine mmAlloc hM2 _ _ rfl rfl zero_Wide ?_; intro w3 hM3; clear hM2; go_frame)
      | ((with_reducible change wpList _ _ _ (Oper.mk none (Op.store _ (Operand.tmp 3) (Operand.tmp 14)) _ _ _ _ :: _) _ _); refine mmStoreAt hM3 0 _ _ _ _ _ _ (wcells 0) rfl rfl rfl rfl rfl (info_WideC _) (by simp only [wcells_size]) (wcells_one _) ?_; intro w4 hM4; dsimp only [List.set] at hM4; clear hM3; go_frame)
      | ((with_reducible change wpList _ _ _ (Oper.mk (some 17) _ _ _ _ _ :: _) _ _); refine kYw (yNeqK _ _ _ _ .i64 121 0 true rfl rfl rfl rfl rfl) ?_; go_frame)
      | ((with_reducible change wpList _ _ _ (Oper.mk (some 18) _ _ _ _ _ :: _) _ _); refine kBuildW0 rfl rfl ?_; go_frame)
      | ((with_reducible change wpList _ _ _ (Oper.mk none (Op.store _ (Operand.tmp 2) (Operand.tmp 18)) _ _ _ _ :: _) _ _); refine mmStoreAt hM4 1 _ _ _ _ _ _ (wcells 0) rfl rfl rfl rfl rfl (info_WideC _) (by simp only [wcells_size]) (wcells_one _) ?_; intro w5 hM5; dsimp only [List.set] at hM5; clear hM4; go_frame))
    exact result_row Try.results17 rfl (hM5.get 1 rfl) Try.underlying24 rfl (info_WideC _) rfl ⟨rfl, hM5.below⟩
  · obtain ⟨h1, h2, h3⟩ := not_bad h
    obtain ⟨t, Ht⟩ : ∃ v_ : Nat, Hid (rawN b = v_) := ⟨_, Lib.hid rfl⟩
    obtain ⟨i, Hi⟩ : ∃ v_ : Nat, Hid (1 = v_) := ⟨_, Lib.hid rfl⟩
    obtain ⟨p, Hp⟩ : ∃ v_ : Nat, Hid (t + i = v_) := ⟨_, Lib.hid rfl⟩
    obtain ⟨s, Hs⟩ : ∃ v_ : Nat, Hid (M256 - p = v_) := ⟨_, Lib.hid rfl⟩
    obtain ⟨q, Hq⟩ : ∃ v_ : Nat, Hid (s / p = v_) := ⟨_, Lib.hid rfl⟩
    obtain ⟨x, Hx⟩ : ∃ v_ : Nat, Hid (s % p = v_) := ⟨_, Lib.hid rfl⟩
    have he := easy_lt
    have ht := Ht.out
    have hi := Hi.out
    have hpp := Hp.out
    have hss := Hs.out
    have hM : easyN + 1 < M256 := by decide +kernel
    have hp : p < M256 := by omega
    have hr2 : q + i = r := by rw [← hr, work_ok h, ← Hq.out, ← hi, ← hss, ht, show t + 1 = p by omega]; exact wk_work (by omega) (by omega)
    have hrl : r < M256 := by rw [← hr]; exact work_lt b
    have hs : s < M256 := by omega
    have f21 : Hid (i < 18446744073709551616 ∧ (1 : Int) = (i : Int)) := Lib.hid ⟨by omega, by omega⟩
    have f22 : Hid (t < M256 ∧ i < M256 ∧ (t + i) % M256 = p ∧ decide (M256 ≤ t + i) = false) := Lib.hid ⟨by omega, by omega, by rw [hpp, Nat.mod_eq_of_lt hp], by simp; omega⟩
    have f28 : Hid (0 < M256 ∧ (0 + M256 - p) % M256 = s ∧ decide (0 < p) = true) := Lib.hid ⟨M256_pos, by rw [Nat.zero_add, hss, Nat.mod_eq_of_lt hs], by simp; omega⟩
    have f34 : Hid (s / p = q ∧ s % p = x) := Lib.hid ⟨Hq.out, Hx.out⟩
    have f40 : Hid (q < M256 ∧ (q + i) % M256 = r ∧ decide (M256 ≤ q + i) = false) := Lib.hid ⟨by omega, by rw [hr2, Nat.mod_eq_of_lt hrl], by simp; omega⟩
    replace h := Lib.hid h
    clear h1 h2 h3 he ht hi hpp hss hM hr hr2 hrl Hi Hp Hs Hq Hx
    have hM0 := mm_nil w
    (try unfold WV)
    go_enter Try.func17, Try.ntmps17
    go_wp2_with (first
      | ((with_reducible change wpList _ _ _ (Oper.mk (some 2) _ _ _ _ _ :: _) _ _); refine mmAlloc hM0 _ _ rfl rfl zero_Wide ?_; intro w1 hM1; clear hM0; go_frame)
      | (go_at_call 9; (with_reducible change Calls _ _ #[Value.int .u32 ((b : Int))] _ _); refine (kExpand_ok hb h.out Ht.out _).mono ?_; rintro e w2 ⟨rfl, hB2⟩; have hM2 := hM1.on hB2; clear hB2 hM1; (try unfold WV); go_frame)
      | ((with_reducible change wpList _ _ _ (Oper.mk (some 3) _ _ _ _ _ :: _) _ _); refine mmAlloc hM2 _ _ rfl rfl zero_Wide ?_; intro w3 hM3; clear hM2; go_frame)
      | ((with_reducible change wpList _ _ _ (Oper.mk none (Op.store _ (Operand.tmp 3) (Operand.tmp 14)) _ _ _ _ :: _) _ _); refine mmStoreAt hM3 0 _ _ _ _ _ _ (wcells t) rfl rfl rfl rfl rfl (info_WideC _) (by simp only [wcells_size]) (wcells_one _) ?_; intro w4 hM4; dsimp only [List.set] at hM4; clear hM3; go_frame)
      | ((with_reducible change wpList _ _ _ (Oper.mk (some 17) _ _ _ _ _ :: _) _ _); refine kYw (yNeqK _ _ _ _ .i64 0 0 false rfl rfl rfl rfl rfl) ?_; go_frame))
    refine region_sym (fun _ => 6) [.val (.agg (wcells t)), .val (.agg (wcells i)), .val (.tuple #[.agg (wcells p), .bool false]), .val (.tuple #[.agg (wcells p), .bool false]), .val (.agg (wcells p)), .val (.bool false), .fresh w4.heap.size 24 4, .hold w4.heap.size 24 (wcells p), .val (.bool false)] [.val (.agg (wcells t)), .val (.agg (wcells i)), .val (.tuple #[.agg (wcells p), .bool false]), .val (.tuple #[.agg (wcells p), .bool false]), .val (.agg (wcells p)), .val (.bool false), .hold w4.heap.size 24 (wcells p), .val undef, .val (.bool false)] (by kernel_rfl) (by kernel_rfl) rfl rfl (steps_all ⟨?_, ?_, ?_, ?_, ?_, ?_, ?_, ?_, ?_, trivial⟩) ?_
    · intro A W hsz hoth hbel hdep
      exact kLoadRow _ _ _ _ _ _ rfl rfl ((hoth 3 (free2_of (by kernel_rfl))).trans rfl) ((hM4.get 0 rfl).on hbel) Try.underlying24 rfl (info_WideC _) (symV hbel hsz rfl rfl (show 20 < 44 by decide) (Below.refl _ _) rfl)
    · intro A W hsz hoth hbel hdep
      refine kCall1 29 _ _ _ rfl rfl (by kernel_rfl) rfl ?_
      refine (wOf_lit i 1 f21.out.1 f21.out.2 W).mono ?_
      rintro e r ⟨rfl, hBc⟩
      exact ⟨_, rfl, (symV hbel hsz rfl rfl (show 21 < 44 by decide) hBc rfl)⟩
    · intro A W hsz hoth hbel hdep
      refine kCall2 39 _ _ _ _ _ rfl rfl (by kernel_rfl) (by have h := hdep ⟨0, .data⟩ (by simp) rfl; exact h) (by have h := hdep ⟨1, .data⟩ (by simp) rfl; exact h) ?_
      refine (wAdd_k f22.out.1 f22.out.2.1 f22.out.2.2 W).mono ?_
      rintro e r ⟨rfl, hBc⟩
      exact ⟨_, rfl, (symV hbel hsz rfl rfl (show 22 < 44 by decide) hBc rfl)⟩
    · intro A W hsz hoth hbel hdep
      exact kMoveV _ _ rfl rfl (by have h := hdep ⟨2, .data⟩ (by simp) rfl; exact h) (symV hbel hsz rfl rfl (show 19 < 44 by decide) (Below.refl _ _) rfl)
    · intro A W hsz hoth hbel hdep
      exact kExtract _ _ _ (.agg (wcells p)) rfl rfl (by have h := hdep ⟨3, .data⟩ (by simp) rfl; exact h) rfl (symV hbel hsz rfl rfl (show 23 < 44 by decide) (Below.refl _ _) rfl)
    · intro A W hsz hoth hbel hdep
      exact kExtract _ _ _ (.bool false) rfl rfl (by have h := hdep ⟨3, .data⟩ (by simp) rfl; exact h) rfl (symV hbel hsz rfl rfl (show 24 < 44 by decide) (Below.refl _ _) rfl)
    · intro A W hsz hoth hbel hdep
      refine kAllocL _ _ rfl rfl zero_Wide ?_
      intro r hR hl hBc
      exact (symV hbel hsz rfl rfl (show 5 < 44 by decide) hBc ⟨_, _, rfl, hbel.size, wcells_size _, hR⟩)
    · intro A W hsz hoth hbel hdep
      obtain ⟨g, cs, d8, hg, hcs, hR⟩ : ∃ g cs, A.tmps.getD 5 undef = .pointer (some ⟨g, 0, none⟩) ∧ w4.heap.size ≤ g ∧ cs.size = 4 ∧ Row W g 24 cs := (by have h := hdep ⟨6, .data⟩ (by simp) rfl; exact h)
      refine kStoreRow _ _ _ _ _ _ (wcells p) rfl rfl d8 (by have h := hdep ⟨4, .data⟩ (by simp) rfl; exact h) hR (info_WideC _) (by rw [wcells_size, hcs]) (wcells_one _) ?_
      intro r hR2 hW
      exact symW hbel rfl hW hg hR2 (by simp only [Singles, and_self, wcells_size]) ⟨g, d8, hg, hR2⟩
    · intro A W hsz hoth hbel hdep
      exact kAssignV _ _ rfl rfl (by have h := hdep ⟨5, .data⟩ (by simp) rfl; exact h) (symV hbel hsz rfl rfl (show 6 < 44 by decide) (Below.refl _ _) rfl)
    intro w5 hB5
    dsimp only [AllV]
    intro g5_5 hg5_5 hR5_5
    dsimp only [putAll]
    go_frame
    have hM5 := hM4.on hB5
    replace hM5 := hM5.cons hR5_5 (Nat.le_trans hM4.size hg5_5) (fun p hp => by have := hM4.lt hp; omega)
    clear hB5 hM4 hg5_5 hR5_5
    go_wp2_with (first
      | ((with_reducible change wpList _ _ _ (Oper.mk (some 26) _ _ _ _ _ :: _) _ _); refine kBuildW0 rfl rfl ?_; go_frame)
      | ((with_reducible change wpList _ _ _ (Oper.mk (some 27) _ _ _ _ _ :: _) _ _); refine kLoadRow _ _ _ _ _ _ rfl rfl rfl (hM5.get 0 rfl) Try.underlying24 rfl (info_WideC _) ?_; go_frame)
      | (go_at_call 24; (with_reducible change Calls _ _ #[Value.agg (wcells 0), Value.agg (wcells p)] _ _); refine (wSub_k f28.out.1 hp f28.out.2 _).mono ?_; rintro e w6 ⟨rfl, hB6⟩; have hM6 := hM5.on hB6; clear hB6 hM5; (try unfold WV); go_frame)
      | ((with_reducible change wpList _ _ _ (Oper.mk (some 7) _ _ _ _ _ :: _) _ _); refine mmAlloc hM6 _ _ rfl rfl zero_Wide ?_; intro w7 hM7; clear hM6; go_frame)
      | ((with_reducible change wpList _ _ _ (Oper.mk none (Op.store _ (Operand.tmp 7) (Operand.tmp 29)) _ _ _ _ :: _) _ _); refine mmStoreAt hM7 0 _ _ _ _ _ _ (wcells s) rfl rfl rfl rfl rfl (info_WideC _) (by simp only [wcells_size]) (wcells_one _) ?_; intro w8 hM8; dsimp only [List.set] at hM8; clear hM7; go_frame)
      | ((with_reducible change wpList _ _ _ (Oper.mk (some 32) _ _ _ _ _ :: _) _ _); refine kLoadRow _ _ _ _ _ _ rfl rfl rfl (hM8.get 0 rfl) Try.underlying24 rfl (info_WideC _) ?_; go_frame)
      | ((with_reducible change wpList _ _ _ (Oper.mk (some 33) _ _ _ _ _ :: _) _ _); refine kLoadRow _ _ _ _ _ _ rfl rfl rfl (hM8.get 1 rfl) Try.underlying24 rfl (info_WideC _) ?_; go_frame)
      | (go_at_call 40; (with_reducible change Calls _ _ #[Value.agg (wcells s), Value.agg (wcells p)] _ _); refine (wDiv_k hs hp f34.out _).mono ?_; rintro e w9 ⟨rfl, hB9⟩; have hM9 := hM8.on hB9; clear hB9 hM8; (try unfold WV); go_frame)
      | ((with_reducible change wpList _ _ _ (Oper.mk (some 9) _ _ _ _ _ :: _) _ _); refine mmAlloc hM9 _ _ rfl rfl zero_Wide ?_; intro w10 hM10; clear hM9; go_frame)
      | ((with_reducible change wpList _ _ _ (Oper.mk (some 10) _ _ _ _ _ :: _) _ _); refine mmAlloc hM10 _ _ rfl rfl zero_Wide ?_; intro w11 hM11; clear hM10; go_frame)
      | ((with_reducible change wpList _ _ _ (Oper.mk none (Op.store _ (Operand.tmp 9) (Operand.tmp 35)) _ _ _ _ :: _) _ _); refine mmStoreAt hM11 1 _ _ _ _ _ _ (wcells q) rfl rfl rfl rfl rfl (info_WideC _) (by simp only [wcells_size]) (wcells_one _) ?_; intro w12 hM12; dsimp only [List.set] at hM12; clear hM11; go_frame)
      | ((with_reducible change wpList _ _ _ (Oper.mk none (Op.store _ (Operand.tmp 10) (Operand.tmp 36)) _ _ _ _ :: _) _ _); refine mmStoreAt hM12 0 _ _ _ _ _ _ (wcells x) rfl rfl rfl rfl rfl (info_WideC _) (by simp only [wcells_size]) (wcells_one _) ?_; intro w13 hM13; dsimp only [List.set] at hM13; clear hM12; go_frame))
    refine region_tree (.two 0 (.one 1 (.one 2 (.q 3 (.q 4 (.q 5 (.one 6 .fin)))))) 1 (.one 0 (.one 2 (.q 3 (.q 4 (.q 5 (.one 6 .fin))))))) (fun _ => True) (by kernel_rfl) (by kernel_rfl) ?_
    intro zt7 hBd hsd
    clear hsd
    have hM14 := hM13.on hBd
    clear hBd hM13
    have hS : (fun _ : World => True) zt7 := trivial
    refine tTwoLC (.agg (wcells q)) (.agg (wcells i)) (fun zW => Mm w zW [(w10.heap.size, 24, wcells x), (w9.heap.size, 24, wcells q), (w6.heap.size, 24, wcells s), (g5_5, 24, wcells p), (w2.heap.size, 24, wcells t), (w.heap.size, 24, wcells 0)]) hM14 rfl rfl rfl rfl (by decide) (fun zW hz => yLoadW _ _ _ (fun _ e => by cases e; exact hz.get 1 rfl) rfl rfl rfl) (fun zW hz => yLoadW _ _ _ (fun _ e => by cases e; exact hz.get 1 rfl) rfl rfl rfl) (fun zW hz R K => by refine kCall1 29 _ _ _ rfl rfl (by kernel_rfl) rfl ?_; refine (wOf_lit i 1 f21.out.1 f21.out.2 _).mono ?_; rintro e z' ⟨rfl, hB⟩; exact ⟨_, rfl, K z' (hz.on hB)⟩) (fun zW hz R K => by refine kCall1 29 _ _ _ rfl rfl (by kernel_rfl) rfl ?_; refine (wOf_lit i 1 f21.out.1 f21.out.2 _).mono ?_; rintro e z' ⟨rfl, hB⟩; exact ⟨_, rfl, K z' (hz.on hB)⟩) ?_
    intro zu7 hM15; clear hM14 hS; go_frame
    have hS : (fun _ : World => True) zu7 := trivial
    refine tOne rfl ?_
    refine kCall2 39 _ _ _ _ _ rfl rfl (by kernel_rfl) rfl rfl ?_
    refine (wAdd_k f40.out.1 f22.out.2.1 f40.out.2 _).mono ?_
    rintro e zc7_2 ⟨rfl, hB⟩
    have hM16 := hM15.on hB
    clear hB hM15 hS
    have hS : (fun _ : World => True) zc7_2 := trivial
    refine ⟨_, rfl, mixOn ⟨_, (fun _ h => h), hS, ?_⟩⟩
    go_frame
    refine tY (.tuple #[.agg (wcells r), .bool false]) hS rfl (yMove _ (.tuple #[.agg (wcells r), .bool false]) rfl rfl rfl) ?_; go_frame
    refine tY (.agg (wcells r)) hS rfl (yExtr _ 0 _ (.agg (wcells r)) rfl rfl rfl rfl) ?_; go_frame
    refine tY (.bool false) hS rfl (yExtr _ 1 _ (.bool false) rfl rfl rfl rfl) ?_; go_frame
    refine tOne rfl ?_
    refine mmStoreAt hM16 1 _ _ _ _ _ _ (wcells r) rfl rfl rfl rfl rfl (info_WideC _) (by simp only [wcells_size]) (wcells_one _) ?_
    intro zs7 hM17; dsimp only [List.set] at hM17; clear hM16 hS
    have hS : (fun _ : World => True) zs7 := trivial
    refine mixOn ⟨_, (fun _ h => h), hS, ?_⟩
    go_frame
    refine tDone ?_
    clear hS
    go_wp2_with (first
      | ((with_reducible change wpList _ _ _ (Oper.mk (some 43) _ _ _ _ _ :: _) _ _); refine kLoadRow _ _ _ _ _ _ rfl rfl rfl (hM17.get 1 rfl) Try.underlying24 rfl (info_WideC _) ?_; go_frame)
      | ((with_reducible change wpList _ _ _ (Oper.mk none (Op.store _ (Operand.tmp 2) (Operand.tmp 43)) _ _ _ _ :: _) _ _); refine mmStoreAt hM17 5 _ _ _ _ _ _ (wcells r) rfl rfl rfl rfl rfl (info_WideC _) (by simp only [wcells_size]) (wcells_one _) ?_; intro w18 hM18; dsimp only [List.set] at hM18; clear hM17; go_frame))
    exact result_row Try.results17 rfl (hM18.get 5 rfl) Try.underlying24 rfl (info_WideC _) rfl ⟨rfl, hM18.below⟩
set_option maxRecDepth 100000 in
set_option maxHeartbeats 8000000 in
theorem kTook_as {a b r : Nat} (ha : a < 4294967296) (hb : b < 4294967296) (hr : spanN a b = r) (w : World) : Calls Try.prog 34 #[.int .u32 (a : Int), .int .u32 (b : Int)] w fun e w' => e = .returned (.int .u64 (r : Int)) ∧ Below w.heap.size w w' := by
  obtain ⟨d, Hd⟩ : ∃ v_ : Int, Hid ((b : Int) - (a : Int) = v_) := ⟨_, Lib.hid rfl⟩
  obtain ⟨x, Hx⟩ : ∃ v_ : Int, Hid ((if 1050 > d then 1050 else d) = v_) := ⟨_, Lib.hid rfl⟩
  have hd := Hd.out
  have hx := Hx.out
  have hx2 : (if 16800 < x then 16800 else x) = (r : Int) := by
    rw [← hr]; unfold spanN
    split at hx <;> split <;> split <;> (try split) <;> omega
  have hrl : r ≤ 16800 := by rw [← hr]; exact (span_le a b).2
  have f7 : Hid (IntKind.i64.wrap (b : Int) = (b : Int)) := Lib.hid (wrap_i64N (by omega))
  have f9 : Hid (IntKind.i64.wrap (a : Int) = (a : Int)) := Lib.hid (wrap_i64N (by omega))
  have f10 : Hid ((b : Int) - (a : Int) = d ∧ -9223372036854775808 ≤ d ∧ d < 9223372036854775808) := Lib.hid (by omega)
  have f13 : Hid ((if 16800 < x then 16800 else x) = (r : Int)) := Lib.hid hx2
  have f14 : Hid (IntKind.u64.wrap (r : Int) = (r : Int)) := Lib.hid (wrap_u64N (by omega))
  clear hd hx hx2 hr hrl Hd
  have hM0 := mm_nil w
  (try unfold WV)
  go_enter Try.func34, Try.ntmps34
  go_wp2_with (first
    | ((with_reducible change wpList _ _ _ (Oper.mk (some 7) _ _ _ _ _ :: _) _ _); refine kYw (yConvK Try.underlying28 Try.underlying2 _ b b f7.out rfl rfl rfl) ?_; go_frame)
    | ((with_reducible change wpList _ _ _ (Oper.mk (some 9) _ _ _ _ _ :: _) _ _); refine kYw (yConvK Try.underlying28 Try.underlying2 _ a a f9.out rfl rfl rfl) ?_; go_frame)
    | ((with_reducible change wpList _ _ _ (Oper.mk (some 10) _ _ _ _ _ :: _) _ _); refine kYw (ySubZ _ _ _ _ b a d f10.out rfl rfl rfl rfl) ?_; go_frame)
    | ((with_reducible change wpList _ _ _ (Oper.mk (some 12) _ _ _ _ _ :: _) _ _); refine kYw (yMaxL _ _ d 1050 x Hx.out rfl rfl rfl rfl) ?_; go_frame)
    | ((with_reducible change wpList _ _ _ (Oper.mk (some 13) _ _ _ _ _ :: _) _ _); refine kYw (yMinL _ _ x 16800 r f13.out rfl rfl rfl rfl) ?_; go_frame)
    | ((with_reducible change wpList _ _ _ (Oper.mk (some 14) _ _ _ _ _ :: _) _ _); refine kYw (yConvK Try.underlying2 Try.underlying22 _ r r f14.out rfl rfl rfl) ?_; go_frame))
  go_ret
  exact ⟨rfl, hM0.below⟩
set_option maxRecDepth 100000 in
set_option maxHeartbeats 8000000 in
theorem kScaled_as {t s k r : Nat} {c : Bool} {v : Int} (hv : v = (k : Int)) (hk : k = 4200) (ht : t ≤ easyN) (hs : s ≤ 16800) (hr : t * s / 4200 % M256 = r) (hc : decide (M256 ≤ t * s / 4200) = c) (w : World) : Calls Try.prog 33 #[WV t, .int .u64 (s : Int), .int .u64 v] w fun e w' => e = .returned (.tuple #[WV r, .bool c]) ∧ Below w.heap.size w w' := by
  subst hv
  obtain ⟨q, Hq⟩ : ∃ v_ : Nat, Hid (t / k = v_) := ⟨_, Lib.hid rfl⟩
  obtain ⟨l, Hl⟩ : ∃ v_ : Nat, Hid (t % k = v_) := ⟨_, Lib.hid rfl⟩
  obtain ⟨a, Ha⟩ : ∃ v_ : Nat, Hid (q * s % M256 = v_) := ⟨_, Lib.hid rfl⟩
  obtain ⟨h, Hh⟩ : ∃ v_ : Nat, Hid (q * s / M256 = v_) := ⟨_, Lib.hid rfl⟩
  obtain ⟨f, Hf⟩ : ∃ v_ : Nat, Hid (l * s = v_) := ⟨_, Lib.hid rfl⟩
  obtain ⟨z, Hz⟩ : ∃ v_ : Nat, Hid (0 = v_) := ⟨_, Lib.hid rfl⟩
  obtain ⟨f2, Hf2⟩ : ∃ v_ : Nat, Hid (f / k = v_) := ⟨_, Lib.hid rfl⟩
  obtain ⟨fx, Hfx⟩ : ∃ v_ : Nat, Hid (f % k = v_) := ⟨_, Lib.hid rfl⟩
  have he := easy_lt
  have tM : t < M256 := Nat.lt_of_le_of_lt ht he
  have hkk := hk
  have ll : l < 4200 := by rw [← Hl.out, hk]; exact Nat.mod_lt _ (by decide)
  have qM : q < M256 := by rw [← Hq.out]; exact Nat.lt_of_le_of_lt (Nat.div_le_self _ _) tM
  have aM : a < M256 := by rw [← Ha.out]; exact Nat.mod_lt _ M256_pos
  have hf := Nat.mul_le_mul (Nat.le_of_lt ll) hs
  rw [Hf.out] at hf
  have hf2 : f2 ≤ f := by rw [← Hf2.out]; exact Nat.div_le_self _ _
  have hhM : M256 = 115792089237316195423570985008687907853269984665640564039457584007913129639936 := rfl
  have fM : f < M256 := by omega
  have f2M : f2 < M256 := by omega
  have sM : s < M256 := by omega
  have kM : k < M256 := by omega
  have lM : l < M256 := by omega
  have hsum : q * s + f2 = t * s / 4200 := by rw [← Hf2.out, ← Hf.out, ← Hl.out, ← Hq.out, hk]; exact wk_scaled t s
  have hqs : q * s = a + M256 * h := by rw [← Ha.out, ← Hh.out]; exact (Nat.mod_add_div _ _).symm
  have hh : h < M256 := by rw [← Hh.out, Nat.div_lt_iff_lt_mul M256_pos]; exact Nat.mul_lt_mul'' qM sM
  have hrr : (a + f2) % M256 = r := by rw [← hr, ← hsum, hqs, Nat.add_right_comm, Nat.add_mul_mod_self_left]
  have hz := Hz.out
  obtain ⟨m, Hm⟩ : ∃ v_ : Bool, Hid (decide (M256 ≤ a + f2) = v_) := ⟨_, Lib.hid rfl⟩
  obtain ⟨g, Hg⟩ : ∃ v_ : Bool, Hid ((!decide (h % M256 = 0 % M256)) = v_) := ⟨_, Lib.hid rfl⟩
  have hcc : (m || g) = c := by
    rw [← Hm.out, ← Hg.out, ← hc, ← hsum, hqs, Nat.mod_eq_of_lt hh, Nat.zero_mod]
    by_cases h0 : h = 0
    · subst h0; simp
    · have h1 : M256 ≤ M256 * h := Nat.le_mul_of_pos_right _ (by omega)
      have h2 : M256 ≤ a + M256 * h + f2 := by omega
      simp [h0, h2]
  have f19 : Hid (k < 18446744073709551616) := Lib.hid (by omega)
  have f26 : Hid (s < 18446744073709551616) := Lib.hid (by omega)
  have f20 : Hid (t / k = q ∧ t % k = l) := Lib.hid ⟨Hq.out, Hl.out⟩
  have f27 : Hid (q * s % M256 = a ∧ q * s / M256 = h) := Lib.hid ⟨Ha.out, Hh.out⟩
  have f34 : Hid (l * s % M256 = f ∧ l * s / M256 = z) := Lib.hid ⟨by rw [Hf.out, Nat.mod_eq_of_lt fM], by rw [Hf.out, Nat.div_eq_of_lt fM, ← hz]⟩
  have f41 : Hid (f / k = f2 ∧ f % k = fx) := Lib.hid ⟨Hf2.out, Hfx.out⟩
  have f47 : Hid ((a + f2) % M256 = r ∧ decide (M256 ≤ a + f2) = m) := Lib.hid ⟨hrr, Hm.out⟩
  clear he ht hk hkk ll hf hf2 hhM hsum hqs hh hrr hz hr hc hs Hq Hl Ha Hh Hf Hz Hf2 Hfx Hm
  cases m with
  | true =>
    have hcc : c = true := by rw [← hcc]; rfl
    subst hcc
    clear Hg
    have hM0 := mm_nil w
    (try unfold WV)
    go_enter Try.func33, Try.ntmps33
    go_wp2_with (first
      | ((with_reducible change wpList _ _ _ (Oper.mk (some 3) _ _ _ _ _ :: _) _ _); refine mmBox hM0 _ _ (wcells t) rfl rfl rfl ?_; intro w1 hM1; clear hM0; go_frame)
      | ((with_reducible change wpList _ _ _ (Oper.mk (some 6) _ _ _ _ _ :: _) _ _); refine mmAlloc hM1 _ _ rfl rfl zero_Wide ?_; intro w2 hM2; clear hM1; go_frame))
    refine region_symN [7, 8] [8, 9] (by kernel_rfl) (fun i => [0, 0, 0, 0, 0, 0, 0, 0, 0, 7, 8].getD i 0) [.val (.agg (wcells t)), .val (.int .u64 ((k : Int))), .val (.agg (wcells k)), .val (.tuple #[.agg (wcells q), .agg (wcells l)]), .val (.tuple #[.agg (wcells q), .agg (wcells l)]), .val (.agg (wcells q)), .val (.agg (wcells l)), .fresh w2.heap.size 24 4, .fresh w2.heap.size 24 4, .hold w2.heap.size 24 (wcells q), .hold w2.heap.size 24 (wcells l)] [.val (.agg (wcells t)), .val (.int .u64 ((k : Int))), .val (.agg (wcells k)), .val (.tuple #[.agg (wcells q), .agg (wcells l)]), .val (.tuple #[.agg (wcells q), .agg (wcells l)]), .val (.agg (wcells q)), .val (.agg (wcells l)), .hold w2.heap.size 24 (wcells q), .hold w2.heap.size 24 (wcells l), .val undef, .val undef] (by kernel_rfl) (by kernel_rfl) rfl rfl (by intro s hs; simp only [List.mem_cons, List.not_mem_nil, or_false] at hs; rcases hs with rfl | rfl <;> rfl) (steps_all ⟨?_, ?_, ?_, ?_, ?_, ?_, ?_, ?_, ?_, ?_, ?_, trivial⟩) ?_
    · intro A W hsz hoth hbel hX hdep
      exact kLoadRow _ _ _ _ _ _ rfl rfl ((hoth 3 (free2_of (by kernel_rfl))).trans rfl) ((hM2.get 1 rfl).on hbel) Try.underlying24 rfl (info_WideC _) (symVN hbel hX hsz rfl rfl (show 17 < 57 by decide) rfl (Below.refl _ _) rfl)
    · intro A W hsz hoth hbel hX hdep
      exact kMoveV _ _ rfl rfl ((hoth 2 (free2_of (by kernel_rfl))).trans rfl) (symVN hbel hX hsz rfl rfl (show 18 < 57 by decide) rfl (Below.refl _ _) rfl)
    · intro A W hsz hoth hbel hX hdep
      refine kCall1 29 _ _ _ rfl rfl (by kernel_rfl) (by have h := hdep ⟨1, .data⟩ (by simp) rfl; exact h) ?_
      refine (wOf_any k f19.out W).mono ?_
      rintro e r ⟨rfl, hBc⟩
      exact ⟨_, rfl, (symVN hbel hX hsz rfl rfl (show 19 < 57 by decide) rfl hBc rfl)⟩
    · intro A W hsz hoth hbel hX hdep
      refine kCall2 40 _ _ _ _ _ rfl rfl (by kernel_rfl) (by have h := hdep ⟨0, .data⟩ (by simp) rfl; exact h) (by have h := hdep ⟨2, .data⟩ (by simp) rfl; exact h) ?_
      refine (wDiv_k tM kM f20.out W).mono ?_
      rintro e r ⟨rfl, hBc⟩
      exact ⟨_, rfl, (symVN hbel hX hsz rfl rfl (show 20 < 57 by decide) rfl hBc rfl)⟩
    · intro A W hsz hoth hbel hX hdep
      exact kMoveV _ _ rfl rfl (by have h := hdep ⟨3, .data⟩ (by simp) rfl; exact h) (symVN hbel hX hsz rfl rfl (show 16 < 57 by decide) rfl (Below.refl _ _) rfl)
    · intro A W hsz hoth hbel hX hdep
      exact kExtract _ _ _ (.agg (wcells q)) rfl rfl (by have h := hdep ⟨4, .data⟩ (by simp) rfl; exact h) rfl (symVN hbel hX hsz rfl rfl (show 21 < 57 by decide) rfl (Below.refl _ _) rfl)
    · intro A W hsz hoth hbel hX hdep
      exact kExtract _ _ _ (.agg (wcells l)) rfl rfl (by have h := hdep ⟨4, .data⟩ (by simp) rfl; exact h) rfl (symVN hbel hX hsz rfl rfl (show 22 < 57 by decide) rfl (Below.refl _ _) rfl)
    · intro A W hsz hoth hbel hX hdep
      refine kAllocL _ _ rfl rfl zero_Wide ?_
      intro r hR hl hBc
      exact (symAN hbel hX hsz rfl rfl (show 8 < 57 by decide) hl hBc ⟨_, _, rfl, hbel.size, wcells_size _, hR⟩)
    · intro A W hsz hoth hbel hX hdep
      refine kAllocL _ _ rfl rfl zero_Wide ?_
      intro r hR hl hBc
      exact (symAN hbel hX hsz rfl rfl (show 9 < 57 by decide) hl hBc ⟨_, _, rfl, hbel.size, wcells_size _, hR⟩)
    · intro A W hsz hoth hbel hX hdep
      obtain ⟨g, cs, d8, hg, hcs, hR⟩ : ∃ g cs, A.tmps.getD 8 undef = .pointer (some ⟨g, 0, none⟩) ∧ w2.heap.size ≤ g ∧ cs.size = 4 ∧ Row W g 24 cs := (by have h := hdep ⟨7, .data⟩ (by simp) rfl; exact h)
      refine kStoreRow _ _ _ _ _ _ (wcells q) rfl rfl d8 (by have h := hdep ⟨5, .data⟩ (by simp) rfl; exact h) hR (info_WideC _) (by rw [wcells_size, hcs]) (wcells_one _) ?_
      intro r hR2 hW
      exact symWN (s := 8) hbel hX rfl rfl rfl d8 hR hW hg hR2 (by simp [OnlyAt, srcOf, dstOf, wcells_size]) ⟨g, d8, hg, hR2⟩
    · intro A W hsz hoth hbel hX hdep
      obtain ⟨g, cs, d8, hg, hcs, hR⟩ : ∃ g cs, A.tmps.getD 9 undef = .pointer (some ⟨g, 0, none⟩) ∧ w2.heap.size ≤ g ∧ cs.size = 4 ∧ Row W g 24 cs := (by have h := hdep ⟨8, .data⟩ (by simp) rfl; exact h)
      refine kStoreRow _ _ _ _ _ _ (wcells l) rfl rfl d8 (by have h := hdep ⟨6, .data⟩ (by simp) rfl; exact h) hR (info_WideC _) (by rw [wcells_size, hcs]) (wcells_one _) ?_
      intro r hR2 hW
      exact symWN (s := 9) hbel hX rfl rfl rfl d8 hR hW hg hR2 (by simp [OnlyAt, srcOf, dstOf, wcells_size]) ⟨g, d8, hg, hR2⟩
    intro w3 hB3
    dsimp only [AllV]
    intro g3_8 hg3_8 hR3_8
    intro g3_9 hg3_9 hR3_9
    intro hap
    dsimp only [putAll]
    go_frame
    have hM3 := hM2.on hB3
    replace hM3 := hM3.cons hR3_8 (Nat.le_trans hM2.size hg3_8) (fun p hp => by have := hM2.lt hp; omega)
    have hne3_9_3_8 : g3_9 ≠ g3_8 := fun e => hap 8 (by simp) 7 (by simp) (by decide) g3_9 rfl (by rw [e]; rfl)
    replace hM3 := hM3.cons hR3_9 (Nat.le_trans hM2.size hg3_9) (List.forall_mem_cons.2 ⟨hne3_9_3_8, fun p hp => by have := hM2.lt hp; omega⟩)
    clear hB3 hM2 hg3_8 hR3_8 hg3_9 hR3_9 hap
    go_wp2_with fail
    refine region_symN [7, 8] [10, 11] (by kernel_rfl) (fun i => [0, 0, 0, 0, 0, 0, 0, 0, 0, 7, 8].getD i 0) [.val (.agg (wcells q)), .val (.int .u64 ((s : Int))), .val (.agg (wcells s)), .val (.tuple #[.agg (wcells a), .agg (wcells h)]), .val (.tuple #[.agg (wcells a), .agg (wcells h)]), .val (.agg (wcells a)), .val (.agg (wcells h)), .fresh w3.heap.size 24 4, .fresh w3.heap.size 24 4, .hold w3.heap.size 24 (wcells a), .hold w3.heap.size 24 (wcells h)] [.val (.agg (wcells q)), .val (.int .u64 ((s : Int))), .val (.agg (wcells s)), .val (.tuple #[.agg (wcells a), .agg (wcells h)]), .val (.tuple #[.agg (wcells a), .agg (wcells h)]), .val (.agg (wcells a)), .val (.agg (wcells h)), .hold w3.heap.size 24 (wcells a), .hold w3.heap.size 24 (wcells h), .val undef, .val undef] (by kernel_rfl) (by kernel_rfl) rfl rfl (by intro s hs; simp only [List.mem_cons, List.not_mem_nil, or_false] at hs; rcases hs with rfl | rfl <;> rfl) (steps_all ⟨?_, ?_, ?_, ?_, ?_, ?_, ?_, ?_, ?_, ?_, ?_, trivial⟩) ?_
    · intro A W hsz hoth hbel hX hdep
      exact kLoadRow _ _ _ _ _ _ rfl rfl ((hoth 8 (free2_of (by kernel_rfl))).trans rfl) ((hM3.get 1 rfl).on hbel) Try.underlying24 rfl (info_WideC _) (symVN hbel hX hsz rfl rfl (show 24 < 57 by decide) rfl (Below.refl _ _) rfl)
    · intro A W hsz hoth hbel hX hdep
      exact kMoveV _ _ rfl rfl ((hoth 1 (free2_of (by kernel_rfl))).trans rfl) (symVN hbel hX hsz rfl rfl (show 25 < 57 by decide) rfl (Below.refl _ _) rfl)
    · intro A W hsz hoth hbel hX hdep
      refine kCall1 29 _ _ _ rfl rfl (by kernel_rfl) (by have h := hdep ⟨1, .data⟩ (by simp) rfl; exact h) ?_
      refine (wOf_any s f26.out W).mono ?_
      rintro e r ⟨rfl, hBc⟩
      exact ⟨_, rfl, (symVN hbel hX hsz rfl rfl (show 26 < 57 by decide) rfl hBc rfl)⟩
    · intro A W hsz hoth hbel hX hdep
      refine kCall2 51 _ _ _ _ _ rfl rfl (by kernel_rfl) (by have h := hdep ⟨0, .data⟩ (by simp) rfl; exact h) (by have h := hdep ⟨2, .data⟩ (by simp) rfl; exact h) ?_
      refine (wMul_k qM sM f27.out W).mono ?_
      rintro e r ⟨rfl, hBc⟩
      exact ⟨_, rfl, (symVN hbel hX hsz rfl rfl (show 27 < 57 by decide) rfl hBc rfl)⟩
    · intro A W hsz hoth hbel hX hdep
      exact kMoveV _ _ rfl rfl (by have h := hdep ⟨3, .data⟩ (by simp) rfl; exact h) (symVN hbel hX hsz rfl rfl (show 23 < 57 by decide) rfl (Below.refl _ _) rfl)
    · intro A W hsz hoth hbel hX hdep
      exact kExtract _ _ _ (.agg (wcells a)) rfl rfl (by have h := hdep ⟨4, .data⟩ (by simp) rfl; exact h) rfl (symVN hbel hX hsz rfl rfl (show 28 < 57 by decide) rfl (Below.refl _ _) rfl)
    · intro A W hsz hoth hbel hX hdep
      exact kExtract _ _ _ (.agg (wcells h)) rfl rfl (by have h := hdep ⟨4, .data⟩ (by simp) rfl; exact h) rfl (symVN hbel hX hsz rfl rfl (show 29 < 57 by decide) rfl (Below.refl _ _) rfl)
    · intro A W hsz hoth hbel hX hdep
      refine kAllocL _ _ rfl rfl zero_Wide ?_
      intro r hR hl hBc
      exact (symAN hbel hX hsz rfl rfl (show 10 < 57 by decide) hl hBc ⟨_, _, rfl, hbel.size, wcells_size _, hR⟩)
    · intro A W hsz hoth hbel hX hdep
      refine kAllocL _ _ rfl rfl zero_Wide ?_
      intro r hR hl hBc
      exact (symAN hbel hX hsz rfl rfl (show 11 < 57 by decide) hl hBc ⟨_, _, rfl, hbel.size, wcells_size _, hR⟩)
    · intro A W hsz hoth hbel hX hdep
      obtain ⟨g, cs, d8, hg, hcs, hR⟩ : ∃ g cs, A.tmps.getD 10 undef = .pointer (some ⟨g, 0, none⟩) ∧ w3.heap.size ≤ g ∧ cs.size = 4 ∧ Row W g 24 cs := (by have h := hdep ⟨7, .data⟩ (by simp) rfl; exact h)
      refine kStoreRow _ _ _ _ _ _ (wcells a) rfl rfl d8 (by have h := hdep ⟨5, .data⟩ (by simp) rfl; exact h) hR (info_WideC _) (by rw [wcells_size, hcs]) (wcells_one _) ?_
      intro r hR2 hW
      exact symWN (s := 10) hbel hX rfl rfl rfl d8 hR hW hg hR2 (by simp [OnlyAt, srcOf, dstOf, wcells_size]) ⟨g, d8, hg, hR2⟩
    · intro A W hsz hoth hbel hX hdep
      obtain ⟨g, cs, d8, hg, hcs, hR⟩ : ∃ g cs, A.tmps.getD 11 undef = .pointer (some ⟨g, 0, none⟩) ∧ w3.heap.size ≤ g ∧ cs.size = 4 ∧ Row W g 24 cs := (by have h := hdep ⟨8, .data⟩ (by simp) rfl; exact h)
      refine kStoreRow _ _ _ _ _ _ (wcells h) rfl rfl d8 (by have h := hdep ⟨6, .data⟩ (by simp) rfl; exact h) hR (info_WideC _) (by rw [wcells_size, hcs]) (wcells_one _) ?_
      intro r hR2 hW
      exact symWN (s := 11) hbel hX rfl rfl rfl d8 hR hW hg hR2 (by simp [OnlyAt, srcOf, dstOf, wcells_size]) ⟨g, d8, hg, hR2⟩
    intro w4 hB4
    dsimp only [AllV]
    intro g4_10 hg4_10 hR4_10
    intro g4_11 hg4_11 hR4_11
    intro hap
    dsimp only [putAll]
    go_frame
    have hM4 := hM3.on hB4
    replace hM4 := hM4.cons hR4_10 (Nat.le_trans hM3.size hg4_10) (fun p hp => by have := hM3.lt hp; omega)
    have hne4_11_4_10 : g4_11 ≠ g4_10 := fun e => hap 8 (by simp) 7 (by simp) (by decide) g4_11 rfl (by rw [e]; rfl)
    replace hM4 := hM4.cons hR4_11 (Nat.le_trans hM3.size hg4_11) (List.forall_mem_cons.2 ⟨hne4_11_4_10, fun p hp => by have := hM3.lt hp; omega⟩)
    clear hB4 hM3 hg4_10 hR4_10 hg4_11 hR4_11 hap
    go_wp2_with fail
    refine region_symN [7, 8] [12, 13] (by kernel_rfl) (fun i => [0, 0, 0, 0, 0, 0, 0, 0, 0, 7, 8].getD i 0) [.val (.agg (wcells l)), .val (.int .u64 ((s : Int))), .val (.agg (wcells s)), .val (.tuple #[.agg (wcells f), .agg (wcells z)]), .val (.tuple #[.agg (wcells f), .agg (wcells z)]), .val (.agg (wcells f)), .val (.agg (wcells z)), .fresh w4.heap.size 24 4, .fresh w4.heap.size 24 4, .hold w4.heap.size 24 (wcells f), .hold w4.heap.size 24 (wcells z)] [.val (.agg (wcells l)), .val (.int .u64 ((s : Int))), .val (.agg (wcells s)), .val (.tuple #[.agg (wcells f), .agg (wcells z)]), .val (.tuple #[.agg (wcells f), .agg (wcells z)]), .val (.agg (wcells f)), .val (.agg (wcells z)), .hold w4.heap.size 24 (wcells f), .hold w4.heap.size 24 (wcells z), .val undef, .val undef] (by kernel_rfl) (by kernel_rfl) rfl rfl (by intro s hs; simp only [List.mem_cons, List.not_mem_nil, or_false] at hs; rcases hs with rfl | rfl <;> rfl) (steps_all ⟨?_, ?_, ?_, ?_, ?_, ?_, ?_, ?_, ?_, ?_, ?_, trivial⟩) ?_
    · intro A W hsz hoth hbel hX hdep
      exact kLoadRow _ _ _ _ _ _ rfl rfl ((hoth 9 (free2_of (by kernel_rfl))).trans rfl) ((hM4.get 2 rfl).on hbel) Try.underlying24 rfl (info_WideC _) (symVN hbel hX hsz rfl rfl (show 31 < 57 by decide) rfl (Below.refl _ _) rfl)
    · intro A W hsz hoth hbel hX hdep
      exact kMoveV _ _ rfl rfl ((hoth 1 (free2_of (by kernel_rfl))).trans rfl) (symVN hbel hX hsz rfl rfl (show 32 < 57 by decide) rfl (Below.refl _ _) rfl)
    · intro A W hsz hoth hbel hX hdep
      refine kCall1 29 _ _ _ rfl rfl (by kernel_rfl) (by have h := hdep ⟨1, .data⟩ (by simp) rfl; exact h) ?_
      refine (wOf_any s f26.out W).mono ?_
      rintro e r ⟨rfl, hBc⟩
      exact ⟨_, rfl, (symVN hbel hX hsz rfl rfl (show 33 < 57 by decide) rfl hBc rfl)⟩
    · intro A W hsz hoth hbel hX hdep
      refine kCall2 51 _ _ _ _ _ rfl rfl (by kernel_rfl) (by have h := hdep ⟨0, .data⟩ (by simp) rfl; exact h) (by have h := hdep ⟨2, .data⟩ (by simp) rfl; exact h) ?_
      refine (wMul_k lM sM f34.out W).mono ?_
      rintro e r ⟨rfl, hBc⟩
      exact ⟨_, rfl, (symVN hbel hX hsz rfl rfl (show 34 < 57 by decide) rfl hBc rfl)⟩
    · intro A W hsz hoth hbel hX hdep
      exact kMoveV _ _ rfl rfl (by have h := hdep ⟨3, .data⟩ (by simp) rfl; exact h) (symVN hbel hX hsz rfl rfl (show 30 < 57 by decide) rfl (Below.refl _ _) rfl)
    · intro A W hsz hoth hbel hX hdep
      exact kExtract _ _ _ (.agg (wcells f)) rfl rfl (by have h := hdep ⟨4, .data⟩ (by simp) rfl; exact h) rfl (symVN hbel hX hsz rfl rfl (show 35 < 57 by decide) rfl (Below.refl _ _) rfl)
    · intro A W hsz hoth hbel hX hdep
      exact kExtract _ _ _ (.agg (wcells z)) rfl rfl (by have h := hdep ⟨4, .data⟩ (by simp) rfl; exact h) rfl (symVN hbel hX hsz rfl rfl (show 36 < 57 by decide) rfl (Below.refl _ _) rfl)
    · intro A W hsz hoth hbel hX hdep
      refine kAllocL _ _ rfl rfl zero_Wide ?_
      intro r hR hl hBc
      exact (symAN hbel hX hsz rfl rfl (show 12 < 57 by decide) hl hBc ⟨_, _, rfl, hbel.size, wcells_size _, hR⟩)
    · intro A W hsz hoth hbel hX hdep
      refine kAllocL _ _ rfl rfl zero_Wide ?_
      intro r hR hl hBc
      exact (symAN hbel hX hsz rfl rfl (show 13 < 57 by decide) hl hBc ⟨_, _, rfl, hbel.size, wcells_size _, hR⟩)
    · intro A W hsz hoth hbel hX hdep
      obtain ⟨g, cs, d8, hg, hcs, hR⟩ : ∃ g cs, A.tmps.getD 12 undef = .pointer (some ⟨g, 0, none⟩) ∧ w4.heap.size ≤ g ∧ cs.size = 4 ∧ Row W g 24 cs := (by have h := hdep ⟨7, .data⟩ (by simp) rfl; exact h)
      refine kStoreRow _ _ _ _ _ _ (wcells f) rfl rfl d8 (by have h := hdep ⟨5, .data⟩ (by simp) rfl; exact h) hR (info_WideC _) (by rw [wcells_size, hcs]) (wcells_one _) ?_
      intro r hR2 hW
      exact symWN (s := 12) hbel hX rfl rfl rfl d8 hR hW hg hR2 (by simp [OnlyAt, srcOf, dstOf, wcells_size]) ⟨g, d8, hg, hR2⟩
    · intro A W hsz hoth hbel hX hdep
      obtain ⟨g, cs, d8, hg, hcs, hR⟩ : ∃ g cs, A.tmps.getD 13 undef = .pointer (some ⟨g, 0, none⟩) ∧ w4.heap.size ≤ g ∧ cs.size = 4 ∧ Row W g 24 cs := (by have h := hdep ⟨8, .data⟩ (by simp) rfl; exact h)
      refine kStoreRow _ _ _ _ _ _ (wcells z) rfl rfl d8 (by have h := hdep ⟨6, .data⟩ (by simp) rfl; exact h) hR (info_WideC _) (by rw [wcells_size, hcs]) (wcells_one _) ?_
      intro r hR2 hW
      exact symWN (s := 13) hbel hX rfl rfl rfl d8 hR hW hg hR2 (by simp [OnlyAt, srcOf, dstOf, wcells_size]) ⟨g, d8, hg, hR2⟩
    intro w5 hB5
    dsimp only [AllV]
    intro g5_12 hg5_12 hR5_12
    intro g5_13 hg5_13 hR5_13
    intro hap
    dsimp only [putAll]
    go_frame
    have hM5 := hM4.on hB5
    replace hM5 := hM5.cons hR5_12 (Nat.le_trans hM4.size hg5_12) (fun p hp => by have := hM4.lt hp; omega)
    have hne5_13_5_12 : g5_13 ≠ g5_12 := fun e => hap 8 (by simp) 7 (by simp) (by decide) g5_13 rfl (by rw [e]; rfl)
    replace hM5 := hM5.cons hR5_13 (Nat.le_trans hM4.size hg5_13) (List.forall_mem_cons.2 ⟨hne5_13_5_12, fun p hp => by have := hM4.lt hp; omega⟩)
    clear hB5 hM4 hg5_12 hR5_12 hg5_13 hR5_13 hap
    go_wp2_with fail
    refine region_tree (.q 1 (.two 0 (.one 2 (.one 3 (.q 4 (.q 5 (.q 6 (.one 7 .fin)))))) 2 (.one 0 (.one 3 (.q 4 (.q 5 (.q 6 (.one 7 .fin)))))))) (fun _ => True) (by kernel_rfl) (by kernel_rfl) ?_
    intro zt4 hBd hsd
    clear hsd
    have hM6 := hM5.on hBd
    clear hBd hM5
    have hS : (fun _ : World => True) zt4 := trivial
    refine tY (.int .u64 ((k : Int))) hS rfl (yMove _ (.int .u64 ((k : Int))) rfl rfl rfl) ?_; go_frame
    refine tTwoLC (.agg (wcells f)) (.agg (wcells k)) (fun zW => Mm w zW [(g5_13, 24, wcells z), (g5_12, 24, wcells f), (g4_11, 24, wcells h), (g4_10, 24, wcells a), (g3_9, 24, wcells l), (g3_8, 24, wcells q), (w1.heap.size, 24, wcells 0), (w.heap.size, 24, wcells t)]) hM6 rfl rfl rfl rfl (by decide) (fun zW hz => yLoadW _ _ _ (fun _ e => by cases e; exact hz.get 1 rfl) rfl rfl rfl) (fun zW hz => yLoadW _ _ _ (fun _ e => by cases e; exact hz.get 1 rfl) rfl rfl rfl) (fun zW hz R K => by refine kCall1 29 _ _ _ rfl rfl (by kernel_rfl) rfl ?_; refine (wOf_any k f19.out _).mono ?_; rintro e z' ⟨rfl, hB⟩; exact ⟨_, rfl, K z' (hz.on hB)⟩) (fun zW hz R K => by refine kCall1 29 _ _ _ rfl rfl (by kernel_rfl) rfl ?_; refine (wOf_any k f19.out _).mono ?_; rintro e z' ⟨rfl, hB⟩; exact ⟨_, rfl, K z' (hz.on hB)⟩) ?_
    intro zu4 hM7; clear hM6 hS; go_frame
    have hS : (fun _ : World => True) zu4 := trivial
    refine tOne rfl ?_
    refine kCall2 40 _ _ _ _ _ rfl rfl (by kernel_rfl) rfl rfl ?_
    refine (wDiv_k fM kM f41.out _).mono ?_
    rintro e zc4_3 ⟨rfl, hB⟩
    have hM8 := hM7.on hB
    clear hB hM7 hS
    have hS : (fun _ : World => True) zc4_3 := trivial
    refine ⟨_, rfl, mixOn ⟨_, (fun _ h => h), hS, ?_⟩⟩
    go_frame
    refine tY (.tuple #[.agg (wcells f2), .agg (wcells fx)]) hS rfl (yMove _ (.tuple #[.agg (wcells f2), .agg (wcells fx)]) rfl rfl rfl) ?_; go_frame
    refine tY (.agg (wcells f2)) hS rfl (yExtr _ 0 _ (.agg (wcells f2)) rfl rfl rfl rfl) ?_; go_frame
    refine tY (.agg (wcells fx)) hS rfl (yExtr _ 1 _ (.agg (wcells fx)) rfl rfl rfl rfl) ?_; go_frame
    refine tOne rfl ?_
    refine mmStoreAt hM8 1 _ _ _ _ _ _ (wcells f2) rfl rfl rfl rfl rfl (info_WideC _) (by simp only [wcells_size]) (wcells_one _) ?_
    intro zs4 hM9; dsimp only [List.set] at hM9; clear hM8 hS
    have hS : (fun _ : World => True) zs4 := trivial
    refine mixOn ⟨_, (fun _ h => h), hS, ?_⟩
    go_frame
    refine tDone ?_
    clear hS
    go_wp2_with (first
      | ((with_reducible change wpList _ _ _ (Oper.mk (some 45) _ _ _ _ _ :: _) _ _); refine kLoadRow _ _ _ _ _ _ rfl rfl rfl (hM9.get 3 rfl) Try.underlying24 rfl (info_WideC _) ?_; go_frame)
      | ((with_reducible change wpList _ _ _ (Oper.mk (some 46) _ _ _ _ _ :: _) _ _); refine kLoadRow _ _ _ _ _ _ rfl rfl rfl (hM9.get 1 rfl) Try.underlying24 rfl (info_WideC _) ?_; go_frame)
      | (go_at_call 39; (with_reducible change Calls _ _ #[Value.agg (wcells a), Value.agg (wcells f2)] _ _); refine (wAdd_k aM f2M f47.out _).mono ?_; rintro e w10 ⟨rfl, hB10⟩; have hM10 := hM9.on hB10; clear hB10 hM9; (try unfold WV); go_frame)
      | ((with_reducible change wpList _ _ _ (Oper.mk (some 14) _ _ _ _ _ :: _) _ _); refine mmAlloc hM10 _ _ rfl rfl zero_Wide ?_; intro w11 hM11; clear hM10; go_frame)
      | ((with_reducible change wpList _ _ _ (Oper.mk none (Op.store _ (Operand.tmp 14) (Operand.tmp 48)) _ _ _ _ :: _) _ _); refine mmStoreAt hM11 0 _ _ _ _ _ _ (wcells r) rfl rfl rfl rfl rfl (info_WideC _) (by simp only [wcells_size]) (wcells_one _) ?_; intro w12 hM12; dsimp only [List.set] at hM12; clear hM11; go_frame))
    refine region_mixD [(0, true), (1, true), (2, true), (3, true), (4, true), (5, true), (6, true), (7, false), (8, true)] (fun w => Row w (w10.heap.size) 24 (wcells r) ∧ Row w (g4_11) 24 (wcells h)) (by kernel_rfl) (by kernel_rfl) rfl ?_
    intro zm6 hBd hsd
    clear hsd
    have hM13 := hM12.on hBd
    clear hBd hM12
    simp only [List.map_cons, List.map_nil]
    dsimp only [List.filterMap, List.getElem?_cons_zero, List.getElem?_cons_succ]
    have hS : Row zm6 (w10.heap.size) 24 (wcells r) ∧ Row zm6 (g4_11) 24 (wcells h) := ⟨hM13.get 0 rfl, hM13.get 3 rfl⟩
    refine dY _ hS (yLoadW _ _ _ (fun _ h => h.1) rfl rfl rfl) ?_; go_frame
    refine dY _ hS (yMove _ (.bool true) rfl rfl rfl) ?_; go_frame
    refine dY _ hS (yMove _ (.bool true) rfl rfl rfl) ?_; go_frame
    refine dY _ hS (ySkip rfl) ?_; go_frame
    refine dY _ hS (ySkip rfl) ?_; go_frame
    refine dY _ hS (ySkip rfl) ?_; go_frame
    refine dY _ hS (yPick _ _ _ true (.bool true) rfl rfl rfl rfl) ?_; go_frame
    refine dLoud ?_
    refine mmStoreAt hM13 7 _ _ _ _ _ _ (wcells r) rfl rfl rfl rfl rfl (info_WideC _) (by simp only [wcells_size]) (wcells_one _) ?_
    intro zn6 hM14; dsimp only [List.set] at hM14; clear hM13 hS
    have hS : Row zn6 (w10.heap.size) 24 (wcells r) ∧ Row zn6 (g4_11) 24 (wcells h) := ⟨hM14.get 0 rfl, hM14.get 3 rfl⟩
    refine mixOn ⟨_, (fun _ h => h), hS, ?_⟩
    go_frame
    refine dY _ hS (yAssign _ (.bool true) rfl rfl rfl) ?_; go_frame
    refine dDone ?_
    clear hS
    go_wp2_with fail
    exact result_row_tmp Try.results33 rfl rfl (hM14.get 7 rfl) Try.underlying24 rfl (info_WideC _) rfl ⟨rfl, hM14.below⟩
  | false =>
    have hcc : g = c := by rw [← hcc]; rfl
    subst hcc
    have hM0 := mm_nil w
    (try unfold WV)
    go_enter Try.func33, Try.ntmps33
    go_wp2_with (first
      | ((with_reducible change wpList _ _ _ (Oper.mk (some 3) _ _ _ _ _ :: _) _ _); refine mmBox hM0 _ _ (wcells t) rfl rfl rfl ?_; intro w1 hM1; clear hM0; go_frame)
      | ((with_reducible change wpList _ _ _ (Oper.mk (some 6) _ _ _ _ _ :: _) _ _); refine mmAlloc hM1 _ _ rfl rfl zero_Wide ?_; intro w2 hM2; clear hM1; go_frame))
    refine region_symN [7, 8] [8, 9] (by kernel_rfl) (fun i => [0, 0, 0, 0, 0, 0, 0, 0, 0, 7, 8].getD i 0) [.val (.agg (wcells t)), .val (.int .u64 ((k : Int))), .val (.agg (wcells k)), .val (.tuple #[.agg (wcells q), .agg (wcells l)]), .val (.tuple #[.agg (wcells q), .agg (wcells l)]), .val (.agg (wcells q)), .val (.agg (wcells l)), .fresh w2.heap.size 24 4, .fresh w2.heap.size 24 4, .hold w2.heap.size 24 (wcells q), .hold w2.heap.size 24 (wcells l)] [.val (.agg (wcells t)), .val (.int .u64 ((k : Int))), .val (.agg (wcells k)), .val (.tuple #[.agg (wcells q), .agg (wcells l)]), .val (.tuple #[.agg (wcells q), .agg (wcells l)]), .val (.agg (wcells q)), .val (.agg (wcells l)), .hold w2.heap.size 24 (wcells q), .hold w2.heap.size 24 (wcells l), .val undef, .val undef] (by kernel_rfl) (by kernel_rfl) rfl rfl (by intro s hs; simp only [List.mem_cons, List.not_mem_nil, or_false] at hs; rcases hs with rfl | rfl <;> rfl) (steps_all ⟨?_, ?_, ?_, ?_, ?_, ?_, ?_, ?_, ?_, ?_, ?_, trivial⟩) ?_
    · intro A W hsz hoth hbel hX hdep
      exact kLoadRow _ _ _ _ _ _ rfl rfl ((hoth 3 (free2_of (by kernel_rfl))).trans rfl) ((hM2.get 1 rfl).on hbel) Try.underlying24 rfl (info_WideC _) (symVN hbel hX hsz rfl rfl (show 17 < 57 by decide) rfl (Below.refl _ _) rfl)
    · intro A W hsz hoth hbel hX hdep
      exact kMoveV _ _ rfl rfl ((hoth 2 (free2_of (by kernel_rfl))).trans rfl) (symVN hbel hX hsz rfl rfl (show 18 < 57 by decide) rfl (Below.refl _ _) rfl)
    · intro A W hsz hoth hbel hX hdep
      refine kCall1 29 _ _ _ rfl rfl (by kernel_rfl) (by have h := hdep ⟨1, .data⟩ (by simp) rfl; exact h) ?_
      refine (wOf_any k f19.out W).mono ?_
      rintro e r ⟨rfl, hBc⟩
      exact ⟨_, rfl, (symVN hbel hX hsz rfl rfl (show 19 < 57 by decide) rfl hBc rfl)⟩
    · intro A W hsz hoth hbel hX hdep
      refine kCall2 40 _ _ _ _ _ rfl rfl (by kernel_rfl) (by have h := hdep ⟨0, .data⟩ (by simp) rfl; exact h) (by have h := hdep ⟨2, .data⟩ (by simp) rfl; exact h) ?_
      refine (wDiv_k tM kM f20.out W).mono ?_
      rintro e r ⟨rfl, hBc⟩
      exact ⟨_, rfl, (symVN hbel hX hsz rfl rfl (show 20 < 57 by decide) rfl hBc rfl)⟩
    · intro A W hsz hoth hbel hX hdep
      exact kMoveV _ _ rfl rfl (by have h := hdep ⟨3, .data⟩ (by simp) rfl; exact h) (symVN hbel hX hsz rfl rfl (show 16 < 57 by decide) rfl (Below.refl _ _) rfl)
    · intro A W hsz hoth hbel hX hdep
      exact kExtract _ _ _ (.agg (wcells q)) rfl rfl (by have h := hdep ⟨4, .data⟩ (by simp) rfl; exact h) rfl (symVN hbel hX hsz rfl rfl (show 21 < 57 by decide) rfl (Below.refl _ _) rfl)
    · intro A W hsz hoth hbel hX hdep
      exact kExtract _ _ _ (.agg (wcells l)) rfl rfl (by have h := hdep ⟨4, .data⟩ (by simp) rfl; exact h) rfl (symVN hbel hX hsz rfl rfl (show 22 < 57 by decide) rfl (Below.refl _ _) rfl)
    · intro A W hsz hoth hbel hX hdep
      refine kAllocL _ _ rfl rfl zero_Wide ?_
      intro r hR hl hBc
      exact (symAN hbel hX hsz rfl rfl (show 8 < 57 by decide) hl hBc ⟨_, _, rfl, hbel.size, wcells_size _, hR⟩)
    · intro A W hsz hoth hbel hX hdep
      refine kAllocL _ _ rfl rfl zero_Wide ?_
      intro r hR hl hBc
      exact (symAN hbel hX hsz rfl rfl (show 9 < 57 by decide) hl hBc ⟨_, _, rfl, hbel.size, wcells_size _, hR⟩)
    · intro A W hsz hoth hbel hX hdep
      obtain ⟨g, cs, d8, hg, hcs, hR⟩ : ∃ g cs, A.tmps.getD 8 undef = .pointer (some ⟨g, 0, none⟩) ∧ w2.heap.size ≤ g ∧ cs.size = 4 ∧ Row W g 24 cs := (by have h := hdep ⟨7, .data⟩ (by simp) rfl; exact h)
      refine kStoreRow _ _ _ _ _ _ (wcells q) rfl rfl d8 (by have h := hdep ⟨5, .data⟩ (by simp) rfl; exact h) hR (info_WideC _) (by rw [wcells_size, hcs]) (wcells_one _) ?_
      intro r hR2 hW
      exact symWN (s := 8) hbel hX rfl rfl rfl d8 hR hW hg hR2 (by simp [OnlyAt, srcOf, dstOf, wcells_size]) ⟨g, d8, hg, hR2⟩
    · intro A W hsz hoth hbel hX hdep
      obtain ⟨g, cs, d8, hg, hcs, hR⟩ : ∃ g cs, A.tmps.getD 9 undef = .pointer (some ⟨g, 0, none⟩) ∧ w2.heap.size ≤ g ∧ cs.size = 4 ∧ Row W g 24 cs := (by have h := hdep ⟨8, .data⟩ (by simp) rfl; exact h)
      refine kStoreRow _ _ _ _ _ _ (wcells l) rfl rfl d8 (by have h := hdep ⟨6, .data⟩ (by simp) rfl; exact h) hR (info_WideC _) (by rw [wcells_size, hcs]) (wcells_one _) ?_
      intro r hR2 hW
      exact symWN (s := 9) hbel hX rfl rfl rfl d8 hR hW hg hR2 (by simp [OnlyAt, srcOf, dstOf, wcells_size]) ⟨g, d8, hg, hR2⟩
    intro w3 hB3
    dsimp only [AllV]
    intro g3_8 hg3_8 hR3_8
    intro g3_9 hg3_9 hR3_9
    intro hap
    dsimp only [putAll]
    go_frame
    have hM3 := hM2.on hB3
    replace hM3 := hM3.cons hR3_8 (Nat.le_trans hM2.size hg3_8) (fun p hp => by have := hM2.lt hp; omega)
    have hne3_9_3_8 : g3_9 ≠ g3_8 := fun e => hap 8 (by simp) 7 (by simp) (by decide) g3_9 rfl (by rw [e]; rfl)
    replace hM3 := hM3.cons hR3_9 (Nat.le_trans hM2.size hg3_9) (List.forall_mem_cons.2 ⟨hne3_9_3_8, fun p hp => by have := hM2.lt hp; omega⟩)
    clear hB3 hM2 hg3_8 hR3_8 hg3_9 hR3_9 hap
    go_wp2_with fail
    refine region_symN [7, 8] [10, 11] (by kernel_rfl) (fun i => [0, 0, 0, 0, 0, 0, 0, 0, 0, 7, 8].getD i 0) [.val (.agg (wcells q)), .val (.int .u64 ((s : Int))), .val (.agg (wcells s)), .val (.tuple #[.agg (wcells a), .agg (wcells h)]), .val (.tuple #[.agg (wcells a), .agg (wcells h)]), .val (.agg (wcells a)), .val (.agg (wcells h)), .fresh w3.heap.size 24 4, .fresh w3.heap.size 24 4, .hold w3.heap.size 24 (wcells a), .hold w3.heap.size 24 (wcells h)] [.val (.agg (wcells q)), .val (.int .u64 ((s : Int))), .val (.agg (wcells s)), .val (.tuple #[.agg (wcells a), .agg (wcells h)]), .val (.tuple #[.agg (wcells a), .agg (wcells h)]), .val (.agg (wcells a)), .val (.agg (wcells h)), .hold w3.heap.size 24 (wcells a), .hold w3.heap.size 24 (wcells h), .val undef, .val undef] (by kernel_rfl) (by kernel_rfl) rfl rfl (by intro s hs; simp only [List.mem_cons, List.not_mem_nil, or_false] at hs; rcases hs with rfl | rfl <;> rfl) (steps_all ⟨?_, ?_, ?_, ?_, ?_, ?_, ?_, ?_, ?_, ?_, ?_, trivial⟩) ?_
    · intro A W hsz hoth hbel hX hdep
      exact kLoadRow _ _ _ _ _ _ rfl rfl ((hoth 8 (free2_of (by kernel_rfl))).trans rfl) ((hM3.get 1 rfl).on hbel) Try.underlying24 rfl (info_WideC _) (symVN hbel hX hsz rfl rfl (show 24 < 57 by decide) rfl (Below.refl _ _) rfl)
    · intro A W hsz hoth hbel hX hdep
      exact kMoveV _ _ rfl rfl ((hoth 1 (free2_of (by kernel_rfl))).trans rfl) (symVN hbel hX hsz rfl rfl (show 25 < 57 by decide) rfl (Below.refl _ _) rfl)
    · intro A W hsz hoth hbel hX hdep
      refine kCall1 29 _ _ _ rfl rfl (by kernel_rfl) (by have h := hdep ⟨1, .data⟩ (by simp) rfl; exact h) ?_
      refine (wOf_any s f26.out W).mono ?_
      rintro e r ⟨rfl, hBc⟩
      exact ⟨_, rfl, (symVN hbel hX hsz rfl rfl (show 26 < 57 by decide) rfl hBc rfl)⟩
    · intro A W hsz hoth hbel hX hdep
      refine kCall2 51 _ _ _ _ _ rfl rfl (by kernel_rfl) (by have h := hdep ⟨0, .data⟩ (by simp) rfl; exact h) (by have h := hdep ⟨2, .data⟩ (by simp) rfl; exact h) ?_
      refine (wMul_k qM sM f27.out W).mono ?_
      rintro e r ⟨rfl, hBc⟩
      exact ⟨_, rfl, (symVN hbel hX hsz rfl rfl (show 27 < 57 by decide) rfl hBc rfl)⟩
    · intro A W hsz hoth hbel hX hdep
      exact kMoveV _ _ rfl rfl (by have h := hdep ⟨3, .data⟩ (by simp) rfl; exact h) (symVN hbel hX hsz rfl rfl (show 23 < 57 by decide) rfl (Below.refl _ _) rfl)
    · intro A W hsz hoth hbel hX hdep
      exact kExtract _ _ _ (.agg (wcells a)) rfl rfl (by have h := hdep ⟨4, .data⟩ (by simp) rfl; exact h) rfl (symVN hbel hX hsz rfl rfl (show 28 < 57 by decide) rfl (Below.refl _ _) rfl)
    · intro A W hsz hoth hbel hX hdep
      exact kExtract _ _ _ (.agg (wcells h)) rfl rfl (by have h := hdep ⟨4, .data⟩ (by simp) rfl; exact h) rfl (symVN hbel hX hsz rfl rfl (show 29 < 57 by decide) rfl (Below.refl _ _) rfl)
    · intro A W hsz hoth hbel hX hdep
      refine kAllocL _ _ rfl rfl zero_Wide ?_
      intro r hR hl hBc
      exact (symAN hbel hX hsz rfl rfl (show 10 < 57 by decide) hl hBc ⟨_, _, rfl, hbel.size, wcells_size _, hR⟩)
    · intro A W hsz hoth hbel hX hdep
      refine kAllocL _ _ rfl rfl zero_Wide ?_
      intro r hR hl hBc
      exact (symAN hbel hX hsz rfl rfl (show 11 < 57 by decide) hl hBc ⟨_, _, rfl, hbel.size, wcells_size _, hR⟩)
    · intro A W hsz hoth hbel hX hdep
      obtain ⟨g, cs, d8, hg, hcs, hR⟩ : ∃ g cs, A.tmps.getD 10 undef = .pointer (some ⟨g, 0, none⟩) ∧ w3.heap.size ≤ g ∧ cs.size = 4 ∧ Row W g 24 cs := (by have h := hdep ⟨7, .data⟩ (by simp) rfl; exact h)
      refine kStoreRow _ _ _ _ _ _ (wcells a) rfl rfl d8 (by have h := hdep ⟨5, .data⟩ (by simp) rfl; exact h) hR (info_WideC _) (by rw [wcells_size, hcs]) (wcells_one _) ?_
      intro r hR2 hW
      exact symWN (s := 10) hbel hX rfl rfl rfl d8 hR hW hg hR2 (by simp [OnlyAt, srcOf, dstOf, wcells_size]) ⟨g, d8, hg, hR2⟩
    · intro A W hsz hoth hbel hX hdep
      obtain ⟨g, cs, d8, hg, hcs, hR⟩ : ∃ g cs, A.tmps.getD 11 undef = .pointer (some ⟨g, 0, none⟩) ∧ w3.heap.size ≤ g ∧ cs.size = 4 ∧ Row W g 24 cs := (by have h := hdep ⟨8, .data⟩ (by simp) rfl; exact h)
      refine kStoreRow _ _ _ _ _ _ (wcells h) rfl rfl d8 (by have h := hdep ⟨6, .data⟩ (by simp) rfl; exact h) hR (info_WideC _) (by rw [wcells_size, hcs]) (wcells_one _) ?_
      intro r hR2 hW
      exact symWN (s := 11) hbel hX rfl rfl rfl d8 hR hW hg hR2 (by simp [OnlyAt, srcOf, dstOf, wcells_size]) ⟨g, d8, hg, hR2⟩
    intro w4 hB4
    dsimp only [AllV]
    intro g4_10 hg4_10 hR4_10
    intro g4_11 hg4_11 hR4_11
    intro hap
    dsimp only [putAll]
    go_frame
    have hM4 := hM3.on hB4
    replace hM4 := hM4.cons hR4_10 (Nat.le_trans hM3.size hg4_10) (fun p hp => by have := hM3.lt hp; omega)
    have hne4_11_4_10 : g4_11 ≠ g4_10 := fun e => hap 8 (by simp) 7 (by simp) (by decide) g4_11 rfl (by rw [e]; rfl)
    replace hM4 := hM4.cons hR4_11 (Nat.le_trans hM3.size hg4_11) (List.forall_mem_cons.2 ⟨hne4_11_4_10, fun p hp => by have := hM3.lt hp; omega⟩)
    clear hB4 hM3 hg4_10 hR4_10 hg4_11 hR4_11 hap
    go_wp2_with fail
    refine region_symN [7, 8] [12, 13] (by kernel_rfl) (fun i => [0, 0, 0, 0, 0, 0, 0, 0, 0, 7, 8].getD i 0) [.val (.agg (wcells l)), .val (.int .u64 ((s : Int))), .val (.agg (wcells s)), .val (.tuple #[.agg (wcells f), .agg (wcells z)]), .val (.tuple #[.agg (wcells f), .agg (wcells z)]), .val (.agg (wcells f)), .val (.agg (wcells z)), .fresh w4.heap.size 24 4, .fresh w4.heap.size 24 4, .hold w4.heap.size 24 (wcells f), .hold w4.heap.size 24 (wcells z)] [.val (.agg (wcells l)), .val (.int .u64 ((s : Int))), .val (.agg (wcells s)), .val (.tuple #[.agg (wcells f), .agg (wcells z)]), .val (.tuple #[.agg (wcells f), .agg (wcells z)]), .val (.agg (wcells f)), .val (.agg (wcells z)), .hold w4.heap.size 24 (wcells f), .hold w4.heap.size 24 (wcells z), .val undef, .val undef] (by kernel_rfl) (by kernel_rfl) rfl rfl (by intro s hs; simp only [List.mem_cons, List.not_mem_nil, or_false] at hs; rcases hs with rfl | rfl <;> rfl) (steps_all ⟨?_, ?_, ?_, ?_, ?_, ?_, ?_, ?_, ?_, ?_, ?_, trivial⟩) ?_
    · intro A W hsz hoth hbel hX hdep
      exact kLoadRow _ _ _ _ _ _ rfl rfl ((hoth 9 (free2_of (by kernel_rfl))).trans rfl) ((hM4.get 2 rfl).on hbel) Try.underlying24 rfl (info_WideC _) (symVN hbel hX hsz rfl rfl (show 31 < 57 by decide) rfl (Below.refl _ _) rfl)
    · intro A W hsz hoth hbel hX hdep
      exact kMoveV _ _ rfl rfl ((hoth 1 (free2_of (by kernel_rfl))).trans rfl) (symVN hbel hX hsz rfl rfl (show 32 < 57 by decide) rfl (Below.refl _ _) rfl)
    · intro A W hsz hoth hbel hX hdep
      refine kCall1 29 _ _ _ rfl rfl (by kernel_rfl) (by have h := hdep ⟨1, .data⟩ (by simp) rfl; exact h) ?_
      refine (wOf_any s f26.out W).mono ?_
      rintro e r ⟨rfl, hBc⟩
      exact ⟨_, rfl, (symVN hbel hX hsz rfl rfl (show 33 < 57 by decide) rfl hBc rfl)⟩
    · intro A W hsz hoth hbel hX hdep
      refine kCall2 51 _ _ _ _ _ rfl rfl (by kernel_rfl) (by have h := hdep ⟨0, .data⟩ (by simp) rfl; exact h) (by have h := hdep ⟨2, .data⟩ (by simp) rfl; exact h) ?_
      refine (wMul_k lM sM f34.out W).mono ?_
      rintro e r ⟨rfl, hBc⟩
      exact ⟨_, rfl, (symVN hbel hX hsz rfl rfl (show 34 < 57 by decide) rfl hBc rfl)⟩
    · intro A W hsz hoth hbel hX hdep
      exact kMoveV _ _ rfl rfl (by have h := hdep ⟨3, .data⟩ (by simp) rfl; exact h) (symVN hbel hX hsz rfl rfl (show 30 < 57 by decide) rfl (Below.refl _ _) rfl)
    · intro A W hsz hoth hbel hX hdep
      exact kExtract _ _ _ (.agg (wcells f)) rfl rfl (by have h := hdep ⟨4, .data⟩ (by simp) rfl; exact h) rfl (symVN hbel hX hsz rfl rfl (show 35 < 57 by decide) rfl (Below.refl _ _) rfl)
    · intro A W hsz hoth hbel hX hdep
      exact kExtract _ _ _ (.agg (wcells z)) rfl rfl (by have h := hdep ⟨4, .data⟩ (by simp) rfl; exact h) rfl (symVN hbel hX hsz rfl rfl (show 36 < 57 by decide) rfl (Below.refl _ _) rfl)
    · intro A W hsz hoth hbel hX hdep
      refine kAllocL _ _ rfl rfl zero_Wide ?_
      intro r hR hl hBc
      exact (symAN hbel hX hsz rfl rfl (show 12 < 57 by decide) hl hBc ⟨_, _, rfl, hbel.size, wcells_size _, hR⟩)
    · intro A W hsz hoth hbel hX hdep
      refine kAllocL _ _ rfl rfl zero_Wide ?_
      intro r hR hl hBc
      exact (symAN hbel hX hsz rfl rfl (show 13 < 57 by decide) hl hBc ⟨_, _, rfl, hbel.size, wcells_size _, hR⟩)
    · intro A W hsz hoth hbel hX hdep
      obtain ⟨g, cs, d8, hg, hcs, hR⟩ : ∃ g cs, A.tmps.getD 12 undef = .pointer (some ⟨g, 0, none⟩) ∧ w4.heap.size ≤ g ∧ cs.size = 4 ∧ Row W g 24 cs := (by have h := hdep ⟨7, .data⟩ (by simp) rfl; exact h)
      refine kStoreRow _ _ _ _ _ _ (wcells f) rfl rfl d8 (by have h := hdep ⟨5, .data⟩ (by simp) rfl; exact h) hR (info_WideC _) (by rw [wcells_size, hcs]) (wcells_one _) ?_
      intro r hR2 hW
      exact symWN (s := 12) hbel hX rfl rfl rfl d8 hR hW hg hR2 (by simp [OnlyAt, srcOf, dstOf, wcells_size]) ⟨g, d8, hg, hR2⟩
    · intro A W hsz hoth hbel hX hdep
      obtain ⟨g, cs, d8, hg, hcs, hR⟩ : ∃ g cs, A.tmps.getD 13 undef = .pointer (some ⟨g, 0, none⟩) ∧ w4.heap.size ≤ g ∧ cs.size = 4 ∧ Row W g 24 cs := (by have h := hdep ⟨8, .data⟩ (by simp) rfl; exact h)
      refine kStoreRow _ _ _ _ _ _ (wcells z) rfl rfl d8 (by have h := hdep ⟨6, .data⟩ (by simp) rfl; exact h) hR (info_WideC _) (by rw [wcells_size, hcs]) (wcells_one _) ?_
      intro r hR2 hW
      exact symWN (s := 13) hbel hX rfl rfl rfl d8 hR hW hg hR2 (by simp [OnlyAt, srcOf, dstOf, wcells_size]) ⟨g, d8, hg, hR2⟩
    intro w5 hB5
    dsimp only [AllV]
    intro g5_12 hg5_12 hR5_12
    intro g5_13 hg5_13 hR5_13
    intro hap
    dsimp only [putAll]
    go_frame
    have hM5 := hM4.on hB5
    replace hM5 := hM5.cons hR5_12 (Nat.le_trans hM4.size hg5_12) (fun p hp => by have := hM4.lt hp; omega)
    have hne5_13_5_12 : g5_13 ≠ g5_12 := fun e => hap 8 (by simp) 7 (by simp) (by decide) g5_13 rfl (by rw [e]; rfl)
    replace hM5 := hM5.cons hR5_13 (Nat.le_trans hM4.size hg5_13) (List.forall_mem_cons.2 ⟨hne5_13_5_12, fun p hp => by have := hM4.lt hp; omega⟩)
    clear hB5 hM4 hg5_12 hR5_12 hg5_13 hR5_13 hap
    go_wp2_with fail
    refine region_tree (.q 1 (.two 0 (.one 2 (.one 3 (.q 4 (.q 5 (.q 6 (.one 7 .fin)))))) 2 (.one 0 (.one 3 (.q 4 (.q 5 (.q 6 (.one 7 .fin)))))))) (fun _ => True) (by kernel_rfl) (by kernel_rfl) ?_
    intro zt4 hBd hsd
    clear hsd
    have hM6 := hM5.on hBd
    clear hBd hM5
    have hS : (fun _ : World => True) zt4 := trivial
    refine tY (.int .u64 ((k : Int))) hS rfl (yMove _ (.int .u64 ((k : Int))) rfl rfl rfl) ?_; go_frame
    refine tTwoLC (.agg (wcells f)) (.agg (wcells k)) (fun zW => Mm w zW [(g5_13, 24, wcells z), (g5_12, 24, wcells f), (g4_11, 24, wcells h), (g4_10, 24, wcells a), (g3_9, 24, wcells l), (g3_8, 24, wcells q), (w1.heap.size, 24, wcells 0), (w.heap.size, 24, wcells t)]) hM6 rfl rfl rfl rfl (by decide) (fun zW hz => yLoadW _ _ _ (fun _ e => by cases e; exact hz.get 1 rfl) rfl rfl rfl) (fun zW hz => yLoadW _ _ _ (fun _ e => by cases e; exact hz.get 1 rfl) rfl rfl rfl) (fun zW hz R K => by refine kCall1 29 _ _ _ rfl rfl (by kernel_rfl) rfl ?_; refine (wOf_any k f19.out _).mono ?_; rintro e z' ⟨rfl, hB⟩; exact ⟨_, rfl, K z' (hz.on hB)⟩) (fun zW hz R K => by refine kCall1 29 _ _ _ rfl rfl (by kernel_rfl) rfl ?_; refine (wOf_any k f19.out _).mono ?_; rintro e z' ⟨rfl, hB⟩; exact ⟨_, rfl, K z' (hz.on hB)⟩) ?_
    intro zu4 hM7; clear hM6 hS; go_frame
    have hS : (fun _ : World => True) zu4 := trivial
    refine tOne rfl ?_
    refine kCall2 40 _ _ _ _ _ rfl rfl (by kernel_rfl) rfl rfl ?_
    refine (wDiv_k fM kM f41.out _).mono ?_
    rintro e zc4_3 ⟨rfl, hB⟩
    have hM8 := hM7.on hB
    clear hB hM7 hS
    have hS : (fun _ : World => True) zc4_3 := trivial
    refine ⟨_, rfl, mixOn ⟨_, (fun _ h => h), hS, ?_⟩⟩
    go_frame
    refine tY (.tuple #[.agg (wcells f2), .agg (wcells fx)]) hS rfl (yMove _ (.tuple #[.agg (wcells f2), .agg (wcells fx)]) rfl rfl rfl) ?_; go_frame
    refine tY (.agg (wcells f2)) hS rfl (yExtr _ 0 _ (.agg (wcells f2)) rfl rfl rfl rfl) ?_; go_frame
    refine tY (.agg (wcells fx)) hS rfl (yExtr _ 1 _ (.agg (wcells fx)) rfl rfl rfl rfl) ?_; go_frame
    refine tOne rfl ?_
    refine mmStoreAt hM8 1 _ _ _ _ _ _ (wcells f2) rfl rfl rfl rfl rfl (info_WideC _) (by simp only [wcells_size]) (wcells_one _) ?_
    intro zs4 hM9; dsimp only [List.set] at hM9; clear hM8 hS
    have hS : (fun _ : World => True) zs4 := trivial
    refine mixOn ⟨_, (fun _ h => h), hS, ?_⟩
    go_frame
    refine tDone ?_
    clear hS
    go_wp2_with (first
      | ((with_reducible change wpList _ _ _ (Oper.mk (some 45) _ _ _ _ _ :: _) _ _); refine kLoadRow _ _ _ _ _ _ rfl rfl rfl (hM9.get 3 rfl) Try.underlying24 rfl (info_WideC _) ?_; go_frame)
      | ((with_reducible change wpList _ _ _ (Oper.mk (some 46) _ _ _ _ _ :: _) _ _); refine kLoadRow _ _ _ _ _ _ rfl rfl rfl (hM9.get 1 rfl) Try.underlying24 rfl (info_WideC _) ?_; go_frame)
      | (go_at_call 39; (with_reducible change Calls _ _ #[Value.agg (wcells a), Value.agg (wcells f2)] _ _); refine (wAdd_k aM f2M f47.out _).mono ?_; rintro e w10 ⟨rfl, hB10⟩; have hM10 := hM9.on hB10; clear hB10 hM9; (try unfold WV); go_frame)
      | ((with_reducible change wpList _ _ _ (Oper.mk (some 14) _ _ _ _ _ :: _) _ _); refine mmAlloc hM10 _ _ rfl rfl zero_Wide ?_; intro w11 hM11; clear hM10; go_frame)
      | ((with_reducible change wpList _ _ _ (Oper.mk none (Op.store _ (Operand.tmp 14) (Operand.tmp 48)) _ _ _ _ :: _) _ _); refine mmStoreAt hM11 0 _ _ _ _ _ _ (wcells r) rfl rfl rfl rfl rfl (info_WideC _) (by simp only [wcells_size]) (wcells_one _) ?_; intro w12 hM12; dsimp only [List.set] at hM12; clear hM11; go_frame))
    refine region_mixD [(0, true), (1, true), (2, true), (3, true), (4, true), (5, true), (6, true), (7, false), (8, true)] (fun w => Row w (w10.heap.size) 24 (wcells r) ∧ Row w (g4_11) 24 (wcells h)) (by kernel_rfl) (by kernel_rfl) rfl ?_
    intro zm6 hBd hsd
    clear hsd
    have hM13 := hM12.on hBd
    clear hBd hM12
    simp only [List.map_cons, List.map_nil]
    dsimp only [List.filterMap, List.getElem?_cons_zero, List.getElem?_cons_succ]
    have hS : Row zm6 (w10.heap.size) 24 (wcells r) ∧ Row zm6 (g4_11) 24 (wcells h) := ⟨hM13.get 0 rfl, hM13.get 3 rfl⟩
    refine dY _ hS (yLoadW _ _ _ (fun _ h => h.1) rfl rfl rfl) ?_; go_frame
    refine dY _ hS (yMove _ (.bool false) rfl rfl rfl) ?_; go_frame
    refine dY _ hS (yMove _ (.bool false) rfl rfl rfl) ?_; go_frame
    refine dY _ hS (yLoadW _ _ _ (fun _ h => h.2) rfl rfl rfl) ?_; go_frame
    refine dY _ hS (yBuildW0 rfl rfl) ?_; go_frame
    refine dY _ hS (yNeqW _ _ _ h 0 g Hg.out rfl rfl rfl rfl) ?_; go_frame
    refine dY _ hS (yPick _ _ _ false (.bool g) rfl rfl rfl rfl) ?_; go_frame
    refine dLoud ?_
    refine mmStoreAt hM13 7 _ _ _ _ _ _ (wcells r) rfl rfl rfl rfl rfl (info_WideC _) (by simp only [wcells_size]) (wcells_one _) ?_
    intro zn6 hM14; dsimp only [List.set] at hM14; clear hM13 hS
    have hS : Row zn6 (w10.heap.size) 24 (wcells r) ∧ Row zn6 (g4_11) 24 (wcells h) := ⟨hM14.get 0 rfl, hM14.get 3 rfl⟩
    refine mixOn ⟨_, (fun _ h => h), hS, ?_⟩
    go_frame
    refine dY _ hS (yAssign _ (.bool g) rfl rfl rfl) ?_; go_frame
    refine dDone ?_
    clear hS
    go_wp2_with fail
    exact result_row_tmp Try.results33 rfl rfl (hM14.get 7 rfl) Try.underlying24 rfl (info_WideC _) rfl ⟨rfl, hM14.below⟩
set_option maxRecDepth 100000 in
set_option maxHeartbeats 8000000 in
theorem kNext_as {b f l r : Nat} (hb : b < 4294967296) (hf : f < 4294967296) (hl : l < 4294967296) (hr : nextN b f l = r) (w : World) : Calls Try.prog 14 #[.int .u32 (b : Int), .int .u32 (f : Int), .int .u32 (l : Int)] w fun e w' => e = .returned (.int .u32 (r : Int)) ∧ Below w.heap.size w w' := by
  by_cases h : badN b
  · have hr : r = 545259519 := by rw [← hr]; exact next_bad f l h
    subst hr
    have hM0 := mm_nil w
    (try unfold WV)
    go_enter Try.func14, Try.ntmps14
    go_wp2_with (first
      | (go_at_call 9; (with_reducible change Calls _ _ #[Value.int .u32 ((b : Int))] _ _); refine (kExpand_bad hb h _).mono ?_; rintro e w1 ⟨rfl, hB1⟩; have hM1 := hM0.on hB1; clear hB1 hM0; (try unfold WV); go_frame)
      | ((with_reducible change wpList _ _ _ (Oper.mk (some 7) _ _ _ _ _ :: _) _ _); refine mmAlloc hM1 _ _ rfl rfl zero_Wide ?_; intro w2 hM2; clear hM1; go_frame)
      | ((with_reducible change wpList _ _ _ (Oper.mk none (Op.store _ (Operand.tmp 7) (Operand.tmp 14)) _ _ _ _ :: _) _ _); refine mmStoreAt hM2 0 _ _ _ _ _ _ (wcells 0) rfl rfl rfl rfl rfl (info_WideC _) (by simp only [wcells_size]) (wcells_one _) ?_; intro w3 hM3; dsimp only [List.set] at hM3; clear hM2; go_frame)
      | ((with_reducible change wpList _ _ _ (Oper.mk (some 17) _ _ _ _ _ :: _) _ _); refine kYw (yNeqK _ _ _ _ .i64 121 0 true rfl rfl rfl rfl rfl) ?_; go_frame))
    go_ret
    exact ⟨rfl, hM3.below⟩
  · obtain ⟨h1, h2, htl⟩ := not_bad h
    obtain ⟨t, Ht⟩ : ∃ v_ : Nat, Hid (rawN b = v_) := ⟨_, Lib.hid rfl⟩
    obtain ⟨s, Hs⟩ : ∃ v_ : Nat, Hid (spanN f l = v_) := ⟨_, Lib.hid rfl⟩
    obtain ⟨E, HE⟩ : ∃ v_ : Nat, Hid (easyN = v_) := ⟨_, Lib.hid rfl⟩
    have hsl : s ≤ 16800 := by rw [← Hs.out]; exact (span_le f l).2
    have hE : E < M256 := by rw [← HE.out]; exact easy_lt
    rw [Ht.out] at htl h2
    obtain ⟨y, Hy⟩ : ∃ v_ : Nat, Hid (t * s / 4200 = v_) := ⟨_, Lib.hid rfl⟩
    obtain ⟨x, Hx⟩ : ∃ v_ : Nat, Hid (y % M256 = v_) := ⟨_, Lib.hid rfl⟩
    have hxM : x < M256 := by rw [← Hx.out]; exact Nat.mod_lt _ M256_pos
    by_cases ho : easyN < y
    · have hr : Hid (r = 545259519) := Lib.hid (by rw [← hr]; exact next_ge (by rw [Ht.out, Hs.out, Hy.out]; exact ho) h)
      replace h := Lib.hid h
      by_cases hm : M256 ≤ y
      · have f23 : Hid (decide (M256 ≤ t * s / 4200) = true) := Lib.hid (by rw [Hy.out]; simpa using hm)
        replace Hx : Hid (t * s / 4200 % M256 = x) := Lib.hid (by rw [Hy.out]; exact Hx.out)
        clear h1 h2 ho hm Hy HE
        have hM0 := mm_nil w
        (try unfold WV)
        go_enter Try.func14, Try.ntmps14
        go_wp2_with (first
          | (go_at_call 9; (with_reducible change Calls _ _ #[Value.int .u32 ((b : Int))] _ _); refine (kExpand_ok hb h.out Ht.out _).mono ?_; rintro e w1 ⟨rfl, hB1⟩; have hM1 := hM0.on hB1; clear hB1 hM0; (try unfold WV); go_frame)
          | ((with_reducible change wpList _ _ _ (Oper.mk (some 7) _ _ _ _ _ :: _) _ _); refine mmAlloc hM1 _ _ rfl rfl zero_Wide ?_; intro w2 hM2; clear hM1; go_frame)
          | ((with_reducible change wpList _ _ _ (Oper.mk none (Op.store _ (Operand.tmp 7) (Operand.tmp 14)) _ _ _ _ :: _) _ _); refine mmStoreAt hM2 0 _ _ _ _ _ _ (wcells t) rfl rfl rfl rfl rfl (info_WideC _) (by simp only [wcells_size]) (wcells_one _) ?_; intro w3 hM3; dsimp only [List.set] at hM3; clear hM2; go_frame)
          | ((with_reducible change wpList _ _ _ (Oper.mk (some 17) _ _ _ _ _ :: _) _ _); refine kYw (yNeqK _ _ _ _ .i64 0 0 false rfl rfl rfl rfl rfl) ?_; go_frame))
        refine region_sym (fun _ => 8) [.val (.agg (wcells t)), .val (.int .u32 ((f : Int))), .val (.int .u32 ((l : Int))), .val (.int .u64 ((s : Int))), .val (.tuple #[.agg (wcells x), .bool true]), .val (.tuple #[.agg (wcells x), .bool true]), .val (.agg (wcells x)), .val (.bool true), .fresh w3.heap.size 24 4, .hold w3.heap.size 24 (wcells x), .val (.bool true)] [.val (.agg (wcells t)), .val (.int .u32 ((f : Int))), .val (.int .u32 ((l : Int))), .val (.int .u64 ((s : Int))), .val (.tuple #[.agg (wcells x), .bool true]), .val (.tuple #[.agg (wcells x), .bool true]), .val (.agg (wcells x)), .val (.bool true), .hold w3.heap.size 24 (wcells x), .val undef, .val (.bool true)] (by kernel_rfl) (by kernel_rfl) rfl rfl (steps_all ⟨?_, ?_, ?_, ?_, ?_, ?_, ?_, ?_, ?_, ?_, ?_, trivial⟩) ?_
        · intro A W hsz hoth hbel hdep
          exact kLoadRow _ _ _ _ _ _ rfl rfl ((hoth 7 (free2_of (by kernel_rfl))).trans rfl) ((hM3.get 0 rfl).on hbel) Try.underlying24 rfl (info_WideC _) (symV hbel hsz rfl rfl (show 19 < 34 by decide) (Below.refl _ _) rfl)
        · intro A W hsz hoth hbel hdep
          exact kMoveV _ _ rfl rfl ((hoth 1 (free2_of (by kernel_rfl))).trans rfl) (symV hbel hsz rfl rfl (show 20 < 34 by decide) (Below.refl _ _) rfl)
        · intro A W hsz hoth hbel hdep
          exact kMoveV _ _ rfl rfl ((hoth 2 (free2_of (by kernel_rfl))).trans rfl) (symV hbel hsz rfl rfl (show 21 < 34 by decide) (Below.refl _ _) rfl)
        · intro A W hsz hoth hbel hdep
          refine kCall2 34 _ _ _ _ _ rfl rfl (by kernel_rfl) (by have h := hdep ⟨1, .data⟩ (by simp) rfl; exact h) (by have h := hdep ⟨2, .data⟩ (by simp) rfl; exact h) ?_
          refine (kTook_as hf hl Hs.out W).mono ?_
          rintro e r ⟨rfl, hBc⟩
          exact ⟨_, rfl, (symV hbel hsz rfl rfl (show 22 < 34 by decide) hBc rfl)⟩
        · intro A W hsz hoth hbel hdep
          refine kCall3 33 _ _ _ _ _ _ _ rfl rfl (by kernel_rfl) (by have h := hdep ⟨0, .data⟩ (by simp) rfl; exact h) (by have h := hdep ⟨3, .data⟩ (by simp) rfl; exact h) rfl ?_
          refine (kScaled_as (k := 4200) rfl rfl htl hsl Hx.out f23.out W).mono ?_
          rintro e r ⟨rfl, hBc⟩
          exact ⟨_, rfl, (symV hbel hsz rfl rfl (show 23 < 34 by decide) hBc rfl)⟩
        · intro A W hsz hoth hbel hdep
          exact kMoveV _ _ rfl rfl (by have h := hdep ⟨4, .data⟩ (by simp) rfl; exact h) (symV hbel hsz rfl rfl (show 18 < 34 by decide) (Below.refl _ _) rfl)
        · intro A W hsz hoth hbel hdep
          exact kExtract _ _ _ (.agg (wcells x)) rfl rfl (by have h := hdep ⟨5, .data⟩ (by simp) rfl; exact h) rfl (symV hbel hsz rfl rfl (show 24 < 34 by decide) (Below.refl _ _) rfl)
        · intro A W hsz hoth hbel hdep
          exact kExtract _ _ _ (.bool true) rfl rfl (by have h := hdep ⟨5, .data⟩ (by simp) rfl; exact h) rfl (symV hbel hsz rfl rfl (show 25 < 34 by decide) (Below.refl _ _) rfl)
        · intro A W hsz hoth hbel hdep
          refine kAllocL _ _ rfl rfl zero_Wide ?_
          intro r hR hl hBc
          exact (symV hbel hsz rfl rfl (show 9 < 34 by decide) hBc ⟨_, _, rfl, hbel.size, wcells_size _, hR⟩)
        · intro A W hsz hoth hbel hdep
          obtain ⟨g, cs, d8, hg, hcs, hR⟩ : ∃ g cs, A.tmps.getD 9 undef = .pointer (some ⟨g, 0, none⟩) ∧ w3.heap.size ≤ g ∧ cs.size = 4 ∧ Row W g 24 cs := (by have h := hdep ⟨8, .data⟩ (by simp) rfl; exact h)
          refine kStoreRow _ _ _ _ _ _ (wcells x) rfl rfl d8 (by have h := hdep ⟨6, .data⟩ (by simp) rfl; exact h) hR (info_WideC _) (by rw [wcells_size, hcs]) (wcells_one _) ?_
          intro r hR2 hW
          exact symW hbel rfl hW hg hR2 (by simp only [Singles, and_self, wcells_size]) ⟨g, d8, hg, hR2⟩
        · intro A W hsz hoth hbel hdep
          exact kAssignV _ _ rfl rfl (by have h := hdep ⟨7, .data⟩ (by simp) rfl; exact h) (symV hbel hsz rfl rfl (show 10 < 34 by decide) (Below.refl _ _) rfl)
        intro w4 hB4
        dsimp only [AllV]
        intro g4_9 hg4_9 hR4_9
        dsimp only [putAll]
        go_frame
        have hM4 := hM3.on hB4
        replace hM4 := hM4.cons hR4_9 (Nat.le_trans hM3.size hg4_9) (fun p hp => by have := hM3.lt hp; omega)
        clear hB4 hM3 hg4_9 hR4_9
        go_wp2_with fail
        refine region_symT 6 _ [] [] [.val (.bool true), .val (.bool true), .val (undef), .val (undef), .val (undef), .val (.bool true)] rfl (by kernel_rfl) (by kernel_rfl) (by kernel_rfl) (by kernel_rfl) rfl (by intro s hs; cases hs) (steps_all ⟨?_, ?_, ?_, ?_, ?_, ?_, trivial⟩) ?_
        · exact fun A W sz ot hbel ap dp => kMoveV _ _ rfl rfl (sO ot 10) (sE ap sz rfl)
        · exact fun A W sz ot hbel ap dp => kMoveV _ _ rfl rfl (sD dp 0 .data) (sE ap sz rfl)
        · exact fun A W sz ot hbel ap dp => wpList_skip (unwanted_of rfl rfl (sD dp 1 .chain) (.inl rfl)) (sE ap sz rfl)
        · exact fun A W sz ot hbel ap dp => wpList_skip (unwanted_of rfl rfl (sD dp 1 .guard) (.inl rfl)) (sE ap sz rfl)
        · exact fun A W sz ot hbel ap dp => wpList_skip (unwanted_of rfl rfl (sD dp 1 .guard) (.inl rfl)) (sE ap sz rfl)
        · exact fun A W sz ot hbel ap dp => kPick _ _ _ true (.bool true) rfl rfl (sD dp 1 .data) rfl (sE ap sz rfl)
        intro w5 hB5
        dsimp only [AllV]
        intro hap
        dsimp only [putAll, List.take, List.drop]
        go_frame
        have hM5 := hM4.on hB5
        clear hB5 hM4 hap
        go_wp2_with fail
        go_ret
        exact ⟨by rw [hr.out]; rfl, hM5.below⟩
      · have f23 : Hid (decide (M256 ≤ t * s / 4200) = false) := Lib.hid (by rw [Hy.out]; simpa using hm)
        have f30 : Hid (decide (E < x) = true) := Lib.hid (by rw [← HE.out, ← Hx.out, Nat.mod_eq_of_lt (by omega)]; simpa using ho)
        replace Hx : Hid (t * s / 4200 % M256 = x) := Lib.hid (by rw [Hy.out]; exact Hx.out)
        clear h1 h2 ho hm Hy
        have hM0 := mm_nil w
        (try unfold WV)
        go_enter Try.func14, Try.ntmps14
        go_wp2_with (first
          | (go_at_call 9; (with_reducible change Calls _ _ #[Value.int .u32 ((b : Int))] _ _); refine (kExpand_ok hb h.out Ht.out _).mono ?_; rintro e w1 ⟨rfl, hB1⟩; have hM1 := hM0.on hB1; clear hB1 hM0; (try unfold WV); go_frame)
          | ((with_reducible change wpList _ _ _ (Oper.mk (some 7) _ _ _ _ _ :: _) _ _); refine mmAlloc hM1 _ _ rfl rfl zero_Wide ?_; intro w2 hM2; clear hM1; go_frame)
          | ((with_reducible change wpList _ _ _ (Oper.mk none (Op.store _ (Operand.tmp 7) (Operand.tmp 14)) _ _ _ _ :: _) _ _); refine mmStoreAt hM2 0 _ _ _ _ _ _ (wcells t) rfl rfl rfl rfl rfl (info_WideC _) (by simp only [wcells_size]) (wcells_one _) ?_; intro w3 hM3; dsimp only [List.set] at hM3; clear hM2; go_frame)
          | ((with_reducible change wpList _ _ _ (Oper.mk (some 17) _ _ _ _ _ :: _) _ _); refine kYw (yNeqK _ _ _ _ .i64 0 0 false rfl rfl rfl rfl rfl) ?_; go_frame))
        refine region_sym (fun _ => 8) [.val (.agg (wcells t)), .val (.int .u32 ((f : Int))), .val (.int .u32 ((l : Int))), .val (.int .u64 ((s : Int))), .val (.tuple #[.agg (wcells x), .bool false]), .val (.tuple #[.agg (wcells x), .bool false]), .val (.agg (wcells x)), .val (.bool false), .fresh w3.heap.size 24 4, .hold w3.heap.size 24 (wcells x), .val (.bool false)] [.val (.agg (wcells t)), .val (.int .u32 ((f : Int))), .val (.int .u32 ((l : Int))), .val (.int .u64 ((s : Int))), .val (.tuple #[.agg (wcells x), .bool false]), .val (.tuple #[.agg (wcells x), .bool false]), .val (.agg (wcells x)), .val (.bool false), .hold w3.heap.size 24 (wcells x), .val undef, .val (.bool false)] (by kernel_rfl) (by kernel_rfl) rfl rfl (steps_all ⟨?_, ?_, ?_, ?_, ?_, ?_, ?_, ?_, ?_, ?_, ?_, trivial⟩) ?_
        · intro A W hsz hoth hbel hdep
          exact kLoadRow _ _ _ _ _ _ rfl rfl ((hoth 7 (free2_of (by kernel_rfl))).trans rfl) ((hM3.get 0 rfl).on hbel) Try.underlying24 rfl (info_WideC _) (symV hbel hsz rfl rfl (show 19 < 34 by decide) (Below.refl _ _) rfl)
        · intro A W hsz hoth hbel hdep
          exact kMoveV _ _ rfl rfl ((hoth 1 (free2_of (by kernel_rfl))).trans rfl) (symV hbel hsz rfl rfl (show 20 < 34 by decide) (Below.refl _ _) rfl)
        · intro A W hsz hoth hbel hdep
          exact kMoveV _ _ rfl rfl ((hoth 2 (free2_of (by kernel_rfl))).trans rfl) (symV hbel hsz rfl rfl (show 21 < 34 by decide) (Below.refl _ _) rfl)
        · intro A W hsz hoth hbel hdep
          refine kCall2 34 _ _ _ _ _ rfl rfl (by kernel_rfl) (by have h := hdep ⟨1, .data⟩ (by simp) rfl; exact h) (by have h := hdep ⟨2, .data⟩ (by simp) rfl; exact h) ?_
          refine (kTook_as hf hl Hs.out W).mono ?_
          rintro e r ⟨rfl, hBc⟩
          exact ⟨_, rfl, (symV hbel hsz rfl rfl (show 22 < 34 by decide) hBc rfl)⟩
        · intro A W hsz hoth hbel hdep
          refine kCall3 33 _ _ _ _ _ _ _ rfl rfl (by kernel_rfl) (by have h := hdep ⟨0, .data⟩ (by simp) rfl; exact h) (by have h := hdep ⟨3, .data⟩ (by simp) rfl; exact h) rfl ?_
          refine (kScaled_as (k := 4200) rfl rfl htl hsl Hx.out f23.out W).mono ?_
          rintro e r ⟨rfl, hBc⟩
          exact ⟨_, rfl, (symV hbel hsz rfl rfl (show 23 < 34 by decide) hBc rfl)⟩
        · intro A W hsz hoth hbel hdep
          exact kMoveV _ _ rfl rfl (by have h := hdep ⟨4, .data⟩ (by simp) rfl; exact h) (symV hbel hsz rfl rfl (show 18 < 34 by decide) (Below.refl _ _) rfl)
        · intro A W hsz hoth hbel hdep
          exact kExtract _ _ _ (.agg (wcells x)) rfl rfl (by have h := hdep ⟨5, .data⟩ (by simp) rfl; exact h) rfl (symV hbel hsz rfl rfl (show 24 < 34 by decide) (Below.refl _ _) rfl)
        · intro A W hsz hoth hbel hdep
          exact kExtract _ _ _ (.bool false) rfl rfl (by have h := hdep ⟨5, .data⟩ (by simp) rfl; exact h) rfl (symV hbel hsz rfl rfl (show 25 < 34 by decide) (Below.refl _ _) rfl)
        · intro A W hsz hoth hbel hdep
          refine kAllocL _ _ rfl rfl zero_Wide ?_
          intro r hR hl hBc
          exact (symV hbel hsz rfl rfl (show 9 < 34 by decide) hBc ⟨_, _, rfl, hbel.size, wcells_size _, hR⟩)
        · intro A W hsz hoth hbel hdep
          obtain ⟨g, cs, d8, hg, hcs, hR⟩ : ∃ g cs, A.tmps.getD 9 undef = .pointer (some ⟨g, 0, none⟩) ∧ w3.heap.size ≤ g ∧ cs.size = 4 ∧ Row W g 24 cs := (by have h := hdep ⟨8, .data⟩ (by simp) rfl; exact h)
          refine kStoreRow _ _ _ _ _ _ (wcells x) rfl rfl d8 (by have h := hdep ⟨6, .data⟩ (by simp) rfl; exact h) hR (info_WideC _) (by rw [wcells_size, hcs]) (wcells_one _) ?_
          intro r hR2 hW
          exact symW hbel rfl hW hg hR2 (by simp only [Singles, and_self, wcells_size]) ⟨g, d8, hg, hR2⟩
        · intro A W hsz hoth hbel hdep
          exact kAssignV _ _ rfl rfl (by have h := hdep ⟨7, .data⟩ (by simp) rfl; exact h) (symV hbel hsz rfl rfl (show 10 < 34 by decide) (Below.refl _ _) rfl)
        intro w4 hB4
        dsimp only [AllV]
        intro g4_9 hg4_9 hR4_9
        dsimp only [putAll]
        go_frame
        have hM4 := hM3.on hB4
        replace hM4 := hM4.cons hR4_9 (Nat.le_trans hM3.size hg4_9) (fun p hp => by have := hM3.lt hp; omega)
        clear hB4 hM3 hg4_9 hR4_9
        go_wp2_with fail
        refine region_symT 6 _ [] [] [.val (.bool false), .val (.bool false), .val (.agg (wcells E)), .val (.agg (wcells x)), .val (.bool true), .val (.bool true)] rfl (by kernel_rfl) (by kernel_rfl) (by kernel_rfl) (by kernel_rfl) rfl (by intro s hs; cases hs) (steps_all ⟨?_, ?_, ?_, ?_, ?_, ?_, trivial⟩) ?_
        · exact fun A W sz ot hbel ap dp => kMoveV _ _ rfl rfl (sO ot 10) (sE ap sz rfl)
        · exact fun A W sz ot hbel ap dp => kMoveV _ _ rfl rfl (sD dp 0 .data) (sE ap sz rfl)
        · intro A W sz ot hbel ap dp
          refine kCall0 27 _ rfl (wanted_of rfl rfl (sD dp 1 .chain)) (by kernel_rfl)  ?_
          refine (kEasiest_as HE.out W).mono ?_
          rintro e r ⟨rfl, hBc⟩
          exact ⟨_, rfl, (sV ap sz hBc rfl)⟩
        · exact fun A W sz ot hbel ap dp => kLoadRow _ _ _ _ _ _ rfl (wanted_of rfl rfl (sD dp 1 .guard)) (sO ot 9) ((hM4.get 0 rfl).on hbel) Try.underlying24 rfl (info_WideC _) (sE ap sz rfl)
        · exact fun A W sz ot hbel ap dp => sCall2 23 rfl (sD dp 2 .data) (sD dp 3 .data) (sC (wLess_k hE hxM f30.out W) ap sz (fun _ => rfl)) (wanted_of rfl rfl (sD dp 1 .guard))
        · exact fun A W sz ot hbel ap dp => kPick _ _ _ false (.bool true) rfl rfl (sD dp 1 .data) (sD dp 4 .data) (sE ap sz rfl)
        intro w5 hB5
        dsimp only [AllV]
        intro hap
        dsimp only [putAll, List.take, List.drop]
        go_frame
        have hM5 := hM4.on hB5
        clear hB5 hM4 hap
        go_wp2_with fail
        go_ret
        exact ⟨by rw [hr.out]; rfl, hM5.below⟩
    · have hle := Nat.le_of_not_lt ho
      have hyM : y < M256 := Nat.lt_of_le_of_lt hle easy_lt
      have hxy : x = y := by rw [← Hx.out, Nat.mod_eq_of_lt hyM]
      have f23 : Hid (decide (M256 ≤ t * s / 4200) = false) := Lib.hid (by rw [Hy.out]; simpa using hyM)
      have f30 : Hid (decide (E < x) = false) := Lib.hid (by rw [← HE.out, hxy]; simpa using hle)
      have f33 : Hid (compactN x = r) := Lib.hid (by rw [← hr, next_le (by rw [Ht.out, Hs.out, Hy.out]; exact hle) h, Ht.out, Hs.out, Hy.out, hxy])
      replace Hx : Hid (t * s / 4200 % M256 = x) := Lib.hid (by rw [Hy.out]; exact Hx.out)
      replace h := Lib.hid h
      clear h1 h2 ho hle hyM hxy Hy hr
      have hM0 := mm_nil w
      (try unfold WV)
      go_enter Try.func14, Try.ntmps14
      go_wp2_with (first
        | (go_at_call 9; (with_reducible change Calls _ _ #[Value.int .u32 ((b : Int))] _ _); refine (kExpand_ok hb h.out Ht.out _).mono ?_; rintro e w1 ⟨rfl, hB1⟩; have hM1 := hM0.on hB1; clear hB1 hM0; (try unfold WV); go_frame)
        | ((with_reducible change wpList _ _ _ (Oper.mk (some 7) _ _ _ _ _ :: _) _ _); refine mmAlloc hM1 _ _ rfl rfl zero_Wide ?_; intro w2 hM2; clear hM1; go_frame)
        | ((with_reducible change wpList _ _ _ (Oper.mk none (Op.store _ (Operand.tmp 7) (Operand.tmp 14)) _ _ _ _ :: _) _ _); refine mmStoreAt hM2 0 _ _ _ _ _ _ (wcells t) rfl rfl rfl rfl rfl (info_WideC _) (by simp only [wcells_size]) (wcells_one _) ?_; intro w3 hM3; dsimp only [List.set] at hM3; clear hM2; go_frame)
        | ((with_reducible change wpList _ _ _ (Oper.mk (some 17) _ _ _ _ _ :: _) _ _); refine kYw (yNeqK _ _ _ _ .i64 0 0 false rfl rfl rfl rfl rfl) ?_; go_frame))
      refine region_sym (fun _ => 8) [.val (.agg (wcells t)), .val (.int .u32 ((f : Int))), .val (.int .u32 ((l : Int))), .val (.int .u64 ((s : Int))), .val (.tuple #[.agg (wcells x), .bool false]), .val (.tuple #[.agg (wcells x), .bool false]), .val (.agg (wcells x)), .val (.bool false), .fresh w3.heap.size 24 4, .hold w3.heap.size 24 (wcells x), .val (.bool false)] [.val (.agg (wcells t)), .val (.int .u32 ((f : Int))), .val (.int .u32 ((l : Int))), .val (.int .u64 ((s : Int))), .val (.tuple #[.agg (wcells x), .bool false]), .val (.tuple #[.agg (wcells x), .bool false]), .val (.agg (wcells x)), .val (.bool false), .hold w3.heap.size 24 (wcells x), .val undef, .val (.bool false)] (by kernel_rfl) (by kernel_rfl) rfl rfl (steps_all ⟨?_, ?_, ?_, ?_, ?_, ?_, ?_, ?_, ?_, ?_, ?_, trivial⟩) ?_
      · intro A W hsz hoth hbel hdep
        exact kLoadRow _ _ _ _ _ _ rfl rfl ((hoth 7 (free2_of (by kernel_rfl))).trans rfl) ((hM3.get 0 rfl).on hbel) Try.underlying24 rfl (info_WideC _) (symV hbel hsz rfl rfl (show 19 < 34 by decide) (Below.refl _ _) rfl)
      · intro A W hsz hoth hbel hdep
        exact kMoveV _ _ rfl rfl ((hoth 1 (free2_of (by kernel_rfl))).trans rfl) (symV hbel hsz rfl rfl (show 20 < 34 by decide) (Below.refl _ _) rfl)
      · intro A W hsz hoth hbel hdep
        exact kMoveV _ _ rfl rfl ((hoth 2 (free2_of (by kernel_rfl))).trans rfl) (symV hbel hsz rfl rfl (show 21 < 34 by decide) (Below.refl _ _) rfl)
      · intro A W hsz hoth hbel hdep
        refine kCall2 34 _ _ _ _ _ rfl rfl (by kernel_rfl) (by have h := hdep ⟨1, .data⟩ (by simp) rfl; exact h) (by have h := hdep ⟨2, .data⟩ (by simp) rfl; exact h) ?_
        refine (kTook_as hf hl Hs.out W).mono ?_
        rintro e r ⟨rfl, hBc⟩
        exact ⟨_, rfl, (symV hbel hsz rfl rfl (show 22 < 34 by decide) hBc rfl)⟩
      · intro A W hsz hoth hbel hdep
        refine kCall3 33 _ _ _ _ _ _ _ rfl rfl (by kernel_rfl) (by have h := hdep ⟨0, .data⟩ (by simp) rfl; exact h) (by have h := hdep ⟨3, .data⟩ (by simp) rfl; exact h) rfl ?_
        refine (kScaled_as (k := 4200) rfl rfl htl hsl Hx.out f23.out W).mono ?_
        rintro e r ⟨rfl, hBc⟩
        exact ⟨_, rfl, (symV hbel hsz rfl rfl (show 23 < 34 by decide) hBc rfl)⟩
      · intro A W hsz hoth hbel hdep
        exact kMoveV _ _ rfl rfl (by have h := hdep ⟨4, .data⟩ (by simp) rfl; exact h) (symV hbel hsz rfl rfl (show 18 < 34 by decide) (Below.refl _ _) rfl)
      · intro A W hsz hoth hbel hdep
        exact kExtract _ _ _ (.agg (wcells x)) rfl rfl (by have h := hdep ⟨5, .data⟩ (by simp) rfl; exact h) rfl (symV hbel hsz rfl rfl (show 24 < 34 by decide) (Below.refl _ _) rfl)
      · intro A W hsz hoth hbel hdep
        exact kExtract _ _ _ (.bool false) rfl rfl (by have h := hdep ⟨5, .data⟩ (by simp) rfl; exact h) rfl (symV hbel hsz rfl rfl (show 25 < 34 by decide) (Below.refl _ _) rfl)
      · intro A W hsz hoth hbel hdep
        refine kAllocL _ _ rfl rfl zero_Wide ?_
        intro r hR hl hBc
        exact (symV hbel hsz rfl rfl (show 9 < 34 by decide) hBc ⟨_, _, rfl, hbel.size, wcells_size _, hR⟩)
      · intro A W hsz hoth hbel hdep
        obtain ⟨g, cs, d8, hg, hcs, hR⟩ : ∃ g cs, A.tmps.getD 9 undef = .pointer (some ⟨g, 0, none⟩) ∧ w3.heap.size ≤ g ∧ cs.size = 4 ∧ Row W g 24 cs := (by have h := hdep ⟨8, .data⟩ (by simp) rfl; exact h)
        refine kStoreRow _ _ _ _ _ _ (wcells x) rfl rfl d8 (by have h := hdep ⟨6, .data⟩ (by simp) rfl; exact h) hR (info_WideC _) (by rw [wcells_size, hcs]) (wcells_one _) ?_
        intro r hR2 hW
        exact symW hbel rfl hW hg hR2 (by simp only [Singles, and_self, wcells_size]) ⟨g, d8, hg, hR2⟩
      · intro A W hsz hoth hbel hdep
        exact kAssignV _ _ rfl rfl (by have h := hdep ⟨7, .data⟩ (by simp) rfl; exact h) (symV hbel hsz rfl rfl (show 10 < 34 by decide) (Below.refl _ _) rfl)
      intro w4 hB4
      dsimp only [AllV]
      intro g4_9 hg4_9 hR4_9
      dsimp only [putAll]
      go_frame
      have hM4 := hM3.on hB4
      replace hM4 := hM4.cons hR4_9 (Nat.le_trans hM3.size hg4_9) (fun p hp => by have := hM3.lt hp; omega)
      clear hB4 hM3 hg4_9 hR4_9
      go_wp2_with fail
      refine region_symT 6 _ [] [] [.val (.bool false), .val (.bool false), .val (.agg (wcells E)), .val (.agg (wcells x)), .val (.bool false), .val (.bool false)] rfl (by kernel_rfl) (by kernel_rfl) (by kernel_rfl) (by kernel_rfl) rfl (by intro s hs; cases hs) (steps_all ⟨?_, ?_, ?_, ?_, ?_, ?_, trivial⟩) ?_
      · exact fun A W sz ot hbel ap dp => kMoveV _ _ rfl rfl (sO ot 10) (sE ap sz rfl)
      · exact fun A W sz ot hbel ap dp => kMoveV _ _ rfl rfl (sD dp 0 .data) (sE ap sz rfl)
      · intro A W sz ot hbel ap dp
        refine kCall0 27 _ rfl (wanted_of rfl rfl (sD dp 1 .chain)) (by kernel_rfl)  ?_
        refine (kEasiest_as HE.out W).mono ?_
        rintro e r ⟨rfl, hBc⟩
        exact ⟨_, rfl, (sV ap sz hBc rfl)⟩
      · exact fun A W sz ot hbel ap dp => kLoadRow _ _ _ _ _ _ rfl (wanted_of rfl rfl (sD dp 1 .guard)) (sO ot 9) ((hM4.get 0 rfl).on hbel) Try.underlying24 rfl (info_WideC _) (sE ap sz rfl)
      · exact fun A W sz ot hbel ap dp => sCall2 23 rfl (sD dp 2 .data) (sD dp 3 .data) (sC (wLess_k hE hxM f30.out W) ap sz (fun _ => rfl)) (wanted_of rfl rfl (sD dp 1 .guard))
      · exact fun A W sz ot hbel ap dp => kPick _ _ _ false (.bool false) rfl rfl (sD dp 1 .data) (sD dp 4 .data) (sE ap sz rfl)
      intro w5 hB5
      dsimp only [AllV]
      intro hap
      dsimp only [putAll, List.take, List.drop]
      go_frame
      have hM5 := hM4.on hB5
      clear hB5 hM4 hap
      go_wp2_with (first
        | ((with_reducible change wpList _ _ _ (Oper.mk (some 32) _ _ _ _ _ :: _) _ _); refine kLoadRow _ _ _ _ _ _ rfl rfl rfl (hM5.get 0 rfl) Try.underlying24 rfl (info_WideC _) ?_; go_frame)
        | (go_at_call 13; (with_reducible change Calls _ _ #[Value.agg (wcells x)] _ _); refine (kCompact_as hxM f33.out _).mono ?_; rintro e w6 ⟨rfl, hB6⟩; have hM6 := hM5.on hB6; clear hB6 hM5; (try unfold WV); go_frame))
      go_ret
      exact ⟨rfl, hM6.below⟩
end Go.Proofs.Ytdeggdmoijfhdaa
