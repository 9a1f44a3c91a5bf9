/-
  Layer 12, plain: targets in four bytes and back, what is kept, how hard the next one is.
-/
import Derived.Test.YtdeggdmoijfhdaaWAll
namespace Go.Proofs.Ytdeggdmoijfhdaa
open Go

/-- the greatest target -/
def easyN : Nat := 8388607 * 256 ^ 29
/-- the number that four bytes tell -/
def rawN (b : Nat) : Nat := if b / 16777216 ≤ 3 then b % 8388608 / 256 ^ (3 - b / 16777216) else b % 8388608 * 256 ^ (b / 16777216 - 3)
def badN (b : Nat) : Prop := b / 8388608 % 2 = 1 ∨ rawN b = 0 ∨ easyN < rawN b
instance (b : Nat) : Decidable (badN b) := by unfold badN; infer_instance
def expandN (b : Nat) : Nat × Nat := if badN b then (0, 121) else (rawN b, 0)
/-- how many bytes a number has -/
def byteN (n : Nat) : Nat := (blen n + 7) / 8
/-- its three highest bytes -/
def topN (n : Nat) : Nat := if byteN n ≤ 3 then n * 256 ^ (3 - byteN n) else n / 256 ^ (byteN n - 3)
def compactN (n : Nat) : Nat := if topN n < 8388608 then topN n + 16777216 * byteN n else topN n / 256 + 16777216 * (byteN n + 1)
def workN (b : Nat) : Nat := if badN b then 0 else 2 ^ 256 / (rawN b + 1)
/-- the time that went by, as far as it counts -/
def spanN (first last : Nat) : Nat := if last < first + 1050 then 1050 else if 16800 < last - first then 16800 else last - first
def nextT (b first last : Nat) : Nat := min (rawN b * spanN first last / 4200) easyN
def nextN (b first last : Nat) : Nat := if badN b then 545259519 else compactN (nextT b first last)
theorem pow256 (n : Nat) : 256 ^ n = 2 ^ (8 * n) := by rw [Nat.pow_mul]
theorem pow256_pos (n : Nat) : 0 < 256 ^ n := Nat.pow_pos (by decide)
theorem byteN_le (n k : Nat) : byteN n ≤ k ↔ n < 256 ^ k := by
  rw [pow256, ← blen_le]; unfold byteN; omega
theorem byteN_lt (n : Nat) : n < 256 ^ byteN n := (byteN_le n _).1 (Nat.le_refl _)
theorem byteN_ge {n k : Nat} (h : k < byteN n) : 256 ^ k ≤ n := by
  apply Nat.le_of_not_lt; intro h'; have := (byteN_le n k).2 h'; omega
theorem byteN_pos {n : Nat} (h : 0 < n) : 0 < byteN n := by
  have := blen_pos n (by omega); unfold byteN; omega
theorem byteN_max {n : Nat} (h : n < 2 ^ 256) : byteN n ≤ 32 := by
  rw [byteN_le, pow256]; exact h
theorem split256 {a b : Nat} (h : a ≤ b) : 256 ^ b = 256 ^ a * 256 ^ (b - a) := by rw [← Nat.pow_add]; congr 1; omega
theorem topN_lt (n : Nat) : topN n < 16777216 := by
  unfold topN
  split
  · next h =>
    have h1 := byteN_lt n
    have h2 : 256 ^ byteN n * 256 ^ (3 - byteN n) = 256 ^ 3 := by rw [← Nat.pow_add]; congr 1; omega
    have h3 := Nat.mul_lt_mul_of_pos_right h1 (pow256_pos (3 - byteN n))
    rw [h2] at h3; exact h3
  · next h =>
    have h1 := byteN_lt n
    rw [Nat.div_lt_iff_lt_mul (pow256_pos _)]
    have h2 : 16777216 * 256 ^ (byteN n - 3) = 256 ^ byteN n := by
      rw [show (16777216 : Nat) = 256 ^ 3 by decide, ← Nat.pow_add]; congr 1; omega
    rw [h2]; exact h1
theorem topN_ge {n : Nat} (h0 : 0 < n) : 65536 ≤ topN n := by
  have hp := byteN_pos h0
  have h1 := byteN_ge (n := n) (k := byteN n - 1) (by omega)
  unfold topN
  split
  · next h =>
    have h2 : 256 ^ (byteN n - 1) * 256 ^ (3 - byteN n) = 256 ^ 2 := by rw [← Nat.pow_add]; congr 1; omega
    have h3 := Nat.mul_le_mul_right (256 ^ (3 - byteN n)) h1
    rw [h2] at h3; exact h3
  · next h =>
    rw [Nat.le_div_iff_mul_le (pow256_pos _)]
    have h2 : 65536 * 256 ^ (byteN n - 3) = 256 ^ (byteN n - 1) := by
      rw [show (65536 : Nat) = 256 ^ 2 by decide, ← Nat.pow_add]; congr 1; omega
    rw [h2]; exact h1
theorem compactN_zero : compactN 0 = 0 := by decide
theorem byteN_zero : byteN 0 = 0 := by decide
theorem byteN_step {n : Nat} (h : 0 < n) : byteN n = byteN (n / 256) + 1 := by
  have h1 : byteN (n / 256) ≤ byteN n - 1 := by
    rw [byteN_le, Nat.div_lt_iff_lt_mul (by decide), ← Nat.pow_succ, show (byteN n - 1).succ = byteN n by have := byteN_pos h; omega]
    exact byteN_lt n
  have h2 : byteN n ≤ byteN (n / 256) + 1 := by
    rw [byteN_le, Nat.pow_succ, ← Nat.div_lt_iff_lt_mul (by decide)]
    exact byteN_lt _
  have := byteN_pos h
  omega
/-- a number's bytes, the highest first -/
def beL (n : Nat) : List Nat := if n = 0 then [] else beL (n / 256) ++ [n % 256]
termination_by n
decreasing_by omega
theorem beL_zero : beL 0 = [] := by unfold beL; rfl
theorem beL_pos {n : Nat} (h : 0 < n) : beL n = beL (n / 256) ++ [n % 256] := by rw [beL, if_neg (by omega)]
theorem beL_add {x c : Nat} (hc : c < 256) : beL (256 * x + c) = if x = 0 ∧ c = 0 then [] else beL x ++ [c] := by
  split
  · next h => rw [h.1, h.2, Nat.mul_zero, Nat.add_zero, beL_zero]
  · rw [beL_pos (by omega), show (256 * x + c) / 256 = x by omega, show (256 * x + c) % 256 = c by omega]
theorem beL_len : ∀ n : Nat, (beL n).length = byteN n := by
  intro n
  induction n using Nat.strongRecOn with
  | ind n ih =>
    by_cases h : n = 0
    · subst h; rw [beL_zero, byteN_zero]; rfl
    · rw [beL_pos (by omega), List.length_append, ih (n / 256) (by omega), byteN_step (n := n) (by omega)]; rfl
theorem beL_nil {n : Nat} : beL n = [] ↔ n = 0 := by
  constructor
  · intro h
    by_cases h0 : n = 0
    · exact h0
    · rw [beL_pos (by omega)] at h; simp at h
  · rintro rfl; exact beL_zero
theorem beL_at : ∀ (n k : Nat), k < byteN n → (beL n)[k]? = some (n / 256 ^ (byteN n - 1 - k) % 256) := by
  intro n
  induction n using Nat.strongRecOn with
  | ind n ih =>
    intro k hk
    by_cases h : n = 0
    · subst h; rw [byteN_zero] at hk; omega
    · have hs := byteN_step (n := n) (by omega)
      rw [beL_pos (by omega)]
      by_cases hk2 : k < byteN (n / 256)
      · rw [List.getElem?_append_left (by rw [beL_len]; exact hk2), ih (n / 256) (by omega) k hk2, Nat.div_div_eq_div_mul, Nat.mul_comm, ← Nat.pow_succ, show (byteN (n / 256) - 1 - k).succ = byteN n - 1 - k by omega]
      · have : k = byteN (n / 256) := by omega
        subst this
        rw [List.getElem?_append_right (by rw [beL_len]; exact Nat.le_refl _), beL_len, Nat.sub_self, show byteN n - 1 - byteN (n / 256) = 0 by omega, Nat.pow_zero, Nat.div_one]; rfl
theorem beL_lt {n x : Nat} (h : x ∈ beL n) : x < 256 := by
  obtain ⟨k, hk⟩ := List.mem_iff_getElem?.1 h
  have hl := (List.getElem?_eq_some_iff.1 hk).1
  rw [beL_len] at hl
  rw [beL_at n k hl] at hk
  cases hk
  exact Nat.mod_lt _ (by decide)
/-- so many of the highest bytes, noughts behind them -/
def preN (n k : Nat) : Nat := if byteN n ≤ k then n * 256 ^ (k - byteN n) else n / 256 ^ (byteN n - k)
theorem preN_zero (n : Nat) : preN n 0 = 0 := by
  unfold preN
  by_cases h : byteN n ≤ 0
  · have h1 := (byteN_le n 0).1 h
    have : n = 0 := by simpa using h1
    subst this; rw [if_pos h, Nat.zero_mul]
  · rw [if_neg h]; exact Nat.div_eq_of_lt (byteN_lt n)
theorem preN_step (n k : Nat) : preN n (k + 1) = 256 * preN n k + (if k < byteN n then n / 256 ^ (byteN n - 1 - k) % 256 else 0) := by
  unfold preN
  by_cases h : byteN n ≤ k
  · rw [if_pos h, if_pos (by omega), if_neg (by omega), show k + 1 - byteN n = k - byteN n + 1 by omega, Nat.pow_succ, ← Nat.mul_assoc, Nat.mul_comm _ 256]; rfl
  · rw [if_neg h, if_pos (by omega : k < byteN n)]
    have e : n / 256 ^ (byteN n - k) = n / 256 ^ (byteN n - 1 - k) / 256 := by
      rw [Nat.div_div_eq_div_mul, ← Nat.pow_succ, show (byteN n - 1 - k).succ = byteN n - k by omega]
    rw [e]
    by_cases h2 : byteN n ≤ k + 1
    · rw [if_pos h2, show k + 1 - byteN n = 0 by omega, show byteN n - 1 - k = 0 by omega, Nat.pow_zero, Nat.mul_one, Nat.div_one]; omega
    · rw [if_neg h2, show byteN n - (k + 1) = byteN n - 1 - k by omega]; omega
theorem preN_three (n : Nat) : preN n 3 = topN n := rfl
/-- what four bytes keep of a number: all but so many of its lowest bytes -/
theorem raw_compact {n : Nat} (h0 : 0 < n) (h : n < 2 ^ 256) : ∃ d, compactN n < 4294967296 ∧ compactN n / 8388608 % 2 = 0 ∧ rawN (compactN n) = n / 256 ^ d * 256 ^ d ∧ (d = 0 ∨ 32768 * 256 ^ d ≤ n) ∧ (d = 0 ∨ (d = byteN n - 3 ∧ topN n < 8388608 ∨ d = byteN n - 2 ∧ 8388608 ≤ topN n)) := by
  have h1 := topN_lt n
  have h2 := topN_ge h0
  have h3 := byteN_max h
  have h4 := byteN_pos h0
  unfold compactN
  by_cases ht : topN n < 8388608
  · rw [if_pos ht]
    have e1 : (topN n + 16777216 * byteN n) / 16777216 = byteN n := by omega
    have e2 : (topN n + 16777216 * byteN n) % 8388608 = topN n := by omega
    have e3 : (topN n + 16777216 * byteN n) / 8388608 % 2 = 0 := by omega
    by_cases hb : byteN n ≤ 3
    · refine ⟨0, by omega, e3, ?_, .inl rfl, .inl rfl⟩
      unfold rawN
      rw [e1, e2, if_pos hb, Nat.pow_zero, Nat.div_one, Nat.mul_one]
      unfold topN
      rw [if_pos hb, Nat.mul_div_cancel _ (pow256_pos _)]
    · refine ⟨byteN n - 3, by omega, e3, ?_, .inr ?_, .inr (.inl ⟨rfl, ht⟩)⟩
      · unfold rawN
        rw [e1, e2, if_neg hb]
        unfold topN
        rw [if_neg hb]
      · have h5 := byteN_ge (n := n) (k := byteN n - 1) (by omega)
        rw [split256 (a := byteN n - 3) (b := byteN n - 1) (by omega), show byteN n - 1 - (byteN n - 3) = 2 by omega] at h5
        have := pow256_pos (byteN n - 3)
        omega
  · rw [if_neg ht]
    have e1 : (topN n / 256 + 16777216 * (byteN n + 1)) / 16777216 = byteN n + 1 := by omega
    have e2 : (topN n / 256 + 16777216 * (byteN n + 1)) % 8388608 = topN n / 256 := by omega
    have e3 : (topN n / 256 + 16777216 * (byteN n + 1)) / 8388608 % 2 = 0 := by omega
    by_cases hb : byteN n ≤ 2
    · refine ⟨0, by omega, e3, ?_, .inl rfl, .inl rfl⟩
      unfold rawN
      rw [e1, e2, if_pos (by omega), Nat.pow_zero, Nat.div_one, Nat.mul_one]
      unfold topN
      rw [if_pos (by omega), show 256 ^ (3 - byteN n) = 256 ^ (3 - (byteN n + 1)) * 256 by rw [← Nat.pow_succ, show (3 - (byteN n + 1)).succ = 3 - byteN n by omega], ← Nat.mul_assoc, Nat.mul_div_cancel _ (by decide), Nat.mul_div_cancel _ (pow256_pos _)]
    · have et : topN n / 256 = n / 256 ^ (byteN n - 2) := by
        unfold topN
        by_cases hb3 : byteN n ≤ 3
        · rw [if_pos hb3, show byteN n = 3 by omega]; simp
        · rw [if_neg hb3, Nat.div_div_eq_div_mul, ← Nat.pow_succ, show (byteN n - 3).succ = byteN n - 2 by omega]
      refine ⟨byteN n - 2, by omega, e3, ?_, .inr ?_, .inr (.inr ⟨rfl, by omega⟩)⟩
      · unfold rawN
        rw [e1, e2, if_neg (by omega), et, show byteN n + 1 - 3 = byteN n - 2 by omega]
      · have h5 : 32768 ≤ topN n / 256 := by omega
        rw [et, Nat.le_div_iff_mul_le (pow256_pos _)] at h5
        exact h5
theorem raw_exact {m k : Nat} (hm : m < 8388608) (h0 : 0 < m * 256 ^ k) (h : m * 256 ^ k < 2 ^ 256) : rawN (compactN (m * 256 ^ k)) = m * 256 ^ k := by
  obtain ⟨d, -, -, e, -, hd⟩ := raw_compact h0 h
  rw [e]
  have hdk : d ≤ k := by
    have hb : byteN (m * 256 ^ k) ≤ k + 3 := by
      rw [byteN_le, Nat.pow_add, Nat.mul_comm]
      exact Nat.mul_lt_mul_of_pos_left (by omega) (pow256_pos k)
    rcases hd with rfl | ⟨rfl, -⟩ | ⟨rfl, ht⟩
    · omega
    · omega
    · apply Nat.le_of_not_lt
      intro hk
      have hbk : byteN (m * 256 ^ k) = k + 3 := by omega
      have : topN (m * 256 ^ k) = m := by
        unfold topN
        rw [hbk]
        by_cases h3 : k + 3 ≤ 3
        · have : k = 0 := by omega
          subst this; simp
        · rw [if_neg h3, show k + 3 - 3 = k by omega, Nat.mul_div_cancel _ (pow256_pos _)]
      omega
  rw [split256 hdk, Nat.mul_comm (256 ^ d), ← Nat.mul_assoc, Nat.mul_div_cancel _ (pow256_pos _)]
theorem easy_lt : easyN < 2 ^ 256 := by decide
theorem not_bad {b : Nat} (h : ¬ badN b) : b / 8388608 % 2 = 0 ∧ 0 < rawN b ∧ rawN b ≤ easyN := by
  unfold badN at h; omega
theorem raw_form (b : Nat) : ∃ m k, rawN b = m * 256 ^ k ∧ m < 8388608 := by
  have h := Nat.mod_lt b (show 0 < 8388608 by decide)
  unfold rawN
  split
  · exact ⟨_, 0, by rw [Nat.pow_zero, Nat.mul_one], Nat.lt_of_le_of_lt (Nat.div_le_self _ _) h⟩
  · exact ⟨_, _, rfl, h⟩
/-- of a target that came of four bytes nothing is lost -/
theorem compact_back {b : Nat} (h : ¬ badN b) : ¬ badN (compactN (rawN b)) ∧ rawN (compactN (rawN b)) = rawN b := by
  obtain ⟨h1, h2, h3⟩ := not_bad h
  obtain ⟨m, k, e, hm⟩ := raw_form b
  have hl := Nat.lt_of_le_of_lt h3 easy_lt
  have e2 : rawN (compactN (rawN b)) = rawN b := by rw [e] at h2 hl ⊢; exact raw_exact hm h2 hl
  obtain ⟨d, -, hs, -⟩ := raw_compact h2 hl
  exact ⟨by unfold badN; omega, e2⟩
/-- any target in four bytes and back -/
theorem compact_keeps {n : Nat} (h0 : 0 < n) (h : n ≤ easyN) : ¬ badN (compactN n) ∧ rawN (compactN n) ≤ n ∧ blen (rawN (compactN n)) = blen n ∧ blen (n - rawN (compactN n)) ≤ blen n - 15 := by
  obtain ⟨d, -, hs, e, hd, -⟩ := raw_compact h0 (Nat.lt_of_le_of_lt h easy_lt)
  have hle : rawN (compactN n) ≤ n := by rw [e]; exact Nat.div_mul_le_self _ _
  have hge := blen_ge n (by omega)
  have hlt := blen_lt n
  have hdb : d = 0 ∨ 8 * d + 15 < blen n := by
    rcases hd with hd | hd
    · exact .inl hd
    · right
      apply Nat.lt_of_not_le
      intro hh
      have := (blen_le n (8 * d + 15)).1 hh
      rw [Nat.pow_add, ← pow256] at this
      omega
  have hpw : 2 ^ (blen n - 1) ≤ rawN (compactN n) := by
    rw [e]
    have : 2 ^ (blen n - 1) = 2 ^ (blen n - 1 - 8 * d) * 256 ^ d := by
      rw [pow256, ← Nat.pow_add]; congr 1; omega
    rw [this]
    refine Nat.mul_le_mul_right _ ?_
    rw [Nat.le_div_iff_mul_le (pow256_pos _), ← this]; exact hge
  have hpos : 0 < rawN (compactN n) := Nat.lt_of_lt_of_le (Nat.pow_pos (by decide)) hpw
  refine ⟨by unfold badN; omega, hle, blen_unique _ _ (Nat.lt_of_le_of_lt hle hlt) (.inr hpw), ?_⟩
  rw [blen_le]
  have hm : n - rawN (compactN n) = n % 256 ^ d := by
    rw [e]; have := Nat.div_add_mod n (256 ^ d); rw [Nat.mul_comm] at this; omega
  rw [hm]
  rcases hdb with rfl | hdb
  · rw [Nat.pow_zero, Nat.mod_one]; exact Nat.pow_pos (by decide)
  · refine Nat.lt_of_lt_of_le (Nat.mod_lt _ (pow256_pos d)) ?_
    rw [pow256]; exact Nat.pow_le_pow_right (by decide) (by omega)
/-- of two targets the less one is more work -/
theorem work_less {a b : Nat} (ha : ¬ badN a) (hb : ¬ badN b) (h : rawN a < rawN b) : workN b ≤ workN a := by
  unfold workN
  rw [if_neg ha, if_neg hb]
  exact Nat.div_le_div_left (by omega) (by omega)
theorem span_le (f l : Nat) : 1050 ≤ spanN f l ∧ spanN f l ≤ 16800 := by
  unfold spanN; split
  · omega
  · split <;> omega
/-- the next target: four times harder or easier at most -/
theorem next_bounds {b : Nat} (f l : Nat) (h : ¬ badN b) : nextT b f l ≤ easyN ∧ (nextT b f l = 0 → blen (rawN b) ≤ 2) ∧ blen (nextT b f l) ≤ blen (rawN b) + 2 ∧ blen (rawN b) ≤ blen (nextT b f l) + 2 := by
  obtain ⟨-, h1, h2⟩ := not_bad h
  obtain ⟨s1, s2⟩ := span_le f l
  have hx : rawN b * 1050 ≤ rawN b * spanN f l ∧ rawN b * spanN f l ≤ rawN b * 16800 := ⟨Nat.mul_le_mul_left _ s1, Nat.mul_le_mul_left _ s2⟩
  have hy : rawN b / 4 ≤ nextT b f l ∧ nextT b f l ≤ rawN b * 4 ∧ nextT b f l ≤ easyN := by unfold nextT; omega
  generalize nextT b f l = y at hy
  have hr := blen_lt (rawN b)
  have hb := blen_lt y
  refine ⟨hy.2.2, fun h0 => (blen_le _ 2).2 (by omega), (blen_le _ _).2 ?_, (blen_le _ _).2 ?_⟩
  · rw [Nat.pow_add]; omega
  · rw [Nat.pow_add]; omega
end Go.Proofs.Ytdeggdmoijfhdaa
