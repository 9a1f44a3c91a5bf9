/-
  Plain facts on digits: a byte's two digits, and back.
-/
import Derived.Test.YtdeggdmoijfhdaaDoorKitAll
namespace Go.Proofs.YtdeggdmoijfhdaaDoor
open Go Go.RowKit

def isDig (c : UInt8) : Bool := (decide (48 ≤ c.toNat) && decide (c.toNat ≤ 57)) || (decide (97 ≤ c.toNat) && decide (c.toNat ≤ 102))
def digV (c : UInt8) : UInt8 := if 48 ≤ c.toNat ∧ c.toNat ≤ 57 then UInt8.ofNat (c.toNat - 48) else if 97 ≤ c.toNat ∧ c.toNat ≤ 102 then UInt8.ofNat (c.toNat - 87) else 0
def mk2 (a b : UInt8) : UInt8 := UInt8.ofNat (a.toNat * 16 + b.toNat)

theorem hexd_dig (n : Nat) (h : n < 16) : isDig (hexd n) = true ∧ (digV (hexd n)).toNat = n := by
  have : ∀ k : Fin 16, isDig (hexd k.val) = true ∧ (digV (hexd k.val)).toNat = k.val := by decide +kernel
  exact this ⟨n, h⟩
theorem dig_hexd0 : ∀ k : Fin 256, isDig (UInt8.ofNat k.val) = true → hexd (digV (UInt8.ofNat k.val)).toNat = UInt8.ofNat k.val ∧ (digV (UInt8.ofNat k.val)).toNat < 16 := by decide +kernel
theorem dig_hexd (c : UInt8) (h : isDig c = true) : hexd (digV c).toNat = c ∧ (digV c).toNat < 16 := by
  have := dig_hexd0 ⟨c.toNat, c.toNat_lt⟩
  simp only [UInt8.ofNat_toNat] at this
  exact this h
theorem mk2_toNat (a b : UInt8) (ha : a.toNat < 16) (hb : b.toNat < 16) : (mk2 a b).toNat = a.toNat * 16 + b.toNat := by
  unfold mk2; rw [UInt8.toNat_ofNat']; omega
theorem mk2_pair (x : UInt8) : mk2 (digV (hexd (x.toNat / 16))) (digV (hexd (x.toNat % 16))) = x := by
  have hx := x.toNat_lt
  have h1 := (hexd_dig (x.toNat / 16) (by omega)).2
  have h2 := (hexd_dig (x.toNat % 16) (by omega)).2
  unfold mk2
  rw [h1, h2, show x.toNat / 16 * 16 + x.toNat % 16 = x.toNat by omega]
  simp
theorem pair_mk2 (a b : UInt8) (ha : isDig a = true) (hb : isDig b = true) : pairOf (mk2 (digV a) (digV b)) = [a, b] := by
  obtain ⟨h1, h2⟩ := dig_hexd a ha
  obtain ⟨h3, h4⟩ := dig_hexd b hb
  unfold pairOf
  rw [mk2_toNat _ _ h2 h4, show ((digV a).toNat * 16 + (digV b).toNat) / 16 = (digV a).toNat by omega, show ((digV a).toNat * 16 + (digV b).toNat) % 16 = (digV b).toNat by omega, h1, h3]

theorem list_at8 (l m : List UInt8) (hl : l.length = m.length) (h : ∀ j, j < l.length → at8 l j = at8 m j) : l = m := by
  apply List.ext_getElem hl
  intro j h1 h2
  have := h j h1
  rwa [at8_lt l j h1, at8_lt m j h2] at this
theorem at8_append (l m : List UInt8) (j : Nat) : at8 (l ++ m) j = if j < l.length then at8 l j else at8 m (j - l.length) := by
  unfold at8
  rw [List.getD_eq_getElem?_getD, List.getElem?_append]
  split <;> rw [List.getD_eq_getElem?_getD]
theorem textTo_at (h : List UInt8) (k i : Nat) (hi : i < k) : at8 (textTo h k) (2 * i) = hexd ((at8 h (31 - i)).toNat / 16) ∧ at8 (textTo h k) (2 * i + 1) = hexd ((at8 h (31 - i)).toNat % 16) := by
  induction k with
  | zero => omega
  | succ k ih =>
    rw [textTo_succ, at8_append, at8_append, textTo_len]
    by_cases hk : i < k
    · rw [if_pos (by omega), if_pos (by omega)]; exact ih hk
    · obtain rfl : i = k := by omega
      rw [if_neg (by omega), if_neg (by omega), show 2 * i - 2 * i = 0 by omega, show 2 * i + 1 - 2 * i = 1 by omega]
      exact ⟨rfl, rfl⟩

/-- are the first n signs digits -/
def digsTo (s : List UInt8) (n : Nat) : Bool := (List.range n).all fun j => isDig (at8 s j)
theorem digsTo_succ (s : List UInt8) (n : Nat) : digsTo s (n + 1) = (digsTo s n && isDig (at8 s n)) := by
  unfold digsTo; rw [List.range_succ, List.all_append]; simp
theorem digsTo_at (s : List UInt8) (n j : Nat) (h : digsTo s n = true) (hj : j < n) : isDig (at8 s j) = true := by
  unfold digsTo at h; exact List.all_eq_true.1 h j (List.mem_range.2 hj)
theorem digsTo_false (s : List UInt8) (n j : Nat) (hj : j < n) (h : isDig (at8 s j) = false) : digsTo s n = false := by
  unfold digsTo
  rw [← Bool.not_eq_true]
  intro e
  have := List.all_eq_true.1 e j (List.mem_range.2 hj)
  rw [h] at this; cases this
/-- is it a hash's text -/
def okHex (s : List UInt8) : Bool := decide (s.length = 64) && digsTo s 64
/-- the p-th byte of the hash that a text tells -/
def hexAt (s : List UInt8) (p : Nat) : UInt8 := mk2 (digV (at8 s (2 * (31 - p)))) (digV (at8 s (2 * (31 - p) + 1)))

theorem okHex_text (h : List UInt8) : okHex (textTo h 32) = true := by
  unfold okHex
  rw [textTo_len]
  simp only [Nat.reduceMul, decide_true, Bool.true_and]
  unfold digsTo
  rw [List.all_eq_true]
  intro j hj
  have hj' := List.mem_range.1 hj
  have ht := textTo_at h 32 (j / 2) (by omega)
  have hx := (at8 h (31 - j / 2)).toNat_lt
  rcases Nat.mod_two_eq_zero_or_one j with e | e
  · have e2 : 2 * (j / 2) = j := by omega
    rw [e2] at ht
    rw [ht.1]; exact (hexd_dig _ (by omega)).1
  · have e2 : 2 * (j / 2) + 1 = j := by omega
    rw [e2] at ht
    rw [ht.2]; exact (hexd_dig _ (by omega)).1
theorem hexAt_text (h : List UInt8) (p : Nat) (hp : p < 32) : hexAt (textTo h 32) p = at8 h p := by
  unfold hexAt
  have ht := textTo_at h 32 (31 - p) (by omega)
  rw [ht.1, ht.2, show 31 - (31 - p) = p by omega]
  exact mk2_pair _
theorem text_hexAt (s H : List UInt8) (hs : okHex s = true) (hH : ∀ p, p < 32 → at8 H p = hexAt s p) : textTo H 32 = s := by
  unfold okHex at hs
  simp only [Bool.and_eq_true, decide_eq_true_eq] at hs
  obtain ⟨hl, hd⟩ := hs
  refine list_at8 _ _ (by rw [textTo_len, hl]) fun j hj => ?_
  rw [textTo_len] at hj
  have ht := textTo_at H 32 (j / 2) (by omega)
  have hp := hH (31 - j / 2) (by omega)
  rw [hp] at ht
  have e31 : 31 - (31 - j / 2) = j / 2 := by omega
  have hpair := pair_mk2 (at8 s (2 * (j / 2))) (at8 s (2 * (j / 2) + 1)) (digsTo_at s 64 _ hd (by omega)) (digsTo_at s 64 _ hd (by omega))
  have hx : hexAt s (31 - j / 2) = mk2 (digV (at8 s (2 * (j / 2)))) (digV (at8 s (2 * (j / 2) + 1))) := by unfold hexAt; rw [e31]
  rw [← hx] at hpair
  unfold pairOf at hpair
  simp only [List.cons.injEq, and_true] at hpair
  rcases Nat.mod_two_eq_zero_or_one j with e | e
  · have e2 : 2 * (j / 2) = j := by omega
    rw [e2] at ht hpair
    rw [ht.1]; exact hpair.1
  · have e2 : 2 * (j / 2) + 1 = j := by omega
    rw [e2] at ht hpair
    rw [ht.2]; exact hpair.2

end Go.Proofs.YtdeggdmoijfhdaaDoor
