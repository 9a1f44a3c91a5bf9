/-
  My kit: numbers of 32 bits in 64.
-/
import Derived.Test.YtnaclalbeocpkaaDoorRefPad
import Derived.Test.YtnaclalbeocpkaaDoorKitAll
namespace Go.Proofs.YtnaclalbeocpkaaDoor
open Go Go.RowKit

theorem bxor64 (a b : UInt32) : bits .xor .u64 (I a) (I b) = I (a ^^^ b) := by
  have ha := a.toNat_lt; have hb := b.toNat_lt
  unfold I; rw [u64_xor_nat _ _ (by omega) (by omega), UInt32.toNat_xor]
theorem band64 (a b : UInt32) : bits .and .u64 (I a) (I b) = I (a &&& b) := by
  have ha := a.toNat_lt; have hb := b.toNat_lt
  unfold I; rw [u64_and_nat _ _ (by omega) (by omega), UInt32.toNat_and]
theorem bnot64 (a : UInt32) : 4294967295 - I a = I (~~~a) := by
  have ha := a.toNat_lt
  unfold I
  rw [UInt32.toNat_not, show UInt32.size = 4294967296 from rfl]
  omega
theorem tmod_sum2 (a b : UInt32) : (I a + I b).tmod 4294967296 = I (a + b) := by
  unfold I; rw [Int.tmod_eq_emod_of_nonneg (by omega), UInt32.toNat_add]; omega
theorem tmod_sum3 (a b c : UInt32) : (I a + I b + I c).tmod 4294967296 = I (a + (b + c)) := by
  unfold I; rw [Int.tmod_eq_emod_of_nonneg (by omega), UInt32.toNat_add, UInt32.toNat_add]; omega
theorem tmod_sum4 (a p b q : UInt32) : (I a + I p + I b + I q).tmod 4294967296 = I (a + b + p + q) := by
  unfold I; rw [Int.tmod_eq_emod_of_nonneg (by omega), UInt32.toNat_add, UInt32.toNat_add, UInt32.toNat_add]; omega
theorem tmod_sum5 (a b c d e : UInt32) : (I a + I b + I c + I d + I e).tmod 4294967296 = I (a + b + c + d + e) := by
  unfold I; rw [Int.tmod_eq_emod_of_nonneg (by omega), UInt32.toNat_add, UInt32.toNat_add, UInt32.toNat_add, UInt32.toNat_add]; omega

theorem u64Info0 : (Tryd.prog.info? 75).map (fun i => (i.zero, i.size, i.bytes)) = some (some (.int .u64 0), 1, 8) := by kernel_rfl
theorem u64Info : ∃ i, Tryd.prog.info? 75 = some i ∧ i.zero = some (.int .u64 0) ∧ i.size = 1 ∧ i.bytes = 8 := by
  have h := u64Info0
  cases hq : Tryd.prog.info? 75 with
  | none => rw [hq] at h; cases h
  | some i => rw [hq] at h; simp at h; exact ⟨i, rfl, h.1, h.2.1, h.2.2⟩
theorem v64_one (l : List UInt32) : ∀ u ∈ l.map V64, u.oneCell' = true := fun u hu => by simp at hu; obtain ⟨b, _, rfl⟩ := hu; rfl

/-! ### the row of 64 numbers -/
theorem extW_prefix (l : List UInt32) (n m : Nat) (h : n ≤ m) : ∃ t, extW l m = extW l n ++ t := by
  induction m with
  | zero =>
    obtain rfl : n = 0 := by omega
    exact ⟨[], by simp⟩
  | succ m ih =>
    by_cases e : n = m + 1
    · subst e; exact ⟨[], by simp⟩
    · obtain ⟨t, ht⟩ := ih (by omega)
      exact ⟨t ++ [nextW (extW l m)], by simp [extW, ht]⟩
theorem sched_len (bs : List UInt8) : (sched bs).length = 64 := by unfold sched; rw [extW_length, words_length]
theorem sched_low (bs : List UInt8) (i : Nat) (hi : i < 16) : at32 (sched bs) i = part bs 64 i := by
  obtain ⟨t, ht⟩ := extW_prefix (words bs) 0 48 (by omega)
  unfold sched at32
  rw [ht, List.getD_eq_getElem?_getD, List.getElem?_append_left (by simp [extW, words_length]; exact hi)]
  simp [extW, words, hi]
theorem sched_at (bs : List UInt8) (n i : Nat) (hn : n ≤ 48) (hi : i < 16 + n) : at32 (sched bs) i = at32 (extW (words bs) n) i := by
  obtain ⟨t, ht⟩ := extW_prefix (words bs) n 48 hn
  unfold sched at32
  rw [ht, List.getD_eq_getElem?_getD, List.getElem?_append_left (by rw [extW_length, words_length]; exact hi), List.getD_eq_getElem?_getD]
theorem sched_next (bs : List UInt8) (i : Nat) (h1 : 16 ≤ i) (h2 : i < 64) :
    at32 (sched bs) (i - 16) + at32 (sched bs) (i - 7) + sS0 (at32 (sched bs) (i - 15)) + sS1 (at32 (sched bs) (i - 2)) = at32 (sched bs) i := by
  have hl : (extW (words bs) (i - 16)).length = i := by rw [extW_length, words_length]; omega
  rw [sched_at bs (i - 16) (i - 16) (by omega) (by omega), sched_at bs (i - 16) (i - 7) (by omega) (by omega), sched_at bs (i - 16) (i - 15) (by omega) (by omega), sched_at bs (i - 16) (i - 2) (by omega) (by omega),
    sched_at bs (i - 15) i (by omega) (by omega), show i - 15 = (i - 16) + 1 by omega]
  unfold at32
  rw [extW, List.getD_eq_getElem?_getD (l := _ ++ _), List.getElem?_append_right (by omega), hl]
  simp only [Nat.sub_self, List.getElem?_cons_zero, Option.getD_some]
  unfold nextW
  rw [hl, show i - 16 + 1 = i - 15 by omega]
theorem sched_take (bs : List UInt8) (i : Nat) (h : i < 64) : (sched bs).take (i + 1) = (sched bs).take i ++ [at32 (sched bs) i] := by
  rw [List.take_succ_eq_append_getElem (by rw [sched_len]; exact h)]
  simp [at32, sched_len, h]
theorem sched_vals (bs : List UInt8) (i j : Nat) (h : i ≤ 64) (hj : j < i) : (((sched bs).take i).map V64)[j]? = some (V64 (at32 (sched bs) j)) := by
  have : j < (sched bs).length := by rw [sched_len]; omega
  simp [at32, hj, this]
end Go.Proofs.YtnaclalbeocpkaaDoor
