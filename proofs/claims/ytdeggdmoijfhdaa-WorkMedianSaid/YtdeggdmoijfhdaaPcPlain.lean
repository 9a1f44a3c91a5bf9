/-
  Layer 6, plainly: numbers and texts as bytes, how they are read, and that one undoes the other. No walk here, no program.
-/
import Derived.Test.YtdeggdmoijfhdaaLawBase
namespace Go.Proofs.Ytdeggdmoijfhdaa

/-- a number in so many bytes, the lowest first -/
def fixedL (n : Nat) : Nat → List UInt8
  | 0 => []
  | k + 1 => UInt8.ofNat (n % 256) :: fixedL (n / 256) k
/-- the number of bytes, the lowest first -/
def numL : List UInt8 → Nat
  | [] => 0
  | x :: l => x.toNat + 256 * numL l
theorem fixedL_len (n k : Nat) : (fixedL n k).length = k := by
  induction k generalizing n with
  | zero => rfl
  | succ k ih => show (fixedL (n / 256) k).length + 1 = _; rw [ih]
theorem numL_lt (l : List UInt8) : numL l < 256 ^ l.length := by
  induction l with
  | nil => decide
  | cons x l ih =>
    have hx := x.toNat_lt
    show x.toNat + 256 * numL l < 256 ^ (l.length + 1)
    rw [Nat.pow_succ]; omega
theorem u8_nat {k : Nat} (h : k < 256) : (UInt8.ofNat k).toNat = k := by
  rw [UInt8.toNat_ofNat']; exact Nat.mod_eq_of_lt h
theorem numL_fixed (n k : Nat) : numL (fixedL n k) = n % 256 ^ k := by
  induction k generalizing n with
  | zero => show 0 = _; rw [Nat.pow_zero, Nat.mod_one]
  | succ k ih =>
    show (UInt8.ofNat (n % 256)).toNat + 256 * numL (fixedL (n / 256) k) = _
    rw [u8_nat (Nat.mod_lt _ (by decide)), ih, Nat.pow_succ, Nat.mul_comm (256 ^ k), Nat.mod_mul]
theorem fixed_num (l : List UInt8) : fixedL (numL l) l.length = l := by
  induction l with
  | nil => rfl
  | cons x l ih =>
    have hx := x.toNat_lt
    show UInt8.ofNat ((x.toNat + 256 * numL l) % 256) :: fixedL ((x.toNat + 256 * numL l) / 256) l.length = _
    rw [show (x.toNat + 256 * numL l) % 256 = x.toNat by omega, show (x.toNat + 256 * numL l) / 256 = numL l by omega, ih, UInt8.ofNat_toNat]
theorem numL_own {n k : Nat} (h : n < 256 ^ k) : numL (fixedL n k) = n := by rw [numL_fixed, Nat.mod_eq_of_lt h]

theorem numL_snoc (l : List UInt8) (c : UInt8) : numL (l ++ [c]) = numL l + c.toNat * 256 ^ l.length := by
  induction l with
  | nil => simp [numL]
  | cons x l ih =>
    show x.toNat + 256 * numL (l ++ [c]) = x.toNat + 256 * numL l + c.toNat * 256 ^ (l.length + 1)
    rw [ih, Nat.pow_succ, Nat.mul_add, ← Nat.mul_assoc, ← Nat.mul_assoc, Nat.mul_comm 256 c.toNat, Nat.mul_right_comm]; omega
theorem numL_take (l : List UInt8) (k : Nat) (hk : k < l.length) : numL (l.take (k + 1)) = numL (l.take k) + l[k].toNat * 256 ^ k := by
  rw [List.take_succ_eq_append_getElem hk, numL_snoc, List.length_take, Nat.min_eq_left (by omega)]
theorem numL_lt64 (l : List UInt8) (h : l.length ≤ 8) : numL l < 18446744073709551616 := by
  have h1 := numL_lt l
  have h2 : 256 ^ l.length ≤ 256 ^ 8 := Nat.pow_le_pow_right (by decide) h
  have e8 : (256 : Nat) ^ 8 = 18446744073709551616 := by decide
  omega

/-- how many bytes a count has behind its first -/
def cSize (n : Nat) : Nat := if n ≤ 252 then 0 else if n ≤ 65535 then 2 else if n ≤ 4294967295 then 4 else 8
/-- a number in as many bytes as it needs -/
def countL (n : Nat) : List UInt8 :=
  if n ≤ 252 then [UInt8.ofNat n] else if n ≤ 65535 then 253 :: fixedL n 2 else if n ≤ 4294967295 then 254 :: fixedL n 4 else 255 :: fixedL n 8
theorem countL_len (n : Nat) : (countL n).length = cSize n + 1 := by
  unfold countL cSize
  split
  · rfl
  · split
    · rw [List.length_cons, fixedL_len]
    · split <;> rw [List.length_cons, fixedL_len]
/-- how many bytes a count's first byte announces -/
def fSize (c : UInt8) : Nat := if c.toNat ≤ 252 then 0 else if c.toNat = 253 then 2 else if c.toNat = 254 then 4 else 8
def textL (x : List UInt8) : List UInt8 := countL x.length ++ x
/-- what a count's bytes are: the first one, and its number behind it -/
theorem countL_cons {n : Nat} (hn : n < 18446744073709551616) : ∃ c r, countL n = c :: r ∧ fSize c = cSize n ∧ r.length = cSize n ∧ (if cSize n = 0 then c.toNat else numL r) = n := by
  unfold countL cSize
  split
  · rename_i h
    refine ⟨_, _, rfl, ?_, rfl, ?_⟩
    · unfold fSize; rw [u8_nat (by omega), if_pos h]
    · rw [if_pos rfl, u8_nat (by omega)]
  · split
    · exact ⟨_, _, rfl, by decide, fixedL_len _ _, by rw [if_neg (by decide)]; exact numL_own (by omega)⟩
    · split
      · exact ⟨_, _, rfl, by decide, fixedL_len _ _, by rw [if_neg (by decide)]; exact numL_own (by omega)⟩
      · exact ⟨_, _, rfl, by decide, fixedL_len _ _, by rw [if_neg (by decide)]; exact numL_own (by omega)⟩

/-- bytes that are read: those that are left, and the error's number -/
structure Scn where
  rest : List UInt8
  err : Nat
def clampS (z : Int) : Nat := (max 0 (min z 8)).toNat
def rawS (s : Scn) (n : Int) : List UInt8 × Scn :=
  if s.err ≠ 0 ∨ n < 1 then ([], s) else if (s.rest.length : Int) < n then ([], ⟨s.rest, 61⟩) else (s.rest.take n.toNat, ⟨s.rest.drop n.toNat, 0⟩)
def fixedS (s : Scn) (z : Int) : Nat × Scn := (numL (rawS s (clampS z : Int)).1, (rawS s (clampS z : Int)).2)
def countS (s : Scn) (most : Nat) : Nat × Scn :=
  if s.err ≠ 0 then (0, s) else match s.rest with
    | [] => (0, ⟨s.rest, 61⟩)
    | c :: r => if r.length < fSize c then (0, ⟨s.rest, 61⟩) else
        if cSize (if fSize c = 0 then c.toNat else numL (r.take (fSize c))) ≠ fSize c ∨ most < (if fSize c = 0 then c.toNat else numL (r.take (fSize c))) then (0, ⟨s.rest, 62⟩)
        else (if fSize c = 0 then c.toNat else numL (r.take (fSize c)), ⟨r.drop (fSize c), 0⟩)
def textS (s : Scn) (most : Int) : List UInt8 × Scn :=
  if (countS s most.toNat).2.err ≠ 0 then ([], (countS s most.toNat).2)
  else if (countS s most.toNat).2.rest.length < (countS s most.toNat).1 then ([], ⟨s.rest, 61⟩)
  else ((countS s most.toNat).2.rest.take (countS s most.toNat).1, ⟨(countS s most.toNat).2.rest.drop (countS s most.toNat).1, 0⟩)

/-! ### what is written is read -/
theorem raw_back (x r : List UInt8) : rawS ⟨x ++ r, 0⟩ (x.length : Int) = (x, ⟨r, 0⟩) := by
  unfold rawS
  by_cases h : x = []
  · subst h; rw [if_pos (.inr (by simp))]; rfl
  · have hl : 0 < x.length := List.length_pos_iff.2 h
    rw [if_neg (by simp; omega), if_neg (by simp; omega), Int.toNat_natCast, List.take_left, List.drop_left]
theorem fixed_back (n k : Nat) (hk : k ≤ 8) (r : List UInt8) : fixedS ⟨fixedL n k ++ r, 0⟩ (k : Int) = (n % 256 ^ k, ⟨r, 0⟩) := by
  have hc : clampS (k : Int) = (fixedL n k).length := by rw [fixedL_len]; unfold clampS; omega
  unfold fixedS
  rw [hc, raw_back, numL_fixed]
theorem countS_cons (c : UInt8) (r : List UInt8) (most : Nat) : countS ⟨c :: r, 0⟩ most = if r.length < fSize c then (0, ⟨c :: r, 61⟩) else
        if cSize (if fSize c = 0 then c.toNat else numL (r.take (fSize c))) ≠ fSize c ∨ most < (if fSize c = 0 then c.toNat else numL (r.take (fSize c))) then (0, ⟨c :: r, 62⟩)
        else (if fSize c = 0 then c.toNat else numL (r.take (fSize c)), ⟨r.drop (fSize c), 0⟩) := by
  unfold countS; rw [if_neg (by simp)]
theorem count_back {n : Nat} (hn : n < 18446744073709551616) {most : Nat} (hm : n ≤ most) (r : List UInt8) : countS ⟨countL n ++ r, 0⟩ most = (n, ⟨r, 0⟩) := by
  obtain ⟨c, q, e, h1, h2, h3⟩ := countL_cons hn
  have ht : (q ++ r).take (cSize n) = q := by rw [← h2]; exact List.take_left
  have hd : (q ++ r).drop (cSize n) = r := by rw [← h2]; exact List.drop_left
  rw [e, List.cons_append, countS_cons, h1, ht, hd, h3, if_neg (by rw [List.length_append, h2]; omega), if_neg (by simp; omega)]
theorem text_back {x : List UInt8} {most : Nat} (hx : x.length ≤ most) (hl : x.length < 18446744073709551616) (r : List UInt8) : textS ⟨textL x ++ r, 0⟩ (most : Int) = (x, ⟨r, 0⟩) := by
  unfold textS textL
  rw [Int.toNat_natCast, List.append_assoc, count_back hl hx, if_neg (by simp), if_neg (by simp), List.take_left, List.drop_left]
/-- a count that is read is written as the bytes that were read -/
theorem count_alone {b : List UInt8} {most n : Nat} {s : Scn} (h : countS ⟨b, 0⟩ most = (n, s)) (he : s.err = 0) : n ≤ most ∧ n < 18446744073709551616 ∧ countL n ++ s.rest = b := by
  cases b with
  | nil => unfold countS at h; simp at h; rw [← h.2] at he; cases he
  | cons c r =>
    rw [countS_cons] at h
    by_cases h1 : r.length < fSize c
    · rw [if_pos h1] at h; simp only [Prod.mk.injEq] at h; rw [← h.2] at he; cases he
    · rw [if_neg h1] at h
      by_cases h2 : cSize (if fSize c = 0 then c.toNat else numL (r.take (fSize c))) ≠ fSize c ∨ most < (if fSize c = 0 then c.toNat else numL (r.take (fSize c)))
      · rw [if_pos h2] at h; simp only [Prod.mk.injEq] at h; rw [← h.2] at he; cases he
      · rw [if_neg h2] at h
        simp only [Prod.mk.injEq] at h
        obtain ⟨h3, rfl⟩ := h
        rw [h3, not_or, Nat.not_lt, ne_eq, Classical.not_not] at h2
        obtain ⟨h4, h5⟩ := h2
        have hlt : numL (r.take (fSize c)) < 256 ^ fSize c := by
          have := numL_lt (r.take (fSize c))
          rwa [List.length_take, Nat.min_eq_left (by omega)] at this
        have hc := c.toNat_lt
        have hrest : r.take (fSize c) ++ r.drop (fSize c) = r := List.take_append_drop ..
        have hfix : fixedL (numL (r.take (fSize c))) (fSize c) = r.take (fSize c) := by
          have := fixed_num (r.take (fSize c))
          rwa [List.length_take, Nat.min_eq_left (by omega)] at this
        refine ⟨h5, ?_, ?_⟩
        · rw [← h3]
          split
          · omega
          · have h8 : fSize c ≤ 8 := by unfold fSize; split <;> (try split) <;> (try split) <;> decide
            have : 256 ^ fSize c ≤ 256 ^ 8 := Nat.pow_le_pow_right (by decide) h8
            have e8 : (256 : Nat) ^ 8 = 18446744073709551616 := by decide
            omega
        · show countL n ++ r.drop (fSize c) = c :: r
          -- by the first byte
          by_cases k0 : c.toNat ≤ 252
          · have ef : fSize c = 0 := by unfold fSize; rw [if_pos k0]
            rw [ef, if_pos rfl] at h3
            rw [ef, List.drop_zero, ← h3]
            unfold countL
            rw [if_pos k0, UInt8.ofNat_toNat]; rfl
          · by_cases k1 : c.toNat = 253
            · have ef : fSize c = 2 := by unfold fSize; rw [if_neg k0, if_pos k1]
              have ec : c = 253 := UInt8.toNat_inj.1 k1
              rw [ef] at h3 h4 hrest hfix ⊢
              rw [if_neg (by decide)] at h3
              have hn : ¬ n ≤ 252 ∧ n ≤ 65535 := by
                unfold cSize at h4
                split at h4
                · cases h4
                · split at h4
                  · exact ⟨by assumption, by assumption⟩
                  · split at h4 <;> cases h4
              unfold countL
              rw [if_neg hn.1, if_pos hn.2, ec, ← h3, hfix, List.cons_append, hrest]
            · by_cases k2 : c.toNat = 254
              · have ef : fSize c = 4 := by unfold fSize; rw [if_neg k0, if_neg k1, if_pos k2]
                have ec : c = 254 := UInt8.toNat_inj.1 k2
                rw [ef] at h3 h4 hrest hfix ⊢
                rw [if_neg (by decide)] at h3
                have hn : ¬ n ≤ 252 ∧ ¬ n ≤ 65535 ∧ n ≤ 4294967295 := by
                  unfold cSize at h4
                  split at h4
                  · cases h4
                  · split at h4
                    · cases h4
                    · split at h4
                      · exact ⟨by assumption, by assumption, by assumption⟩
                      · cases h4
                unfold countL
                rw [if_neg hn.1, if_neg hn.2.1, if_pos hn.2.2, ec, ← h3, hfix, List.cons_append, hrest]
              · have ef : fSize c = 8 := by unfold fSize; rw [if_neg k0, if_neg k1, if_neg k2]
                have ec : c = 255 := UInt8.toNat_inj.1 (show c.toNat = 255 by omega)
                rw [ef] at h3 h4 hrest hfix ⊢
                rw [if_neg (by decide)] at h3
                have hn : ¬ n ≤ 252 ∧ ¬ n ≤ 65535 ∧ ¬ n ≤ 4294967295 := by
                  unfold cSize at h4
                  split at h4
                  · cases h4
                  · split at h4
                    · cases h4
                    · split at h4
                      · cases h4
                      · exact ⟨by assumption, by assumption, by assumption⟩
                unfold countL
                rw [if_neg hn.1, if_neg hn.2.1, if_neg hn.2.2, ec, ← h3, hfix, List.cons_append, hrest]

/-! ### cut off -/
theorem raw_bad {s : Scn} (h : s.err ≠ 0) (n : Int) : rawS s n = ([], s) := by unfold rawS; rw [if_pos (.inl h)]
theorem fixed_bad {s : Scn} (h : s.err ≠ 0) (z : Int) : fixedS s z = (0, s) := by unfold fixedS; rw [raw_bad h]; rfl
theorem count_bad {s : Scn} (h : s.err ≠ 0) (m : Nat) : countS s m = (0, s) := by unfold countS; rw [if_pos h]
theorem text_bad {s : Scn} (h : s.err ≠ 0) (m : Int) : textS s m = ([], s) := by unfold textS; rw [count_bad h, if_pos h]
/-- a count of which something is missing -/
theorem count_short {n : Nat} (hn : n < 18446744073709551616) {most cut : Nat} (hc : cut < (countL n).length) : (countS ⟨(countL n).take cut, 0⟩ most).2.err = 61 := by
  obtain ⟨c, q, e, h1, h2, h3⟩ := countL_cons hn
  rw [e] at hc ⊢
  cases cut with
  | zero => unfold countS; rw [if_neg (by simp)]; rfl
  | succ k =>
    rw [List.take_succ_cons, countS_cons, if_pos]
    rw [List.length_take, h1, ← h2]
    simp at hc; omega
theorem take_over {α : Type} (a b : List α) (k : Nat) (h : a.length ≤ k) : (a ++ b).take k = a ++ b.take (k - a.length) := by
  rw [List.take_append, List.take_of_length_le h]
theorem take_under {α : Type} (a b : List α) (k : Nat) (h : k ≤ a.length) : (a ++ b).take k = a.take k := by
  rw [List.take_append, show k - a.length = 0 by omega, List.take_zero, List.append_nil]
/-- a text of which something is missing -/
theorem text_short {x : List UInt8} {most cut : Nat} (hx : x.length ≤ most) (hl : x.length < 18446744073709551616) (hc : cut < (textL x).length) : (textS ⟨(textL x).take cut, 0⟩ (most : Int)).2.err = 61 := by
  unfold textL at hc ⊢
  rw [List.length_append] at hc
  by_cases h : cut < (countL x.length).length
  · rw [take_under _ _ _ (Nat.le_of_lt h)]
    have h2 := count_short hl (most := most) h
    unfold textS
    rw [Int.toNat_natCast, if_pos (by rw [h2]; decide)]; exact h2
  · rw [take_over _ _ _ (by omega)]
    unfold textS
    rw [Int.toNat_natCast, count_back hl hx, if_neg (by simp), if_pos (by simp; omega)]
/-- a number of which something is missing -/
theorem fixed_short {n k cut : Nat} (hk : k ≤ 8) (hc : cut < k) : (fixedS ⟨(fixedL n k).take cut, 0⟩ (k : Int)).2.err = 61 := by
  have hk2 : clampS (k : Int) = k := by unfold clampS; omega
  unfold fixedS rawS
  rw [hk2, if_neg (by simp; omega), if_pos (by rw [List.length_take, fixedL_len]; omega)]
end Go.Proofs.Ytdeggdmoijfhdaa
