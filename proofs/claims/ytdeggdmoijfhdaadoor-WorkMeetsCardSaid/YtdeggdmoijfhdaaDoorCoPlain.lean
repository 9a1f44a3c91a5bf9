/-
  Layer 9, plain: amounts, references, outputs and coins as bytes, and how they are read.
-/
import Derived.Test.YtdeggdmoijfhdaaDoorPcPlain
namespace Go.Proofs.YtdeggdmoijfhdaaDoor

def moneyB (n : Int) : Bool := decide (0 ≤ n) && decide (n ≤ 2000000000000)
theorem moneyB_iff {n : Int} : moneyB n = true ↔ 0 ≤ n ∧ n ≤ 2000000000000 := by unfold moneyB; simp
theorem moneyB_not {n : Int} : moneyB n = false ↔ ¬ (0 ≤ n ∧ n ≤ 2000000000000) := by
  rw [← moneyB_iff]; cases moneyB n <;> simp
/-- all together from a sum on; none: the error -/
def sumS : Int → List Int → Option Int
  | s, [] => some s
  | s, o :: l => if moneyB o = false ∨ moneyB (s + o) = false then none else sumS (s + o) l
def sumV (r : Option Int) : Int := r.getD 0
def sumE (r : Option Int) : Int := if r.isNone then 91 else 0
theorem sumS_skip {s o : Int} {l : List Int} {k : Nat} (hk : l[k]? = some o) (h1 : moneyB o = true) (h2 : moneyB (s + o) = true) : sumS s (l.drop k) = sumS (s + o) (l.drop (k + 1)) := by
  obtain ⟨hlt, rfl⟩ := List.getElem?_eq_some_iff.1 hk
  rw [List.drop_eq_getElem_cons hlt]
  show (if _ then _ else _) = _
  rw [if_neg (by simp [h1, h2])]
theorem sumS_stop {s o : Int} {l : List Int} {k : Nat} (hk : l[k]? = some o) (h : moneyB o = false ∨ moneyB (s + o) = false) : sumS s (l.drop k) = none := by
  obtain ⟨hlt, rfl⟩ := List.getElem?_eq_some_iff.1 hk
  rw [List.drop_eq_getElem_cons hlt]
  show (if _ then _ else _) = _
  rw [if_pos h]
/-- what is made at a height -/
def subsidyN (h : Int) : Nat := if h < 0 then 0 else 5000000000 / 2 ^ (h / 150).toNat
theorem subsidy_step {h : Int} (h0 : 0 ≤ h) : subsidyN (h + 150) = subsidyN h / 2 := by
  have e : ((h + 150) / 150).toNat = (h / 150).toNat + 1 := by omega
  unfold subsidyN
  rw [if_neg (by omega), if_neg (by omega), e, Nat.pow_succ, Nat.div_div_eq_div_mul]
theorem subsidy_low {h : Int} (h0 : 0 ≤ h) (h1 : h < 150) : subsidyN h = 5000000000 := by
  have e : (h / 150).toNat = 0 := by omega
  unfold subsidyN
  rw [if_neg (by omega), e]
theorem subsidy_neg {h : Int} (h0 : h < 0) : subsidyN h = 0 := by unfold subsidyN; rw [if_pos h0]
theorem subsidy_le (h : Int) : subsidyN h ≤ 5000000000 := by
  unfold subsidyN
  split
  · omega
  · exact Nat.div_le_self _ _
theorem subsidy_mono {h : Int} (h0 : 0 ≤ h) : subsidyN (h + 1) ≤ subsidyN h := by
  unfold subsidyN
  rw [if_neg (by omega), if_neg (by omega)]
  exact Nat.div_le_div_left (Nat.pow_le_pow_right (by decide) (by omega)) (Nat.pow_pos (by decide))
/-- what is halved from n on -/
def halfN (n : Nat) (h : Int) : Nat := n / 2 ^ (h / 150).toNat
theorem half_step (n : Nat) {h : Int} (h0 : 150 ≤ h) : halfN n h = halfN (n / 2) (h - 150) := by
  have e : (h / 150).toNat = ((h - 150) / 150).toNat + 1 := by omega
  unfold halfN
  rw [e, Nat.pow_succ, Nat.mul_comm, Nat.div_div_eq_div_mul]
theorem half_low (n : Nat) {h : Int} (h0 : 0 ≤ h) (h1 : h < 150) : halfN n h = n := by
  have e : (h / 150).toNat = 0 := by omega
  unfold halfN
  rw [e, Nat.pow_zero, Nat.div_one]
theorem half_zero (h : Int) : halfN 0 h = 0 := by unfold halfN; exact Nat.zero_div _
theorem half_all {h : Int} (h0 : 0 ≤ h) : halfN 5000000000 h = subsidyN h := by unfold subsidyN halfN; rw [if_neg (by omega)]
/-- a number of 64 bits with a sign as one without, and back -/
def u64N (z : Int) : Nat := (z % 18446744073709551616).toNat
def i64Z (n : Nat) : Int := ((n : Int) + 9223372036854775808) % 18446744073709551616 - 9223372036854775808
theorem u64_lt (z : Int) : u64N z < 18446744073709551616 := by unfold u64N; omega
theorem i64_back {z : Int} (h : -9223372036854775808 ≤ z) (h2 : z < 9223372036854775808) : i64Z (u64N z) = z := by unfold i64Z u64N; omega
theorem u64_back {n : Nat} (h : n < 18446744073709551616) : u64N (i64Z n) = n := by unfold i64Z u64N; omega
theorem i64_bounds (n : Nat) : -9223372036854775808 ≤ i64Z n ∧ i64Z n < 9223372036854775808 := by unfold i64Z; omega
theorem i64_zero : i64Z 0 = 0 := by decide
def z32 : List UInt8 := List.replicate 32 0
def refL (l : List UInt8) (n : Nat) : List UInt8 := l ++ fixedL n 4
def outL (n : Int) (l : List UInt8) : List UInt8 := fixedL (u64N n) 8 ++ textL l
structure CoinP where
  value : Int
  lock : List UInt8
  height : Int
  base : Bool
def noCoin : CoinP := ⟨0, [], 0, false⟩
def rightC (c : CoinP) : Bool := moneyB c.value && decide (c.lock.length ≤ 2000) && decide (0 ≤ c.height) && decide (c.height ≤ 1000000000)
theorem rightC_iff {c : CoinP} : rightC c = true ↔ (0 ≤ c.value ∧ c.value ≤ 2000000000000) ∧ c.lock.length ≤ 2000 ∧ 0 ≤ c.height ∧ c.height ≤ 1000000000 := by
  unfold rightC; rw [Bool.and_eq_true, Bool.and_eq_true, Bool.and_eq_true, moneyB_iff]; simp; omega
def bit1 (b : Bool) : Nat := if b then 1 else 0
def stampN (h : Int) (b : Bool) : Nat := (u64N h * 2 % 18446744073709551616 + bit1 b) % 18446744073709551616
theorem stamp_lt (h : Int) (b : Bool) : stampN h b < 18446744073709551616 := Nat.mod_lt _ (by decide)
theorem stamp_right {h : Int} {b : Bool} (h0 : 0 ≤ h) (h1 : h ≤ 1000000000) : (stampN h b : Int) = h * 2 + bit1 b ∧ stampN h b ≤ 2000000001 := by
  unfold stampN u64N bit1; split <;> omega
def coinL (c : CoinP) : List UInt8 := countL (stampN c.height c.base) ++ outL c.value c.lock
/-- a reference that is read -/
def refS (s : Scn) : (List UInt8 × Nat) × Scn :=
  if (fixedS (rawS s 32).2 4).2.err ≠ 0 then ((z32, 0), (fixedS (rawS s 32).2 4).2) else (((rawS s 32).1, (fixedS (rawS s 32).2 4).1), (fixedS (rawS s 32).2 4).2)
/-- an output that is read -/
def outS (s : Scn) : (Int × List UInt8) × Scn :=
  if (textS (fixedS s 8).2 2000).2.err ≠ 0 then ((0, []), (textS (fixedS s 8).2 2000).2) else ((i64Z (fixedS s 8).1, (textS (fixedS s 8).2 2000).1), (textS (fixedS s 8).2 2000).2)
/-- the coin of bytes -/
def parseC (b : List UInt8) : CoinP × Nat :=
  if moneyB (i64Z (fixedS (countS ⟨b, 0⟩ 2000000001).2 8).1) = false then (noCoin, 62)
  else if (textS (fixedS (countS ⟨b, 0⟩ 2000000001).2 8).2 2000).2.err ≠ 0 then (noCoin, (textS (fixedS (countS ⟨b, 0⟩ 2000000001).2 8).2 2000).2.err)
  else if 0 < (textS (fixedS (countS ⟨b, 0⟩ 2000000001).2 8).2 2000).2.rest.length then (noCoin, 62)
  else (⟨i64Z (fixedS (countS ⟨b, 0⟩ 2000000001).2 8).1, (textS (fixedS (countS ⟨b, 0⟩ 2000000001).2 8).2 2000).1, (((countS ⟨b, 0⟩ 2000000001).1 / 2 : Nat) : Int), decide ((countS ⟨b, 0⟩ 2000000001).1 % 2 = 1)⟩, 0)

/-! ### references and outputs are read as they were written -/
theorem ref_back {l : List UInt8} (hl : l.length = 32) {n : Nat} (hn : n < 4294967296) (r : List UInt8) : refS ⟨refL l n ++ r, 0⟩ = ((l, n), ⟨r, 0⟩) := by
  have e1 : rawS ⟨refL l n ++ r, 0⟩ 32 = (l, ⟨fixedL n 4 ++ r, 0⟩) := by
    have := raw_back l (fixedL n 4 ++ r)
    rw [hl] at this
    unfold refL; rw [List.append_assoc]; exact this
  have e2 : fixedS ⟨fixedL n 4 ++ r, 0⟩ 4 = (n, ⟨r, 0⟩) := by
    have := fixed_back n 4 (by decide) r
    rw [Nat.mod_eq_of_lt (by omega)] at this
    exact this
  unfold refS
  rw [e1, e2, if_neg (by simp)]
theorem value_back {z : Int} (_h : -9223372036854775808 ≤ z) (_h2 : z < 9223372036854775808) (r : List UInt8) : fixedS ⟨fixedL (u64N z) 8 ++ r, 0⟩ 8 = (u64N z, ⟨r, 0⟩) := by
  have := fixed_back (u64N z) 8 (by decide) r
  rw [Nat.mod_eq_of_lt (by have := u64_lt z; omega)] at this
  exact this
theorem out_back {z : Int} (h : -9223372036854775808 ≤ z) (h2 : z < 9223372036854775808) {l : List UInt8} (hl : l.length ≤ 2000) (r : List UInt8) : outS ⟨outL z l ++ r, 0⟩ = ((z, l), ⟨r, 0⟩) := by
  have e2 : textS ⟨textL l ++ r, 0⟩ 2000 = (l, ⟨r, 0⟩) := text_back (most := 2000) hl (by omega) r
  unfold outS outL
  rw [List.append_assoc, value_back h h2, e2, if_neg (by simp), i64_back h h2]
theorem raw_len {s : Scn} {n : Nat} (h : (rawS s (n : Int)).2.err = 0) : (rawS s (n : Int)).1.length = n := by
  unfold rawS at h ⊢
  by_cases h1 : s.err ≠ 0 ∨ (n : Int) < 1
  · rw [if_pos h1] at h ⊢
    rcases h1 with h1 | h1
    · exact absurd h h1
    · show 0 = n; omega
  · rw [if_neg h1] at h ⊢
    by_cases h2 : (s.rest.length : Int) < n
    · rw [if_pos h2] at h; cases h
    · rw [if_neg h2]
      show (List.take _ _).length = n
      rw [List.length_take]; omega
theorem raw_errs (s : Scn) (z : Int) (h : s.err = 0 ∨ s.err = 61 ∨ s.err = 62) : (rawS s z).2.err = 0 ∨ (rawS s z).2.err = 61 ∨ (rawS s z).2.err = 62 := by
  unfold rawS
  split
  · exact h
  · split
    · exact .inr (.inl rfl)
    · exact .inl rfl
theorem fixed_errs (s : Scn) (z : Int) (h : s.err = 0 ∨ s.err = 61 ∨ s.err = 62) : (fixedS s z).2.err = 0 ∨ (fixedS s z).2.err = 61 ∨ (fixedS s z).2.err = 62 := raw_errs s _ h
theorem count_errs (s : Scn) (m : Nat) (h : s.err = 0 ∨ s.err = 61 ∨ s.err = 62) : (countS s m).2.err = 0 ∨ (countS s m).2.err = 61 ∨ (countS s m).2.err = 62 := by
  by_cases h0 : s.err ≠ 0
  · rw [count_bad h0]; exact h
  · obtain ⟨b, e⟩ := s
    obtain rfl : e = 0 := by simpa using h0
    cases b with
    | nil => exact .inr (.inl rfl)
    | cons c r =>
      rw [countS_cons]
      by_cases h1 : r.length < fSize c
      · rw [if_pos h1]; exact .inr (.inl rfl)
      · rw [if_neg h1]
        by_cases h2 : cSize (if fSize c = 0 then c.toNat else numL (r.take (fSize c))) ≠ fSize c ∨ m < (if fSize c = 0 then c.toNat else numL (r.take (fSize c)))
        · rw [if_pos h2]; exact .inr (.inr rfl)
        · rw [if_neg h2]; exact .inl rfl
theorem text_errs (s : Scn) (m : Int) (h : s.err = 0 ∨ s.err = 61 ∨ s.err = 62) : (textS s m).2.err = 0 ∨ (textS s m).2.err = 61 ∨ (textS s m).2.err = 62 := by
  unfold textS
  split
  · exact count_errs s _ h
  · split
    · exact .inr (.inl rfl)
    · exact .inl rfl
/-- what is read without an error leaves none behind that was there -/
theorem text_ok {s : Scn} {m : Int} (h : (textS s m).2.err = 0) : s.err = 0 := by
  refine Classical.byContradiction fun hn => ?_
  rw [text_bad hn] at h
  exact hn h
theorem fixed_ok {s : Scn} {z : Int} (h : (fixedS s z).2.err = 0) : s.err = 0 := by
  refine Classical.byContradiction fun hn => ?_
  rw [fixed_bad hn] at h
  exact hn h
theorem count_ok {s : Scn} {m : Nat} (h : (countS s m).2.err = 0) : s.err = 0 := by
  refine Classical.byContradiction fun hn => ?_
  rw [count_bad hn] at h
  exact hn h
/-- a number that is read is written as the bytes that were read -/
theorem fixed_alone {s : Scn} {k : Nat} (hk : k ≤ 8) (h : (fixedS s (k : Int)).2.err = 0) : fixedL (fixedS s (k : Int)).1 k ++ (fixedS s (k : Int)).2.rest = s.rest ∧ (fixedS s (k : Int)).1 < 256 ^ k := by
  have h0 := fixed_ok h
  have hc : clampS (k : Int) = k := by unfold clampS; omega
  unfold fixedS at h ⊢
  rw [hc] at h ⊢
  have hl := raw_len h
  unfold rawS at h hl ⊢
  by_cases h1 : s.err ≠ 0 ∨ (k : Int) < 1
  · rw [if_pos h1] at hl ⊢
    have hk0 : k = 0 := by rcases h1 with h1 | h1 <;> omega
    subst hk0
    exact ⟨rfl, by show (0 : Nat) < _; decide⟩
  · rw [if_neg h1] at h hl ⊢
    by_cases h2 : (s.rest.length : Int) < k
    · rw [if_pos h2] at h; cases h
    · rw [if_neg h2] at hl ⊢
      dsimp only at hl ⊢
      rw [Int.toNat_natCast] at hl ⊢
      have e := fixed_num (s.rest.take k)
      have e2 := numL_lt (s.rest.take k)
      rw [hl] at e e2
      rw [e]
      exact ⟨List.take_append_drop k s.rest, e2⟩
/-- a text that is read is written as the bytes that were read -/
theorem text_alone {s : Scn} {m : Nat} (h : (textS s (m : Int)).2.err = 0) : textL (textS s (m : Int)).1 ++ (textS s (m : Int)).2.rest = s.rest ∧ (textS s (m : Int)).1.length ≤ m := by
  have h0 := text_ok h
  obtain ⟨b, e0⟩ := s
  obtain rfl : e0 = 0 := h0
  unfold textS at h ⊢
  rw [Int.toNat_natCast] at h ⊢
  by_cases h1 : (countS ⟨b, 0⟩ m).2.err ≠ 0
  · rw [if_pos h1] at h; exact absurd h h1
  · rw [if_neg h1] at h ⊢
    by_cases h2 : (countS ⟨b, 0⟩ m).2.rest.length < (countS ⟨b, 0⟩ m).1
    · rw [if_pos h2] at h; cases h
    · rw [if_neg h2]
      obtain ⟨h3, h4, h5⟩ := count_alone (b := b) (most := m) rfl (Classical.not_not.1 h1)
      dsimp only
      have hl : ((countS ⟨b, 0⟩ m).2.rest.take (countS ⟨b, 0⟩ m).1).length = (countS ⟨b, 0⟩ m).1 := by rw [List.length_take]; omega
      unfold textL
      rw [hl, List.append_assoc, List.take_append_drop]
      exact ⟨h5, h3⟩

/-! ### coins -/
theorem parse_back {c : CoinP} (h : rightC c = true) : parseC (coinL c) = (c, 0) := by
  obtain ⟨⟨h1, h2⟩, h3, h4, h5⟩ := rightC_iff.1 h
  obtain ⟨e0, e1⟩ := stamp_right (b := c.base) h4 h5
  have c1 : countS ⟨coinL c, 0⟩ 2000000001 = (stampN c.height c.base, ⟨outL c.value c.lock, 0⟩) := count_back (stamp_lt _ _) e1 _
  have c2 : fixedS ⟨outL c.value c.lock, 0⟩ 8 = (u64N c.value, ⟨textL c.lock, 0⟩) := value_back (by omega) (by omega) _
  have c3 : textS ⟨textL c.lock, 0⟩ 2000 = (c.lock, ⟨[], 0⟩) := by
    have := text_back (most := 2000) h3 (by omega) []
    rwa [List.append_nil] at this
  have c4 := i64_back (z := c.value) (by omega) (by omega)
  unfold parseC
  rw [c1]; dsimp only; rw [c2]; dsimp only; rw [c3, c4]
  rw [if_neg (by rw [moneyB_iff.2 ⟨h1, h2⟩]; simp), if_neg (by simp), if_neg (by simp)]
  obtain ⟨v, l, q, b⟩ := c
  dsimp only at e0 h4
  simp only [Prod.mk.injEq, CoinP.mk.injEq, and_true, true_and]
  unfold bit1 at e0
  cases b <;> simp only [Bool.false_eq_true, if_false, if_true] at e0 <;> refine ⟨by omega, ?_⟩ <;> simp <;> omega
theorem parse_right {b : List UInt8} {c : CoinP} (h : parseC b = (c, 0)) : rightC c = true ∧ coinL c = b := by
  unfold parseC at h
  generalize hp : countS ⟨b, 0⟩ 2000000001 = p at *
  generalize hq : fixedS p.2 8 = q at *
  generalize hr : textS q.2 2000 = r at *
  by_cases h1 : moneyB (i64Z q.1) = false
  · rw [if_pos h1] at h; simp at h
  rw [if_neg h1] at h
  by_cases h2 : r.2.err ≠ 0
  · rw [if_pos h2] at h; simp at h; exact absurd h.2 h2
  rw [if_neg h2] at h
  by_cases h3 : 0 < r.2.rest.length
  · rw [if_pos h3] at h; simp at h
  rw [if_neg h3] at h
  simp only [Prod.mk.injEq, and_true] at h
  have r0 : r.2.err = 0 := by simpa using h2
  have q0 : q.2.err = 0 := text_ok (m := 2000) (by rw [hr]; exact r0)
  have p0 : p.2.err = 0 := fixed_ok (z := 8) (by rw [hq]; exact q0)
  obtain ⟨a1, a2, a3⟩ := count_alone hp p0
  have b1 := fixed_alone (s := p.2) (k := 8) (by decide) (by show (fixedS p.2 8).2.err = 0; rw [hq]; exact q0)
  change fixedL (fixedS p.2 8).1 8 ++ (fixedS p.2 8).2.rest = p.2.rest ∧ (fixedS p.2 8).1 < 256 ^ 8 at b1
  rw [hq] at b1
  have d1 := text_alone (s := q.2) (m := 2000) (by show (textS q.2 2000).2.err = 0; rw [hr]; exact r0)
  change textL (textS q.2 2000).1 ++ (textS q.2 2000).2.rest = q.2.rest ∧ (textS q.2 2000).1.length ≤ 2000 at d1
  rw [hr] at d1
  have hm : moneyB (i64Z q.1) = true := by simpa using h1
  have hm2 := moneyB_iff.1 hm
  have e8 : (256 : Nat) ^ 8 = 18446744073709551616 := by decide
  have r1 : r.2.rest = [] := List.eq_nil_of_length_eq_zero (by omega)
  rw [r1, List.append_nil] at d1
  have es : stampN (((p.1 / 2 : Nat) : Int)) (decide (p.1 % 2 = 1)) = p.1 := by
    have e1 : u64N ((p.1 / 2 : Nat) : Int) = p.1 / 2 := by unfold u64N; omega
    unfold stampN bit1; rw [e1]
    by_cases hb : p.1 % 2 = 1
    · rw [decide_eq_true hb, if_pos rfl]; omega
    · rw [decide_eq_false hb]; simp only [Bool.false_eq_true, if_false]; omega
  subst h
  refine ⟨rightC_iff.2 ⟨hm2, d1.2, by dsimp only; omega, by dsimp only; omega⟩, ?_⟩
  unfold coinL outL
  dsimp only
  rw [es, u64_back (by omega), d1.1, b1.1]; exact a3
theorem parse_wrong {b : List UInt8} (h : (parseC b).2 ≠ 0) : (parseC b).1 = noCoin ∧ ((parseC b).2 = 61 ∨ (parseC b).2 = 62) := by
  unfold parseC at *
  have he : ∀ z m, let r := textS (fixedS (countS ⟨b, 0⟩ 2000000001).2 z).2 m; r.2.err = 0 ∨ r.2.err = 61 ∨ r.2.err = 62 := fun z m => text_errs _ _ (fixed_errs _ _ (count_errs _ _ (.inl rfl)))
  have he1 := he 8 2000
  dsimp only at he1
  split
  · exact ⟨rfl, .inr rfl⟩
  · split
    · rename_i h2; exact ⟨rfl, by rcases he1 with e | e; exact absurd e h2; exact e⟩
    · split
      · exact ⟨rfl, .inr rfl⟩
      · rename_i h1 h2 h3
        rw [if_neg h1, if_neg h2, if_neg h3] at h
        exact absurd rfl h
theorem parse_more {c : CoinP} (h : rightC c = true) : parseC (coinL c ++ [0]) = (noCoin, 62) := by
  obtain ⟨⟨h1, h2⟩, h3, h4, h5⟩ := rightC_iff.1 h
  obtain ⟨e0, e1⟩ := stamp_right (b := c.base) h4 h5
  have c1 : countS ⟨coinL c ++ [0], 0⟩ 2000000001 = (stampN c.height c.base, ⟨outL c.value c.lock ++ [0], 0⟩) := by
    unfold coinL; rw [List.append_assoc]; exact count_back (stamp_lt _ _) e1 _
  have c2 : fixedS ⟨outL c.value c.lock ++ [0], 0⟩ 8 = (u64N c.value, ⟨textL c.lock ++ [0], 0⟩) := by
    unfold outL; rw [List.append_assoc]; exact value_back (by omega) (by omega) _
  have c3 : textS ⟨textL c.lock ++ [0], 0⟩ 2000 = (c.lock, ⟨[0], 0⟩) := text_back (most := 2000) h3 (by omega) [0]
  have c4 := i64_back (z := c.value) (by omega) (by omega)
  unfold parseC
  rw [c1]; dsimp only; rw [c2]; dsimp only; rw [c3, c4]
  rw [if_neg (by rw [moneyB_iff.2 ⟨h1, h2⟩]; simp), if_neg (by simp), if_pos (by simp)]
theorem money_zero : moneyB (i64Z 0) = true := by decide
theorem fixed_zeroC {s : Scn} {z : Int} (h : (fixedS s z).2.err ≠ 0) : (fixedS s z).1 = 0 := by
  unfold fixedS at *
  have e : (rawS s (clampS z : Int)).1 = [] := by
    unfold rawS at h ⊢
    by_cases h1 : s.err ≠ 0 ∨ (clampS z : Int) < 1
    · rw [if_pos h1]
    · rw [if_neg h1] at h ⊢
      by_cases h2 : (s.rest.length : Int) < (clampS z : Int)
      · rw [if_pos h2]
      · rw [if_neg h2] at h; exact absurd rfl h
  dsimp only
  rw [e]; rfl
theorem parse_bad {b : List UInt8} (h : (fixedS (countS ⟨b, 0⟩ 2000000001).2 8).2.err = 61) : (parseC b).2 = 61 := by
  have hn : (fixedS (countS ⟨b, 0⟩ 2000000001).2 8).2.err ≠ 0 := by rw [h]; decide
  have e1 := fixed_zeroC hn
  have e2 := text_bad hn 2000
  unfold parseC
  rw [e1, e2, if_neg (by rw [money_zero]; simp), if_pos hn]
  exact h
theorem parse_cut {c : CoinP} (h : rightC c = true) {cut : Nat} (hc : cut < (coinL c).length) : (parseC ((coinL c).take cut)).2 = 61 := by
  obtain ⟨⟨h1, h2⟩, h3, h4, h5⟩ := rightC_iff.1 h
  obtain ⟨e0, e1⟩ := stamp_right (b := c.base) h4 h5
  have hm : moneyB c.value = true := moneyB_iff.2 ⟨h1, h2⟩
  have c4 := i64_back (z := c.value) (by omega) (by omega)
  unfold coinL at hc ⊢
  rw [List.length_append] at hc
  by_cases k1 : cut < (countL (stampN c.height c.base)).length
  · rw [take_under _ _ _ (Nat.le_of_lt k1)]
    have hs := count_short (stamp_lt c.height c.base) (most := 2000000001) k1
    refine parse_bad ?_
    rw [fixed_bad (by rw [hs]; decide)]; exact hs
  · rw [take_over _ _ _ (by omega)]
    obtain ⟨k, hk⟩ : ∃ k, cut - (countL (stampN c.height c.base)).length = k := ⟨_, rfl⟩
    have hkl : k < (outL c.value c.lock).length := by omega
    rw [hk]
    have c1 : countS ⟨countL (stampN c.height c.base) ++ (outL c.value c.lock).take k, 0⟩ 2000000001 = (stampN c.height c.base, ⟨(outL c.value c.lock).take k, 0⟩) := count_back (stamp_lt _ _) e1 _
    unfold outL at hkl c1 ⊢
    rw [List.length_append, fixedL_len] at hkl
    by_cases k2 : k < 8
    · refine parse_bad ?_
      rw [c1]
      dsimp only
      rw [take_under _ _ _ (by rw [fixedL_len]; omega)]
      exact fixed_short (n := u64N c.value) (k := 8) (by decide) k2
    · rw [take_over _ _ _ (by rw [fixedL_len]; omega), fixedL_len] at c1 ⊢
      have c2 : fixedS ⟨fixedL (u64N c.value) 8 ++ (textL c.lock).take (k - 8), 0⟩ 8 = (u64N c.value, ⟨(textL c.lock).take (k - 8), 0⟩) := value_back (by omega) (by omega) _
      have c3 : (textS ⟨(textL c.lock).take (k - 8), 0⟩ 2000).2.err = 61 := text_short (most := 2000) h3 (by omega) (by omega)
      unfold parseC
      rw [c1]; dsimp only; rw [c2]; dsimp only; rw [c4]
      rw [if_neg (by rw [hm]; simp), if_pos (by rw [c3]; decide)]
      exact c3
end Go.Proofs.YtdeggdmoijfhdaaDoor
