/-
  Layer 9, plain: amounts, references, outputs and coins as bytes, and how they are read.
-/
import Derived.Test.YtmfjgehlkbndjaaGreatDoorPcPlain
namespace Go.Proofs.YtmfjgehlkbndjaaGreatDoor

def moneyB (n : Int) : Bool := decide (0 ≤ n) && decide (n ≤ 2000000000000)
theorem moneyB_iff {n : Int} : moneyB n = true ↔ 0 ≤ n ∧ n ≤ 2000000000000 := by unfold moneyB; simp
theorem moneyB_not {n : Int} : moneyB n = false ↔ ¬ (0 ≤ n ∧ n ≤ 2000000000000) := by
  rw [← moneyB_iff]; cases moneyB n <;> simp
/-- all together from a sum on; none: the error -/
def sumS : Int → List Int → Option Int
  | s, [] => some s
  | s, o :: l => if moneyB o = false ∨ moneyB (s + o) = false then none else sumS (s + o) l
def sumV (r : Option Int) : Int := r.getD 0
def sumE (r : Option Int) : Int := if r.isNone then 91 else 0
theorem sumS_skip {s o : Int} {l : List Int} {k : Nat} (hk : l[k]? = some o) (h1 : moneyB o = true) (h2 : moneyB (s + o) = true) : sumS s (l.drop k) = sumS (s + o) (l.drop (k + 1)) := by
  obtain ⟨hlt, rfl⟩ := List.getElem?_eq_some_iff.1 hk
  rw [List.drop_eq_getElem_cons hlt]
  show (if _ then _ else _) = _
  rw [if_neg (by simp [h1, h2])]
theorem sumS_stop {s o : Int} {l : List Int} {k : Nat} (hk : l[k]? = some o) (h : moneyB o = false ∨ moneyB (s + o) = false) : sumS s (l.drop k) = none := by
  obtain ⟨hlt, rfl⟩ := List.getElem?_eq_some_iff.1 hk
  rw [List.drop_eq_getElem_cons hlt]
  show (if _ then _ else _) = _
  rw [if_pos h]
/-- a number of 64 bits with a sign as one without, and back -/
def u64N (z : Int) : Nat := (z % 18446744073709551616).toNat
def i64Z (n : Nat) : Int := ((n : Int) + 9223372036854775808) % 18446744073709551616 - 9223372036854775808
theorem u64_lt (z : Int) : u64N z < 18446744073709551616 := by unfold u64N; omega
theorem i64_back {z : Int} (h : -9223372036854775808 ≤ z) (h2 : z < 9223372036854775808) : i64Z (u64N z) = z := by unfold i64Z u64N; omega
theorem u64_back {n : Nat} (h : n < 18446744073709551616) : u64N (i64Z n) = n := by unfold i64Z u64N; omega
theorem i64_bounds (n : Nat) : -9223372036854775808 ≤ i64Z n ∧ i64Z n < 9223372036854775808 := by unfold i64Z; omega
def z32 : List UInt8 := List.replicate 32 0
def refL (l : List UInt8) (n : Nat) : List UInt8 := l ++ fixedL n 4
def outL (n : Int) (l : List UInt8) : List UInt8 := fixedL (u64N n) 8 ++ textL l
/-- a reference that is read -/
def refS (s : Scn) : (List UInt8 × Nat) × Scn :=
  if (fixedS (rawS s 32).2 4).2.err ≠ 0 then ((z32, 0), (fixedS (rawS s 32).2 4).2) else (((rawS s 32).1, (fixedS (rawS s 32).2 4).1), (fixedS (rawS s 32).2 4).2)
/-- an output that is read -/
def outS (s : Scn) : (Int × List UInt8) × Scn :=
  if (textS (fixedS s 8).2 2000).2.err ≠ 0 then ((0, []), (textS (fixedS s 8).2 2000).2) else ((i64Z (fixedS s 8).1, (textS (fixedS s 8).2 2000).1), (textS (fixedS s 8).2 2000).2)
/-! ### references and outputs are read as they were written -/
theorem ref_back {l : List UInt8} (hl : l.length = 32) {n : Nat} (hn : n < 4294967296) (r : List UInt8) : refS ⟨refL l n ++ r, 0⟩ = ((l, n), ⟨r, 0⟩) := by
  have e1 : rawS ⟨refL l n ++ r, 0⟩ 32 = (l, ⟨fixedL n 4 ++ r, 0⟩) := by
    have := raw_back l (fixedL n 4 ++ r)
    rw [hl] at this
    unfold refL; rw [List.append_assoc]; exact this
  have e2 : fixedS ⟨fixedL n 4 ++ r, 0⟩ 4 = (n, ⟨r, 0⟩) := by
    have := fixed_back n 4 (by decide) r
    rw [Nat.mod_eq_of_lt (by omega)] at this
    exact this
  unfold refS
  rw [e1, e2, if_neg (by simp)]
theorem value_back {z : Int} (_h : -9223372036854775808 ≤ z) (_h2 : z < 9223372036854775808) (r : List UInt8) : fixedS ⟨fixedL (u64N z) 8 ++ r, 0⟩ 8 = (u64N z, ⟨r, 0⟩) := by
  have := fixed_back (u64N z) 8 (by decide) r
  rw [Nat.mod_eq_of_lt (by have := u64_lt z; omega)] at this
  exact this
theorem out_back {z : Int} (h : -9223372036854775808 ≤ z) (h2 : z < 9223372036854775808) {l : List UInt8} (hl : l.length ≤ 2000) (r : List UInt8) : outS ⟨outL z l ++ r, 0⟩ = ((z, l), ⟨r, 0⟩) := by
  have e2 : textS ⟨textL l ++ r, 0⟩ 2000 = (l, ⟨r, 0⟩) := text_back (most := 2000) hl (by omega) r
  unfold outS outL
  rw [List.append_assoc, value_back h h2, e2, if_neg (by simp), i64_back h h2]
theorem raw_len {s : Scn} {n : Nat} (h : (rawS s (n : Int)).2.err = 0) : (rawS s (n : Int)).1.length = n := by
  unfold rawS at h ⊢
  by_cases h1 : s.err ≠ 0 ∨ (n : Int) < 1
  · rw [if_pos h1] at h ⊢
    rcases h1 with h1 | h1
    · exact absurd h h1
    · show 0 = n; omega
  · rw [if_neg h1] at h ⊢
    by_cases h2 : (s.rest.length : Int) < n
    · rw [if_pos h2] at h; cases h
    · rw [if_neg h2]
      show (List.take _ _).length = n
      rw [List.length_take]; omega
/-- what is read without an error leaves none behind that was there -/
theorem text_ok {s : Scn} {m : Int} (h : (textS s m).2.err = 0) : s.err = 0 := by
  refine Classical.byContradiction fun hn => ?_
  rw [text_bad hn] at h
  exact hn h
theorem fixed_ok {s : Scn} {z : Int} (h : (fixedS s z).2.err = 0) : s.err = 0 := by
  refine Classical.byContradiction fun hn => ?_
  rw [fixed_bad hn] at h
  exact hn h
theorem count_ok {s : Scn} {m : Nat} (h : (countS s m).2.err = 0) : s.err = 0 := by
  refine Classical.byContradiction fun hn => ?_
  rw [count_bad hn] at h
  exact hn h
/-- a number that is read is written as the bytes that were read -/
theorem fixed_alone {s : Scn} {k : Nat} (hk : k ≤ 8) (h : (fixedS s (k : Int)).2.err = 0) : fixedL (fixedS s (k : Int)).1 k ++ (fixedS s (k : Int)).2.rest = s.rest ∧ (fixedS s (k : Int)).1 < 256 ^ k := by
  have h0 := fixed_ok h
  have hc : clampS (k : Int) = k := by unfold clampS; omega
  unfold fixedS at h ⊢
  rw [hc] at h ⊢
  have hl := raw_len h
  unfold rawS at h hl ⊢
  by_cases h1 : s.err ≠ 0 ∨ (k : Int) < 1
  · rw [if_pos h1] at hl ⊢
    have hk0 : k = 0 := by rcases h1 with h1 | h1 <;> omega
    subst hk0
    exact ⟨rfl, by show (0 : Nat) < _; decide⟩
  · rw [if_neg h1] at h hl ⊢
    by_cases h2 : (s.rest.length : Int) < k
    · rw [if_pos h2] at h; cases h
    · rw [if_neg h2] at hl ⊢
      dsimp only at hl ⊢
      rw [Int.toNat_natCast] at hl ⊢
      have e := fixed_num (s.rest.take k)
      have e2 := numL_lt (s.rest.take k)
      rw [hl] at e e2
      rw [e]
      exact ⟨List.take_append_drop k s.rest, e2⟩
/-- a text that is read is written as the bytes that were read -/
theorem text_alone {s : Scn} {m : Nat} (h : (textS s (m : Int)).2.err = 0) : textL (textS s (m : Int)).1 ++ (textS s (m : Int)).2.rest = s.rest ∧ (textS s (m : Int)).1.length ≤ m := by
  have h0 := text_ok h
  obtain ⟨b, e0⟩ := s
  obtain rfl : e0 = 0 := h0
  unfold textS at h ⊢
  rw [Int.toNat_natCast] at h ⊢
  by_cases h1 : (countS ⟨b, 0⟩ m).2.err ≠ 0
  · rw [if_pos h1] at h; exact absurd h h1
  · rw [if_neg h1] at h ⊢
    by_cases h2 : (countS ⟨b, 0⟩ m).2.rest.length < (countS ⟨b, 0⟩ m).1
    · rw [if_pos h2] at h; cases h
    · rw [if_neg h2]
      obtain ⟨h3, h4, h5⟩ := count_alone (b := b) (most := m) rfl (Classical.not_not.1 h1)
      dsimp only
      have hl : ((countS ⟨b, 0⟩ m).2.rest.take (countS ⟨b, 0⟩ m).1).length = (countS ⟨b, 0⟩ m).1 := by rw [List.length_take]; omega
      unfold textL
      rw [hl, List.append_assoc, List.take_append_drop]
      exact ⟨h5, h3⟩

/-! ### coins -/
end Go.Proofs.YtmfjgehlkbndjaaGreatDoor
