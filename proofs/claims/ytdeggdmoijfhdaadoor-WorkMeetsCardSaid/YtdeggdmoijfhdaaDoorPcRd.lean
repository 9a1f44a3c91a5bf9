/-
  Joined: PcCount, PcRefRead, PcRefRead2.
-/
import Derived.Test.YtdeggdmoijfhdaaDoorPcAll
/-
  Layer 6: the walks of the Reader's Count and Text.
-/
namespace Go.Proofs.YtdeggdmoijfhdaaDoor
open Go Go.RowKit
variable {Lm : Nat}

/-- what Count does, as it is written -/
def cnt2 (s : Scn) (most : Nat) (c : UInt8) (n : Nat) (t : Scn) : Nat × Scn :=
  if t.err ≠ 0 then (0, ⟨s.rest, t.err⟩) else if cFirst n ≠ c ∨ most < n then (0, ⟨s.rest, 62⟩) else (n, t)
def cnt1 (s : Scn) (most : Nat) : Nat × Scn :=
  if fSize (UInt8.ofNat (fixedS s 1).1) = 0 then cnt2 s most (UInt8.ofNat (fixedS s 1).1) (fixedS s 1).1 (fixedS s 1).2
  else cnt2 s most (UInt8.ofNat (fixedS s 1).1) (fixedS (fixedS s 1).2 (fSize (UInt8.ofNat (fixedS s 1).1) : Int)).1 (fixedS (fixedS s 1).2 (fSize (UInt8.ofNat (fixedS s 1).1) : Int)).2
theorem cFirst_low (c : UInt8) (h : c.toNat ≤ 252) : cFirst c.toNat = c := by unfold cFirst; rw [if_pos h, UInt8.ofNat_toNat]
theorem cFirst_iff (c : UInt8) (n : Nat) (h : fSize c ≠ 0) : cFirst n = c ↔ cSize n = fSize c := by
  constructor
  · intro e; rw [← e, cFirst_size]
  · intro e
    rcases byte_cases c with hc | rfl | rfl | rfl
    · exact absurd (fSize_low hc) h
    all_goals
      unfold cSize at e
      unfold cFirst
      split at e
      · exact absurd e (by decide)
      · rw [if_neg (by assumption)]
        split at e
        · first | exact absurd e (by decide) | rw [if_pos (by assumption)]
        · rw [if_neg (by assumption)]
          split at e
          · first | exact absurd e (by decide) | rw [if_pos (by assumption)]
          · first | exact absurd e (by decide) | rw [if_neg (by assumption)]
theorem clampS_1 : clampS 1 = 1 := by decide
theorem ofNat_byte (c : UInt8) : UInt8.ofNat c.toNat = c := UInt8.ofNat_toNat
theorem fixed1_cons (c : UInt8) (r : List UInt8) : fixedS ⟨c :: r, 0⟩ 1 = (c.toNat, ⟨r, 0⟩) := by
  rw [fixedS_take, clampS_1, takeS_some rfl (by simp)]; simp [numL]
theorem fixed_zero {s : Scn} {z : Int} (h : (fixedS s z).2.err ≠ 0) : (fixedS s z).1 = 0 := by
  rw [fixedS_take] at h ⊢
  unfold takeS at h ⊢
  split
  · rfl
  · split
    · rfl
    · rename_i h1 h2
      rw [if_neg h1, if_neg h2] at h
      exact absurd rfl h
theorem fixed_err {s : Scn} {z : Int} : (fixedS s z).2.err ≠ 0 → (fixedS s z).2.rest = s.rest := by
  rw [fixedS_take]
  unfold takeS
  split
  · exact fun _ => rfl
  · split
    · exact fun _ => rfl
    · intro h; exact absurd rfl h
theorem fSize_0 : fSize (UInt8.ofNat 0) = 0 := by decide
theorem cnt_same (s : Scn) (most : Nat) : cnt1 s most = countS s most := by
  by_cases he : s.err ≠ 0
  · rw [count_bad he]
    unfold cnt1
    rw [fixed_bad he, if_pos fSize_0]
    unfold cnt2; rw [if_pos he]
  · obtain ⟨l, e⟩ := s
    obtain rfl : e = 0 := by simpa using he
    cases l with
    | nil =>
      have h1 : fixedS ⟨[], 0⟩ 1 = (0, ⟨[], 61⟩) := by rw [fixedS_take, clampS_1, takeS_short rfl (by simp)]; rfl
      unfold cnt1
      rw [h1, if_pos fSize_0]
      unfold cnt2 countS; rw [if_pos (by simp), if_neg (by simp)]
    | cons c r =>
      unfold cnt1
      rw [fixed1_cons, ofNat_byte, countS_cons]
      by_cases hf : fSize c = 0
      · have hc : c.toNat ≤ 252 := by rcases byte_cases c with h | rfl | rfl | rfl <;> first | exact h | exact absurd hf (by decide)
        have h3 : cSize c.toNat = 0 := by unfold cSize; rw [if_pos hc]
        rw [if_pos hf, if_neg (by rw [hf]; omega)]
        unfold cnt2
        rw [if_neg (by simp), cFirst_low c hc, if_pos hf, h3]
        by_cases hm : most < c.toNat
        · rw [if_pos (.inr hm), if_pos (.inr hm)]
        · rw [if_neg (by simp; omega), if_neg (by rw [hf]; simp; omega), hf, List.drop_zero]
      · rw [if_neg hf]
        by_cases hs : r.length < fSize c
        · rw [if_pos hs, fixedS_take, clampS_size, takeS_short rfl hs]
          unfold cnt2; rw [if_pos (by simp)]
        · rw [if_neg hs, fixedS_take, clampS_size, takeS_some rfl (by simpa using hs)]
          unfold cnt2
          rw [if_neg (by simp), if_neg hf]
          have hi := cFirst_iff c (numL (r.take (fSize c))) hf
          by_cases hx : cFirst (numL (r.take (fSize c))) ≠ c ∨ most < numL (r.take (fSize c))
          · rw [if_pos hx, if_pos (hx.imp (fun h e => h (hi.2 e)) id)]
          · rw [if_neg hx, if_neg (fun h => hx (h.imp (fun h e => h (hi.1 e)) id))]
theorem numL_le8 {s : Scn} {z : Int} : (fixedS s z).1 < 18446744073709551616 := by
  rw [fixedS_take]; exact numL_lt64 _ (Nat.le_trans (takeS_len _ _) (clampS_le z))
theorem B_eqP (c : UInt8) (m : Nat) (hm : m < 256) : decide (B c = ((m : Nat) : Int)) = decide (c = UInt8.ofNat m) := by
  unfold B
  by_cases h : c = UInt8.ofNat m
  · subst h; rw [u8_nat hm]; simp
  · have h2 : ¬ (c.toNat = m) := fun e => h (by rw [← e, UInt8.ofNat_toNat])
    have h3 : ¬ ((c.toNat : Int) = (m : Int)) := by omega
    rw [decide_eq_false h, decide_eq_false h3]
end Go.Proofs.YtdeggdmoijfhdaaDoor

/-
  Layer 6: the walks of the Reader's Text, and of the reference's readers.
-/
namespace Go.Proofs.YtdeggdmoijfhdaaDoor
open Go Go.RowKit
variable {Lm : Nat}

theorem count_le (s : Scn) (m : Nat) : (countS s m).1 ≤ m := by
  unfold countS
  split
  · exact Nat.zero_le _
  · split
    · exact Nat.zero_le _
    · rename_i c r he
      generalize (if fSize c = 0 then c.toNat else numL (r.take (fSize c))) = N
      split
      · exact Nat.zero_le _
      · split
        · exact Nat.zero_le _
        · rename_i h; simp only [not_or, Nat.not_lt] at h; exact h.2
theorem count_errRest (s : Scn) (m : Nat) : (countS s m).2.err ≠ 0 → (countS s m).2.rest = s.rest := by
  unfold countS
  split
  · exact fun _ => rfl
  · split
    · exact fun _ => rfl
    · rename_i c r he
      generalize (if fSize c = 0 then c.toNat else numL (r.take (fSize c))) = N
      split
      · exact fun _ => rfl
      · split
        · exact fun _ => rfl
        · exact fun h => absurd rfl h
theorem count_restLe (s : Scn) (m : Nat) : (countS s m).2.rest.length ≤ s.rest.length := by
  unfold countS
  split
  · exact Nat.le_refl _
  · split
    · exact Nat.le_refl _
    · rename_i c r he
      generalize (if fSize c = 0 then c.toNat else numL (r.take (fSize c))) = N
      split
      · exact Nat.le_refl _
      · split
        · exact Nat.le_refl _
        · show (r.drop _).length ≤ _
          rw [he, List.length_drop, List.length_cons]; omega
/-- what the Reader's Text does, as it is written -/
def txt1 (s : Scn) (p : List UInt8 × Scn) : List UInt8 × Scn := if p.2.err ≠ 0 then (p.1, ⟨s.rest, p.2.err⟩) else p
theorem txt_same (s : Scn) (z : Int) : txt1 s (rawS (countS s z.toNat).2 ((countS s z.toNat).1 : Int)) = textS s z := by
  have hr := count_errRest s z.toNat
  unfold textS
  rw [rawS_take]
  generalize countS s z.toNat = q at *
  obtain ⟨n, t⟩ := q
  dsimp only at hr ⊢
  by_cases he : t.err ≠ 0
  · rw [takeS_bad he, if_pos he]
    unfold txt1; rw [if_pos he]
    show ([], Scn.mk s.rest t.err) = ([], t)
    rw [← hr he]
  · have he0 : t.err = 0 := by omega
    rw [if_neg he]
    by_cases hn : t.rest.length < n
    · rw [takeS_short he0 hn, if_pos hn]
      unfold txt1; rw [if_pos (by simp)]
    · rw [takeS_some he0 (by omega), if_neg hn]
      unfold txt1; rw [if_neg (by simp)]
theorem max0 (z : Int) : (if (0 : Int) > z then 0 else z) = ((z.toNat : Nat) : Int) := by omega
end Go.Proofs.YtdeggdmoijfhdaaDoor

/-
  Layer 6: the walks of the reference's CountOf and TextOf.
-/
namespace Go.Proofs.YtdeggdmoijfhdaaDoor
open Go Go.RowKit
variable {Lm : Nat}

/-- what is read behind a count's first byte -/
def cN (c : UInt8) (r : List UInt8) : Nat := if fSize c = 0 then c.toNat else numL (r.take (fSize c))
theorem countS_cN (c : UInt8) (r : List UInt8) (most : Nat) : countS ⟨c :: r, 0⟩ most = if r.length < fSize c then (0, ⟨c :: r, 61⟩) else if cSize (cN c r) ≠ fSize c ∨ most < cN c r then (0, ⟨c :: r, 62⟩) else (cN c r, ⟨r.drop (fSize c), 0⟩) := countS_cons c r most
theorem cN_lt {c : UInt8} {r : List UInt8} : cN c r < 18446744073709551616 := by
  have hc := c.toNat_lt
  unfold cN; split
  · omega
  · exact numL_lt64 _ (by have := fSize_le c; rw [List.length_take]; omega)
end Go.Proofs.YtdeggdmoijfhdaaDoor
