/-
  Signatures, plainly: what Sign and Verify answer, by points; what is signed is verified; the example of the chapter. No walk here.
-/
import Derived.Test.YtfgffjmpjoipeaaDoorCvSign
import Derived.Test.YtfgffjmpjoipeaaDoorCvLaw1
namespace Go.Proofs.YtfgffjmpjoipeaaDoor
open Cv

def isSec (a : Nat) : Bool := decide (a ≠ 0 ∧ a < NN)
def isHi (s : Nat) : Bool := decide (NN / 2 < s)
def invN (s : Nat) : Nat := s ^ (NN - 2) % NN
def sgR (k : Nat) : Nat := pX (Pt.times ivP gPt k) % NN
def sgS0 (a z k : Nat) : Nat := (z + sgR k * a) % NN * invN k % NN
def sgS (a z k : Nat) : Nat := if isHi (sgS0 a z k) then NN - sgS0 a z k else sgS0 a z k
def signOf (a z k : Nat) : Option (Nat × Nat) := if isSec a && isSec k then (if sgR k = 0 ∨ sgS a z k = 0 then none else some (sgR k, sgS a z k)) else none
/-- the sum that Verify forms -/
def sumOf (p : Pt PP) (z r s : Nat) : Pt PP := both ivP gPt p (z * invN s % NN) (r * invN s % NN)
def verifyB (p : Pt PP) (z r s : Nat) : Bool := isSec r && isSec s && !isHi s && !pN p && !pN (sumOf p z r s) && decide (pX (sumOf p z r s) % NN = r)
theorem NN_two : NN = 2 * (NN / 2) + 1 := by decide
theorem NN_pos : 0 < NN := by decide
theorem isSec_iff {a : Nat} : isSec a = true ↔ a ≠ 0 ∧ a < NN := by unfold isSec; simp
theorem isHi_iff {a : Nat} : isHi a = true ↔ NN / 2 < a := by unfold isHi; simp
theorem isSec_mod {a : Nat} (h : isSec a = true) : a % NN ≠ 0 := by
  obtain ⟨h1, h2⟩ := isSec_iff.1 h
  rw [Nat.mod_eq_of_lt h2]; exact h1
theorem isSec_lt {a : Nat} (h : isSec a = true) : a < M256 := Nat.lt_trans (isSec_iff.1 h).2 (by decide)
theorem invN_lt (s : Nat) : invN s < NN := Nat.mod_lt _ NN_pos
theorem invN_mul {s : Nat} (h : isSec s = true) : s * invN s % NN = 1 := by
  unfold invN
  rw [Nat.mul_mod, Nat.mod_mod, ← Nat.mul_mod]
  exact inv_mul NN_prime (not_dvd_mod.2 (isSec_mod h))
theorem pN_some {p : Pt PP} (h : p ≠ .o) : pN p = false := by cases p with
  | o => exact absurd rfl h
  | mk x y => rfl
theorem pN_base {k : Nat} (h : isSec k = true) : pN (Pt.times ivP gPt k) = false := pN_some (base_some (isSec_mod h))
theorem sgR_lt (k : Nat) : sgR k < NN := Nat.mod_lt _ NN_pos
theorem sgS0_lt (a z k : Nat) : sgS0 a z k < NN := Nat.mod_lt _ NN_pos
theorem sgS_lt (a z k : Nat) : sgS a z k < NN ∧ isHi (sgS a z k) = false := by
  have h1 := sgS0_lt a z k
  have h2 := NN_two
  unfold sgS
  cases hh : isHi (sgS0 a z k) with
  | true =>
    have h3 := isHi_iff.1 hh
    simp only [if_true]
    refine ⟨by omega, ?_⟩
    unfold isHi; exact decide_eq_false (by omega)
  | false =>
    simp only [Bool.false_eq_true, if_false]
    exact ⟨h1, hh⟩
/-- S times k, as it comes out -/
theorem sgS0_mul {a z k : Nat} (hk : isSec k = true) : sgS0 a z k * k % NN = (z + sgR k * a) % NN := by
  unfold sgS0
  rw [Nat.mod_mul_mod, Nat.mul_assoc, Nat.mul_comm (invN k), Nat.mod_mul_mod, Nat.mul_mod, invN_mul hk, Nat.mul_one, Nat.mod_mod]
theorem signOf_some {a z k r s : Nat} (h : signOf a z k = some (r, s)) : isSec a = true ∧ isSec k = true ∧ sgR k = r ∧ sgS a z k = s ∧ r ≠ 0 ∧ s ≠ 0 := by
  unfold signOf at h
  split at h
  · rename_i h1
    simp only [Bool.and_eq_true] at h1
    split at h
    · cases h
    · rename_i h2
      simp only [Option.some.injEq, Prod.mk.injEq] at h
      obtain ⟨rfl, rfl⟩ := h
      exact ⟨h1.1, h1.2, rfl, rfl, fun e => h2 (.inl e), fun e => h2 (.inr e)⟩
  · cases h
theorem signOf_sec {a z k r s : Nat} (h : signOf a z k = some (r, s)) : isSec r = true ∧ isSec s = true ∧ isHi s = false := by
  obtain ⟨ha, hk, hr, hs, r0, s0⟩ := signOf_some h
  subst hr; subst hs
  obtain ⟨l1, l2⟩ := sgS_lt a z k
  exact ⟨isSec_iff.2 ⟨r0, sgR_lt k⟩, isSec_iff.2 ⟨s0, l1⟩, l2⟩
/-- WHAT A SECRET SIGNS ITS POINT VERIFIES -/
theorem sign_verifies {a z k r s : Nat} (h : signOf a z k = some (r, s)) : verifyB (Pt.times ivP gPt a) z r s = true := by
  obtain ⟨ha, hk, hr, hs, r0, s0⟩ := signOf_some h
  obtain ⟨h1, h2, h3⟩ := signOf_sec h
  have key : sumOf (Pt.times ivP gPt a) z r s = Pt.times ivP gPt k ∨ sumOf (Pt.times ivP gPt a) z r s = (Pt.times ivP gPt k).neg := by
    unfold sumOf both
    have hm := sgS0_mul (a := a) (z := z) hk
    rw [hr] at hm
    have hi := invN_mul h2
    unfold sgS at hs
    cases hh : isHi (sgS0 a z k) with
    | false =>
      left
      simp only [hh, Bool.false_eq_true, if_false] at hs
      rw [hs] at hm
      exact sign_whole hi hm
    | true =>
      right
      simp only [hh, if_true] at hs
      rw [← hs] at hi ⊢
      exact sign_other (Nat.le_of_lt (sgS0_lt a z k)) (Nat.le_of_lt (isSec_iff.1 hk).2) hi hm
  have hn : pN (sumOf (Pt.times ivP gPt a) z r s) = false := by
    have hb := base_some (isSec_mod hk)
    rcases key with e | e <;> rw [e]
    · exact pN_some hb
    · cases hq : Pt.times ivP gPt k with
      | o => exact absurd hq hb
      | mk x y => rfl
  have hx : pX (sumOf (Pt.times ivP gPt a) z r s) % NN = r := by
    rcases key with e | e <;> rw [e]
    · exact hr
    · rw [pX_neg]; exact hr
  unfold verifyB
  rw [h1, h2, h3, pN_base ha, hn, decide_eq_true hx]; simp only [Bool.not_false, Bool.and_self]
theorem verify_hi {p : Pt PP} {z r s : Nat} (h : isHi s = true) : verifyB p z r s = false := by
  unfold verifyB; rw [h]; simp only [Bool.not_true, Bool.and_false, Bool.false_and]
theorem verify_o (z r s : Nat) : verifyB .o z r s = false := by
  unfold verifyB; rw [show pN (.o : Pt PP) = true from rfl]; simp only [Bool.not_true, Bool.and_false, Bool.false_and]
theorem half_less {s : Nat} (h : isSec s = true) (hs : isHi s = false) : isHi (NN - s) = true ∧ s ≤ NN - s := by
  have h2 := NN_two
  have h3 := isSec_iff.1 h
  have h4 : ¬ NN / 2 < s := fun e => by rw [isHi_iff.2 e] at hs; cases hs
  exact ⟨isHi_iff.2 (by omega), by omega⟩
/-- the X of the base so many times, by three numbers -/
theorem pX_spot {k x : Nat} (hk : k < 2 ^ 256) (hx : x < PP) (h : (spotTimes 256 k gSpot).Z ≠ 0 ∧ (spotTimes 256 k gSpot).X = FP x * (spotTimes 256 k gSpot).Z) : pX (Pt.times ivP gPt k) = x := by
  have hr := spotTimes_rep goodP 256 k gSpot gPt gPt_on gSpot_rep hk
  obtain ⟨hz, hx2⟩ := h
  cases hq : Pt.times ivP gPt k with
  | o => rw [hq] at hr; exact absurd hr.2.1 hz
  | mk u v =>
    rw [hq] at hr
    have h2 := hr.2.1
    rw [hx2, Fin.mul_comm, Fin.mul_comm u] at h2
    have h3 := goodP.cancel hz h2
    show u.val = x
    rw [← h3]; exact Nat.mod_eq_of_lt hx

/-! ### the example: secret 7, k 11 -/
def z1 : Nat := 455867247951863528723853059459259808159848198720826202355039887506167300096
def z2 : Nat := 455874149698210319287640494215122085185300649829798372741595050030391099392
def r1 : Nat := 53957576663012291606402345341061437133522758407718089353314528343643821967563
def s1 : Nat := 49834346364499241692275237238419449370898305198168343944116778803557488261969
def j2 : Nat := 52910879806219058201826730918177356206948417205206069658491643174581142717425
def x2 : Nat := 74471171117952429601852010664952226396603897789373776400107394621120258429150
set_option maxRecDepth 100000 in
theorem spot11 : (spotTimes 256 11 gSpot).Z ≠ 0 ∧ (spotTimes 256 11 gSpot).X = FP r1 * (spotTimes 256 11 gSpot).Z := by decide +kernel
set_option maxRecDepth 100000 in
theorem spotJ : (spotTimes 256 j2 gSpot).Z ≠ 0 ∧ (spotTimes 256 j2 gSpot).X = FP x2 * (spotTimes 256 j2 gSpot).Z := by decide +kernel
theorem sgR_of {k x r : Nat} (h : pX (Pt.times ivP gPt k) = x) (hr : x % NN = r) : sgR k = r := by unfold sgR; rw [h, hr]
theorem signOf_mk {a z k r i s0 s : Nat} (ha : isSec a = true) (hk : isSec k = true) (hr : sgR k = r) (hi : invN k = i) (h0 : (z + r * a) % NN * i % NN = s0) (hs : (if isHi s0 then NN - s0 else s0) = s) (r0 : r ≠ 0) (n0 : s ≠ 0) : signOf a z k = some (r, s) := by
  have e0 : sgS0 a z k = s0 := by unfold sgS0; rw [hr, hi, h0]
  have e1 : sgS a z k = s := by unfold sgS; rw [e0, hs]
  unfold signOf
  rw [ha, hk, hr, e1, if_pos (by decide), if_neg (fun e => e.elim r0 n0)]
theorem sum_base {a z r s i j : Nat} (hi : invN s = i) (hj : (z * i % NN + a * (r * i % NN)) % NN = j % NN) : sumOf (Pt.times ivP gPt a) z r s = Pt.times ivP gPt j := by
  unfold sumOf both
  rw [base_both, hi, base_mod hj]
theorem verify_not {p : Pt PP} {z r s x : Nat} (h : pX (sumOf p z r s) = x) (hx : x % NN ≠ r) : verifyB p z r s = false := by
  unfold verifyB
  rw [h, decide_eq_false hx, Bool.and_false]
theorem r_11 : sgR 11 = r1 := sgR_of (pX_spot (by decide) (by decide) spot11) (by decide +kernel)
theorem inv_11 : invN 11 = 73685874969201215269545172278255941360896631813956757334385103817329739132760 := by
  have h1 := invN_mul (s := 11) (by decide)
  have h2 : 11 * 73685874969201215269545172278255941360896631813956757334385103817329739132760 % NN = 1 := by decide +kernel
  have h3 := inv_unique h1 h2
  rw [Nat.mod_eq_of_lt (invN_lt 11)] at h3
  rw [h3]; decide +kernel
theorem inv_s1 : invN s1 = 87099805397703254744963950443940113057205375566605467524675766640041817901921 := by
  have h1 := invN_mul (s := s1) (by decide)
  have h2 : s1 * 87099805397703254744963950443940113057205375566605467524675766640041817901921 % NN = 1 := by decide +kernel
  have h3 := inv_unique h1 h2
  rw [Nat.mod_eq_of_lt (invN_lt s1)] at h3
  rw [h3]; decide +kernel
theorem sign_7 : signOf 7 z1 11 = some (r1, s1) := signOf_mk (s0 := 65957742872816953731295747770268458481939259080906560438488384337960673232368) (by decide) (by decide) r_11 inv_11 (by decide +kernel) (by decide +kernel) (by decide) (by decide)
theorem verify_7 : verifyB (Pt.times ivP gPt 7) z1 r1 s1 = true := sign_verifies sign_7
theorem verify_no : verifyB (Pt.times ivP gPt 7) z2 r1 s1 = false :=
  verify_not (x := x2) ((congrArg pX (sum_base inv_s1 (j := j2) (by decide +kernel))).trans (pX_spot (by decide) (by decide) spotJ)) (by decide +kernel)
end Go.Proofs.YtfgffjmpjoipeaaDoor
