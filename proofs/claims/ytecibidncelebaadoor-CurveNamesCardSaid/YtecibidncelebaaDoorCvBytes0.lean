/-
  Points as bytes, plain: what bytes a point has, which point bytes are, and that one undoes the other. No walk here.
-/
import Derived.Test.YtecibidncelebaaDoorFRootKit
import Derived.Test.YtecibidncelebaaDoorCvRef4
namespace Go.Proofs.YtecibidncelebaaDoor
open Go Go.RowKit
open Cv

/-- 32 bytes, the highest first -/
def bytes32 (a : Nat) : List UInt8 := (List.range 32).map fun i => UInt8.ofNat (bytesOf a i)
theorem bytes32_length (a : Nat) : (bytes32 a).length = 32 := by unfold bytes32; simp
theorem bytesOf_lt (a i : Nat) : bytesOf a i < 256 := Nat.mod_lt _ (by decide)
theorem ofNat_toNat {k : Nat} (h : k < 256) : (UInt8.ofNat k).toNat = k := by
  rw [UInt8.toNat_ofNat']; exact Nat.mod_eq_of_lt h
theorem bytes32_at (a i : Nat) (hi : i < 32) : ((bytes32 a).getD i 0).toNat = bytesOf a i := by
  unfold bytes32
  rw [List.getD_eq_getElem?_getD, List.getElem?_map, List.getElem?_range hi]
  exact ofNat_toNat (bytesOf_lt a i)
/-- the number of bytes, the highest first -/
def numOf (r : List UInt8) : Nat := bnum (fun i => (r.getD (31 - i) 0).toNat) 32
theorem bnum_same {f g : Nat → Nat} : ∀ k, (∀ i, i < k → f i = g i) → bnum f k = bnum g k
  | 0, _ => rfl
  | k + 1, h => by
    show bnum f k + f k * 2 ^ (8 * k) = bnum g k + g k * 2 ^ (8 * k)
    rw [bnum_same k (fun i hi => h i (by omega)), h k (by omega)]
theorem byte_lt (r : List UInt8) (i : Nat) : (r.getD i 0).toNat < 256 := UInt8.toNat_lt _
theorem numOf_lt (r : List UInt8) : numOf r < M256 := bnum_M256 _ fun _ => byte_lt r _
theorem numOf_bytes (a : Nat) (ha : a < M256) : numOf (bytes32 a) = a := by
  unfold numOf
  rw [bnum_same 32 (g := nbyte a) (fun i hi => by rw [bytes32_at a (31 - i) (by omega)]; unfold bytesOf; rw [show 31 - (31 - i) = i by omega]), bnum_self]
  exact Nat.mod_eq_of_lt ha
theorem bytes_numOf (r : List UInt8) (hr : r.length = 32) : bytes32 (numOf r) = r := by
  apply List.ext_getElem?
  intro p
  by_cases hp : p < 32
  · unfold bytes32
    rw [List.getElem?_map, List.getElem?_range hp, List.getElem?_eq_getElem (by omega)]
    show some (UInt8.ofNat (bytesOf (numOf r) p)) = some r[p]
    have e : bytesOf (numOf r) p = r[p].toNat := by
      unfold bytesOf numOf
      rw [bnum_byte (fun i => (r.getD (31 - i) 0).toNat) (fun _ => byte_lt r _) (31 - p) 32 (by omega)]
      show (r.getD (31 - (31 - p)) 0).toNat = _
      rw [show 31 - (31 - p) = p by omega, List.getD_eq_getElem?_getD, List.getElem?_eq_getElem (by omega)]; rfl
    rw [e, UInt8.ofNat_toNat]
  · rw [List.getElem?_eq_none (by rw [bytes32_length]; omega), List.getElem?_eq_none (by omega)]
instance (m a : Nat) : Decidable (HasRoot m a) := inferInstanceAs (Decidable (rootOf m a * rootOf m a % m = a % m))
/-- what the square of Y is -/
def sqAt (x : Nat) : Nat := (x * x % PP * x % PP + 7) % PP
theorem sqAt_lt (x : Nat) : sqAt x < PP := Nat.mod_lt _ (by decide)
theorem sqAt_FP (x : Nat) : FP (sqAt x) = FP x * FP x * FP x + 7 := sq_FP rfl rfl
def rootAt (x : Nat) : Nat := evenRoot PP (sqAt x)
theorem rootAt_lt (x : Nat) : rootAt x < PP := evenRoot_lt (by decide)
theorem rootAt_even (x : Nat) : rootAt x % 2 = 0 := evenRoot_even (by decide)
theorem rootAt_sq {x : Nat} (h : HasRoot PP (sqAt x)) : FP (rootAt x) * FP (rootAt x) = FP x * FP x * FP x + 7 := by
  rw [← sqAt_FP, ← FP_mul]
  exact FP_eq.2 (evenRoot_sq (by decide) h)
/-- the point of a number, even -/
def liftPt (x : Nat) : Pt PP := .mk (FP x) (FP (rootAt x))
theorem liftPt_on {x : Nat} (h : HasRoot PP (sqAt x)) : (liftPt x).On := rootAt_sq h
/-- a point's bytes -/
def ptBytes : Pt PP → List UInt8
  | .o => [0]
  | .mk x y => UInt8.ofNat (2 + y.val % 2) :: bytes32 x.val
/-- the point of bytes -/
def parseL : List UInt8 → Option (Pt PP)
  | [] => none
  | c :: r => if c = 0 ∧ r = [] then some .o else if r.length = 32 ∧ (c = 2 ∨ c = 3) then (if HasRoot PP (sqAt (numOf r)) ∧ numOf r < PP then some (if c = 2 then liftPt (numOf r) else (liftPt (numOf r)).neg) else none) else none
theorem parseL_cons (c : UInt8) (r : List UInt8) : parseL (c :: r) = if c = 0 ∧ r = [] then some .o else if r.length = 32 ∧ (c = 2 ∨ c = 3) then (if HasRoot PP (sqAt (numOf r)) ∧ numOf r < PP then some (if c = 2 then liftPt (numOf r) else (liftPt (numOf r)).neg) else none) else none := rfl
theorem neg_val (y : Fin PP) (h : y ≠ 0) : (0 - y).val = PP - y.val := by
  have h0 : y.val ≠ 0 := fun e => h (Fin.ext e)
  have hl := y.isLt
  rw [Fin.sub_def]
  show (PP - y.val + 0) % PP = _
  rw [Nat.add_zero]; exact Nat.mod_eq_of_lt (by omega)
theorem PP_odd : PP % 2 = 1 := by decide
/-- the point of a point's bytes is the point -/
theorem parse_bytes {p : Pt PP} (h : p.On) : parseL (ptBytes p) = some p := by
  cases p with
  | o => rfl
  | mk x y =>
    have h : y * y = x * x * x + 7 := h
    have hy := goodP.y_ne h
    have hxM : x.val < M256 := val_lt x
    have hsq : sqAt x.val = y.val * y.val % PP := by
      have e := sqAt_FP x.val
      rw [FP_of_val, ← h] at e
      have e2 := val_of (sqAt_lt x.val) e
      rw [e2, Fin.val_mul]
    have hr : HasRoot PP (sqAt x.val) := hasRoot_square PP_prime PP_four hsq
    have hown := root_own PP_prime PP_four hsq
    have hev := rootAt_even x.val
    have hyl := y.isLt
    have hy0 : y.val ≠ 0 := fun e => hy (Fin.ext e)
    have hodd := PP_odd
    show parseL (UInt8.ofNat (2 + y.val % 2) :: bytes32 x.val) = _
    rw [parseL_cons, if_neg (fun e => by have := congrArg List.length e.2; rw [bytes32_length] at this; cases this), numOf_bytes x.val hxM]
    have hcase : rootAt x.val = y.val ∨ rootAt x.val = PP - y.val := by
      rcases hown with e | e
      · left; unfold rootAt; rw [e]; exact Nat.mod_eq_of_lt hyl
      · right; unfold rootAt; rw [e, Nat.zero_mod, Nat.zero_add, Nat.mod_eq_of_lt hyl]; exact Nat.mod_eq_of_lt (by omega)
    rcases Nat.mod_two_eq_zero_or_one y.val with hp | hp
    · rw [hp]
      rw [if_pos ⟨bytes32_length _, .inl rfl⟩, if_pos ⟨hr, x.isLt⟩, if_pos (show UInt8.ofNat (2 + 0) = 2 from rfl)]
      have e : rootAt x.val = y.val := by omega
      unfold liftPt
      rw [e, FP_of_val, FP_of_val]
    · rw [hp]
      rw [if_pos ⟨bytes32_length _, .inr rfl⟩, if_pos ⟨hr, x.isLt⟩, if_neg (show UInt8.ofNat (2 + 1) ≠ 2 by decide)]
      have e : rootAt x.val = PP - y.val := by omega
      have e3 : FP (rootAt x.val) = 0 - y := by
        rw [e, ← neg_val y hy, FP_of_val]
      unfold liftPt Pt.neg
      rw [e3, FP_of_val]
      simp only [Cv.neg_neg]
/-- what is a point of bytes has these bytes -/
theorem parse_some {l : List UInt8} {p : Pt PP} (h : parseL l = some p) : p.On ∧ ptBytes p = l := by
  cases l with
  | nil => cases h
  | cons c r =>
    rw [parseL_cons] at h
    split at h
    · rename_i hc
      obtain ⟨rfl, rfl⟩ := hc
      obtain rfl := Option.some.inj h
      exact ⟨trivial, rfl⟩
    · split at h
      · rename_i hc
        split at h
        · rename_i hr
          obtain rfl := Option.some.inj h
          have hon := liftPt_on hr.1
          have hyn : FP (rootAt (numOf r)) ≠ 0 := goodP.y_ne hon
          have hev := rootAt_even (numOf r)
          have hxv : (FP (numOf r)).val = numOf r := Nat.mod_eq_of_lt hr.2
          have hyv : (FP (rootAt (numOf r))).val = rootAt (numOf r) := Nat.mod_eq_of_lt (rootAt_lt _)
          have hyl := rootAt_lt (numOf r)
          have hodd := PP_odd
          split
          · rename_i h2
            refine ⟨hon, ?_⟩
            show UInt8.ofNat (2 + (FP (rootAt (numOf r))).val % 2) :: bytes32 (FP (numOf r)).val = _
            rw [hyv, hev, hxv, bytes_numOf r hc.1, h2]; rfl
          · rename_i h2
            refine ⟨Pt.neg_on hon, ?_⟩
            show UInt8.ofNat (2 + (0 - FP (rootAt (numOf r))).val % 2) :: bytes32 (FP (numOf r)).val = _
            have hv0 : rootAt (numOf r) ≠ 0 := fun e => hyn (by rw [e]; rfl)
            rw [neg_val _ hyn, hyv, hxv, bytes_numOf r hc.1, show (PP - rootAt (numOf r)) % 2 = 1 by omega, (hc.2).resolve_left h2]; rfl
        · cases h
      · cases h
/-- if bytes are none, those with the other sign are none -/
theorem parse_other {c d : UInt8} {r : List UInt8} (hr : r.length = 32) (hc : c = 2 ∨ c = 3) (hd : d = 2 ∨ d = 3) (h : parseL (c :: r) = none) : parseL (d :: r) = none := by
  have hne : ∀ e : UInt8, ¬(e = 0 ∧ r = []) := fun e h => by rw [h.2] at hr; cases hr
  rw [parseL_cons] at h ⊢
  rw [if_neg (hne c), if_pos ⟨hr, hc⟩] at h
  rw [if_neg (hne d), if_pos ⟨hr, hd⟩]
  split at h
  · cases h
  · rename_i hn; rw [if_neg hn]
theorem parse_zero {l : List UInt8} (h : parseL l = none) : l ≠ [0] := fun e => by subst e; cases h
end Go.Proofs.YtecibidncelebaaDoor
