/-
  The walk of wide's Div: how often b goes into a, and what is left.
-/
import Derived.Test.YtajpdmcbdekpbaaDoorWShift
import Derived.Test.YtajpdmcbdekpbaaDoorKit6
namespace Go.Proofs.YtajpdmcbdekpbaaDoor
open Go Go.RowKit

/-! ### plain -/
theorem limb_bit (s n : Nat) : limb (2 ^ (n + 1) * s + 2 ^ n) (n / 64) = limb (2 ^ (n + 1) * s) (n / 64) ||| 2 ^ (n % 64) := by
  obtain ⟨q, r, hr, rfl⟩ : ∃ q r, r < 64 ∧ n = 64 * q + r := ⟨n / 64, n % 64, Nat.mod_lt _ (by decide), (Nat.div_add_mod n 64).symm⟩
  have e1 : (64 * q + r) / 64 = q := by omega
  have e2 : (64 * q + r) % 64 = r := by omega
  rw [e1, e2]
  have e3 : 2 ^ (64 * q + r + 1) * s = P64 q * (2 ^ (r + 1) * s) := by
    rw [show 64 * q + r + 1 = 64 * q + (r + 1) by omega, Nat.pow_add, ← P64_pow, Nat.mul_assoc]
  have e4 : 2 ^ (64 * q + r) = P64 q * 2 ^ r := by rw [Nat.pow_add, ← P64_pow]
  rw [e3, e4, ← Nat.mul_add]
  unfold limb
  rw [Nat.mul_div_cancel_left _ (P64_pos q), Nat.mul_div_cancel_left _ (P64_pos q)]
  have hp := pow_split (r + 1) (by omega)
  have h2 : 2 ^ r < 2 ^ (r + 1) := Nat.pow_lt_pow_right (by decide) (by omega)
  have e5 : 2 ^ (r + 1) * s % 18446744073709551616 = 2 ^ (r + 1) * (s % 2 ^ (64 - (r + 1))) := by
    rw [hp, Nat.mul_comm (2 ^ (64 - (r + 1))), Nat.mul_mod_mul_left]
  have e6 : 2 ^ (r + 1) * (s % 2 ^ (64 - (r + 1))) + 2 ^ (r + 1) ≤ 18446744073709551616 := by
    rw [hp, Nat.mul_comm (2 ^ (64 - (r + 1))), ← Nat.mul_add_one]
    exact Nat.mul_le_mul_left _ (Nat.mod_lt _ (Nat.pow_pos (by decide)))
  rw [e5, ← Nat.two_pow_add_eq_or_of_lt h2, Nat.add_mod, e5, Nat.mod_eq_of_lt (show 2 ^ r < 18446744073709551616 by omega)]
  exact Nat.mod_eq_of_lt (by omega)
theorem limb_bit_ne (s n j : Nat) (h : j ≠ n / 64) : limb (2 ^ (n + 1) * s + 2 ^ n) j = limb (2 ^ (n + 1) * s) j := by
  by_cases hj : j < n / 64
  · have e : 2 ^ n = P64 (n / 64) * 2 ^ (n % 64) := by rw [P64_pow, ← Nat.pow_add, Nat.div_add_mod]
    rw [e, limb_mult _ _ _ _ hj]
  · have e : P64 j = 2 ^ (n + 1) * 2 ^ (64 * j - (n + 1)) := by rw [P64_pow, ← Nat.pow_add]; congr 1; omega
    have h2 : 2 ^ n < 2 ^ (n + 1) := Nat.pow_lt_pow_right (by decide) (by omega)
    unfold limb
    congr 1
    rw [e, ← Nat.div_div_eq_div_mul, ← Nat.div_div_eq_div_mul, Nat.mul_add_div (Nat.pow_pos (by decide)), Nat.div_eq_of_lt h2, Nat.add_zero, Nat.mul_div_cancel_left _ (Nat.pow_pos (by decide))]
theorem wcells_bit (t s n v : Nat) (ht : t = 2 ^ (n + 1) * s) (hv : v = limb t (n / 64) ||| 2 ^ (n % 64)) : (wcells t).setIfInBounds (n / 64) (.int .u64 (v : Int)) = wcells (t + 2 ^ n) := tab_set fun j hj => by
  subst ht; subst hv
  by_cases h : j = n / 64
  · subst h; rw [if_pos rfl, limb_bit]
  · rw [if_neg h, limb_bit_ne _ _ _ h]

theorem pow_wrap (r : Nat) (h : r < 64) : IntKind.u64.wrap ((2 : Int) ^ r) = ((2 ^ r : Nat) : Int) := by
  have h2 : 2 ^ r < 2 ^ 64 := Nat.pow_lt_pow_right (by decide) h
  have e : ((2 : Int) ^ r) = ((2 ^ r : Nat) : Int) := by rw [Int.natCast_pow]; rfl
  rw [e, wrap64_lt _ h2]
theorem or_bit (l r : Nat) (hl : l < 18446744073709551616) (h : r < 64) : bits .or .u64 (l : Int) (IntKind.u64.wrap ((2 : Int) ^ r)) = ((l ||| 2 ^ r : Nat) : Int) := by
  have h2 : 2 ^ r < 2 ^ 64 := Nat.pow_lt_pow_right (by decide) h
  rw [pow_wrap r h, u64_or_nat _ _ hl h2]

/-- what holds of the loop: n + 1 is k -/
structure DivInv (a b k c t : Nat) : Prop where
  whole : a = t * b + c
  small : c < b * 2 ^ k
  mult : ∃ s, t = 2 ^ k * s
  fits : 1 ≤ k → b * 2 ^ (k - 1) < M256
theorem divInv_start (a b : Nat) (ha : a < M256) (hb : b ≠ 0) (h : blen b ≤ blen a) : DivInv a b (blen a - blen b + 1) a 0 := by
  have h1 := blen_lt a
  have h2 := blen_ge b hb
  have h3 := blen_pos b hb
  have h4 := blen_lt b
  have hA : blen a ≤ 256 := (blen_le a 256).2 (by simpa [M256] using ha)
  refine ⟨by simp, ?_, ⟨0, by simp⟩, fun _ => ?_⟩
  · have e : 2 ^ blen a = 2 ^ (blen b - 1) * 2 ^ (blen a - blen b + 1) := by rw [← Nat.pow_add]; congr 1; omega
    rw [e] at h1
    exact Nat.lt_of_lt_of_le h1 (Nat.mul_le_mul_right _ h2)
  · rw [Nat.add_sub_cancel]
    have e : 2 ^ blen b * 2 ^ (blen a - blen b) = 2 ^ blen a := by rw [← Nat.pow_add]; congr 1; omega
    have h5 : b * 2 ^ (blen a - blen b) < 2 ^ blen a := by
      rw [← e]; exact Nat.mul_lt_mul_of_pos_right h4 (Nat.pow_pos (by decide))
    have h6 : 2 ^ blen a ≤ 2 ^ 256 := Nat.pow_le_pow_right (by decide) hA
    have : M256 = 2 ^ 256 := by decide
    omega
theorem divInv_less (a b : Nat) (h : blen a < blen b) : DivInv a b 0 a 0 := by
  have hlt : a < b := by
    have h1 := blen_lt a
    have hb : b ≠ 0 := fun e => by subst e; rw [blen_zero] at h; omega
    have h2 := blen_ge b hb
    have : 2 ^ blen a ≤ 2 ^ (blen b - 1) := Nat.pow_le_pow_right (by decide) (by omega)
    omega
  exact ⟨by simp, by simpa using hlt, ⟨0, by simp⟩, fun h => by omega⟩
theorem divInv_yes {a b n c t : Nat} (h : DivInv a b (n + 1) c t) (hc : b * 2 ^ n ≤ c) : DivInv a b n (c - b * 2 ^ n) (t + 2 ^ n) := by
  obtain ⟨h1, h2, ⟨s, h3⟩, h4⟩ := h
  refine ⟨?_, ?_, ⟨2 * s + 1, ?_⟩, fun hn => ?_⟩
  · rw [Nat.add_mul, Nat.mul_comm (2 ^ n) b]; omega
  · rw [Nat.pow_succ, ← Nat.mul_assoc, Nat.mul_two] at h2; omega
  · rw [h3, Nat.mul_add, Nat.mul_one, Nat.pow_succ, Nat.mul_assoc]
  · have := h4 (by omega)
    have h5 : b * 2 ^ (n - 1) ≤ b * 2 ^ n := Nat.mul_le_mul_left _ (Nat.pow_le_pow_right (by decide) (by omega))
    rw [Nat.add_sub_cancel] at this
    omega
theorem divInv_no {a b n c t : Nat} (h : DivInv a b (n + 1) c t) (hc : c < b * 2 ^ n) : DivInv a b n c t := by
  obtain ⟨h1, h2, ⟨s, h3⟩, h4⟩ := h
  refine ⟨h1, hc, ⟨2 * s, ?_⟩, fun hn => ?_⟩
  · rw [h3, Nat.pow_succ, Nat.mul_assoc]
  · have := h4 (by omega)
    have h5 : b * 2 ^ (n - 1) ≤ b * 2 ^ n := Nat.mul_le_mul_left _ (Nat.pow_le_pow_right (by decide) (by omega))
    rw [Nat.add_sub_cancel] at this
    omega
theorem divInv_end {a b c t : Nat} (h : DivInv a b 0 c t) : t = a / b ∧ c = a % b := by
  obtain ⟨h1, h2, -, -⟩ := h
  rw [Nat.pow_zero, Nat.mul_one] at h2
  have hb : 0 < b := by omega
  subst h1
  constructor
  · rw [Nat.mul_comm, Nat.mul_add_div hb, Nat.div_eq_of_lt h2, Nat.add_zero]
  · rw [Nat.mul_comm, Nat.mul_add_mod, Nat.mod_eq_of_lt h2]
theorem divInv_le {a b k c t : Nat} (h : DivInv a b k c t) : c ≤ a := by have := h.whole; omega

/-- the predicates of the region of the loop's first statement -/
def divPr (B0 cur bs : Nat) (nv b : Value) (i : Nat) (w : World) (v : Value) : Prop := match i with
  | 0 => v = .agg (wcells cur)
  | 1 => v = b
  | 2 => v = nv
  | 3 => v = .agg (wcells bs)
  | 4 => v = .tuple #[.agg (wcells (cur + M256 - bs)), .bool (decide (cur < bs))]
  | 5 => v = .tuple #[.agg (wcells (cur + M256 - bs)), .bool (decide (cur < bs))]
  | 6 => v = .agg (wcells (cur + M256 - bs))
  | 7 => v = .bool (decide (cur < bs))
  | 8 => ∃ g cs, v = .pointer (some ⟨g, 0, none⟩) ∧ B0 ≤ g ∧ cs.size = 4 ∧ Row w g 25 cs
  | 9 => ∃ g, v = .pointer (some ⟨g, 0, none⟩) ∧ B0 ≤ g ∧ Row w g 25 (wcells (cur + M256 - bs))
  | 10 => v = .bool (decide (cur < bs))
  | _ => True
theorem divPr_mono {B0 cur bs : Nat} {nv b : Value} : ∀ i w w' v, Below w.heap.size w w' → divPr B0 cur bs nv b i w v → divPr B0 cur bs nv b i w' v := by
  intro i w w' v hb h
  unfold divPr at *
  split at h <;> first | exact h | exact trivial | skip
  · obtain ⟨g, cs, h1, h2, h3, h4⟩ := h; exact ⟨g, cs, h1, h2, h3, h4.below hb h4.lt⟩
  · obtain ⟨g, h1, h2, h4⟩ := h; exact ⟨g, h1, h2, h4.below hb h4.lt⟩
theorem divPr_wrote {B0 cur bs g : Nat} {nv b : Value} {w w' : World} (hw : Wrote g w w') (hr : Row w' g 25 (wcells (cur + M256 - bs))) : ∀ i v, divPr B0 cur bs nv b i w v → divPr B0 cur bs nv b i w' v := by
  intro i v h
  unfold divPr at *
  split at h <;> first | exact h | exact trivial | skip
  · obtain ⟨g', cs, h1, h2, h3, h4⟩ := h
    by_cases e : g' = g
    · subst e; exact ⟨g', _, h1, h2, wcells_size _, hr⟩
    · exact ⟨g', cs, h1, h2, h3, hw.row h4 e⟩
  · obtain ⟨g', h1, h2, h4⟩ := h
    by_cases e : g' = g
    · subst e; exact ⟨g', h1, h2, hr⟩
    · exact ⟨g', h1, h2, hw.row h4 e⟩

end Go.Proofs.YtajpdmcbdekpbaaDoor
