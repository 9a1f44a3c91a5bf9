/-
  Numbers of 256 bits: a natural number by its four limbs of 64 bits. No walk here, no program.
-/
import Derived.Test.YtajpdmcbdekpbaaDoorKitGen
namespace Go.Proofs.YtajpdmcbdekpbaaDoor
open Go Go.RowKit

/-- 2 to the power of 64 k -/
def P64 (k : Nat) : Nat := 18446744073709551616 ^ k
theorem P64_pos (k : Nat) : 0 < P64 k := Nat.pow_pos (by decide)
theorem P64_succ (k : Nat) : P64 (k + 1) = P64 k * 18446744073709551616 := Nat.pow_succ ..
theorem P64_zero : P64 0 = 1 := rfl
/-- 2 to the power of 256 -/
def M256 : Nat := 115792089237316195423570985008687907853269984665640564039457584007913129639936
theorem P64_four : P64 4 = M256 := by decide
theorem M256_pos : 0 < M256 := by decide
/-- the k-th limb -/
def limb (a k : Nat) : Nat := a / P64 k % 18446744073709551616
theorem limb_lt (a k : Nat) : limb a k < 18446744073709551616 := Nat.mod_lt _ (by decide)
/-- what lies below the k-th limb -/
def low (a k : Nat) : Nat := a % P64 k
theorem low_lt (a k : Nat) : low a k < P64 k := Nat.mod_lt _ (P64_pos k)
theorem low_zero (a : Nat) : low a 0 = 0 := by unfold low; rw [P64_zero, Nat.mod_one]
theorem low_succ (a k : Nat) : low a (k + 1) = low a k + P64 k * limb a k := by
  unfold low limb; rw [P64_succ, Nat.mod_mul]
theorem low_four (a : Nat) (h : a < M256) : low a 4 = a := by
  unfold low; rw [P64_four]; exact Nat.mod_eq_of_lt h
theorem low_mod (a k : Nat) : low (low a k) k = low a k := Nat.mod_mod _ _

/-- what is carried into the k-th limb -/
def car (a b k : Nat) : Nat := (low a k + low b k) / P64 k
theorem car_zero (a b : Nat) : car a b 0 = 0 := by unfold car; rw [low_zero, low_zero]; rfl
theorem car_le (a b k : Nat) : car a b k ≤ 1 := by
  unfold car
  have h1 := low_lt a k; have h2 := low_lt b k
  have : (low a k + low b k) / P64 k < 2 := Nat.div_lt_of_lt_mul (by omega)
  omega
theorem car_succ (a b k : Nat) : car a b (k + 1) = (limb a k + limb b k + car a b k) / 18446744073709551616 := by
  unfold car
  rw [low_succ, low_succ, P64_succ, ← Nat.div_div_eq_div_mul]
  rw [show low a k + P64 k * limb a k + (low b k + P64 k * limb b k) = (low a k + low b k) + P64 k * (limb a k + limb b k) by rw [Nat.mul_add]; omega]
  rw [Nat.add_mul_div_left _ _ (P64_pos k), Nat.add_comm]
theorem div_add_car (a b k : Nat) : (a + b) / P64 k = a / P64 k + b / P64 k + car a b k := by
  have ha : a = low a k + P64 k * (a / P64 k) := (Nat.mod_add_div a _).symm
  have hb : b = low b k + P64 k * (b / P64 k) := (Nat.mod_add_div b _).symm
  have e : a + b = (low a k + low b k) + P64 k * (a / P64 k + b / P64 k) := by rw [Nat.mul_add]; omega
  unfold car
  rw [congrArg (· / P64 k) e]
  show (low a k + low b k + P64 k * (a / P64 k + b / P64 k)) / P64 k = _
  rw [Nat.add_mul_div_left _ _ (P64_pos k), Nat.add_comm]
theorem limb_add (a b k : Nat) : limb (a + b) k = (limb a k + limb b k + car a b k) % 18446744073709551616 := by
  show (a + b) / P64 k % _ = _
  rw [div_add_car]; unfold limb; omega
theorem car_four (a b : Nat) (ha : a < M256) (hb : b < M256) : car a b 4 = if M256 ≤ a + b then 1 else 0 := by
  unfold car; rw [low_four a ha, low_four b hb, P64_four]
  split
  · exact Nat.div_eq_of_lt_le (by omega) (by omega)
  · exact Nat.div_eq_of_lt (by omega)

/-- is there less below the k-th limb -/
def brw (a b k : Nat) : Nat := if low a k < low b k then 1 else 0
theorem brw_zero (a b : Nat) : brw a b 0 = 0 := by unfold brw; rw [low_zero, low_zero]; rfl
theorem brw_le (a b k : Nat) : brw a b k ≤ 1 := by unfold brw; split <;> omega
theorem brw_succ (a b k : Nat) : brw a b (k + 1) = if limb a k < limb b k + brw a b k then 1 else 0 := by
  have h1 := low_lt a k; have h2 := low_lt b k
  have hA := low_succ a k; have hB := low_succ b k
  have key : low a (k + 1) < low b (k + 1) ↔ limb a k < limb b k + brw a b k := by
    rw [hA, hB]
    unfold brw
    rcases Nat.lt_trichotomy (limb a k) (limb b k) with h | h | h
    · have : P64 k * limb a k + P64 k ≤ P64 k * limb b k := by rw [← Nat.mul_succ]; exact Nat.mul_le_mul_left _ h
      constructor
      · intro _; split <;> omega
      · intro _; omega
    · rw [h]
      split
      · constructor <;> intro _ <;> omega
      · constructor <;> intro _ <;> omega
    · have : P64 k * limb b k + P64 k ≤ P64 k * limb a k := by rw [← Nat.mul_succ]; exact Nat.mul_le_mul_left _ h
      constructor
      · intro _; omega
      · intro hh; split at hh <;> omega
  show (if low a (k + 1) < low b (k + 1) then 1 else 0) = _
  by_cases h : low a (k + 1) < low b (k + 1)
  · rw [if_pos h, if_pos (key.1 h)]
  · rw [if_neg h, if_neg (fun h' => h (key.2 h'))]
theorem brw_four (a b : Nat) (ha : a < M256) (hb : b < M256) : brw a b 4 = if a < b then 1 else 0 := by
  unfold brw; rw [low_four a ha, low_four b hb]
theorem P64_dvd (k : Nat) (hk : k ≤ 4) : ∃ q, M256 = P64 k * q := by
  rw [← P64_four]; exact ⟨P64 (4 - k), by unfold P64; rw [← Nat.pow_add]; congr 1; omega⟩
theorem limb_M256 (a k : Nat) (hk : k < 4) : limb (a + M256) k = limb a k := by
  obtain ⟨q, hq⟩ := P64_dvd (k + 1) hk
  rw [P64_succ, Nat.mul_assoc] at hq
  unfold limb
  rw [hq, Nat.add_mul_div_left _ _ (P64_pos k), Nat.add_mul_mod_self_left]
theorem low_M256 (a k : Nat) (hk : k ≤ 4) : low (a + M256) k = low a k := by
  obtain ⟨q, hq⟩ := P64_dvd k hk
  unfold low; rw [hq, Nat.add_mul_mod_self_left]
theorem car_of_low (d b k : Nat) : car d b k = if low (d + b) k < low b k then 1 else 0 := by
  have h1 := low_lt d k; have h2 := low_lt b k
  have e : low (d + b) k = (low d k + low b k) % P64 k := Nat.add_mod ..
  unfold car; rw [e]
  by_cases h : low d k + low b k < P64 k
  · rw [Nat.div_eq_of_lt h, Nat.mod_eq_of_lt h, if_neg (by omega)]
  · have hm : (low d k + low b k) % P64 k = low d k + low b k - P64 k := by
      rw [Nat.mod_eq_sub_mod (by omega), Nat.mod_eq_of_lt (by omega)]
    rw [hm, if_pos (by omega)]
    exact Nat.div_eq_of_lt_le (by omega) (by omega)
theorem limb_sub (a b k : Nat) (hb : b ≤ a + M256) (hk : k < 4) : limb (a + M256 - b) k = (limb a k + 18446744073709551616 - limb b k - brw a b k) % 18446744073709551616 := by
  have h := limb_add (a + M256 - b) b k
  have hc := car_of_low (a + M256 - b) b k
  rw [show a + M256 - b + b = a + M256 by omega] at h hc
  rw [limb_M256 a k hk] at h
  rw [low_M256 a k (by omega)] at hc
  have hbe : brw a b k = car (a + M256 - b) b k := by rw [hc]; rfl
  have h1 := limb_lt (a + M256 - b) k; have h2 := limb_lt b k; have h3 := limb_lt a k; have h4 := brw_le a b k
  omega

/-- the limbs tell the number -/
theorem low_of_limbs {a b : Nat} : ∀ k, (∀ j, j < k → limb a j = limb b j) → low a k = low b k
  | 0, _ => by rw [low_zero, low_zero]
  | k + 1, h => by rw [low_succ, low_succ, low_of_limbs k (fun j hj => h j (by omega)), h k (by omega)]
theorem limb_low {a b k : Nat} (hk : k < 4) (h : low a 4 = low b 4) : limb a k = limb b k := by
  have e : ∀ c, limb c k = limb (low c 4) k := fun c => by
    unfold low
    rw [P64_four]
    conv => lhs; rw [← Nat.mod_add_div c M256]
    generalize c % M256 = r
    generalize c / M256 = q
    induction q with
    | zero => simp
    | succ q ih => rw [Nat.mul_succ, ← Nat.add_assoc, limb_M256 _ _ hk]; exact ih
  rw [e a, e b, h]

/-- the cells of a number of 256 bits -/
def wcells (a : Nat) : Array Value := tab 4 fun j => .int .u64 (limb a j : Int)
/-- a number of 256 bits as a value -/
def WV (a : Nat) : Value := .agg (wcells a)
theorem wcells_size (a : Nat) : (wcells a).size = 4 := tab_size ..
theorem wcells_get (a j : Nat) (h : j < 4) : (wcells a)[j]? = some (.int .u64 (limb a j : Int)) := tab_get _ _ _ h
theorem wcells_one (a : Nat) : ∀ v ∈ wcells a, v.oneCell' = true := tab_one _ _ fun _ _ => rfl
theorem wcells_mod (a : Nat) : wcells (a % M256) = wcells a := tab_congr fun j hj => by
  rw [limb_low (a := a % M256) (b := a) hj (by unfold low; rw [P64_four, Nat.mod_mod])]
theorem WV_mod (a : Nat) : WV (a % M256) = WV a := by unfold WV; rw [wcells_mod]
theorem limbs_eq (a b : Nat) : ((List.range 4).all fun j => ((limb a j : Nat) : Int) == ((limb b j : Nat) : Int)) = decide (a % M256 = b % M256) := by
  rw [Bool.eq_iff_iff]
  simp only [List.all_eq_true, List.mem_range, beq_iff_eq, decide_eq_true_eq, Int.natCast_inj]
  constructor
  · intro h
    have := low_of_limbs (a := a) (b := b) 4 h
    unfold low at this; rwa [P64_four] at this
  · intro h j hj
    exact limb_low hj (by unfold low; rw [P64_four]; exact h)
theorem wcells_zero : wcells 0 = tab 4 fun _ => .int .u64 0 := tab_congr fun j _ => by unfold limb; simp

end Go.Proofs.YtajpdmcbdekpbaaDoor
