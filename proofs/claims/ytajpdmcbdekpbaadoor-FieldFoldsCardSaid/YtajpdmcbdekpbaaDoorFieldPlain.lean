/-
  Numbers modulo a prime, plain: what makes a number 1, and roots modulo a prime that leaves 3 when divided by 4. No walk here, no program.
-/
import Derived.Test.YtajpdmcbdekpbaaDoorPrimesPN
namespace Go.Proofs.YtajpdmcbdekpbaaDoor

/-- both moduli -/
def PP : Nat := 115792089237316195423570985008687907853269984665640564039457584007908834671663
def NN : Nat := 115792089237316195423570985008687907852837564279074904382605163141518161494337
theorem PP_prime : IsPrime PP := prime_P
theorem NN_prime : IsPrime NN := prime_N
theorem PP_four : PP % 4 = 3 := by decide +kernel

theorem not_dvd_mod {p a : Nat} : ¬ p ∣ a ↔ a % p ≠ 0 := ⟨fun h e => h (Nat.dvd_of_mod_eq_zero e), fun h e => h (Nat.mod_eq_zero_of_dvd e)⟩
/-- a number times itself to the power of the prime less 2 is 1 -/
theorem inv_mul {p a : Nat} (hp : IsPrime p) (ha : ¬ p ∣ a) : a * a ^ (p - 2) % p = 1 := by
  have h2 := hp.1
  have e : a * a ^ (p - 2) = a ^ (p - 1) := by rw [Nat.mul_comm, ← Nat.pow_succ, show (p - 2).succ = p - 1 by omega]
  rw [e]; exact fermat hp ha
/-- what makes a number 1 is one alone -/
theorem inv_unique {p a x y : Nat} (hx : a * x % p = 1) (hy : a * y % p = 1) : x % p = y % p := by
  have e1 : x * (a * y) % p = x % p := by rw [Nat.mul_mod, hy, Nat.mul_one, Nat.mod_mod]
  have e2 : y * (a * x) % p = y % p := by rw [Nat.mul_mod, hx, Nat.mul_one, Nat.mod_mod]
  have e3 : x * (a * y) = y * (a * x) := by ac_rfl
  rw [← e1, ← e2, e3]
theorem inv_not_dvd {p a x : Nat} (hx : a * x % p = 1) : ¬ p ∣ a := fun h => by
  have := Nat.mod_eq_zero_of_dvd (Nat.dvd_trans h (Nat.dvd_mul_right a x)); omega

/-! ### what is missing to the prime -/
theorem neg_add {p a : Nat} (hp : 0 < p) : (a + (p - a % p)) % p = 0 := by
  have h := Nat.mod_lt a hp
  have e := Nat.div_add_mod a p
  rw [show a + (p - a % p) = p * (a / p) + p by omega, Nat.mul_add_mod, Nat.mod_self]
theorem neg_unique {p a b : Nat} (hp : 0 < p) (h : (a + b) % p = 0) : b % p = (p - a % p) % p := by
  have ha := Nat.mod_lt a hp
  have hb := Nat.mod_lt b hp
  rw [Nat.add_mod] at h
  by_cases h0 : a % p = 0
  · rw [h0, Nat.zero_add, Nat.mod_mod] at h
    rw [h0, h, Nat.sub_zero, Nat.mod_self]
  · have h1 : a % p + b % p = p := by
      obtain ⟨k, hk⟩ := Nat.dvd_of_mod_eq_zero h
      match k, hk with
      | 0, hk => omega
      | 1, hk => omega
      | k + 2, hk =>
        have : p * (k + 2) = p * k + 2 * p := by rw [Nat.mul_add]; omega
        omega
    rw [show p - a % p = b % p by omega, Nat.mod_mod]
theorem neg_sq {p a b : Nat} (h : (a + b) % p = 0) : a * a % p = b * b % p := by
  obtain ⟨k, hk⟩ := Nat.dvd_of_mod_eq_zero h
  have e : a * a + p * (k * b) = b * b + p * (k * a) := by
    have e1 : p * (k * b) = (a + b) * b := by rw [hk]; ac_rfl
    have e2 : p * (k * a) = (a + b) * a := by rw [hk]; ac_rfl
    rw [e1, e2, Nat.add_mul, Nat.add_mul, Nat.mul_comm b a]; omega
  have := congrArg (· % p) e
  simpa [Nat.add_mul_mod_self_left] using this

/-! ### roots -/
/-- two numbers of one square are the same, or together nothing -/
theorem sq_eq {p a b : Nat} (hp : IsPrime p) (h : a * a % p = b * b % p) : a % p = b % p ∨ (a + b) % p = 0 := by
  have key : ∀ x y : Nat, y ≤ x → x * x % p = y * y % p → x % p = y % p ∨ (x + y) % p = 0 := by
    intro x y hle hxy
    have hd : p ∣ x * x - y * y := Nat.dvd_of_mod_eq_zero (Nat.sub_mod_eq_zero_of_mod_eq hxy)
    have e : x * x - y * y = (x + y) * (x - y) := by
      obtain ⟨d, rfl⟩ := Nat.exists_eq_add_of_le hle
      rw [Nat.add_sub_cancel_left]
      have : (y + d) * (y + d) = y * y + (y + d + y) * d := by
        simp only [Nat.add_mul, Nat.mul_add]
        rw [Nat.mul_comm d y]; omega
      omega
    rw [e] at hd
    rcases hp.euclid hd with h' | h'
    · exact .inr (Nat.mod_eq_zero_of_dvd h')
    · left
      obtain ⟨k, hk⟩ := h'
      rw [show x = y + p * k by omega, Nat.add_mul_mod_self_left]
  rcases Nat.le_total b a with hle | hle
  · exact key a b hle h
  · rcases key b a hle h.symm with h' | h'
    · exact .inl h'.symm
    · right; rw [Nat.add_comm]; exact h'
theorem pow_mod_eq {p a b : Nat} (h : a % p = b % p) (n : Nat) : a ^ n % p = b ^ n % p := by rw [Nat.pow_mod, h, ← Nat.pow_mod]
/-- of a square, the power is a root -/
theorem root_sq {p a y : Nat} (hp : IsPrime p) (h4 : p % 4 = 3) (h : a % p = y * y % p) : a ^ ((p + 1) / 4) * a ^ ((p + 1) / 4) % p = a % p := by
  have e1 : a ^ ((p + 1) / 4) * a ^ ((p + 1) / 4) = a ^ ((p + 1) / 2) := by rw [← Nat.pow_add]; congr 1; omega
  have e2 : (y * y) ^ ((p + 1) / 2) = y ^ (p - 1) * (y * y) := by
    have h2 := hp.1
    rw [← Nat.pow_two, ← Nat.pow_mul, ← Nat.pow_add]; congr 1; omega
  rw [e1, pow_mod_eq h, e2]
  by_cases hy : p ∣ y
  · rw [h]
    have h1 : y * y % p = 0 := Nat.mod_eq_zero_of_dvd (Nat.dvd_trans hy (Nat.dvd_mul_right y y))
    rw [Nat.mul_mod, h1, Nat.mul_zero, Nat.zero_mod]
  · rw [Nat.mul_mod, fermat hp hy, Nat.one_mul, Nat.mod_mod, h]
/-- to the power of half of what is below the prime: 1, or together with 1 nothing -/
theorem half_pow {p a : Nat} (hp : IsPrime p) (h2 : p % 2 = 1) (ha : ¬ p ∣ a) : a ^ ((p - 1) / 2) % p = 1 ∨ (a ^ ((p - 1) / 2) + 1) % p = 0 := by
  have hp2 := hp.1
  have e : a ^ ((p - 1) / 2) * a ^ ((p - 1) / 2) % p = 1 * 1 % p := by
    rw [← Nat.pow_add, show (p - 1) / 2 + (p - 1) / 2 = p - 1 by omega, fermat hp ha, Nat.mod_eq_of_lt (by omega)]
  rcases sq_eq hp e with h | h
  · left; rw [h, Nat.mod_eq_of_lt (by omega)]
  · exact .inr h
/-- of a number and what is missing to nothing one has the power as a root -/
theorem root_or {p a b : Nat} (hp : IsPrime p) (h4 : p % 4 = 3) (hab : (a + b) % p = 0) :
    a ^ ((p + 1) / 4) * a ^ ((p + 1) / 4) % p = a % p ∨ b ^ ((p + 1) / 4) * b ^ ((p + 1) / 4) % p = b % p := by
  have hp2 := hp.1
  have split : ∀ x : Nat, x ^ ((p + 1) / 4) * x ^ ((p + 1) / 4) = x ^ ((p - 1) / 2) * x := fun x => by
    rw [← Nat.pow_add, ← Nat.pow_succ]; congr 1; omega
  rw [split, split]
  by_cases ha : p ∣ a
  · left
    have h1 := Nat.mod_eq_zero_of_dvd ha
    rw [Nat.mul_mod, h1, Nat.mul_zero, Nat.zero_mod]
  · have hb : ¬ p ∣ b := fun h => ha ((Nat.dvd_add_iff_left h).2 (Nat.dvd_of_mod_eq_zero hab))
    rcases half_pow hp (by omega) ha with h | h
    · left; rw [Nat.mul_mod, h, Nat.one_mul, Nat.mod_mod]
    · rcases half_pow hp (by omega) hb with h' | h'
      · right; rw [Nat.mul_mod, h', Nat.one_mul, Nat.mod_mod]
      · exfalso
        -- both powers were less than nothing: but their exponent is odd, and a is b less than nothing
        have hodd : ∃ k, (p - 1) / 2 = 2 * k + 1 := ⟨(p - 1) / 4, by omega⟩
        obtain ⟨k, hk⟩ := hodd
        have hs : a * a % p = b * b % p := neg_sq hab
        have hk2 : a ^ (2 * k) % p = b ^ (2 * k) % p := by
          rw [Nat.pow_mul, Nat.pow_mul, Nat.pow_two, Nat.pow_two]; exact pow_mod_eq hs k
        have e1 : (a ^ ((p - 1) / 2) + b ^ ((p - 1) / 2)) % p = 0 := by
          rw [hk, Nat.pow_succ, Nat.pow_succ, Nat.add_mod, Nat.mul_mod, hk2, ← Nat.mul_mod, ← Nat.add_mod, ← Nat.mul_add, Nat.mul_mod, hab, Nat.mul_zero, Nat.zero_mod]
        have e2 : (a ^ ((p - 1) / 2) + 1 + (b ^ ((p - 1) / 2) + 1)) % p = 0 := by rw [Nat.add_mod, h, h', Nat.add_zero, Nat.zero_mod]
        have e3 : (a ^ ((p - 1) / 2) + b ^ ((p - 1) / 2) + 2) % p = 0 := by
          rw [show a ^ ((p - 1) / 2) + b ^ ((p - 1) / 2) + 2 = a ^ ((p - 1) / 2) + 1 + (b ^ ((p - 1) / 2) + 1) by omega]; exact e2
        rw [Nat.add_mod, e1, Nat.zero_add, Nat.mod_mod, Nat.mod_eq_of_lt (by omega)] at e3
        omega
end Go.Proofs.YtajpdmcbdekpbaaDoor
