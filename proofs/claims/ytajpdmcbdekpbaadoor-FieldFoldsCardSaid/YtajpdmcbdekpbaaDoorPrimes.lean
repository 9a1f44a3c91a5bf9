/-
  Primes, by hand: Fermat's little theorem, and Pocklington's test. No walk here, no program.
-/
import Derived.KernelRfl
namespace Go.Proofs.YtajpdmcbdekpbaaDoor

def IsPrime (p : Nat) : Prop := 2 ≤ p ∧ ∀ m, m ∣ p → m = 1 ∨ m = p

theorem IsPrime.coprime {p a : Nat} (hp : IsPrime p) (h : ¬ p ∣ a) : Nat.Coprime p a := by
  rcases hp.2 (Nat.gcd p a) (Nat.gcd_dvd_left p a) with h1 | h1
  · exact h1
  · exact absurd (h1 ▸ Nat.gcd_dvd_right p a) h
theorem IsPrime.euclid {p a b : Nat} (hp : IsPrime p) (h : p ∣ a * b) : p ∣ a ∨ p ∣ b := by
  by_cases ha : p ∣ a
  · exact .inl ha
  · exact .inr ((hp.coprime ha).dvd_of_dvd_mul_left h)
theorem prime_factor : ∀ n, 2 ≤ n → ∃ p, IsPrime p ∧ p ∣ n := by
  intro n
  induction n using Nat.strongRecOn with
  | _ n ih =>
    intro hn
    by_cases h : ∀ m, m ∣ n → m = 1 ∨ m = n
    · exact ⟨n, ⟨hn, h⟩, Nat.dvd_refl n⟩
    · obtain ⟨m, hm⟩ := Classical.not_forall.1 h
      have hd : m ∣ n := by
        by_cases e : m ∣ n
        · exact e
        · exact absurd (fun h' => absurd h' e) hm
      have hne : m ≠ 1 ∧ m ≠ n := by
        constructor
        · intro e; exact hm fun _ => .inl e
        · intro e; exact hm fun _ => .inr e
      have hle := Nat.le_of_dvd (by omega) hd
      have h0 : m ≠ 0 := fun e => by subst e; have := Nat.eq_zero_of_zero_dvd hd; omega
      obtain ⟨p, hp, hpm⟩ := ih m (by omega) (by omega)
      exact ⟨p, hp, Nat.dvd_trans hpm hd⟩
/-- a number none of whose prime factors is small is a prime -/
theorem prime_of_factors {n : Nat} (hn : 2 ≤ n) (h : ∀ r, IsPrime r → r ∣ n → n < r * r) : IsPrime n := by
  refine ⟨hn, fun m hm => ?_⟩
  rcases Nat.eq_zero_or_pos m with h0 | hp
  · subst h0; have := Nat.eq_zero_of_zero_dvd hm; omega
  · by_cases h1 : m = 1
    · exact .inl h1
    · right
      obtain ⟨k, hk⟩ := hm
      have hk0 : k ≠ 0 := fun e => by subst e; omega
      by_cases hk1 : k = 1
      · subst hk1; omega
      · exfalso
        obtain ⟨r, hr, hrm⟩ := prime_factor m (by omega)
        obtain ⟨s, hs, hsk⟩ := prime_factor k (by omega)
        have e1 := h r hr (hk ▸ Nat.dvd_trans hrm (Nat.dvd_mul_right m k))
        have e2 := h s hs (hk ▸ Nat.dvd_trans hsk (Nat.dvd_mul_left k m))
        have l1 := Nat.le_of_dvd hp hrm
        have l2 := Nat.le_of_dvd (by omega) hsk
        rcases Nat.le_total m k with hmk | hmk
        · have := Nat.mul_le_mul l1 (Nat.le_trans l1 hmk); omega
        · have := Nat.mul_le_mul (Nat.le_trans l2 hmk) l2; omega

/-! ### Fermat -/
def chs : Nat → Nat → Nat
  | _, 0 => 1
  | 0, _ + 1 => 0
  | n + 1, k + 1 => chs n k + chs n (k + 1)
theorem chs_gt : ∀ n k, n < k → chs n k = 0
  | _, 0, h => by omega
  | 0, k + 1, _ => rfl
  | n + 1, k + 1, h => by
    show chs n k + chs n (k + 1) = 0
    rw [chs_gt n k (by omega), chs_gt n (k + 1) (by omega)]
theorem chs_self : ∀ n, chs n n = 1
  | 0 => rfl
  | n + 1 => by
    show chs n n + chs n (n + 1) = 1
    rw [chs_self n, chs_gt n (n + 1) (by omega)]
theorem chs_mul : ∀ n k, (k + 1) * chs (n + 1) (k + 1) = (n + 1) * chs n k
  | 0, 0 => rfl
  | 0, k + 1 => by
    show (k + 1 + 1) * (chs 0 (k + 1) + chs 0 (k + 1 + 1)) = _
    simp [chs]
  | n + 1, 0 => by
    have h := chs_mul n 0
    show (0 + 1) * (chs (n + 1) 0 + chs (n + 1) (0 + 1)) = (n + 1 + 1) * chs (n + 1) 0
    have e : chs (n + 1) 0 = 1 := by cases n <;> rfl
    have e2 : chs n 0 = 1 := by cases n <;> rfl
    rw [e2] at h
    rw [e]; omega
  | n + 1, k + 1 => by
    have h1 := chs_mul n k
    have h2 := chs_mul n (k + 1)
    show (k + 1 + 1) * (chs (n + 1) (k + 1) + chs (n + 1) (k + 1 + 1)) = (n + 1 + 1) * chs (n + 1) (k + 1)
    have e : chs (n + 1) (k + 1) = chs n k + chs n (k + 1) := rfl
    rw [Nat.mul_add, h2, Nat.add_mul (k + 1) 1, h1, Nat.add_mul (n + 1) 1, e, Nat.mul_add (n + 1)]
    omega
theorem prime_chs {p k : Nat} (hp : IsPrime p) (h1 : 1 ≤ k) (h2 : k < p) : p ∣ chs p k := by
  obtain ⟨n, rfl⟩ : ∃ n, p = n + 1 := ⟨p - 1, by omega⟩
  obtain ⟨j, rfl⟩ : ∃ j, k = j + 1 := ⟨k - 1, by omega⟩
  have h := chs_mul n j
  rcases hp.euclid (a := j + 1) (b := chs (n + 1) (j + 1)) (h ▸ Nat.dvd_mul_right _ _) with h' | h'
  · have := Nat.le_of_dvd (by omega) h'; omega
  · exact h'
/-- the beginning of the binomial sum -/
def bin (n a : Nat) : Nat → Nat
  | 0 => 0
  | m + 1 => bin n a m + chs n m * a ^ m
theorem bin_step (n a : Nat) : ∀ m, bin (n + 1) a (m + 1) = bin n a (m + 1) + a * bin n a m
  | 0 => by
    show 0 + chs (n + 1) 0 * a ^ 0 = 0 + chs n 0 * a ^ 0 + a * 0
    have e : chs (n + 1) 0 = 1 := by cases n <;> rfl
    have e2 : chs n 0 = 1 := by cases n <;> rfl
    rw [e, e2]; omega
  | m + 1 => by
    show bin (n + 1) a (m + 1) + (chs n m + chs n (m + 1)) * a ^ (m + 1) = bin n a (m + 1) + chs n (m + 1) * a ^ (m + 1) + a * (bin n a m + chs n m * a ^ m)
    rw [bin_step n a m, Nat.add_mul, Nat.mul_add, Nat.pow_succ]
    have e : chs n m * (a ^ m * a) = a * (chs n m * a ^ m) := by ac_rfl
    rw [e]; omega
theorem bin_all (a : Nat) : ∀ n, bin n a (n + 1) = (a + 1) ^ n
  | 0 => by show 0 + 1 * a ^ 0 = _; simp
  | n + 1 => by
    rw [bin_step, Nat.pow_succ]
    show bin n a (n + 1) + chs n (n + 1) * a ^ (n + 1) + a * bin n a (n + 1) = _
    rw [chs_gt n (n + 1) (by omega), bin_all a n, Nat.mul_add, Nat.mul_one, Nat.zero_mul, Nat.mul_comm a]
    omega
theorem bin_mod {p : Nat} (hp : IsPrime p) (a : Nat) : ∀ m, 1 ≤ m → m ≤ p → bin p a m % p = 1 % p
  | 0, h, _ => by omega
  | 1, _, _ => by
    show (0 + chs p 0 * a ^ 0) % p = _
    have e : chs p 0 = 1 := by cases p <;> rfl
    rw [e]; simp
  | m + 2, _, h => by
    show (bin p a (m + 1) + chs p (m + 1) * a ^ (m + 1)) % p = _
    obtain ⟨q, hq⟩ := prime_chs hp (k := m + 1) (by omega) (by omega)
    rw [hq, Nat.mul_assoc, Nat.add_mul_mod_self_left]
    exact bin_mod hp a (m + 1) (by omega) (by omega)
theorem fermat0 {p : Nat} (hp : IsPrime p) : ∀ a, a ^ p % p = a % p
  | 0 => by rw [Nat.zero_pow (by have := hp.1; omega)]
  | a + 1 => by
    rw [← bin_all a p]
    show (bin p a p + chs p p * a ^ p) % p = _
    rw [chs_self, Nat.one_mul, Nat.add_mod, bin_mod hp a p (by have := hp.1; omega) (Nat.le_refl _), fermat0 hp a, ← Nat.add_mod, Nat.add_comm]
/-- FERMAT -/
theorem fermat {p a : Nat} (hp : IsPrime p) (h : ¬ p ∣ a) : a ^ (p - 1) % p = 1 := by
  have h2 := hp.1
  have h0 := fermat0 hp a
  have e : a ^ p = a * a ^ (p - 1) := by
    rw [Nat.mul_comm, ← Nat.pow_succ, show (p - 1).succ = p by omega]
  rw [e] at h0
  have ha : 1 ≤ a ^ (p - 1) := by
    refine Nat.pow_pos ?_
    rcases Nat.eq_zero_or_pos a with h' | h'
    · subst h'; exact absurd (Nat.dvd_zero p) h
    · exact h'
  have hd : p ∣ a * (a ^ (p - 1) - 1) := by
    rw [Nat.mul_sub, Nat.mul_one]
    exact Nat.dvd_of_mod_eq_zero (Nat.sub_mod_eq_zero_of_mod_eq h0)
  rcases hp.euclid hd with h' | h'
  · exact absurd h' h
  · obtain ⟨k, hk⟩ := h'
    rw [show a ^ (p - 1) = 1 + p * k by omega, Nat.add_mul_mod_self_left, Nat.mod_eq_of_lt (by omega)]

/-! ### powers that are 1 -/
theorem pow_mod_one {x m : Nat} {n : Nat} (h : x ^ m % n = 1 % n) (k : Nat) : x ^ (m * k) % n = 1 % n := by
  rw [Nat.pow_mul, Nat.pow_mod, h, ← Nat.pow_mod, Nat.one_pow]
theorem pow_rem {x a b n : Nat} (ha : x ^ a % n = 1 % n) (hb : x ^ b % n = 1 % n) : x ^ (b % a) % n = 1 % n := by
  have e : x ^ b = x ^ (a * (b / a)) * x ^ (b % a) := by rw [← Nat.pow_add, Nat.div_add_mod]
  have h1 := pow_mod_one ha (b / a)
  rw [e, Nat.mul_mod, h1, ← Nat.mul_mod, Nat.one_mul] at hb
  exact hb
theorem pow_gcd {x n : Nat} : ∀ a b, x ^ a % n = 1 % n → x ^ b % n = 1 % n → x ^ (Nat.gcd a b) % n = 1 % n := by
  intro a
  induction a using Nat.strongRecOn with
  | _ a ih =>
    intro b ha hb
    rcases Nat.eq_zero_or_pos a with h0 | hp
    · subst h0; rw [Nat.gcd_zero_left]; exact hb
    · rw [Nat.gcd_rec]
      exact ih (b % a) (Nat.mod_lt _ hp) a (pow_rem ha hb) ha

/-! ### Pocklington -/
theorem mod_of_dvd {x y n r : Nat} (h : x % n = y % n) (hr : r ∣ n) : x % r = y % r := by
  rw [← Nat.mod_mod_of_dvd x hr, h, Nat.mod_mod_of_dvd _ hr]
theorem pock {n q a b : Nat} (hn : 2 ≤ n) (hq : IsPrime q) (hd : (n - 1) % q = 0) (h1 : a ^ (n - 1) % n = 1) (hb : a ^ ((n - 1) / q) % n = b) (hg : Nat.gcd (b + n - 1) n = 1)
    {r : Nat} (hr : IsPrime r) (hrn : r ∣ n) : q ∣ r - 1 := by
  have hr2 := hr.1
  have e1 : (n - 1) / q * q = n - 1 := Nat.div_mul_cancel (Nat.dvd_of_mod_eq_zero hd)
  have hbq : (a ^ ((n - 1) / q)) ^ q % n = 1 % n := by rw [← Nat.pow_mul, e1, h1, Nat.mod_eq_of_lt (by omega)]
  have hbr : b ^ q % r = 1 % r := by
    have : b ^ q % n = 1 % n := by rw [← hb, ← Nat.pow_mod]; exact hbq
    exact mod_of_dvd this hrn
  have hq0 : 0 < q := by have := hq.1; omega
  have hnb : ¬ r ∣ b := fun h => by
    have : b ^ q % r = 0 := by
      obtain ⟨c, hc⟩ := h
      obtain ⟨q', rfl⟩ : ∃ q', q = q' + 1 := ⟨q - 1, by omega⟩
      rw [hc, Nat.pow_succ, Nat.mul_comm, Nat.mul_assoc]; exact Nat.mul_mod_right _ _
    rw [this, Nat.mod_eq_of_lt (by omega)] at hbr; omega
  have hf := fermat hr hnb
  have hf' : b ^ (r - 1) % r = 1 % r := by rw [hf, Nat.mod_eq_of_lt (by omega)]
  have hgc := pow_gcd q (r - 1) hbr hf'
  rcases hq.2 (Nat.gcd q (r - 1)) (Nat.gcd_dvd_left _ _) with h | h
  · exfalso
    rw [h, Nat.pow_one] at hgc
    have hb1 : 1 ≤ b := by
      rcases Nat.eq_zero_or_pos b with h' | h'
      · subst h'; exact absurd (Nat.dvd_zero r) hnb
      · exact h'
    have hrb : r ∣ b - 1 := Nat.dvd_of_mod_eq_zero (Nat.sub_mod_eq_zero_of_mod_eq hgc)
    have h2 : r ∣ b + n - 1 := by rw [show b + n - 1 = (b - 1) + n by omega]; exact Nat.dvd_add hrb hrn
    have h3 := Nat.dvd_gcd h2 hrn
    rw [hg] at h3
    have := Nat.le_of_dvd (by decide) h3; omega
  · exact h ▸ Nat.gcd_dvd_right q (r - 1)
theorem pock_end {n F : Nat} (hn : 2 ≤ n) (hF : n < F * F) (h : ∀ r, IsPrime r → r ∣ n → F ∣ r - 1) : IsPrime n := by
  refine prime_of_factors hn fun r hr hrn => ?_
  have hr2 := hr.1
  have := Nat.le_of_dvd (by omega) (h r hr hrn)
  exact Nat.lt_of_lt_of_le hF (Nat.mul_le_mul (by omega) (by omega))
theorem prime_ne_coprime {p q : Nat} (hp : IsPrime p) (hq : IsPrime q) (h : p ≠ q) : Nat.Coprime p q := hp.coprime fun hd => by
  rcases hq.2 p hd with h1 | h1
  · have := hp.1; omega
  · exact h h1

/-! ### for the kernel -/
def pm (n : Nat) : Nat → Nat → Nat → Nat
  | 0, _, _ => 1 % n
  | f + 1, b, e => if e % 2 = 1 then pm n f (b * b % n) (e / 2) * b % n else pm n f (b * b % n) (e / 2)
theorem pm_eq (n : Nat) : ∀ f b e, e < 2 ^ f → pm n f b e = b ^ e % n
  | 0, b, e, h => by
    have : e = 0 := by simpa using h
    subst this; simp [pm]
  | f + 1, b, e, h => by
    have h2 : e / 2 < 2 ^ f := by rw [Nat.pow_succ] at h; omega
    have ih := pm_eq n f (b * b % n) (e / 2) h2
    have e1 : (b * b) ^ (e / 2) = b ^ (2 * (e / 2)) := by rw [Nat.pow_mul, Nat.pow_two]
    unfold pm
    rw [ih, ← Nat.pow_mod, e1]
    split
    · rw [Nat.mod_mul_mod, ← Nat.pow_succ]; congr 2; omega
    · congr 2; omega
def noDiv (n : Nat) : Nat → Bool
  | 0 => true
  | k + 1 => (decide (k < 2) || decide (n % k ≠ 0)) && noDiv n k
theorem noDiv_spec {n : Nat} : ∀ k, noDiv n k = true → ∀ d, 2 ≤ d → d < k → ¬ d ∣ n
  | 0, _, d, _, h => by omega
  | k + 1, h, d, h2, hk => by
    simp only [noDiv, Bool.and_eq_true, Bool.or_eq_true, decide_eq_true_eq] at h
    by_cases e : d = k
    · subst e
      rcases h.1 with h' | h'
      · omega
      · exact fun hd => h' (Nat.mod_eq_zero_of_dvd hd)
    · exact noDiv_spec k h.2 d h2 (by omega)
theorem prime_small {n : Nat} (k : Nat) (hn : 2 ≤ n) (hk : n < k * k) (h : noDiv n k = true) : IsPrime n :=
  prime_of_factors hn fun r hr hrn => by
    rcases Nat.lt_or_ge r k with h' | h'
    · exact absurd hrn (noDiv_spec k h r hr.1 h')
    · exact Nat.lt_of_lt_of_le hk (Nat.mul_le_mul h' h')
/-- what the kernel looks at, for one factor -/
def pockB (n q a f : Nat) : Bool := decide ((n - 1) % q = 0) && decide (n - 1 < 2 ^ f) && decide (pm n f a (n - 1) = 1) && decide (Nat.gcd (pm n f a ((n - 1) / q) + n - 1) n = 1)
theorem pock1 {n q a f : Nat} (hn : 2 ≤ n) (hq : IsPrime q) (h : pockB n q a f = true) {r : Nat} (hr : IsPrime r) (hrn : r ∣ n) : q ∣ r - 1 := by
  simp only [pockB, Bool.and_eq_true, decide_eq_true_eq] at h
  obtain ⟨⟨⟨h1, h2⟩, h3⟩, h4⟩ := h
  have h5 : (n - 1) / q < 2 ^ f := Nat.lt_of_le_of_lt (Nat.div_le_self _ _) h2
  rw [pm_eq n f a _ h2] at h3
  rw [pm_eq n f a _ h5] at h4
  exact pock hn hq h1 h3 rfl h4 hr hrn
end Go.Proofs.YtajpdmcbdekpbaaDoor
