/-
  Joined: Primes, PrimesPN, FieldPlain, CvLaw, CvBase.
-/
import Derived.KernelRfl
/-
  Primes, by hand: Fermat's little theorem, and Pocklington's test. No walk here, no program.
-/
namespace Go.Proofs.Ytdeggdmoijfhdaa

def IsPrime (p : Nat) : Prop := 2 ≤ p ∧ ∀ m, m ∣ p → m = 1 ∨ m = p

theorem IsPrime.coprime {p a : Nat} (hp : IsPrime p) (h : ¬ p ∣ a) : Nat.Coprime p a := by
  rcases hp.2 (Nat.gcd p a) (Nat.gcd_dvd_left p a) with h1 | h1
  · exact h1
  · exact absurd (h1 ▸ Nat.gcd_dvd_right p a) h
theorem IsPrime.euclid {p a b : Nat} (hp : IsPrime p) (h : p ∣ a * b) : p ∣ a ∨ p ∣ b := by
  by_cases ha : p ∣ a
  · exact .inl ha
  · exact .inr ((hp.coprime ha).dvd_of_dvd_mul_left h)
theorem prime_factor : ∀ n, 2 ≤ n → ∃ p, IsPrime p ∧ p ∣ n := by
  intro n
  induction n using Nat.strongRecOn with
  | _ n ih =>
    intro hn
    by_cases h : ∀ m, m ∣ n → m = 1 ∨ m = n
    · exact ⟨n, ⟨hn, h⟩, Nat.dvd_refl n⟩
    · obtain ⟨m, hm⟩ := Classical.not_forall.1 h
      have hd : m ∣ n := by
        by_cases e : m ∣ n
        · exact e
        · exact absurd (fun h' => absurd h' e) hm
      have hne : m ≠ 1 ∧ m ≠ n := by
        constructor
        · intro e; exact hm fun _ => .inl e
        · intro e; exact hm fun _ => .inr e
      have hle := Nat.le_of_dvd (by omega) hd
      have h0 : m ≠ 0 := fun e => by subst e; have := Nat.eq_zero_of_zero_dvd hd; omega
      obtain ⟨p, hp, hpm⟩ := ih m (by omega) (by omega)
      exact ⟨p, hp, Nat.dvd_trans hpm hd⟩
/-- a number none of whose prime factors is small is a prime -/
theorem prime_of_factors {n : Nat} (hn : 2 ≤ n) (h : ∀ r, IsPrime r → r ∣ n → n < r * r) : IsPrime n := by
  refine ⟨hn, fun m hm => ?_⟩
  rcases Nat.eq_zero_or_pos m with h0 | hp
  · subst h0; have := Nat.eq_zero_of_zero_dvd hm; omega
  · by_cases h1 : m = 1
    · exact .inl h1
    · right
      obtain ⟨k, hk⟩ := hm
      have hk0 : k ≠ 0 := fun e => by subst e; omega
      by_cases hk1 : k = 1
      · subst hk1; omega
      · exfalso
        obtain ⟨r, hr, hrm⟩ := prime_factor m (by omega)
        obtain ⟨s, hs, hsk⟩ := prime_factor k (by omega)
        have e1 := h r hr (hk ▸ Nat.dvd_trans hrm (Nat.dvd_mul_right m k))
        have e2 := h s hs (hk ▸ Nat.dvd_trans hsk (Nat.dvd_mul_left k m))
        have l1 := Nat.le_of_dvd hp hrm
        have l2 := Nat.le_of_dvd (by omega) hsk
        rcases Nat.le_total m k with hmk | hmk
        · have := Nat.mul_le_mul l1 (Nat.le_trans l1 hmk); omega
        · have := Nat.mul_le_mul (Nat.le_trans l2 hmk) l2; omega

/-! ### Fermat -/
def chs : Nat → Nat → Nat
  | _, 0 => 1
  | 0, _ + 1 => 0
  | n + 1, k + 1 => chs n k + chs n (k + 1)
theorem chs_gt : ∀ n k, n < k → chs n k = 0
  | _, 0, h => by omega
  | 0, k + 1, _ => rfl
  | n + 1, k + 1, h => by
    show chs n k + chs n (k + 1) = 0
    rw [chs_gt n k (by omega), chs_gt n (k + 1) (by omega)]
theorem chs_self : ∀ n, chs n n = 1
  | 0 => rfl
  | n + 1 => by
    show chs n n + chs n (n + 1) = 1
    rw [chs_self n, chs_gt n (n + 1) (by omega)]
theorem chs_mul : ∀ n k, (k + 1) * chs (n + 1) (k + 1) = (n + 1) * chs n k
  | 0, 0 => rfl
  | 0, k + 1 => by
    show (k + 1 + 1) * (chs 0 (k + 1) + chs 0 (k + 1 + 1)) = _
    simp [chs]
  | n + 1, 0 => by
    have h := chs_mul n 0
    show (0 + 1) * (chs (n + 1) 0 + chs (n + 1) (0 + 1)) = (n + 1 + 1) * chs (n + 1) 0
    have e : chs (n + 1) 0 = 1 := by cases n <;> rfl
    have e2 : chs n 0 = 1 := by cases n <;> rfl
    rw [e2] at h
    rw [e]; omega
  | n + 1, k + 1 => by
    have h1 := chs_mul n k
    have h2 := chs_mul n (k + 1)
    show (k + 1 + 1) * (chs (n + 1) (k + 1) + chs (n + 1) (k + 1 + 1)) = (n + 1 + 1) * chs (n + 1) (k + 1)
    have e : chs (n + 1) (k + 1) = chs n k + chs n (k + 1) := rfl
    rw [Nat.mul_add, h2, Nat.add_mul (k + 1) 1, h1, Nat.add_mul (n + 1) 1, e, Nat.mul_add (n + 1)]
    omega
theorem prime_chs {p k : Nat} (hp : IsPrime p) (h1 : 1 ≤ k) (h2 : k < p) : p ∣ chs p k := by
  obtain ⟨n, rfl⟩ : ∃ n, p = n + 1 := ⟨p - 1, by omega⟩
  obtain ⟨j, rfl⟩ : ∃ j, k = j + 1 := ⟨k - 1, by omega⟩
  have h := chs_mul n j
  rcases hp.euclid (a := j + 1) (b := chs (n + 1) (j + 1)) (h ▸ Nat.dvd_mul_right _ _) with h' | h'
  · have := Nat.le_of_dvd (by omega) h'; omega
  · exact h'
/-- the beginning of the binomial sum -/
def bin (n a : Nat) : Nat → Nat
  | 0 => 0
  | m + 1 => bin n a m + chs n m * a ^ m
theorem bin_step (n a : Nat) : ∀ m, bin (n + 1) a (m + 1) = bin n a (m + 1) + a * bin n a m
  | 0 => by
    show 0 + chs (n + 1) 0 * a ^ 0 = 0 + chs n 0 * a ^ 0 + a * 0
    have e : chs (n + 1) 0 = 1 := by cases n <;> rfl
    have e2 : chs n 0 = 1 := by cases n <;> rfl
    rw [e, e2]; omega
  | m + 1 => by
    show bin (n + 1) a (m + 1) + (chs n m + chs n (m + 1)) * a ^ (m + 1) = bin n a (m + 1) + chs n (m + 1) * a ^ (m + 1) + a * (bin n a m + chs n m * a ^ m)
    rw [bin_step n a m, Nat.add_mul, Nat.mul_add, Nat.pow_succ]
    have e : chs n m * (a ^ m * a) = a * (chs n m * a ^ m) := by ac_rfl
    rw [e]; omega
theorem bin_all (a : Nat) : ∀ n, bin n a (n + 1) = (a + 1) ^ n
  | 0 => by show 0 + 1 * a ^ 0 = _; simp
  | n + 1 => by
    rw [bin_step, Nat.pow_succ]
    show bin n a (n + 1) + chs n (n + 1) * a ^ (n + 1) + a * bin n a (n + 1) = _
    rw [chs_gt n (n + 1) (by omega), bin_all a n, Nat.mul_add, Nat.mul_one, Nat.zero_mul, Nat.mul_comm a]
    omega
theorem bin_mod {p : Nat} (hp : IsPrime p) (a : Nat) : ∀ m, 1 ≤ m → m ≤ p → bin p a m % p = 1 % p
  | 0, h, _ => by omega
  | 1, _, _ => by
    show (0 + chs p 0 * a ^ 0) % p = _
    have e : chs p 0 = 1 := by cases p <;> rfl
    rw [e]; simp
  | m + 2, _, h => by
    show (bin p a (m + 1) + chs p (m + 1) * a ^ (m + 1)) % p = _
    obtain ⟨q, hq⟩ := prime_chs hp (k := m + 1) (by omega) (by omega)
    rw [hq, Nat.mul_assoc, Nat.add_mul_mod_self_left]
    exact bin_mod hp a (m + 1) (by omega) (by omega)
theorem fermat0 {p : Nat} (hp : IsPrime p) : ∀ a, a ^ p % p = a % p
  | 0 => by rw [Nat.zero_pow (by have := hp.1; omega)]
  | a + 1 => by
    rw [← bin_all a p]
    show (bin p a p + chs p p * a ^ p) % p = _
    rw [chs_self, Nat.one_mul, Nat.add_mod, bin_mod hp a p (by have := hp.1; omega) (Nat.le_refl _), fermat0 hp a, ← Nat.add_mod, Nat.add_comm]
/-- FERMAT -/
theorem fermat {p a : Nat} (hp : IsPrime p) (h : ¬ p ∣ a) : a ^ (p - 1) % p = 1 := by
  have h2 := hp.1
  have h0 := fermat0 hp a
  have e : a ^ p = a * a ^ (p - 1) := by
    rw [Nat.mul_comm, ← Nat.pow_succ, show (p - 1).succ = p by omega]
  rw [e] at h0
  have ha : 1 ≤ a ^ (p - 1) := by
    refine Nat.pow_pos ?_
    rcases Nat.eq_zero_or_pos a with h' | h'
    · subst h'; exact absurd (Nat.dvd_zero p) h
    · exact h'
  have hd : p ∣ a * (a ^ (p - 1) - 1) := by
    rw [Nat.mul_sub, Nat.mul_one]
    exact Nat.dvd_of_mod_eq_zero (Nat.sub_mod_eq_zero_of_mod_eq h0)
  rcases hp.euclid hd with h' | h'
  · exact absurd h' h
  · obtain ⟨k, hk⟩ := h'
    rw [show a ^ (p - 1) = 1 + p * k by omega, Nat.add_mul_mod_self_left, Nat.mod_eq_of_lt (by omega)]

/-! ### powers that are 1 -/
theorem pow_mod_one {x m : Nat} {n : Nat} (h : x ^ m % n = 1 % n) (k : Nat) : x ^ (m * k) % n = 1 % n := by
  rw [Nat.pow_mul, Nat.pow_mod, h, ← Nat.pow_mod, Nat.one_pow]
theorem pow_rem {x a b n : Nat} (ha : x ^ a % n = 1 % n) (hb : x ^ b % n = 1 % n) : x ^ (b % a) % n = 1 % n := by
  have e : x ^ b = x ^ (a * (b / a)) * x ^ (b % a) := by rw [← Nat.pow_add, Nat.div_add_mod]
  have h1 := pow_mod_one ha (b / a)
  rw [e, Nat.mul_mod, h1, ← Nat.mul_mod, Nat.one_mul] at hb
  exact hb
theorem pow_gcd {x n : Nat} : ∀ a b, x ^ a % n = 1 % n → x ^ b % n = 1 % n → x ^ (Nat.gcd a b) % n = 1 % n := by
  intro a
  induction a using Nat.strongRecOn with
  | _ a ih =>
    intro b ha hb
    rcases Nat.eq_zero_or_pos a with h0 | hp
    · subst h0; rw [Nat.gcd_zero_left]; exact hb
    · rw [Nat.gcd_rec]
      exact ih (b % a) (Nat.mod_lt _ hp) a (pow_rem ha hb) ha

/-! ### Pocklington -/
theorem mod_of_dvd {x y n r : Nat} (h : x % n = y % n) (hr : r ∣ n) : x % r = y % r := by
  rw [← Nat.mod_mod_of_dvd x hr, h, Nat.mod_mod_of_dvd _ hr]
theorem pock {n q a b : Nat} (hn : 2 ≤ n) (hq : IsPrime q) (hd : (n - 1) % q = 0) (h1 : a ^ (n - 1) % n = 1) (hb : a ^ ((n - 1) / q) % n = b) (hg : Nat.gcd (b + n - 1) n = 1)
    {r : Nat} (hr : IsPrime r) (hrn : r ∣ n) : q ∣ r - 1 := by
  have hr2 := hr.1
  have e1 : (n - 1) / q * q = n - 1 := Nat.div_mul_cancel (Nat.dvd_of_mod_eq_zero hd)
  have hbq : (a ^ ((n - 1) / q)) ^ q % n = 1 % n := by rw [← Nat.pow_mul, e1, h1, Nat.mod_eq_of_lt (by omega)]
  have hbr : b ^ q % r = 1 % r := by
    have : b ^ q % n = 1 % n := by rw [← hb, ← Nat.pow_mod]; exact hbq
    exact mod_of_dvd this hrn
  have hq0 : 0 < q := by have := hq.1; omega
  have hnb : ¬ r ∣ b := fun h => by
    have : b ^ q % r = 0 := by
      obtain ⟨c, hc⟩ := h
      obtain ⟨q', rfl⟩ : ∃ q', q = q' + 1 := ⟨q - 1, by omega⟩
      rw [hc, Nat.pow_succ, Nat.mul_comm, Nat.mul_assoc]; exact Nat.mul_mod_right _ _
    rw [this, Nat.mod_eq_of_lt (by omega)] at hbr; omega
  have hf := fermat hr hnb
  have hf' : b ^ (r - 1) % r = 1 % r := by rw [hf, Nat.mod_eq_of_lt (by omega)]
  have hgc := pow_gcd q (r - 1) hbr hf'
  rcases hq.2 (Nat.gcd q (r - 1)) (Nat.gcd_dvd_left _ _) with h | h
  · exfalso
    rw [h, Nat.pow_one] at hgc
    have hb1 : 1 ≤ b := by
      rcases Nat.eq_zero_or_pos b with h' | h'
      · subst h'; exact absurd (Nat.dvd_zero r) hnb
      · exact h'
    have hrb : r ∣ b - 1 := Nat.dvd_of_mod_eq_zero (Nat.sub_mod_eq_zero_of_mod_eq hgc)
    have h2 : r ∣ b + n - 1 := by rw [show b + n - 1 = (b - 1) + n by omega]; exact Nat.dvd_add hrb hrn
    have h3 := Nat.dvd_gcd h2 hrn
    rw [hg] at h3
    have := Nat.le_of_dvd (by decide) h3; omega
  · exact h ▸ Nat.gcd_dvd_right q (r - 1)
theorem pock_end {n F : Nat} (hn : 2 ≤ n) (hF : n < F * F) (h : ∀ r, IsPrime r → r ∣ n → F ∣ r - 1) : IsPrime n := by
  refine prime_of_factors hn fun r hr hrn => ?_
  have hr2 := hr.1
  have := Nat.le_of_dvd (by omega) (h r hr hrn)
  exact Nat.lt_of_lt_of_le hF (Nat.mul_le_mul (by omega) (by omega))
theorem prime_ne_coprime {p q : Nat} (hp : IsPrime p) (hq : IsPrime q) (h : p ≠ q) : Nat.Coprime p q := hp.coprime fun hd => by
  rcases hq.2 p hd with h1 | h1
  · have := hp.1; omega
  · exact h h1

/-! ### for the kernel -/
def pm (n : Nat) : Nat → Nat → Nat → Nat
  | 0, _, _ => 1 % n
  | f + 1, b, e => if e % 2 = 1 then pm n f (b * b % n) (e / 2) * b % n else pm n f (b * b % n) (e / 2)
theorem pm_eq (n : Nat) : ∀ f b e, e < 2 ^ f → pm n f b e = b ^ e % n
  | 0, b, e, h => by
    have : e = 0 := by simpa using h
    subst this; simp [pm]
  | f + 1, b, e, h => by
    have h2 : e / 2 < 2 ^ f := by rw [Nat.pow_succ] at h; omega
    have ih := pm_eq n f (b * b % n) (e / 2) h2
    have e1 : (b * b) ^ (e / 2) = b ^ (2 * (e / 2)) := by rw [Nat.pow_mul, Nat.pow_two]
    unfold pm
    rw [ih, ← Nat.pow_mod, e1]
    split
    · rw [Nat.mod_mul_mod, ← Nat.pow_succ]; congr 2; omega
    · congr 2; omega
def noDiv (n : Nat) : Nat → Bool
  | 0 => true
  | k + 1 => (decide (k < 2) || decide (n % k ≠ 0)) && noDiv n k
theorem noDiv_spec {n : Nat} : ∀ k, noDiv n k = true → ∀ d, 2 ≤ d → d < k → ¬ d ∣ n
  | 0, _, d, _, h => by omega
  | k + 1, h, d, h2, hk => by
    simp only [noDiv, Bool.and_eq_true, Bool.or_eq_true, decide_eq_true_eq] at h
    by_cases e : d = k
    · subst e
      rcases h.1 with h' | h'
      · omega
      · exact fun hd => h' (Nat.mod_eq_zero_of_dvd hd)
    · exact noDiv_spec k h.2 d h2 (by omega)
theorem prime_small {n : Nat} (k : Nat) (hn : 2 ≤ n) (hk : n < k * k) (h : noDiv n k = true) : IsPrime n :=
  prime_of_factors hn fun r hr hrn => by
    rcases Nat.lt_or_ge r k with h' | h'
    · exact absurd hrn (noDiv_spec k h r hr.1 h')
    · exact Nat.lt_of_lt_of_le hk (Nat.mul_le_mul h' h')
/-- what the kernel looks at, for one factor -/
def pockB (n q a f : Nat) : Bool := decide ((n - 1) % q = 0) && decide (n - 1 < 2 ^ f) && decide (pm n f a (n - 1) = 1) && decide (Nat.gcd (pm n f a ((n - 1) / q) + n - 1) n = 1)
theorem pock1 {n q a f : Nat} (hn : 2 ≤ n) (hq : IsPrime q) (h : pockB n q a f = true) {r : Nat} (hr : IsPrime r) (hrn : r ∣ n) : q ∣ r - 1 := by
  simp only [pockB, Bool.and_eq_true, decide_eq_true_eq] at h
  obtain ⟨⟨⟨h1, h2⟩, h3⟩, h4⟩ := h
  have h5 : (n - 1) / q < 2 ^ f := Nat.lt_of_le_of_lt (Nat.div_le_self _ _) h2
  rw [pm_eq n f a _ h2] at h3
  rw [pm_eq n f a _ h5] at h4
  exact pock hn hq h1 h3 rfl h4 hr hrn
end Go.Proofs.Ytdeggdmoijfhdaa

/-
  Both primes of layer 3 are primes: by Pocklington's test, over factors that the kernel looks over.
-/
namespace Go.Proofs.Ytdeggdmoijfhdaa

theorem prime_7 : IsPrime 7 := prime_small 3 (by decide) (by decide) (by decide +kernel)
theorem prime_29 : IsPrime 29 := prime_small 6 (by decide) (by decide) (by decide +kernel)
theorem prime_53 : IsPrime 53 := prime_small 8 (by decide) (by decide) (by decide +kernel)
theorem prime_9349 : IsPrime 9349 := prime_small 97 (by decide) (by decide) (by decide +kernel)
theorem prime_28181 : IsPrime 28181 := prime_small 168 (by decide) (by decide) (by decide +kernel)
theorem prime_96557 : IsPrime 96557 := prime_small 311 (by decide) (by decide) (by decide +kernel)
theorem prime_120233 : IsPrime 120233 := prime_small 347 (by decide) (by decide) (by decide +kernel)
theorem prime_1206781 : IsPrime 1206781 := prime_small 1099 (by decide) (by decide) (by decide +kernel)
theorem prime_1627771 : IsPrime 1627771 := prime_small 1276 (by decide) (by decide) (by decide +kernel)
theorem prime_7240687 : IsPrime 7240687 := by
  refine pock_end (F := 1206781) (by decide +kernel) (by decide +kernel) fun r hr hrn => ?_
  have h0 := pock1 (q := 1206781) (a := 2) (f := 23) (by decide +kernel) prime_1206781 (by decide +kernel) hr hrn
  exact h0
theorem prime_107590001 : IsPrime 107590001 := by
  refine pock_end (F := 10759) (by decide +kernel) (by decide +kernel) fun r hr hrn => ?_
  have h0 := pock1 (q := 53) (a := 2) (f := 27) (by decide +kernel) prime_53 (by decide +kernel) hr hrn
  have h1 := pock1 (q := 29) (a := 2) (f := 27) (by decide +kernel) prime_29 (by decide +kernel) hr hrn
  have h2 := pock1 (q := 7) (a := 2) (f := 27) (by decide +kernel) prime_7 (by decide +kernel) hr hrn
  have h01 := (prime_ne_coprime prime_53 prime_29 (by decide +kernel)).mul_dvd_of_dvd_of_dvd h0 h1
  exact (show Nat.Coprime (53 * 29) 7 by decide +kernel).mul_dvd_of_dvd_of_dvd h01 h2
theorem prime_255515944373312847190720520512484175977 : IsPrime 255515944373312847190720520512484175977 := by
  refine pock_end (F := 75220367286300824659) (by decide +kernel) (by decide +kernel) fun r hr hrn => ?_
  have h0 := pock1 (q := 107590001) (a := 2) (f := 128) (by decide +kernel) prime_107590001 (by decide +kernel) hr hrn
  have h1 := pock1 (q := 7240687) (a := 2) (f := 128) (by decide +kernel) prime_7240687 (by decide +kernel) hr hrn
  have h2 := pock1 (q := 96557) (a := 2) (f := 128) (by decide +kernel) prime_96557 (by decide +kernel) hr hrn
  have h01 := (prime_ne_coprime prime_107590001 prime_7240687 (by decide +kernel)).mul_dvd_of_dvd_of_dvd h0 h1
  exact (show Nat.Coprime (107590001 * 7240687) 96557 by decide +kernel).mul_dvd_of_dvd_of_dvd h01 h2
theorem prime_205115282021455665897114700593932402728804164701536103180137503955397371 : IsPrime 205115282021455665897114700593932402728804164701536103180137503955397371 := by
  refine pock_end (F := 255515944373312847190720520512484175977) (by decide +kernel) (by decide +kernel) fun r hr hrn => ?_
  have h0 := pock1 (q := 255515944373312847190720520512484175977) (a := 2) (f := 237) (by decide +kernel) prime_255515944373312847190720520512484175977 (by decide +kernel) hr hrn
  exact h0
theorem prime_P : IsPrime 115792089237316195423570985008687907853269984665640564039457584007908834671663 := by
  refine pock_end (F := 205115282021455665897114700593932402728804164701536103180137503955397371) (by decide +kernel) (by decide +kernel) fun r hr hrn => ?_
  have h0 := pock1 (q := 205115282021455665897114700593932402728804164701536103180137503955397371) (a := 2) (f := 256) (by decide +kernel) prime_205115282021455665897114700593932402728804164701536103180137503955397371 (by decide +kernel) hr hrn
  exact h0
theorem prime_297159362677 : IsPrime 297159362677 := by
  refine pock_end (F := 1627771) (by decide +kernel) (by decide +kernel) fun r hr hrn => ?_
  have h0 := pock1 (q := 1627771) (a := 2) (f := 39) (by decide +kernel) prime_1627771 (by decide +kernel) hr hrn
  exact h0
theorem prime_545358713 : IsPrime 545358713 := by
  refine pock_end (F := 28181) (by decide +kernel) (by decide +kernel) fun r hr hrn => ?_
  have h0 := pock1 (q := 28181) (a := 2) (f := 30) (by decide +kernel) prime_28181 (by decide +kernel) hr hrn
  exact h0
theorem prime_29047611873442575647497758179 : IsPrime 29047611873442575647497758179 := by
  refine pock_end (F := 162058447585428954701) (by decide +kernel) (by decide +kernel) fun r hr hrn => ?_
  have h0 := pock1 (q := 297159362677) (a := 2) (f := 95) (by decide +kernel) prime_297159362677 (by decide +kernel) hr hrn
  have h1 := pock1 (q := 545358713) (a := 2) (f := 95) (by decide +kernel) prime_545358713 (by decide +kernel) hr hrn
  exact (prime_ne_coprime prime_297159362677 prime_545358713 (by decide +kernel)).mul_dvd_of_dvd_of_dvd h0 h1
theorem prime_341948486974166000522343609283189 : IsPrime 341948486974166000522343609283189 := by
  refine pock_end (F := 29047611873442575647497758179) (by decide +kernel) (by decide +kernel) fun r hr hrn => ?_
  have h0 := pock1 (q := 29047611873442575647497758179) (a := 2) (f := 109) (by decide +kernel) prime_29047611873442575647497758179 (by decide +kernel) hr hrn
  exact h0
theorem prime_44706919 : IsPrime 44706919 := by
  refine pock_end (F := 9349) (by decide +kernel) (by decide +kernel) fun r hr hrn => ?_
  have h0 := pock1 (q := 9349) (a := 2) (f := 26) (by decide +kernel) prime_9349 (by decide +kernel) hr hrn
  exact h0
theorem prime_174723607534414371449 : IsPrime 174723607534414371449 := by
  refine pock_end (F := 5375246992127) (by decide +kernel) (by decide +kernel) fun r hr hrn => ?_
  have h0 := pock1 (q := 44706919) (a := 2) (f := 68) (by decide +kernel) prime_44706919 (by decide +kernel) hr hrn
  have h1 := pock1 (q := 120233) (a := 2) (f := 68) (by decide +kernel) prime_120233 (by decide +kernel) hr hrn
  exact (prime_ne_coprime prime_44706919 prime_120233 (by decide +kernel)).mul_dvd_of_dvd_of_dvd h0 h1
theorem prime_N : IsPrime 115792089237316195423570985008687907852837564279074904382605163141518161494337 := by
  refine pock_end (F := 59746473235060985162263246577491932178200490877270861) (by decide +kernel) (by decide +kernel) fun r hr hrn => ?_
  have h0 := pock1 (q := 341948486974166000522343609283189) (a := 2) (f := 256) (by decide +kernel) prime_341948486974166000522343609283189 (by decide +kernel) hr hrn
  have h1 := pock1 (q := 174723607534414371449) (a := 2) (f := 256) (by decide +kernel) prime_174723607534414371449 (by decide +kernel) hr hrn
  exact (prime_ne_coprime prime_341948486974166000522343609283189 prime_174723607534414371449 (by decide +kernel)).mul_dvd_of_dvd_of_dvd h0 h1
end Go.Proofs.Ytdeggdmoijfhdaa

/-
  Numbers modulo a prime, plain: what makes a number 1, and roots modulo a prime that leaves 3 when divided by 4. No walk here, no program.
-/
namespace Go.Proofs.Ytdeggdmoijfhdaa

/-- both moduli -/
def PP : Nat := 115792089237316195423570985008687907853269984665640564039457584007908834671663
def NN : Nat := 115792089237316195423570985008687907852837564279074904382605163141518161494337
theorem PP_prime : IsPrime PP := prime_P
theorem NN_prime : IsPrime NN := prime_N
theorem PP_four : PP % 4 = 3 := by decide +kernel

theorem not_dvd_mod {p a : Nat} : ¬ p ∣ a ↔ a % p ≠ 0 := ⟨fun h e => h (Nat.dvd_of_mod_eq_zero e), fun h e => h (Nat.mod_eq_zero_of_dvd e)⟩
/-- a number times itself to the power of the prime less 2 is 1 -/
theorem inv_mul {p a : Nat} (hp : IsPrime p) (ha : ¬ p ∣ a) : a * a ^ (p - 2) % p = 1 := by
  have h2 := hp.1
  have e : a * a ^ (p - 2) = a ^ (p - 1) := by rw [Nat.mul_comm, ← Nat.pow_succ, show (p - 2).succ = p - 1 by omega]
  rw [e]; exact fermat hp ha
/-- what makes a number 1 is one alone -/
theorem inv_unique {p a x y : Nat} (hx : a * x % p = 1) (hy : a * y % p = 1) : x % p = y % p := by
  have e1 : x * (a * y) % p = x % p := by rw [Nat.mul_mod, hy, Nat.mul_one, Nat.mod_mod]
  have e2 : y * (a * x) % p = y % p := by rw [Nat.mul_mod, hx, Nat.mul_one, Nat.mod_mod]
  have e3 : x * (a * y) = y * (a * x) := by ac_rfl
  rw [← e1, ← e2, e3]
theorem inv_not_dvd {p a x : Nat} (hx : a * x % p = 1) : ¬ p ∣ a := fun h => by
  have := Nat.mod_eq_zero_of_dvd (Nat.dvd_trans h (Nat.dvd_mul_right a x)); omega

/-! ### what is missing to the prime -/
theorem neg_add {p a : Nat} (hp : 0 < p) : (a + (p - a % p)) % p = 0 := by
  have h := Nat.mod_lt a hp
  have e := Nat.div_add_mod a p
  rw [show a + (p - a % p) = p * (a / p) + p by omega, Nat.mul_add_mod, Nat.mod_self]
theorem neg_unique {p a b : Nat} (hp : 0 < p) (h : (a + b) % p = 0) : b % p = (p - a % p) % p := by
  have ha := Nat.mod_lt a hp
  have hb := Nat.mod_lt b hp
  rw [Nat.add_mod] at h
  by_cases h0 : a % p = 0
  · rw [h0, Nat.zero_add, Nat.mod_mod] at h
    rw [h0, h, Nat.sub_zero, Nat.mod_self]
  · have h1 : a % p + b % p = p := by
      obtain ⟨k, hk⟩ := Nat.dvd_of_mod_eq_zero h
      match k, hk with
      | 0, hk => omega
      | 1, hk => omega
      | k + 2, hk =>
        have : p * (k + 2) = p * k + 2 * p := by rw [Nat.mul_add]; omega
        omega
    rw [show p - a % p = b % p by omega, Nat.mod_mod]
theorem neg_sq {p a b : Nat} (h : (a + b) % p = 0) : a * a % p = b * b % p := by
  obtain ⟨k, hk⟩ := Nat.dvd_of_mod_eq_zero h
  have e : a * a + p * (k * b) = b * b + p * (k * a) := by
    have e1 : p * (k * b) = (a + b) * b := by rw [hk]; ac_rfl
    have e2 : p * (k * a) = (a + b) * a := by rw [hk]; ac_rfl
    rw [e1, e2, Nat.add_mul, Nat.add_mul, Nat.mul_comm b a]; omega
  have := congrArg (· % p) e
  simpa [Nat.add_mul_mod_self_left] using this

/-! ### roots -/
/-- two numbers of one square are the same, or together nothing -/
theorem sq_eq {p a b : Nat} (hp : IsPrime p) (h : a * a % p = b * b % p) : a % p = b % p ∨ (a + b) % p = 0 := by
  have key : ∀ x y : Nat, y ≤ x → x * x % p = y * y % p → x % p = y % p ∨ (x + y) % p = 0 := by
    intro x y hle hxy
    have hd : p ∣ x * x - y * y := Nat.dvd_of_mod_eq_zero (Nat.sub_mod_eq_zero_of_mod_eq hxy)
    have e : x * x - y * y = (x + y) * (x - y) := by
      obtain ⟨d, rfl⟩ := Nat.exists_eq_add_of_le hle
      rw [Nat.add_sub_cancel_left]
      have : (y + d) * (y + d) = y * y + (y + d + y) * d := by
        simp only [Nat.add_mul, Nat.mul_add]
        rw [Nat.mul_comm d y]; omega
      omega
    rw [e] at hd
    rcases hp.euclid hd with h' | h'
    · exact .inr (Nat.mod_eq_zero_of_dvd h')
    · left
      obtain ⟨k, hk⟩ := h'
      rw [show x = y + p * k by omega, Nat.add_mul_mod_self_left]
  rcases Nat.le_total b a with hle | hle
  · exact key a b hle h
  · rcases key b a hle h.symm with h' | h'
    · exact .inl h'.symm
    · right; rw [Nat.add_comm]; exact h'
theorem pow_mod_eq {p a b : Nat} (h : a % p = b % p) (n : Nat) : a ^ n % p = b ^ n % p := by rw [Nat.pow_mod, h, ← Nat.pow_mod]
/-- of a square, the power is a root -/
theorem root_sq {p a y : Nat} (hp : IsPrime p) (h4 : p % 4 = 3) (h : a % p = y * y % p) : a ^ ((p + 1) / 4) * a ^ ((p + 1) / 4) % p = a % p := by
  have e1 : a ^ ((p + 1) / 4) * a ^ ((p + 1) / 4) = a ^ ((p + 1) / 2) := by rw [← Nat.pow_add]; congr 1; omega
  have e2 : (y * y) ^ ((p + 1) / 2) = y ^ (p - 1) * (y * y) := by
    have h2 := hp.1
    rw [← Nat.pow_two, ← Nat.pow_mul, ← Nat.pow_add]; congr 1; omega
  rw [e1, pow_mod_eq h, e2]
  by_cases hy : p ∣ y
  · rw [h]
    have h1 : y * y % p = 0 := Nat.mod_eq_zero_of_dvd (Nat.dvd_trans hy (Nat.dvd_mul_right y y))
    rw [Nat.mul_mod, h1, Nat.mul_zero, Nat.zero_mod]
  · rw [Nat.mul_mod, fermat hp hy, Nat.one_mul, Nat.mod_mod, h]
/-- to the power of half of what is below the prime: 1, or together with 1 nothing -/
theorem half_pow {p a : Nat} (hp : IsPrime p) (h2 : p % 2 = 1) (ha : ¬ p ∣ a) : a ^ ((p - 1) / 2) % p = 1 ∨ (a ^ ((p - 1) / 2) + 1) % p = 0 := by
  have hp2 := hp.1
  have e : a ^ ((p - 1) / 2) * a ^ ((p - 1) / 2) % p = 1 * 1 % p := by
    rw [← Nat.pow_add, show (p - 1) / 2 + (p - 1) / 2 = p - 1 by omega, fermat hp ha, Nat.mod_eq_of_lt (by omega)]
  rcases sq_eq hp e with h | h
  · left; rw [h, Nat.mod_eq_of_lt (by omega)]
  · exact .inr h
/-- of a number and what is missing to nothing one has the power as a root -/
theorem root_or {p a b : Nat} (hp : IsPrime p) (h4 : p % 4 = 3) (hab : (a + b) % p = 0) :
    a ^ ((p + 1) / 4) * a ^ ((p + 1) / 4) % p = a % p ∨ b ^ ((p + 1) / 4) * b ^ ((p + 1) / 4) % p = b % p := by
  have hp2 := hp.1
  have split : ∀ x : Nat, x ^ ((p + 1) / 4) * x ^ ((p + 1) / 4) = x ^ ((p - 1) / 2) * x := fun x => by
    rw [← Nat.pow_add, ← Nat.pow_succ]; congr 1; omega
  rw [split, split]
  by_cases ha : p ∣ a
  · left
    have h1 := Nat.mod_eq_zero_of_dvd ha
    rw [Nat.mul_mod, h1, Nat.mul_zero, Nat.zero_mod]
  · have hb : ¬ p ∣ b := fun h => ha ((Nat.dvd_add_iff_left h).2 (Nat.dvd_of_mod_eq_zero hab))
    rcases half_pow hp (by omega) ha with h | h
    · left; rw [Nat.mul_mod, h, Nat.one_mul, Nat.mod_mod]
    · rcases half_pow hp (by omega) hb with h' | h'
      · right; rw [Nat.mul_mod, h', Nat.one_mul, Nat.mod_mod]
      · exfalso
        -- both powers were less than nothing: but their exponent is odd, and a is b less than nothing
        have hodd : ∃ k, (p - 1) / 2 = 2 * k + 1 := ⟨(p - 1) / 4, by omega⟩
        obtain ⟨k, hk⟩ := hodd
        have hs : a * a % p = b * b % p := neg_sq hab
        have hk2 : a ^ (2 * k) % p = b ^ (2 * k) % p := by
          rw [Nat.pow_mul, Nat.pow_mul, Nat.pow_two, Nat.pow_two]; exact pow_mod_eq hs k
        have e1 : (a ^ ((p - 1) / 2) + b ^ ((p - 1) / 2)) % p = 0 := by
          rw [hk, Nat.pow_succ, Nat.pow_succ, Nat.add_mod, Nat.mul_mod, hk2, ← Nat.mul_mod, ← Nat.add_mod, ← Nat.mul_add, Nat.mul_mod, hab, Nat.mul_zero, Nat.zero_mod]
        have e2 : (a ^ ((p - 1) / 2) + 1 + (b ^ ((p - 1) / 2) + 1)) % p = 0 := by rw [Nat.add_mod, h, h', Nat.add_zero, Nat.zero_mod]
        have e3 : (a ^ ((p - 1) / 2) + b ^ ((p - 1) / 2) + 2) % p = 0 := by
          rw [show a ^ ((p - 1) / 2) + b ^ ((p - 1) / 2) + 2 = a ^ ((p - 1) / 2) + 1 + (b ^ ((p - 1) / 2) + 1) by omega]; exact e2
        rw [Nat.add_mod, e1, Nat.zero_add, Nat.mod_mod, Nat.mod_eq_of_lt (by omega)] at e3
        omega
end Go.Proofs.Ytdeggdmoijfhdaa

/-
  The curve y y = x x x + 7 over a field, plain: the sum of two points, its associative law, so many times, and one formula for all. No walk here, no program.
-/
namespace Go.Proofs.Ytdeggdmoijfhdaa
namespace Cv
variable {n : Nat} [NeZero n]

/-- a line of slope s and height c meets the curve at these three, so often as they stand there -/
structure Col (s c x1 y1 x2 y2 x3 y3 : Fin n) : Prop where
  l1 : y1 = s * x1 + c
  l2 : y2 = s * x2 + c
  l3 : y3 = s * x3 + c
  e1 : x1 + x2 + x3 = s * s
  e2 : x1 * x2 + x1 * x3 + x2 * x3 = 0 - 2 * s * c
  e3 : x1 * x2 * x3 = c * c - 7
theorem Col.on1 {s c x1 y1 x2 y2 x3 y3 : Fin n} (h : Col s c x1 y1 x2 y2 x3 y3) : y1 * y1 = x1 * x1 * x1 + 7 := by
  obtain ⟨h1, h2, h3, h4, h5, h6⟩ := h
  clear h2 h3
  subst h1
  have e : x1 * x1 * x1 = x1 * x1 * (x1 + x2 + x3) - x1 * (x1 * x2 + x1 * x3 + x2 * x3) + x1 * x2 * x3 := by clear h4 h5 h6; grobner
  rw [e, h4, h5, h6]; clear e h4 h5 h6; grobner
theorem Col.perm {s c x1 y1 x2 y2 x3 y3 : Fin n} (h : Col s c x1 y1 x2 y2 x3 y3) : Col s c x2 y2 x3 y3 x1 y1 := by
  obtain ⟨h1, h2, h3, h4, h5, h6⟩ := h
  exact ⟨h2, h3, h1, by rw [← h4]; clear h1 h2 h3 h4 h5 h6; grobner, by rw [← h5]; clear h1 h2 h3 h4 h5 h6; grobner, by rw [← h6]; clear h1 h2 h3 h4 h5 h6; grobner⟩
theorem Col.swap {s c x1 y1 x2 y2 x3 y3 : Fin n} (h : Col s c x1 y1 x2 y2 x3 y3) : Col s c x2 y2 x1 y1 x3 y3 := by
  obtain ⟨h1, h2, h3, h4, h5, h6⟩ := h
  exact ⟨h2, h1, h3, by rw [← h4]; clear h1 h2 h3 h4 h5 h6; grobner, by rw [← h5]; clear h1 h2 h3 h4 h5 h6; grobner, by rw [← h6]; clear h1 h2 h3 h4 h5 h6; grobner⟩
theorem Col.neg {s c x1 y1 x2 y2 x3 y3 : Fin n} (h : Col s c x1 y1 x2 y2 x3 y3) : Col (0 - s) (0 - c) x1 (0 - y1) x2 (0 - y2) x3 (0 - y3) := by
  obtain ⟨h1, h2, h3, h4, h5, h6⟩ := h
  refine ⟨?_, ?_, ?_, ?_, ?_, ?_⟩
  · rw [h1]; clear h1 h2 h3 h4 h5 h6; grobner
  · rw [h2]; clear h1 h2 h3 h4 h5 h6; grobner
  · rw [h3]; clear h1 h2 h3 h4 h5 h6; grobner
  · rw [h4]; clear h1 h2 h3 h4 h5 h6; grobner
  · rw [h5]; clear h1 h2 h3 h4 h5 h6; grobner
  · rw [h6]; clear h1 h2 h3 h4 h5 h6; grobner
/-- the chord -/
theorem Col.chord {x1 y1 x2 y2 s u : Fin n} (h1 : y1 * y1 = x1 * x1 * x1 + 7) (h2 : y2 * y2 = x2 * x2 * x2 + 7) (hu : u * (x2 - x1) = 1) (hs : s = u * (y2 - y1)) :
    Col s (y1 - s * x1) x1 y1 x2 y2 (s * s - x1 - x2) (s * (s * s - x1 - x2) + (y1 - s * x1)) := by
  have e : s * (x2 - x1) = y2 - y1 := by subst hs; clear h1 h2; grobner
  have hy : y2 = y1 + s * (x2 - x1) := by rw [e]; clear e hs hu h1 h2; grobner
  -- what both curves' equations say, divided
  have key : s * (2 * y1 + s * (x2 - x1)) = x2 * x2 + x1 * x2 + x1 * x1 := by
    have k1 : (x2 - x1) * (s * (2 * y1 + s * (x2 - x1))) = (x2 - x1) * (x2 * x2 + x1 * x2 + x1 * x1) := by
      have k2 : (y1 + s * (x2 - x1)) * (y1 + s * (x2 - x1)) = x2 * x2 * x2 + 7 := by rw [← hy]; exact h2
      clear hs hu e hy h2
      grobner
    have k3 : u * (x2 - x1) * (s * (2 * y1 + s * (x2 - x1))) = u * (x2 - x1) * (x2 * x2 + x1 * x2 + x1 * x1) := by
      rw [Fin.mul_assoc u, k1, ← Fin.mul_assoc]
    rw [hu, Fin.one_mul, Fin.one_mul] at k3
    exact k3
  clear hs hu e
  refine ⟨?_, ?_, rfl, ?_, ?_, ?_⟩
  · clear key hy h1 h2; grobner
  · rw [hy]; clear key hy h1 h2; grobner
  · clear key hy h1 h2; grobner
  · clear hy h1 h2; grobner
  · clear hy h2; grobner
/-- the tangent -/
theorem Col.tangent {x1 y1 s u : Fin n} (h1 : y1 * y1 = x1 * x1 * x1 + 7) (hu : u * (2 * y1) = 1) (hs : s = u * (3 * x1 * x1)) :
    Col s (y1 - s * x1) x1 y1 x1 y1 (s * s - x1 - x1) (s * (s * s - x1 - x1) + (y1 - s * x1)) := by
  have e : s * (2 * y1) = 3 * x1 * x1 := by subst hs; clear h1; grobner
  clear hs hu
  refine ⟨?_, ?_, rfl, ?_, ?_, ?_⟩
  · clear e h1; grobner
  · clear e h1; grobner
  · clear e h1; grobner
  · clear h1; grobner
  · grobner
/-- the slope, by the other way -/
theorem Col.other {s c x1 y1 x2 y2 x3 y3 : Fin n} (h : Col s c x1 y1 x2 y2 x3 y3) : s * (y1 + y2) = x1 * x1 + x1 * x2 + x2 * x2 := by
  obtain ⟨h1, h2, h3, h4, h5, h6⟩ := h
  clear h3 h6
  have e3 : x3 = s * s - x1 - x2 := by rw [← h4]; clear h1 h2 h4 h5; grobner
  subst e3
  clear h4
  subst h1 h2
  grobner
theorem Col.slope {s c x1 y1 x2 y2 x3 y3 : Fin n} (h : Col s c x1 y1 x2 y2 x3 y3) : s * (x2 - x1) = y2 - y1 := by
  rw [h.l1, h.l2]; clear h; grobner
theorem Col.x3 {s c x1 y1 x2 y2 x3 y3 : Fin n} (h : Col s c x1 y1 x2 y2 x3 y3) : x3 = s * s - x1 - x2 := by
  rw [← h.e1]; clear h; grobner
theorem Col.y3 {s c x1 y1 x2 y2 x3 y3 : Fin n} (h : Col s c x1 y1 x2 y2 x3 y3) : y3 = s * (x3 - x1) + y1 := by
  rw [h.l3, h.l1]; clear h; grobner

/-- what the curve is over: a field in which 2 is something and no number's cube is less than nothing by 7 -/
structure Good (n : Nat) [NeZero n] (iv : Fin n → Fin n) : Prop where
  iv : ∀ a : Fin n, a ≠ 0 → iv a * a = 1
  two : (2 : Fin n) ≠ 0
  no2 : ∀ x : Fin n, x * x * x + 7 ≠ 0
variable {iv : Fin n → Fin n}
theorem Good.cancel (g : Good n iv) {a b c : Fin n} (ha : a ≠ 0) (h : a * b = a * c) : b = c := by
  have h1 := g.iv a ha
  have h2 : iv a * a * b = iv a * a * c := by rw [Fin.mul_assoc, h, ← Fin.mul_assoc]
  rwa [h1, Fin.one_mul, Fin.one_mul] at h2
theorem Good.mul_ne (g : Good n iv) {a b : Fin n} (ha : a ≠ 0) (hb : b ≠ 0) : a * b ≠ 0 := fun h => hb (g.cancel ha (by rw [h]; clear h; grobner))
theorem Good.y_ne (g : Good n iv) {x y : Fin n} (h : y * y = x * x * x + 7) : y ≠ 0 := fun e => g.no2 x (by rw [← h, e]; clear h e; grobner)
theorem sub_ne {a b : Fin n} (h : a ≠ b) : b - a ≠ 0 := fun e => h (by
  have : a = b - (b - a) := by clear h e; grobner
  rw [this, e]; clear this e h; grobner)
theorem Good.twice_ne (g : Good n iv) {y : Fin n} (hy : y ≠ 0) : 2 * y ≠ 0 := g.mul_ne g.two hy
/-- the third point is one alone -/
theorem Good.col_unique (g : Good n iv) {s c t d x1 y1 x2 y2 x3 y3 x4 y4 : Fin n} (h : Col s c x1 y1 x2 y2 x3 y3) (k : Col t d x1 y1 x2 y2 x4 y4) : s = t ∧ x3 = x4 ∧ y3 = y4 := by
  have hst : s = t := by
    by_cases hx : x1 = x2
    · have hy : y1 = y2 := by rw [h.l1, h.l2, hx]
      subst hx; subst hy
      have h1 := h.other; have h2 := k.other
      have hy := g.twice_ne (g.y_ne h.on1)
      refine g.cancel hy ?_
      have e : s * (y1 + y1) = t * (y1 + y1) := by rw [h1, h2]
      clear h1 h2 h k hy
      grobner
    · refine g.cancel (sub_ne hx) ?_
      have e : s * (x2 - x1) = t * (x2 - x1) := by rw [h.slope, k.slope]
      clear h k hx
      grobner
  subst hst
  have hx : x3 = x4 := by rw [h.x3, k.x3]
  exact ⟨rfl, hx, by rw [h.y3, k.y3, hx]⟩
/-- two different ones of a line are not across -/
theorem Good.col_across (g : Good n iv) {s c x y x3 y3 : Fin n} (h : Col s c x y x (0 - y) x3 y3) : False := by
  have h1 : y = 0 - y := h.l1.trans h.l2.symm
  refine g.twice_ne (g.y_ne h.on1) ?_
  have : 2 * y = y - (0 - y) := by clear h1 h; grobner
  rw [this, ← h1]; clear this h1 h; grobner

theorem same_line {s c x1 y1 x2 y2 x4 z4 x3 y3 x5 z5 : Fin n} (h : Col s c x1 y1 x2 y2 x4 z4) (k : Col s c x2 y2 x3 y3 x5 z5) : (x3 - x1) * (x3 - x4) = 0 ∧ x1 + x4 = x3 + x5 := by
  have e1 : x1 + x4 = x3 + x5 := by
    have a := h.e1; have b := k.e1
    have : x1 + x4 = x1 + x2 + x4 - x2 := by clear a b h k; grobner
    rw [this, a, ← b]; clear this a b h k; grobner
  have e2 : x1 * x4 = x3 * x5 := by
    have a := h.e2; have b := k.e2
    have : x1 * x4 = x1 * x2 + x1 * x4 + x2 * x4 - x2 * (x1 + x4) := by clear a b h k e1; grobner
    rw [this, a, ← b, e1]; clear this a b h k e1; grobner
  refine ⟨?_, e1⟩
  clear h k
  have : (x3 - x1) * (x3 - x4) = x3 * x3 - x3 * (x1 + x4) + x1 * x4 := by clear e1 e2; grobner
  rw [this, e1, e2]; clear this e1 e2; grobner

/-- the line of slope s through (x2,y2) meets the curve at x too -/
def CvOn (x2 y2 s x : Fin n) : Prop := s * s * (x - x2) + 2 * s * y2 = (x - x2) * (x - x2) + 3 * x2 * (x - x2) + 3 * x2 * x2
theorem Col.cv {s c x1 y1 x2 y2 x3 y3 : Fin n} (h : Col s c x1 y1 x2 y2 x3 y3) : CvOn x1 y1 s x2 := by
  have h1 := h.other
  have h2 := h.slope
  unfold CvOn
  have e : y2 = y1 + s * (x2 - x1) := by rw [h2]; clear h1 h2 h; grobner
  rw [e] at h1
  clear e h2 h
  grobner
theorem key_chord {x2 y2 s t x3 x4 y3 z4 : Fin n} (hA : CvOn x2 y2 s x4) (hB : CvOn x2 y2 t x3) (hy3 : y3 = y2 + t * (x3 - x2)) (hz4 : z4 = y2 + s * (x4 - x2)) :
    (y3 + z4) * (t - s) = (x3 - x4) * (x2 + x3 + x4 - s * t) := by
  unfold CvOn at *
  have e : y3 + z4 = 2 * y2 + t * (x3 - x2) + s * (x4 - x2) := by rw [hy3, hz4]; clear hA hB hy3 hz4; grobner
  rw [e]; clear e hy3 hz4; grobner
theorem key_tangent {x2 y2 s t x3 x4 y3 z4 : Fin n} (hA : CvOn x2 y2 s x4) (hB : CvOn x2 y2 t x3) (hy3 : y3 = y2 + t * (x3 - x2)) (hz4 : z4 = y2 + s * (x4 - x2)) :
    (t - s) * (x3 * x3 + x3 * x4 + x4 * x4) = (y3 - z4) * (x2 + x3 + x4 - s * t) := by
  unfold CvOn at *
  have e : y3 - z4 = t * (x3 - x2) - s * (x4 - x2) := by rw [hy3, hz4]; clear hA hB hy3 hz4; grobner
  rw [e]; clear e hy3 hz4; grobner

theorem slopes {x1 x2 x3 x4 x5 s t p q : Fin n} (A : p * (t - s) = x2 + x3 + x4 - s * t) (B : q * (s - t) = x2 + x1 + x5 - s * t) (hx4 : x4 = s * s - x1 - x2) (hx5 : x5 = t * t - x2 - x3) : (t - s) * (p - q) = (t - s) * (t - s) := by
  have e : (t - s) * (p - q) = p * (t - s) + q * (s - t) := by clear A B hx4 hx5; grobner
  rw [e, A, B, hx4, hx5]; clear e A B hx4 hx5; grobner
theorem same_x {x1 x2 x3 x4 x5 s t p q : Fin n} (A : p * (t - s) = x2 + x3 + x4 - s * t) (B : q * (s - t) = x2 + x1 + x5 - s * t) (hs : p - q = t - s) : p * p - x4 - x3 = q * q - x1 - x5 := by
  have h : (p + q) * (p - q) = x3 + x4 - x1 - x5 := by
    rw [hs]
    have : (p + q) * (t - s) = p * (t - s) - q * (s - t) := by clear A B hs; grobner
    rw [this, A, B]; clear this A B hs; grobner
  have : p * p - x4 - x3 = (p + q) * (p - q) + q * q - x4 - x3 := by clear h A B hs; grobner
  rw [this, h]; clear this h A B hs; grobner
theorem same_y {x1 y1 x2 y2 x3 y3 x4 s t p q x6 : Fin n} (A : p * (t - s) = x2 + x3 + x4 - s * t) (hx4 : x4 = s * s - x1 - x2) (hs : p - q = t - s) (hy3 : y3 = y2 + t * (x3 - x2)) (hy1 : y1 = y2 + s * (x1 - x2)) (hx6 : x6 = p * p - x4 - x3) :
    p * (x6 - x3) + y3 = q * (x6 - x1) + y1 := by
  have h1 : x6 - x2 = (p - t) * (p + s) := by
    have : (p - t) * (p + s) = p * p - p * (t - s) - s * t := by clear A hx4 hs hy3 hy1 hx6; grobner
    rw [this, A, hx6, hx4]; clear this A hx4 hs hy3 hy1 hx6; grobner
  have h2 : x3 - x1 = (t - s) * (p + s) := by
    have : (t - s) * (p + s) = p * (t - s) + s * t - s * s := by clear A hx4 hs hy3 hy1 hx6 h1; grobner
    rw [this, A, hx4]; clear this A hx4 hs hy3 hy1 hx6 h1; grobner
  have h3 : (p - t) * (x3 - x1) = (t - s) * (x6 - x2) := by rw [h1, h2]; clear h1 h2 A hx4 hs hy3 hy1 hx6; grobner
  have h5 : q = p - t + s := by
    have : q = p - (p - q) := by clear h1 h2 h3 A hx4 hs hy3 hy1 hx6; grobner
    rw [this, hs]; clear this h1 h2 h3 A hx4 hs hy3 hy1 hx6; grobner
  subst h5
  rw [hy3, hy1]
  clear h1 h2 hx4 hs hx6 A hy3 hy1
  grobner
/-- the slope of the outer sum, chord or tangent -/
theorem Good.outer (g : Good n iv) {s c t d p e x1 y1 x2 y2 x3 y3 x4 z4 x5 z5 x6 z6 : Fin n} (h : Col s c x1 y1 x2 y2 x4 z4) (k : Col t d x2 y2 x3 y3 x5 z5) (m : Col p e x4 (0 - z4) x3 y3 x6 z6) : p * (t - s) = x2 + x3 + x4 - s * t := by
  have hA : CvOn x2 y2 s x4 := h.perm.cv
  have hB : CvOn x2 y2 t x3 := k.cv
  have hy3 : y3 = y2 + t * (x3 - x2) := by rw [k.slope]; clear hA hB h k m; grobner
  have hz4 : z4 = y2 + s * (x4 - x2) := by rw [h.perm.slope]; clear hA hB h k m hy3; grobner
  by_cases hx : x4 = x3
  · have hk := key_tangent hA hB hy3 hz4
    have ho := m.other
    have hyy : 0 - z4 = y3 := by rw [m.l1, m.l2, hx]
    have hne : y3 - z4 ≠ 0 := by
      have e1 : y3 - z4 = 2 * y3 := by
        have : y3 - z4 = y3 + (0 - z4) := by clear hA hB h k m hy3 hz4 hk ho hyy hx; grobner
        rw [this, hyy]; clear this hA hB h k m hy3 hz4 hk ho hyy hx; grobner
      rw [e1]; exact g.twice_ne (g.y_ne m.swap.on1)
    refine g.cancel hne ?_
    rw [← hk]
    have e2 : p * (0 - z4 + y3) = (y3 - z4) * p := by clear hA hB h k m hy3 hz4 hk ho hyy hx hne; grobner
    have e3 : (y3 - z4) * (p * (t - s)) = (t - s) * ((y3 - z4) * p) := by clear hA hB h k m hy3 hz4 hk ho hyy hx hne e2; grobner
    rw [e3, ← e2, ho]; clear hA hB h k m hy3 hz4 hk ho hyy hx hne e2 e3; grobner
  · have hk := key_chord hA hB hy3 hz4
    refine g.cancel (sub_ne hx) ?_
    rw [← hk]
    have hs := m.slope
    have e2 : y3 + z4 = y3 - (0 - z4) := by clear hA hB h k m hy3 hz4 hk hx hs; grobner
    rw [e2, ← hs]; clear hA hB h k m hy3 hz4 hk hx hs e2; grobner
/-- THE ASSOCIATIVE LAW, where no sum is nowhere -/
theorem Good.assoc_ord (g : Good n iv) {s c t d p e q f x1 y1 x2 y2 x3 y3 x4 z4 x5 z5 x6 z6 x7 z7 : Fin n} (h : Col s c x1 y1 x2 y2 x4 z4) (k : Col t d x2 y2 x3 y3 x5 z5) (m : Col p e x4 (0 - z4) x3 y3 x6 z6) (l : Col q f x1 y1 x5 (0 - z5) x7 z7) : x6 = x7 ∧ z6 = z7 := by
  by_cases hst : s = t
  · subst hst
    have hcd : c = d := by
      have a := h.l2; have b := k.l1
      have : c = s * x2 + c - s * x2 := by clear a b h k m l; grobner
      rw [this, ← a, b]; clear this a b h k m l; grobner
    subst hcd
    obtain ⟨h1, h2⟩ := same_line h k
    by_cases h3 : x3 = x1
    · have hy : y3 = y1 := by rw [k.l2, h.l1, h3]
      have hx5 : x5 = x4 := by
        have : x5 = x3 + x5 - x3 := by clear h1 h2 h3 hy h k m l; grobner
        rw [this, ← h2, h3]; clear this h1 h2 h3 hy h k m l; grobner
      have hz5 : z5 = z4 := by rw [k.l3, h.l3, hx5]
      subst h3; subst hy; subst hx5; subst hz5
      have := g.col_unique m l.swap
      exact this.2
    · exfalso
      have h4 : x3 = x4 := by
        have := g.cancel (b := x3 - x4) (c := 0) (sub_ne (Ne.symm h3)) (by rw [h1]; clear h1 h2 h3 h k m l; grobner)
        have e : x3 = x3 - x4 + x4 := by clear this h1 h2 h3 h k m l; grobner
        rw [e, this]; clear e this h1 h2 h3 h k m l; grobner
      have hy : y3 = z4 := by rw [k.l2, h.l3, h4]
      subst h4; subst hy
      exact g.col_across m.swap
  · have A := g.outer h k m
    have B : q * (s - t) = x2 + x1 + x5 - s * t := by rw [g.outer k.swap h.swap l.swap, Fin.mul_comm t s]
    have hx4 := h.x3
    have hx5 := k.x3
    have hs := g.cancel (sub_ne hst) (slopes A B hx4 hx5)
    have hx6 := m.x3
    have hx7 := l.x3
    have hxx : x6 = x7 := by rw [hx6, hx7]; exact same_x A B hs
    refine ⟨hxx, ?_⟩
    have hy3 : y3 = y2 + t * (x3 - x2) := by rw [k.slope]; clear hxx hx7 hx6 hs hx5 hx4 B A h k m l hst; grobner
    have hy1 : y1 = y2 + s * (x1 - x2) := by rw [h.swap.slope]; clear hxx hx7 hx6 hs hx5 hx4 B A h k m l hst hy3; grobner
    have hz6 := m.swap.y3
    have hz7 := l.y3
    rw [hz6, hz7, ← hxx]
    exact same_y A hx4 hs hy3 hy1 hx6

/-! ### points -/
/-- a point: nowhere, or by two numbers -/
inductive Pt (n : Nat)
  | o
  | mk (x y : Fin n)
def Pt.On : Pt n → Prop
  | .o => True
  | .mk x y => y * y = x * x * x + 7
def Pt.neg : Pt n → Pt n
  | .o => .o
  | .mk x y => .mk x (0 - y)
/-- with the rise s -/
def Pt.rise (s x1 y1 x2 : Fin n) : Pt n := .mk (s * s - x1 - x2) (s * (x1 - (s * s - x1 - x2)) - y1)
/-- both together, as the document says -/
def Pt.add (iv : Fin n → Fin n) : Pt n → Pt n → Pt n
  | .o, q => q
  | p, .o => p
  | .mk x1 y1, .mk x2 y2 => if x2 = x1 ∧ y2 = 0 - y1 then .o else if x1 = x2 ∧ y1 = y2 then Pt.rise (3 * x1 * x1 * iv (2 * y1)) x1 y1 x2 else Pt.rise ((y2 - y1) * iv (x2 - x1)) x1 y1 x2
theorem neg_neg (y : Fin n) : 0 - (0 - y) = y := by grobner
theorem Pt.neg_neg (p : Pt n) : p.neg.neg = p := by cases p with
  | o => rfl
  | mk x y => simp only [Pt.neg, Cv.neg_neg]
theorem Pt.neg_on {p : Pt n} (h : p.On) : p.neg.On := by cases p with
  | o => trivial
  | mk x y =>
    have h : y * y = x * x * x + 7 := h
    show (0 - y) * (0 - y) = x * x * x + 7
    rw [← h]; clear h; grobner
theorem rise_col {s c x1 y1 x2 y2 x3 y3 : Fin n} (h : Col s c x1 y1 x2 y2 x3 y3) : Pt.rise s x1 y1 x2 = .mk x3 (0 - y3) := by
  unfold Pt.rise
  rw [← h.x3]
  congr 1
  rw [h.y3]; clear h; grobner
/-- the sum by the line -/
theorem Good.add_of_col (g : Good n iv) {s c x1 y1 x2 y2 x3 y3 : Fin n} (h : Col s c x1 y1 x2 y2 x3 y3) : Pt.add iv (.mk x1 y1) (.mk x2 y2) = .mk x3 (0 - y3) := by
  unfold Pt.add
  simp only
  rw [if_neg (fun e => by obtain ⟨e1, e2⟩ := e; subst e1; subst e2; exact g.col_across h)]
  split
  · rename_i e
    obtain ⟨rfl, rfl⟩ := e
    have hy := g.twice_ne (g.y_ne h.on1)
    have hs : s = 3 * x1 * x1 * iv (2 * y1) := by
      refine g.cancel hy ?_
      have h1 := h.other
      have h2 := g.iv _ hy
      have e1 : 2 * y1 * (3 * x1 * x1 * iv (2 * y1)) = 3 * x1 * x1 * (iv (2 * y1) * (2 * y1)) := by clear h h1 h2 hy; grobner
      rw [e1, h2]
      have e2 : 2 * y1 * s = s * (y1 + y1) := by clear h h1 h2 hy e1; grobner
      rw [e2, h1]; clear h h1 h2 hy e1 e2; grobner
    rw [← hs]; exact rise_col h
  · rename_i e
    have hx : x1 ≠ x2 := fun e2 => e ⟨e2, by rw [h.l1, h.l2, e2]⟩
    have hs : s = (y2 - y1) * iv (x2 - x1) := by
      refine g.cancel (sub_ne hx) ?_
      have h1 := h.slope
      have h2 := g.iv _ (sub_ne hx)
      have e1 : (x2 - x1) * ((y2 - y1) * iv (x2 - x1)) = (y2 - y1) * (iv (x2 - x1) * (x2 - x1)) := by clear h h1 h2; grobner
      rw [e1, h2]
      have e2 : (x2 - x1) * s = s * (x2 - x1) := Fin.mul_comm _ _
      rw [e2, h1]; clear h h1 h2 e1 e2; grobner
    rw [← hs]; exact rise_col h
theorem sq_same (g : Good n iv) {y1 y2 : Fin n} (h : y1 * y1 = y2 * y2) : y1 = y2 ∨ y2 = 0 - y1 := by
  by_cases e : y1 = y2
  · exact .inl e
  · right
    have h1 : (y2 - y1) * (y2 + y1) = (y2 - y1) * 0 := by
      have : (y2 - y1) * (y2 + y1) = y2 * y2 - y1 * y1 := by clear h e; grobner
      rw [this, h]; clear this h e; grobner
    have h2 := g.cancel (sub_ne e) h1
    have : y2 = y2 + y1 - y1 := by clear h h1 h2 e; grobner
    rw [this, h2]
/-- two points of the curve are across, or a line goes through them -/
theorem Good.line (g : Good n iv) {x1 y1 x2 y2 : Fin n} (h1 : y1 * y1 = x1 * x1 * x1 + 7) (h2 : y2 * y2 = x2 * x2 * x2 + 7) : (x2 = x1 ∧ y2 = 0 - y1) ∨ ∃ s c x3 y3, Col s c x1 y1 x2 y2 x3 y3 := by
  by_cases hx : x1 = x2
  · subst hx
    rcases sq_same g (h1.trans h2.symm) with h | h
    · subst h; exact .inr ⟨_, _, _, _, Col.tangent h1 (g.iv _ (g.twice_ne (g.y_ne h1))) rfl⟩
    · exact .inl ⟨rfl, h⟩
  · exact .inr ⟨_, _, _, _, Col.chord h1 h2 (g.iv _ (sub_ne hx)) rfl⟩
theorem Good.add_across {x y : Fin n} : Pt.add iv (.mk x y) (.mk x (0 - y)) = .o := by unfold Pt.add; simp
theorem Pt.add_o (p : Pt n) : Pt.add iv p .o = p := by cases p <;> rfl
theorem Pt.o_add (p : Pt n) : Pt.add iv .o p = p := rfl
theorem Good.add_on (g : Good n iv) {p q : Pt n} (hp : p.On) (hq : q.On) : (Pt.add iv p q).On := by
  cases p with
  | o => exact hq
  | mk x1 y1 => cases q with
    | o => exact hp
    | mk x2 y2 =>
      rcases g.line hp hq with ⟨rfl, rfl⟩ | ⟨s, c, x3, y3, h⟩
      · rw [Good.add_across]; trivial
      · rw [g.add_of_col h]; exact Pt.neg_on (p := .mk x3 y3) h.perm.perm.on1
theorem Good.add_comm (g : Good n iv) {p q : Pt n} (hp : p.On) (hq : q.On) : Pt.add iv p q = Pt.add iv q p := by
  cases p with
  | o => rw [Pt.add_o]; rfl
  | mk x1 y1 => cases q with
    | o => rfl
    | mk x2 y2 =>
      rcases g.line hp hq with ⟨rfl, rfl⟩ | ⟨s, c, x3, y3, h⟩
      · rw [Good.add_across]
        have := Good.add_across (iv := iv) (x := x2) (y := 0 - y1)
        rw [Cv.neg_neg] at this; exact this.symm
      · rw [g.add_of_col h, g.add_of_col h.swap]
theorem Good.add_neg (_g : Good n iv) (p : Pt n) : Pt.add iv p p.neg = .o := by cases p with
  | o => rfl
  | mk x y => exact Good.add_across
/-- what is added comes away again -/
theorem Good.back (g : Good n iv) {a c : Pt n} (ha : a.On) (hc : c.On) : Pt.add iv a (Pt.add iv a.neg c) = c := by
  cases a with
  | o => rfl
  | mk x1 y1 => cases c with
    | o => exact g.add_neg _
    | mk x2 y2 =>
      have hn : (Pt.mk x1 (0 - y1)).On := Pt.neg_on (p := .mk x1 y1) ha
      show Pt.add iv (.mk x1 y1) (Pt.add iv (.mk x1 (0 - y1)) (.mk x2 y2)) = .mk x2 y2
      rcases g.line hn hc with ⟨rfl, rfl⟩ | ⟨s, c, x3, y3, h⟩
      · rw [Good.add_across, Pt.add_o, Cv.neg_neg]
      · rw [g.add_of_col h]
        have k := h.neg.perm.perm.swap
        rw [Cv.neg_neg] at k
        rw [g.add_of_col k, Cv.neg_neg]
/-- THE ASSOCIATIVE LAW -/
theorem Good.assoc (g : Good n iv) {a b c : Pt n} (ha : a.On) (hb : b.On) (hc : c.On) : Pt.add iv (Pt.add iv a b) c = Pt.add iv a (Pt.add iv b c) := by
  cases a with
  | o => rfl
  | mk x1 y1 => cases b with
    | o => rfl
    | mk x2 y2 => cases c with
      | o => rw [Pt.add_o, Pt.add_o]
      | mk x3 y3 =>
        rcases g.line ha hb with ⟨rfl, rfl⟩ | ⟨s, c, x4, z4, h⟩
        · rw [Good.add_across, Pt.o_add]
          exact (g.back (a := .mk x2 y1) ha hc).symm
        · rcases g.line hb hc with ⟨rfl, rfl⟩ | ⟨t, d, x5, z5, k⟩
          · rw [Good.add_across, Pt.add_o]
            have hb' : (Pt.mk x3 (0 - y2)).On := hc
            have e1 := g.back (a := .mk x3 (0 - y2)) (c := .mk x1 y1) hb' ha
            have e2 : (Pt.mk x3 (0 - y2)).neg = .mk x3 y2 := by simp only [Pt.neg, Cv.neg_neg]
            rw [e2, g.add_comm hb ha, g.add_comm hb' (g.add_on ha hb)] at e1
            exact e1
          · rw [g.add_of_col h, g.add_of_col k]
            have hD : (Pt.mk x4 (0 - z4)).On := Pt.neg_on (p := .mk x4 z4) h.perm.perm.on1
            have hF : (Pt.mk x5 (0 - z5)).On := Pt.neg_on (p := .mk x5 z5) k.perm.perm.on1
            rcases g.line hD hc with ⟨rfl, rfl⟩ | ⟨p, e, x6, z6, m⟩
            · rw [Good.add_across]
              rw [Cv.neg_neg] at k
              obtain ⟨-, rfl, rfl⟩ := g.col_unique k h.perm
              rw [Good.add_across]
            · rcases g.line ha hF with ⟨rfl, e0⟩ | ⟨q, f, x7, z7, l⟩
              · rw [e0, Good.add_across]
                have ez : z5 = y1 := by
                  have : z5 = 0 - (0 - z5) := (Cv.neg_neg z5).symm
                  rw [this, e0, Cv.neg_neg]
                subst ez
                obtain ⟨-, rfl, rfl⟩ := g.col_unique h k.perm.perm
                have := Good.add_across (iv := iv) (x := x4) (y := 0 - z4)
                rw [Cv.neg_neg] at this
                exact this
              · rw [g.add_of_col m, g.add_of_col l]
                obtain ⟨rfl, rfl⟩ := g.assoc_ord h k m l
                rfl

/-! ### so many times -/
def Pt.times (iv : Fin n → Fin n) (p : Pt n) : Nat → Pt n
  | 0 => .o
  | k + 1 => Pt.add iv (Pt.times iv p k) p
theorem Good.times_on (g : Good n iv) {p : Pt n} (hp : p.On) : ∀ k, (Pt.times iv p k).On
  | 0 => trivial
  | k + 1 => g.add_on (g.times_on hp k) hp
theorem Good.times_add (g : Good n iv) {p : Pt n} (hp : p.On) (j : Nat) : ∀ k, Pt.times iv p (j + k) = Pt.add iv (Pt.times iv p j) (Pt.times iv p k)
  | 0 => (Pt.add_o _).symm
  | k + 1 => by
    show Pt.add iv (Pt.times iv p (j + k)) p = Pt.add iv (Pt.times iv p j) (Pt.add iv (Pt.times iv p k) p)
    rw [g.times_add hp j k, g.assoc (g.times_on hp j) (g.times_on hp k) hp]
theorem Good.times_mul (g : Good n iv) {p : Pt n} (hp : p.On) (j : Nat) : ∀ k, Pt.times iv (Pt.times iv p j) k = Pt.times iv p (j * k)
  | 0 => rfl
  | k + 1 => by
    show Pt.add iv (Pt.times iv (Pt.times iv p j) k) (Pt.times iv p j) = _
    rw [g.times_mul hp j k, ← g.times_add hp, Nat.mul_succ]
theorem Good.times_one (p : Pt n) : Pt.times iv p 1 = p := rfl
theorem Good.times_o (_g : Good n iv) : ∀ k, Pt.times iv (.o : Pt n) k = .o
  | 0 => rfl
  | k + 1 => by show Pt.add iv (Pt.times iv .o k) .o = .o; rw [Good.times_o _g k]; rfl
theorem Good.add_cancel (g : Good n iv) {a b c : Pt n} (ha : a.On) (hb : b.On) (hc : c.On) (h : Pt.add iv a b = Pt.add iv a c) : b = c := by
  have hn := Pt.neg_on ha
  have e : ∀ {d : Pt n}, d.On → Pt.add iv a.neg (Pt.add iv a d) = d := fun {d} hd => by
    have := g.back (a := a.neg) hn hd
    rw [Pt.neg_neg] at this; exact this
  rw [← e hb, h, e hc]
theorem Good.neg_times (g : Good n iv) {p : Pt n} (hp : p.On) {N k : Nat} (hN : Pt.times iv p N = .o) (hk : k ≤ N) : Pt.times iv p (N - k) = (Pt.times iv p k).neg := by
  refine g.add_cancel (g.times_on hp k) (g.times_on hp _) (Pt.neg_on (g.times_on hp k)) ?_
  rw [← g.times_add hp, g.add_neg, show k + (N - k) = N by omega, hN]
theorem Good.times_mod (g : Good n iv) {p : Pt n} (hp : p.On) {N : Nat} (hN : Pt.times iv p N = .o) (k : Nat) : Pt.times iv p (k % N) = Pt.times iv p k := by
  have e := Nat.div_add_mod k N
  have h : Pt.times iv p k = Pt.times iv p (N * (k / N) + k % N) := by rw [e]
  rw [h, g.times_add hp, ← g.times_mul hp, hN, g.times_o]; rfl
/-! ### points by three numbers, one formula for all -/
structure Spot (n : Nat) where
  X : Fin n
  Y : Fin n
  Z : Fin n
def Spot.sum (a b : Spot n) : Spot n :=
  ⟨(a.X * b.Y + b.X * a.Y) * (a.Y * b.Y - 21 * (a.Z * b.Z)) - (a.Y * b.Z + b.Y * a.Z) * (21 * (a.X * b.Z + b.X * a.Z)),
   (a.Y * b.Y + 21 * (a.Z * b.Z)) * (a.Y * b.Y - 21 * (a.Z * b.Z)) + 21 * (a.X * b.Z + b.X * a.Z) * (a.X * b.X + a.X * b.X + a.X * b.X),
   (a.Y * b.Z + b.Y * a.Z) * (a.Y * b.Y + 21 * (a.Z * b.Z)) + (a.X * b.X + a.X * b.X + a.X * b.X) * (a.X * b.Y + b.X * a.Y)⟩
def Rep (a : Spot n) : Pt n → Prop
  | .o => a.X = 0 ∧ a.Z = 0 ∧ a.Y ≠ 0
  | .mk x y => a.Z ≠ 0 ∧ a.X = x * a.Z ∧ a.Y = y * a.Z
def bX (x1 y1 x2 y2 : Fin n) : Fin n := (x1 * y2 + x2 * y1) * (y1 * y2 - 21) - (y1 + y2) * (21 * (x1 + x2))
def bY (x1 y1 x2 y2 : Fin n) : Fin n := (y1 * y2 + 21) * (y1 * y2 - 21) + 21 * (x1 + x2) * (x1 * x2 + x1 * x2 + x1 * x2)
def bZ (x1 y1 x2 y2 : Fin n) : Fin n := (y1 + y2) * (y1 * y2 + 21) + (x1 * x2 + x1 * x2 + x1 * x2) * (x1 * y2 + x2 * y1)
theorem sum_mk (x1 y1 z1 x2 y2 z2 : Fin n) : Spot.sum ⟨x1 * z1, y1 * z1, z1⟩ ⟨x2 * z2, y2 * z2, z2⟩ = ⟨bX x1 y1 x2 y2 * (z1 * z2 * (z1 * z2)), bY x1 y1 x2 y2 * (z1 * z2 * (z1 * z2)), bZ x1 y1 x2 y2 * (z1 * z2 * (z1 * z2))⟩ := by
  unfold Spot.sum bX bY bZ
  simp only [Spot.mk.injEq]
  refine ⟨?_, ?_, ?_⟩ <;> grobner
theorem Col.bX_eq {s c x1 y1 x2 y2 x3 y3 : Fin n} (h : Col s c x1 y1 x2 y2 x3 y3) : bX x1 y1 x2 y2 = x3 * bZ x1 y1 x2 y2 := by
  obtain ⟨h1, h2, h3, h4, h5, h6⟩ := h
  have e3 : x3 = s * s - x1 - x2 := by rw [← h4]; clear h1 h2 h3 h4 h5 h6; grobner
  subst e3
  clear h3 h4
  subst h1 h2
  unfold bX bZ
  grobner
theorem Col.bY_eq {s c x1 y1 x2 y2 x3 y3 : Fin n} (h : Col s c x1 y1 x2 y2 x3 y3) : bY x1 y1 x2 y2 = (0 - y3) * bZ x1 y1 x2 y2 := by
  obtain ⟨h1, h2, h3, h4, h5, h6⟩ := h
  have e3 : x3 = s * s - x1 - x2 := by rw [← h4]; clear h1 h2 h3 h4 h5 h6; grobner
  subst e3
  clear h4
  subst h1 h2 h3
  unfold bY bZ
  grobner
theorem bZ_chord {x1 y1 x2 y2 : Fin n} (h1 : y1 * y1 = x1 * x1 * x1 + 7) (h2 : y2 * y2 = x2 * x2 * x2 + 7) :
    bZ x1 y1 x2 y2 = (y1 + y2) * ((y1 + y2) * (y1 + y2) - (2 * x1 + x2) * ((x2 - x1) * (x2 - x1))) - y1 * ((x2 - x1) * (x2 - x1) * (x2 - x1)) := by
  unfold bZ
  grobner
theorem bZ_twice {x y : Fin n} (h : y * y = x * x * x + 7) : bZ x y x y = 2 * y * (2 * y) * (2 * y) := by
  unfold bZ
  grobner
theorem bY_across {x y : Fin n} (h : y * y = x * x * x + 7) : bY x y x (0 - y) = 0 - (3 * x * x * (3 * x * x * (3 * x * x) - 3 * x * (2 * y * (2 * y))) + y * (2 * y * (2 * y) * (2 * y))) := by
  unfold bY
  grobner
theorem Good.bZ_ne (g : Good n iv) {s c x1 y1 x2 y2 x3 y3 : Fin n} (h : Col s c x1 y1 x2 y2 x3 y3) : bZ x1 y1 x2 y2 ≠ 0 := by
  have h1 := h.on1
  have h2 := h.swap.on1
  by_cases hx : x1 = x2
  · have hy : y1 = y2 := by rw [h.l1, h.l2, hx]
    subst hx; subst hy
    rw [bZ_twice h1]
    have := g.twice_ne (g.y_ne h1)
    exact g.mul_ne (g.mul_ne this this) this
  · rw [bZ_chord h1 h2]
    have hd := sub_ne hx
    -- the line through the first and the one across the second
    have k := Col.chord (x1 := x1) (y1 := y1) (x2 := x2) (y2 := 0 - y2) h1 (Pt.neg_on (p := .mk x2 y2) h2) (g.iv _ hd) rfl
    generalize iv (x2 - x1) * (0 - y2 - y1) = m at k
    have hm := k.slope
    have h8 := g.y_ne k.perm.perm.on1
    have h9 := k.y3
    generalize m * (m * m - x1 - x2) + (y1 - m * x1) = y8 at h8 h9
    intro e
    refine g.mul_ne (g.mul_ne (g.mul_ne hd hd) hd) h8 ?_
    rw [h9]
    have e1 : (x2 - x1) * (x2 - x1) * (x2 - x1) * (m * (m * m - x1 - x2 - x1) + y1) = m * (x2 - x1) * (m * (x2 - x1) * (m * (x2 - x1)) - (2 * x1 + x2) * ((x2 - x1) * (x2 - x1))) + y1 * ((x2 - x1) * (x2 - x1) * (x2 - x1)) := by
      clear e h9 h8 hm k hd h h1 h2 hx; grobner
    rw [e1, hm]
    have e2 : (0 - y2 - y1) * ((0 - y2 - y1) * (0 - y2 - y1) - (2 * x1 + x2) * ((x2 - x1) * (x2 - x1))) + y1 * ((x2 - x1) * (x2 - x1) * (x2 - x1)) = 0 - ((y1 + y2) * ((y1 + y2) * (y1 + y2) - (2 * x1 + x2) * ((x2 - x1) * (x2 - x1))) - y1 * ((x2 - x1) * (x2 - x1) * (x2 - x1))) := by
      clear e1 e h9 h8 hm k hd h h1 h2 hx; grobner
    rw [e2, e]; clear e2 e1 e h9 h8 hm k hd h h1 h2 hx; grobner
theorem Good.bY_ne (g : Good n iv) {x y : Fin n} (h : y * y = x * x * x + 7) : bY x y x (0 - y) ≠ 0 := by
  rw [bY_across h]
  have hd := g.twice_ne (g.y_ne h)
  have k := Col.tangent (x1 := x) (y1 := y) h (g.iv _ hd) rfl
  generalize iv (2 * y) * (3 * x * x) = m at k
  have hm : m * (2 * y) = 3 * x * x := by
    have := k.other
    have e : m * (2 * y) = m * (y + y) := by clear this k hd h; grobner
    rw [e, this]; clear this k hd h e; grobner
  have h8 := g.y_ne k.perm.perm.on1
  have h9 := k.y3
  generalize m * (m * m - x - x) + (y - m * x) = y8 at h8 h9
  intro e
  refine g.mul_ne (g.mul_ne (g.mul_ne hd hd) hd) h8 ?_
  rw [h9]
  have e1 : 2 * y * (2 * y) * (2 * y) * (m * (m * m - x - x - x) + y) = m * (2 * y) * (m * (2 * y) * (m * (2 * y)) - 3 * x * (2 * y * (2 * y))) + y * (2 * y * (2 * y) * (2 * y)) := by
    clear e h9 h8 hm k hd h; grobner
  rw [e1, hm]
  have e2 : ∀ t : Fin n, 0 - t = 0 → t = 0 := fun t ht => by
    have : t = 0 - (0 - t) := (Cv.neg_neg t).symm
    rw [this, ht]; clear this ht; grobner
  exact e2 _ e
theorem bZ_across (x y : Fin n) : bZ x y x (0 - y) = 0 := by unfold bZ; grobner
theorem bX_across (x y : Fin n) : bX x y x (0 - y) = 0 := by unfold bX; grobner
/-- ONE FORMULA FOR ALL -/
theorem Good.sum_rep (g : Good n iv) {a b : Spot n} {p q : Pt n} (hp : p.On) (hq : q.On) (ha : Rep a p) (hb : Rep b q) : Rep (Spot.sum a b) (Pt.add iv p q) := by
  obtain ⟨X1, Y1, Z1⟩ := a
  obtain ⟨X2, Y2, Z2⟩ := b
  cases p with
  | o =>
    obtain ⟨e1, e2, e3⟩ := ha
    simp only at e1 e2 e3
    subst e1; subst e2
    rw [Pt.o_add]
    cases q with
    | o =>
      obtain ⟨k1, k2, k3⟩ := hb
      simp only at k1 k2 k3
      subst k1; subst k2
      refine ⟨?_, ?_, ?_⟩
      · simp only [Spot.sum]; grobner
      · simp only [Spot.sum]; grobner
      · have e : (Spot.sum ⟨0, Y1, 0⟩ ⟨0, Y2, 0⟩ : Spot n).Y = Y1 * Y2 * (Y1 * Y2) := by simp only [Spot.sum]; grobner
        rw [e]; exact g.mul_ne (g.mul_ne e3 k3) (g.mul_ne e3 k3)
    | mk x y =>
      obtain ⟨k1, k2, k3⟩ := hb
      simp only at k1 k2 k3
      subst k2; subst k3
      have hy := g.y_ne (show y * y = x * x * x + 7 from hq)
      have eZ : (Spot.sum ⟨0, Y1, 0⟩ ⟨x * Z2, y * Z2, Z2⟩ : Spot n).Z = Y1 * Z2 * (Y1 * (y * Z2)) := by simp only [Spot.sum]; clear e3 k1 hq hy; grobner
      refine ⟨?_, ?_, ?_⟩
      · rw [eZ]; exact g.mul_ne (g.mul_ne e3 k1) (g.mul_ne e3 (g.mul_ne hy k1))
      · rw [eZ]; simp only [Spot.sum]; clear e3 k1 hq hy eZ; grobner
      · rw [eZ]; simp only [Spot.sum]; clear e3 k1 hq hy eZ; grobner
  | mk x1 y1 =>
    obtain ⟨e1, e2, e3⟩ := ha
    simp only at e1 e2 e3
    subst e2; subst e3
    cases q with
    | o =>
      obtain ⟨k1, k2, k3⟩ := hb
      simp only at k1 k2 k3
      subst k1; subst k2
      rw [Pt.add_o]
      have hy := g.y_ne (show y1 * y1 = x1 * x1 * x1 + 7 from hp)
      have eZ : (Spot.sum ⟨x1 * Z1, y1 * Z1, Z1⟩ ⟨0, Y2, 0⟩ : Spot n).Z = Y2 * Z1 * (Y2 * (y1 * Z1)) := by simp only [Spot.sum]; clear e1 k3 hp hy; grobner
      refine ⟨?_, ?_, ?_⟩
      · rw [eZ]; exact g.mul_ne (g.mul_ne k3 e1) (g.mul_ne k3 (g.mul_ne hy e1))
      · rw [eZ]; simp only [Spot.sum]; clear e1 k3 hp hy eZ; grobner
      · rw [eZ]; simp only [Spot.sum]; clear e1 k3 hp hy eZ; grobner
    | mk x2 y2 =>
      obtain ⟨k1, k2, k3⟩ := hb
      simp only at k1 k2 k3
      subst k2; subst k3
      rw [sum_mk]
      have hw := g.mul_ne (g.mul_ne e1 k1) (g.mul_ne e1 k1)
      generalize Z1 * Z2 * (Z1 * Z2) = w at hw
      rcases g.line hp hq with ⟨rfl, rfl⟩ | ⟨s, c, x3, y3, h⟩
      · rw [Good.add_across]
        refine ⟨?_, ?_, ?_⟩
        · simp only [bX_across]; clear hw e1 k1 hp hq; grobner
        · simp only [bZ_across]; clear hw e1 k1 hp hq; grobner
        · exact g.mul_ne (g.bY_ne hp) hw
      · rw [g.add_of_col h]
        refine ⟨g.mul_ne (g.bZ_ne h) hw, ?_, ?_⟩
        · simp only [h.bX_eq]; exact Fin.mul_assoc _ _ _
        · simp only [h.bY_eq]; exact Fin.mul_assoc _ _ _
/-- the point of a spot is one alone -/
theorem Good.rep_point (g : Good n iv) {a : Spot n} {x y : Fin n} (h : Rep a (.mk x y)) : x = a.X * iv a.Z ∧ y = a.Y * iv a.Z := by
  obtain ⟨h1, h2, h3⟩ := h
  have h4 := g.iv _ h1
  refine ⟨?_, ?_⟩
  · have : a.X * iv a.Z = x * (iv a.Z * a.Z) := by rw [h2]; clear h1 h2 h3 h4; grobner
    rw [this, h4]; clear h1 h2 h3 h4 this; grobner
  · have : a.Y * iv a.Z = y * (iv a.Z * a.Z) := by rw [h3]; clear h1 h2 h3 h4; grobner
    rw [this, h4]; clear h1 h2 h3 h4 this; grobner
end Cv
end Go.Proofs.Ytdeggdmoijfhdaa

/-
  The curve over the numbers modulo P: a field, no cube is 7 less than nothing; the base and its N times, by the kernel. No walk here, no program.
-/
namespace Go.Proofs.Ytdeggdmoijfhdaa
open Cv

/-! ### so many times, by spots -/
def spotTimes {n : Nat} [NeZero n] : Nat → Nat → Spot n → Spot n
  | 0, _, _ => ⟨0, 1, 0⟩
  | f + 1, k, a => if k = 0 then ⟨0, 1, 0⟩ else if k % 2 = 1 then Spot.sum (spotTimes f (k / 2) (Spot.sum a a)) a else spotTimes f (k / 2) (Spot.sum a a)
theorem one_ne {n : Nat} [NeZero n] {iv : Fin n → Fin n} (g : Good n iv) : (1 : Fin n) ≠ 0 := fun e => g.two (by
  have : (2 : Fin n) = 1 + 1 := by clear e; grobner
  rw [this, e]; clear this e; grobner)
theorem rep_o {n : Nat} [NeZero n] {iv : Fin n → Fin n} (g : Good n iv) : Rep (⟨0, 1, 0⟩ : Spot n) .o := ⟨rfl, rfl, one_ne g⟩
theorem spotTimes_rep {n : Nat} [NeZero n] {iv : Fin n → Fin n} (g : Good n iv) : ∀ (f k : Nat) (a : Spot n) (p : Pt n), p.On → Rep a p → k < 2 ^ f → Rep (spotTimes f k a) (Pt.times iv p k)
  | 0, k, a, p, _, _, hk => by
    obtain rfl : k = 0 := by simpa using hk
    exact rep_o g
  | f + 1, k, a, p, hp, ha, hk => by
    unfold spotTimes
    by_cases h0 : k = 0
    · rw [if_pos h0]; subst h0; exact rep_o g
    · rw [if_neg h0]
      have h2 : Pt.add iv p p = Pt.times iv p 2 := by
        show _ = Pt.add iv (Pt.add iv .o p) p
        rw [Pt.o_add]
      have ih := spotTimes_rep g f (k / 2) (Spot.sum a a) (Pt.add iv p p) (g.add_on hp hp) (g.sum_rep hp hp ha ha) (by rw [Nat.pow_succ] at hk; omega)
      rw [h2, g.times_mul hp] at ih
      by_cases h1 : k % 2 = 1
      · rw [if_pos h1]
        have := g.sum_rep (g.times_on hp _) hp ih ha
        have e : Pt.times iv p k = Pt.add iv (Pt.times iv p (2 * (k / 2))) p := by
          show _ = Pt.times iv p (2 * (k / 2) + 1)
          congr 1; omega
        rw [e]; exact this
      · rw [if_neg h1]
        rw [show 2 * (k / 2) = k by omega] at ih
        exact ih

/-! ### modulo P -/
instance : NeZero PP := ⟨by decide⟩
/-- a number modulo P -/
def FP (a : Nat) : Fin PP := ⟨a % PP, Nat.mod_lt _ (by decide)⟩
theorem FP_val (a : Nat) : (FP a).val = a % PP := rfl
theorem FP_of_val (x : Fin PP) : FP x.val = x := Fin.ext (Nat.mod_eq_of_lt x.isLt)
theorem FP_mod (a : Nat) : FP (a % PP) = FP a := Fin.ext (Nat.mod_mod _ _)
theorem FP_mul (a b : Nat) : FP (a * b) = FP a * FP b := Fin.ext (by rw [Fin.val_mul]; exact Nat.mul_mod a b PP)
theorem FP_add (a b : Nat) : FP (a + b) = FP a + FP b := Fin.ext (by rw [Fin.val_add]; exact Nat.add_mod a b PP)
theorem FP_sub (a b : Nat) : FP (a % PP + PP - b % PP) = FP a - FP b := Fin.ext (by
  rw [Fin.val_sub]
  show (a % PP + PP - b % PP) % PP = (PP - b % PP + a % PP) % PP
  congr 1
  have := Nat.mod_lt b (show 0 < PP by decide)
  omega)
theorem FP_inj {a b : Nat} (ha : a < PP) (hb : b < PP) (h : FP a = FP b) : a = b := by
  have := congrArg Fin.val h
  rwa [FP_val, FP_val, Nat.mod_eq_of_lt ha, Nat.mod_eq_of_lt hb] at this
theorem FP_eq {a b : Nat} : FP a = FP b ↔ a % PP = b % PP := ⟨fun h => congrArg Fin.val h, fun h => Fin.ext h⟩
/-- what makes a number 1 -/
def ivP (x : Fin PP) : Fin PP := FP (x.val ^ (PP - 2))
theorem FP_inv (a : Nat) : FP (a ^ (PP - 2)) = ivP (FP a) := by
  unfold ivP
  rw [FP_eq, FP_val, ← Nat.pow_mod]
theorem ivP_mul (x : Fin PP) (h : x ≠ 0) : ivP x * x = 1 := by
  have hv : x.val % PP ≠ 0 := fun e => h (Fin.ext (by rw [Nat.mod_eq_of_lt x.isLt] at e; exact e))
  have h1 := inv_mul PP_prime (not_dvd_mod.2 hv)
  have e : ivP x * x = FP (x.val * x.val ^ (PP - 2)) := by
    rw [FP_mul, FP_of_val]; exact Fin.mul_comm _ _
  rw [e]
  exact Fin.ext (by rw [FP_val, h1]; decide)
/-- 7 less than nothing is no cube -/
theorem PP_cube : (PP - 7) ^ ((PP - 1) / 3) % PP ≠ 1 := by
  have h := pm_eq PP 256 (PP - 7) ((PP - 1) / 3) (by decide)
  rw [← h]
  decide +kernel
theorem PP_no2 (x : Fin PP) : x * x * x + 7 ≠ 0 := fun e => by
  have hv : (x.val * x.val * x.val + 7) % PP = 0 := by
    have h1 : x * x * x + 7 = FP (x.val * x.val * x.val + 7) := by
      rw [FP_add, FP_mul, FP_mul, FP_of_val]
      rfl
    rw [h1] at e
    exact congrArg Fin.val e
  have hc : x.val ^ 3 % PP = (PP - 7) % PP := by
    rw [show x.val ^ 3 = x.val * x.val * x.val by rw [Nat.pow_succ, Nat.pow_succ, Nat.pow_one]]
    generalize x.val * x.val * x.val = c at hv
    have h2 := neg_unique (p := PP) (a := 7) (b := c) (by decide) (by rw [Nat.add_comm]; exact hv)
    rw [h2]; decide
  have hx : ¬ PP ∣ x.val := fun hd => by
    have h0 := Nat.mod_eq_zero_of_dvd (Nat.dvd_trans hd (show x.val ∣ x.val ^ 3 from Nat.dvd_mul_left _ _))
    rw [h0] at hc
    exact absurd hc (by decide)
  have hf := fermat PP_prime hx
  refine PP_cube ?_
  rw [Nat.pow_mod, ← hc, ← Nat.pow_mod, ← Nat.pow_mul, show 3 * ((PP - 1) / 3) = PP - 1 by decide]
  exact hf
theorem goodP : Good PP ivP := ⟨ivP_mul, by decide, PP_no2⟩

/-! ### the base -/
def gX : Nat := 55066263022277343669578718895168534326250603453777594175500187360389116729240
def gY : Nat := 32670510020758816978083085130507043184471273380659243275938904335757337482424
def gPt : Pt PP := .mk (FP gX) (FP gY)
def gSpot : Spot PP := ⟨FP gX, FP gY, 1⟩
set_option maxRecDepth 100000 in
theorem gPt_eq : FP gY * FP gY = FP gX * FP gX * FP gX + 7 := by decide +kernel
theorem gPt_on : gPt.On := by
  show FP gY * FP gY = FP gX * FP gX * FP gX + 7
  exact gPt_eq
theorem rep_mk {n : Nat} [NeZero n] {iv : Fin n → Fin n} (g : Good n iv) (x y : Fin n) : Rep (⟨x, y, 1⟩ : Spot n) (.mk x y) := by
  refine ⟨one_ne g, ?_, ?_⟩
  · show x = x * 1
    rw [Fin.mul_one]
  · show y = y * 1
    rw [Fin.mul_one]
theorem gSpot_rep : Rep gSpot gPt := rep_mk goodP (FP gX) (FP gY)
set_option maxRecDepth 100000 in
theorem gSpot_N : (spotTimes 256 NN gSpot).X = 0 ∧ (spotTimes 256 NN gSpot).Z = 0 := by decide +kernel
theorem rep_nowhere {n : Nat} [NeZero n] {a : Spot n} {p : Pt n} (h : Rep a p) (hz : a.Z = 0) : p = .o := by
  cases p with
  | o => rfl
  | mk x y => exact absurd hz h.1
theorem NN_lt : NN < 2 ^ 256 := by decide
theorem base_nowhere (k : Nat) (hk : k < 2 ^ 256) (hz : (spotTimes 256 k gSpot).Z = 0) : Pt.times ivP gPt k = .o := rep_nowhere (spotTimes_rep goodP 256 k gSpot gPt gPt_on gSpot_rep hk) hz
/-- N TIMES THE BASE IS NOWHERE -/
theorem base_N : Pt.times ivP gPt NN = .o := base_nowhere NN NN_lt gSpot_N.2
end Go.Proofs.Ytdeggdmoijfhdaa
