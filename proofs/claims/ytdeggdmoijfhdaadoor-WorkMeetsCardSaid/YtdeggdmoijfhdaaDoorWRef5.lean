/-
  The walk of the reference's Div.
-/
import Derived.Test.YtdeggdmoijfhdaaDoorWRefAll
import Derived.Test.YtdeggdmoijfhdaaDoorWSumsW
namespace Go.Proofs.YtdeggdmoijfhdaaDoor
open Go Go.RowKit

/-! ### slices of the call's own -/
def slen : Value → Nat
  | .slice _ n _ => n
  | _ => 0
theorem own_len {w : World} {base : Nat} {v : Value} {l : List Nat} (h : OwnD w base v l) : slen v = l.length := by
  unfold OwnD at h
  rcases h.2 with ⟨rfl, h0⟩ | ⟨g, cap, cur, rfl, _⟩
  · simp at h0; subst h0; rfl
  · simp [slen]
theorem own_base {w : World} {base base' : Nat} {v : Value} {l : List Nat} (h : OwnD w base v l) (hb : base' ≤ base) : OwnD w base' v l := by
  refine ⟨h.1, ?_⟩
  rcases h.2 with h0 | ⟨g, cap, cur, h1, h2, h3⟩
  · exact .inl h0
  · exact .inr ⟨g, cap, cur, h1, Nat.le_trans hb h2, h3⟩
theorem own_wrote {w w' : World} {base g : Nat} {v : Value} {l : List Nat} (h : OwnD w base v l) (hw : Wrote g w w') (hg : g < base) : OwnD w' base v l := by
  refine ⟨h.1, ?_⟩
  rcases h.2 with h0 | ⟨g', cap, cur, h1, h2, h3, h4⟩
  · exact .inl h0
  · exact .inr ⟨g', cap, cur, h1, h2, by rw [hw.other g' (by omega)]; exact h3, h4⟩
theorem own_to {w : World} {base : Nat} {v : Value} {l : List Nat} {n k : Nat} (h : OwnD w base v (l.take n)) (hn : n ≤ l.length) (hk : k ≤ n) : OwnD w base (toV v k) (l.take k) := by
  have e : (l.take n).take k = l.take k := by rw [List.take_take, Nat.min_eq_left hk]
  have hln : ((l.take n).map VU).length = n := by simp; omega
  have hlk : ((l.take k).map VU).length = k := by simp; omega
  unfold OwnD at *
  rw [hln] at h
  rw [hlk]
  refine ⟨by rw [hlk, Nat.mul_one], ?_⟩
  rcases h.2 with ⟨rfl, h0⟩ | ⟨g, cap, cur, rfl, h2, h3, h4, h5, h6, h7⟩
  · left
    obtain rfl : k = 0 := by omega
    exact ⟨rfl, rfl⟩
  · right
    refine ⟨g, cap, cur, rfl, h2, h3, by omega, h5, h6, ?_⟩
    rw [Nat.mul_one] at *
    rw [← e, List.map_take, ← h7, List.take_take, Nat.min_eq_left hk]
theorem slen_to {w : World} {base : Nat} {v : Value} {l : List Nat} {k : Nat} (h : OwnD w base v l) : slen (toV v k) = k := by
  rcases h.2 with ⟨rfl, _⟩ | ⟨g, cap, cur, rfl, _⟩ <;> rfl
theorem trim_val {l : List Nat} {n : Nat} (hn : n ≤ l.length) (hp : 0 < n) (h : dat (l.take n) (n - 1) = 0) : dval (l.take (n - 1)) = dval (l.take n) := by
  obtain ⟨k, rfl⟩ : ∃ k, n = k + 1 := ⟨n - 1, by omega⟩
  rw [Nat.add_sub_cancel] at *
  have e : dat (l.take (k + 1)) k = dat l k := by unfold dat; simp [show k < k + 1 by omega]
  rw [dval_take_succ, ← e, h]; simp
/-- a number without noughts ahead, below b, has no more digits than b -/
theorem trim_len {r b : List Nat} (_ : Digs r) (db : Digs b) (ht : r.length = 0 ∨ (0 < r.length ∧ dat r (r.length - 1) ≠ 0)) (hlt : dval r < dval b) : r.length ≤ b.length := by
  rcases ht with h | ⟨h1, h2⟩
  · omega
  · rcases Nat.lt_or_ge b.length r.length with h | h
    · have h3 := dval_lt db
      have h4 : P16 b.length ≤ P16 (r.length - 1) := Nat.pow_le_pow_right (by decide) (by omega)
      have h5 := dval_split r (r.length - 1) (by omega)
      rw [dval_drop r (r.length - 1)] at h5
      have h6 : P16 (r.length - 1) * 1 ≤ P16 (r.length - 1) * (dat r (r.length - 1) + 65536 * dval (r.drop (r.length - 1 + 1))) := Nat.mul_le_mul_left _ (by omega)
      omega
    · exact h
theorem two_mul' (x : Nat) : 2 * x = x + x := Nat.two_mul x
theorem drow_get (n s j : Nat) (h : j < s) : (drow n s)[j]? = some (.int .u64 (dg n j : Int)) := tab_get _ _ _ h
theorem drow_size (n s : Nat) : (drow n s).size = s := tab_size ..
theorem add_bit (x r : Nat) (hx : x < 65536) (hr : r < 16) : IntKind.u64.wrap ((x : Int) + IntKind.u64.wrap ((2 : Int) ^ r)) = ((x + 2 ^ r : Nat) : Int) := by
  have h2 : 2 ^ r < 2 ^ 16 := Nat.pow_lt_pow_right (by decide) hr
  rw [pow_wrap r (by omega), ← Int.natCast_add, wrap64_lt _ (by omega)]
theorem dg_bit (s n : Nat) : dg (2 ^ (n + 1) * s + 2 ^ n) (n / 16) = dg (2 ^ (n + 1) * s) (n / 16) + 2 ^ (n % 16) := by
  obtain ⟨q, r, hr, rfl⟩ : ∃ q r, r < 16 ∧ n = 16 * q + r := ⟨n / 16, n % 16, Nat.mod_lt _ (by decide), (Nat.div_add_mod n 16).symm⟩
  have e1 : (16 * q + r) / 16 = q := by omega
  have e2 : (16 * q + r) % 16 = r := by omega
  rw [e1, e2]
  have e3 : 2 ^ (16 * q + r + 1) * s = P16 q * (2 ^ (r + 1) * s) := by
    rw [show 16 * q + r + 1 = 16 * q + (r + 1) by omega, Nat.pow_add, ← P16_pow, Nat.mul_assoc]
  have e4 : 2 ^ (16 * q + r) = P16 q * 2 ^ r := by rw [Nat.pow_add, ← P16_pow]
  rw [e3, e4, ← Nat.mul_add]
  unfold dg
  rw [Nat.mul_div_cancel_left _ (P16_pos q), Nat.mul_div_cancel_left _ (P16_pos q)]
  have hp : (65536 : Nat) = 2 ^ (r + 1) * 2 ^ (16 - (r + 1)) := by rw [← Nat.pow_add, show r + 1 + (16 - (r + 1)) = 16 by omega]
  have h2 : 2 ^ r < 2 ^ (r + 1) := Nat.pow_lt_pow_right (by decide) (by omega)
  have e5 : 2 ^ (r + 1) * s % 65536 = 2 ^ (r + 1) * (s % 2 ^ (16 - (r + 1))) := by rw [hp, Nat.mul_mod_mul_left]
  have e6 : 2 ^ (r + 1) * (s % 2 ^ (16 - (r + 1))) + 2 ^ (r + 1) ≤ 65536 := by
    rw [hp, ← Nat.mul_add_one]
    exact Nat.mul_le_mul_left _ (Nat.mod_lt _ (Nat.pow_pos (by decide)))
  rw [Nat.add_mod, e5, Nat.mod_eq_of_lt (show 2 ^ r < 65536 by omega)]
  exact Nat.mod_eq_of_lt (by omega)
theorem dg_bit_ne (s n j : Nat) (h : j ≠ n / 16) : dg (2 ^ (n + 1) * s + 2 ^ n) j = dg (2 ^ (n + 1) * s) j := by
  by_cases hj : j < n / 16
  · have e : 2 ^ n = P16 (n / 16) * 2 ^ (n % 16) := by rw [P16_pow, ← Nat.pow_add, Nat.div_add_mod]
    rw [e, dg_mult _ _ _ _ hj]
  · have e : P16 j = 2 ^ (n + 1) * 2 ^ (16 * j - (n + 1)) := by rw [P16_pow, ← Nat.pow_add]; congr 1; omega
    have h2 : 2 ^ n < 2 ^ (n + 1) := Nat.pow_lt_pow_right (by decide) (by omega)
    unfold dg
    congr 1
    rw [e, ← Nat.div_div_eq_div_mul, ← Nat.div_div_eq_div_mul, Nat.mul_add_div (Nat.pow_pos (by decide)), Nat.div_eq_of_lt h2, Nat.add_zero, Nat.mul_div_cancel_left _ (Nat.pow_pos (by decide))]
theorem drow_bit (t s n v : Nat) {q : Nat} (ht : t = 2 ^ (n + 1) * q) (hv : v = dg t (n / 16) + 2 ^ (n % 16)) : (drow t s).setIfInBounds (n / 16) (.int .u64 (v : Int)) = drow (t + 2 ^ n) s := tab_set fun j _ => by
  subst ht; subst hv
  by_cases h : j = n / 16
  · subst h; rw [if_pos rfl, dg_bit]
  · rw [if_neg h, dg_bit_ne _ _ _ h]
theorem bit_at {a : List Nat} (da : Digs a) (m : Nat) : dat a (m / 16) / 2 ^ (m % 16) % 2 = dval a / 2 ^ m % 2 := by
  rw [dat_num da]
  have hr : m % 16 < 16 := Nat.mod_lt _ (by decide)
  have e1 : (65536 : Nat) = 2 ^ (m % 16) * 2 ^ (16 - m % 16) := by rw [← Nat.pow_add, show m % 16 + (16 - m % 16) = 16 by omega]
  have e2 : (2 : Nat) ∣ 2 ^ (16 - m % 16) := by
    obtain ⟨k, hk⟩ : ∃ k, 16 - m % 16 = k + 1 := ⟨15 - m % 16, by omega⟩
    rw [hk, Nat.pow_succ]; exact Nat.dvd_mul_left _ _
  rw [e1, Nat.mod_mul_right_div_self, Nat.mod_mod_of_dvd _ e2, P16_pow, Nat.div_div_eq_div_mul, ← Nat.pow_add, Nat.div_add_mod]
theorem half_digs (A m : Nat) : A / 2 ^ m = 2 * (A / 2 ^ (m + 1)) + A / 2 ^ m % 2 := by
  rw [Nat.pow_succ, ← Nat.div_div_eq_div_mul]; omega
theorem div_step0 {A B m X : Nat} (hX : 2 * (A / 2 ^ (m + 1) % B) + A / 2 ^ m % 2 = X) (h : X < B) : X = A / 2 ^ m % B ∧ A / 2 ^ m / B * 2 ^ m = A / 2 ^ (m + 1) / B * 2 ^ (m + 1) := by
  have hs := half_digs A m
  have hd := Nat.div_add_mod (A / 2 ^ (m + 1)) B
  have e : A / 2 ^ m = B * (2 * (A / 2 ^ (m + 1) / B)) + X := by
    rw [Nat.mul_left_comm]
    omega
  constructor
  · rw [e, Nat.mul_add_mod, Nat.mod_eq_of_lt h]
  · rw [e, Nat.mul_add_div (by omega), Nat.div_eq_of_lt h, Nat.add_zero, Nat.pow_succ]
    rw [Nat.mul_comm 2, Nat.mul_assoc, Nat.mul_comm 2]
theorem div_step1 {A B m X : Nat} (hB : 0 < B) (hX : 2 * (A / 2 ^ (m + 1) % B) + A / 2 ^ m % 2 = X) (h : B ≤ X) : X - B < B ∧ X - B = A / 2 ^ m % B ∧ A / 2 ^ m / B * 2 ^ m = A / 2 ^ (m + 1) / B * 2 ^ (m + 1) + 2 ^ m := by
  have hs := half_digs A m
  have hd := Nat.div_add_mod (A / 2 ^ (m + 1)) B
  have hm := Nat.mod_lt (A / 2 ^ (m + 1)) hB
  have hx2 : X - B < B := by omega
  have e : A / 2 ^ m = B * (2 * (A / 2 ^ (m + 1) / B) + 1) + (X - B) := by
    rw [Nat.mul_add, Nat.mul_one, Nat.mul_left_comm]
    omega
  refine ⟨hx2, ?_, ?_⟩
  · rw [e, Nat.mul_add_mod, Nat.mod_eq_of_lt hx2]
  · rw [e, Nat.mul_add_div (by omega), Nat.div_eq_of_lt hx2, Nat.add_zero, Nat.pow_succ, Nat.add_mul, Nat.one_mul]
    rw [Nat.mul_comm 2, Nat.mul_assoc, Nat.mul_comm 2]

def DivPost (a b : List Nat) (w : World) (e : Ending) (w' : World) : Prop := ∃ v1 v2 l2, e = .returned (.tuple #[v1, v2]) ∧ Dig w' v1 (digsOf (dval a / dval b) a.length) ∧ Dig w' v2 l2 ∧ Digs l2 ∧ dval l2 = dval a % dval b ∧ Below w.heap.size w w'

end Go.Proofs.YtdeggdmoijfhdaaDoor
