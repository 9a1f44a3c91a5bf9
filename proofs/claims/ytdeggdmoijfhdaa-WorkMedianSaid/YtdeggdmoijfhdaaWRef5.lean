/-
  The walk of the reference's Div.
-/
import Derived.Test.YtdeggdmoijfhdaaWRefAll
import Derived.Test.YtdeggdmoijfhdaaWSumsW
namespace Go.Proofs.Ytdeggdmoijfhdaa
open Go Go.RowKit

/-! ### slices of the call's own -/
def slen : Value → Nat
  | .slice _ n _ => n
  | _ => 0
theorem own_len {w : World} {base : Nat} {v : Value} {l : List Nat} (h : OwnD w base v l) : slen v = l.length := by
  unfold OwnD at h
  rcases h.2 with ⟨rfl, h0⟩ | ⟨g, cap, cur, rfl, _⟩
  · simp at h0; subst h0; rfl
  · simp [slen]
theorem own_base {w : World} {base base' : Nat} {v : Value} {l : List Nat} (h : OwnD w base v l) (hb : base' ≤ base) : OwnD w base' v l := by
  refine ⟨h.1, ?_⟩
  rcases h.2 with h0 | ⟨g, cap, cur, h1, h2, h3⟩
  · exact .inl h0
  · exact .inr ⟨g, cap, cur, h1, Nat.le_trans hb h2, h3⟩
theorem own_wrote {w w' : World} {base g : Nat} {v : Value} {l : List Nat} (h : OwnD w base v l) (hw : Wrote g w w') (hg : g < base) : OwnD w' base v l := by
  refine ⟨h.1, ?_⟩
  rcases h.2 with h0 | ⟨g', cap, cur, h1, h2, h3, h4⟩
  · exact .inl h0
  · exact .inr ⟨g', cap, cur, h1, h2, by rw [hw.other g' (by omega)]; exact h3, h4⟩
theorem own_to {w : World} {base : Nat} {v : Value} {l : List Nat} {n k : Nat} (h : OwnD w base v (l.take n)) (hn : n ≤ l.length) (hk : k ≤ n) : OwnD w base (toV v k) (l.take k) := by
  have e : (l.take n).take k = l.take k := by rw [List.take_take, Nat.min_eq_left hk]
  have hln : ((l.take n).map VU).length = n := by simp; omega
  have hlk : ((l.take k).map VU).length = k := by simp; omega
  unfold OwnD at *
  rw [hln] at h
  rw [hlk]
  refine ⟨by rw [hlk, Nat.mul_one], ?_⟩
  rcases h.2 with ⟨rfl, h0⟩ | ⟨g, cap, cur, rfl, h2, h3, h4, h5, h6, h7⟩
  · left
    obtain rfl : k = 0 := by omega
    exact ⟨rfl, rfl⟩
  · right
    refine ⟨g, cap, cur, rfl, h2, h3, by omega, h5, h6, ?_⟩
    rw [Nat.mul_one] at *
    rw [← e, List.map_take, ← h7, List.take_take, Nat.min_eq_left hk]
theorem slen_to {w : World} {base : Nat} {v : Value} {l : List Nat} {k : Nat} (h : OwnD w base v l) : slen (toV v k) = k := by
  rcases h.2 with ⟨rfl, _⟩ | ⟨g, cap, cur, rfl, _⟩ <;> rfl
theorem trim_val {l : List Nat} {n : Nat} (hn : n ≤ l.length) (hp : 0 < n) (h : dat (l.take n) (n - 1) = 0) : dval (l.take (n - 1)) = dval (l.take n) := by
  obtain ⟨k, rfl⟩ : ∃ k, n = k + 1 := ⟨n - 1, by omega⟩
  rw [Nat.add_sub_cancel] at *
  have e : dat (l.take (k + 1)) k = dat l k := by unfold dat; simp [show k < k + 1 by omega]
  rw [dval_take_succ, ← e, h]; simp
/-- a number without noughts ahead, below b, has no more digits than b -/
theorem trim_len {r b : List Nat} (_ : Digs r) (db : Digs b) (ht : r.length = 0 ∨ (0 < r.length ∧ dat r (r.length - 1) ≠ 0)) (hlt : dval r < dval b) : r.length ≤ b.length := by
  rcases ht with h | ⟨h1, h2⟩
  · omega
  · rcases Nat.lt_or_ge b.length r.length with h | h
    · have h3 := dval_lt db
      have h4 : P16 b.length ≤ P16 (r.length - 1) := Nat.pow_le_pow_right (by decide) (by omega)
      have h5 := dval_split r (r.length - 1) (by omega)
      rw [dval_drop r (r.length - 1)] at h5
      have h6 : P16 (r.length - 1) * 1 ≤ P16 (r.length - 1) * (dat r (r.length - 1) + 65536 * dval (r.drop (r.length - 1 + 1))) := Nat.mul_le_mul_left _ (by omega)
      omega
    · exact h
theorem two_mul' (x : Nat) : 2 * x = x + x := Nat.two_mul x
theorem drow_get (n s j : Nat) (h : j < s) : (drow n s)[j]? = some (.int .u64 (dg n j : Int)) := tab_get _ _ _ h
theorem drow_size (n s : Nat) : (drow n s).size = s := tab_size ..
theorem add_bit (x r : Nat) (hx : x < 65536) (hr : r < 16) : IntKind.u64.wrap ((x : Int) + IntKind.u64.wrap ((2 : Int) ^ r)) = ((x + 2 ^ r : Nat) : Int) := by
  have h2 : 2 ^ r < 2 ^ 16 := Nat.pow_lt_pow_right (by decide) hr
  rw [pow_wrap r (by omega), ← Int.natCast_add, wrap64_lt _ (by omega)]
theorem dg_bit (s n : Nat) : dg (2 ^ (n + 1) * s + 2 ^ n) (n / 16) = dg (2 ^ (n + 1) * s) (n / 16) + 2 ^ (n % 16) := by
  obtain ⟨q, r, hr, rfl⟩ : ∃ q r, r < 16 ∧ n = 16 * q + r := ⟨n / 16, n % 16, Nat.mod_lt _ (by decide), (Nat.div_add_mod n 16).symm⟩
  have e1 : (16 * q + r) / 16 = q := by omega
  have e2 : (16 * q + r) % 16 = r := by omega
  rw [e1, e2]
  have e3 : 2 ^ (16 * q + r + 1) * s = P16 q * (2 ^ (r + 1) * s) := by
    rw [show 16 * q + r + 1 = 16 * q + (r + 1) by omega, Nat.pow_add, ← P16_pow, Nat.mul_assoc]
  have e4 : 2 ^ (16 * q + r) = P16 q * 2 ^ r := by rw [Nat.pow_add, ← P16_pow]
  rw [e3, e4, ← Nat.mul_add]
  unfold dg
  rw [Nat.mul_div_cancel_left _ (P16_pos q), Nat.mul_div_cancel_left _ (P16_pos q)]
  have hp : (65536 : Nat) = 2 ^ (r + 1) * 2 ^ (16 - (r + 1)) := by rw [← Nat.pow_add, show r + 1 + (16 - (r + 1)) = 16 by omega]
  have h2 : 2 ^ r < 2 ^ (r + 1) := Nat.pow_lt_pow_right (by decide) (by omega)
  have e5 : 2 ^ (r + 1) * s % 65536 = 2 ^ (r + 1) * (s % 2 ^ (16 - (r + 1))) := by rw [hp, Nat.mul_mod_mul_left]
  have e6 : 2 ^ (r + 1) * (s % 2 ^ (16 - (r + 1))) + 2 ^ (r + 1) ≤ 65536 := by
    rw [hp, ← Nat.mul_add_one]
    exact Nat.mul_le_mul_left _ (Nat.mod_lt _ (Nat.pow_pos (by decide)))
  rw [Nat.add_mod, e5, Nat.mod_eq_of_lt (show 2 ^ r < 65536 by omega)]
  exact Nat.mod_eq_of_lt (by omega)
theorem dg_bit_ne (s n j : Nat) (h : j ≠ n / 16) : dg (2 ^ (n + 1) * s + 2 ^ n) j = dg (2 ^ (n + 1) * s) j := by
  by_cases hj : j < n / 16
  · have e : 2 ^ n = P16 (n / 16) * 2 ^ (n % 16) := by rw [P16_pow, ← Nat.pow_add, Nat.div_add_mod]
    rw [e, dg_mult _ _ _ _ hj]
  · have e : P16 j = 2 ^ (n + 1) * 2 ^ (16 * j - (n + 1)) := by rw [P16_pow, ← Nat.pow_add]; congr 1; omega
    have h2 : 2 ^ n < 2 ^ (n + 1) := Nat.pow_lt_pow_right (by decide) (by omega)
    unfold dg
    congr 1
    rw [e, ← Nat.div_div_eq_div_mul, ← Nat.div_div_eq_div_mul, Nat.mul_add_div (Nat.pow_pos (by decide)), Nat.div_eq_of_lt h2, Nat.add_zero, Nat.mul_div_cancel_left _ (Nat.pow_pos (by decide))]
theorem drow_bit (t s n v : Nat) {q : Nat} (ht : t = 2 ^ (n + 1) * q) (hv : v = dg t (n / 16) + 2 ^ (n % 16)) : (drow t s).setIfInBounds (n / 16) (.int .u64 (v : Int)) = drow (t + 2 ^ n) s := tab_set fun j _ => by
  subst ht; subst hv
  by_cases h : j = n / 16
  · subst h; rw [if_pos rfl, dg_bit]
  · rw [if_neg h, dg_bit_ne _ _ _ h]
theorem bit_at {a : List Nat} (da : Digs a) (m : Nat) : dat a (m / 16) / 2 ^ (m % 16) % 2 = dval a / 2 ^ m % 2 := by
  rw [dat_num da]
  have hr : m % 16 < 16 := Nat.mod_lt _ (by decide)
  have e1 : (65536 : Nat) = 2 ^ (m % 16) * 2 ^ (16 - m % 16) := by rw [← Nat.pow_add, show m % 16 + (16 - m % 16) = 16 by omega]
  have e2 : (2 : Nat) ∣ 2 ^ (16 - m % 16) := by
    obtain ⟨k, hk⟩ : ∃ k, 16 - m % 16 = k + 1 := ⟨15 - m % 16, by omega⟩
    rw [hk, Nat.pow_succ]; exact Nat.dvd_mul_left _ _
  rw [e1, Nat.mod_mul_right_div_self, Nat.mod_mod_of_dvd _ e2, P16_pow, Nat.div_div_eq_div_mul, ← Nat.pow_add, Nat.div_add_mod]
theorem half_digs (A m : Nat) : A / 2 ^ m = 2 * (A / 2 ^ (m + 1)) + A / 2 ^ m % 2 := by
  rw [Nat.pow_succ, ← Nat.div_div_eq_div_mul]; omega
theorem div_step0 {A B m X : Nat} (hX : 2 * (A / 2 ^ (m + 1) % B) + A / 2 ^ m % 2 = X) (h : X < B) : X = A / 2 ^ m % B ∧ A / 2 ^ m / B * 2 ^ m = A / 2 ^ (m + 1) / B * 2 ^ (m + 1) := by
  have hs := half_digs A m
  have hd := Nat.div_add_mod (A / 2 ^ (m + 1)) B
  have e : A / 2 ^ m = B * (2 * (A / 2 ^ (m + 1) / B)) + X := by
    rw [Nat.mul_left_comm]
    omega
  constructor
  · rw [e, Nat.mul_add_mod, Nat.mod_eq_of_lt h]
  · rw [e, Nat.mul_add_div (by omega), Nat.div_eq_of_lt h, Nat.add_zero, Nat.pow_succ]
    rw [Nat.mul_comm 2, Nat.mul_assoc, Nat.mul_comm 2]
theorem div_step1 {A B m X : Nat} (hB : 0 < B) (hX : 2 * (A / 2 ^ (m + 1) % B) + A / 2 ^ m % 2 = X) (h : B ≤ X) : X - B < B ∧ X - B = A / 2 ^ m % B ∧ A / 2 ^ m / B * 2 ^ m = A / 2 ^ (m + 1) / B * 2 ^ (m + 1) + 2 ^ m := by
  have hs := half_digs A m
  have hd := Nat.div_add_mod (A / 2 ^ (m + 1)) B
  have hm := Nat.mod_lt (A / 2 ^ (m + 1)) hB
  have hx2 : X - B < B := by omega
  have e : A / 2 ^ m = B * (2 * (A / 2 ^ (m + 1) / B) + 1) + (X - B) := by
    rw [Nat.mul_add, Nat.mul_one, Nat.mul_left_comm]
    omega
  refine ⟨hx2, ?_, ?_⟩
  · rw [e, Nat.mul_add_mod, Nat.mod_eq_of_lt hx2]
  · rw [e, Nat.mul_add_div (by omega), Nat.div_eq_of_lt hx2, Nat.add_zero, Nat.pow_succ, Nat.add_mul, Nat.one_mul]
    rw [Nat.mul_comm 2, Nat.mul_assoc, Nat.mul_comm 2]

def DivPost (a b : List Nat) (w : World) (e : Ending) (w' : World) : Prop := ∃ v1 v2 l2, e = .returned (.tuple #[v1, v2]) ∧ Dig w' v1 (digsOf (dval a / dval b) a.length) ∧ Dig w' v2 l2 ∧ Digs l2 ∧ dval l2 = dval a % dval b ∧ Below w.heap.size w w'

set_option maxRecDepth 100000 in
set_option maxHeartbeats 32000000 in
theorem dDiv_any (a b : List Nat) (va vb : Value) (w : World) (da : Digs a) (db : Digs b) (hva : Dig w va a) (hvb : Dig w vb b) (hla : a.length ≤ 50) (hlb : b.length ≤ 900) (hb0 : 0 < dval b) :
    Calls Try.prog 41 #[va, vb] w (DivPost a b w) := by
  obtain ⟨i, hi, hz, hs1, hby⟩ := w64Info
  have hma : (a.map VU).length = a.length := by simp
  obtain ⟨A, HA⟩ : ∃ A, Hid (A = dval a) := ⟨_, Lib.hid rfl⟩
  go_enter Try.func41, Try.ntmps41
  go_wp2_with (first
    | ((with_reducible change wpList _ _ _ (Oper.mk (some 10) _ _ _ _ _ :: _) _ _); refine kLenN _ _ _ _ _ a.length rfl rfl rfl hva hma Try.underlying35 ?_; go_frame)
    | ((with_reducible change wpList _ _ _ (Oper.mk (some 11) _ _ _ _ _ :: _) _ _); refine kMake _ _ _ _ rfl rfl i _ Try.underlying35 hi hz hs1 (.int .u64 0) rfl _ _ _ _ a.length a.length rfl rfl (by omega) (by omega) (by omega) (by rw [hby]; omega) (by omega) ?_; intro w1 hR1 hz1 hB1; clear hz1; go_frame)
    | ((with_reducible change wpList _ _ _ (Oper.mk (some 12) _ _ _ _ _ :: _) _ _); refine kBuildSlice0 _ _ rfl rfl Try.underlying35 i hi ?_; intro w2 hR2 hz2 hB2; clear hz2; have hO2 := own_empty (base := w1.heap.size) (Nat.le_refl _) hR2; go_frame)
    | ((with_reducible change wpList _ _ _ (Oper.mk (some 14) _ _ _ _ _ :: _) _ _); refine kLenN _ _ _ _ _ a.length rfl rfl rfl (hva.below (hB1.trans (hB2.mono hB1.size))) hma Try.underlying35 ?_; go_frame))
  have hl1 : w.heap.size < w1.heap.size := hR1.lt
  have hs2 := hB2.size
  have hB02 := hB1.trans (hB2.mono (by omega))
  have hP16 : dval a < 2 ^ (16 * a.length) := by rw [← P16_pow]; exact dval_lt da
  have hA0 : A / 2 ^ (16 * a.length) = 0 := by rw [HA.out]; exact Nat.div_eq_of_lt hP16
  have hR0 : Row w2 w.heap.size 22 (drow (A / 2 ^ (16 * a.length) / dval b * 2 ^ (16 * a.length)) a.length) := by
    have e : drow (A / 2 ^ (16 * a.length) / dval b * 2 ^ (16 * a.length)) a.length = Array.replicate a.length (.int .u64 0) := by
      rw [hA0, Nat.zero_div, Nat.zero_mul]
      apply Array.ext_getElem?
      intro j
      by_cases h : j < a.length
      · rw [drow_get _ _ _ h, Array.getElem?_replicate, if_pos h]; unfold dg; simp
      · rw [Array.getElem?_eq_none (by rw [drow_size]; omega), Array.getElem?_eq_none (by simp; omega)]
    rw [e]; exact hR1.below hB2 hl1
  clear hR1 hR2 hB1 hB2
  go_loopw [8, 7] (fun iv vr wr => ∃ (k : Nat) (r : List Nat), k ≤ 16 * a.length ∧ iv = .int .i64 ((k : Int) - 1) ∧ OwnD wr w1.heap.size vr r ∧ Digs r ∧ r.length ≤ b.length ∧ dval r = A / 2 ^ k % dval b ∧ Row wr w.heap.size 22 (drow (A / 2 ^ k / dval b * 2 ^ k) a.length) ∧ Below w.heap.size w wr ∧ w1.heap.size ≤ wr.heap.size) (fun iv _ _ => (intOf iv + 1).toNat)
  case atStart => exact ⟨16 * a.length, [], Nat.le_refl _, by go_num, hO2, (fun x hx => by simp at hx), by simp, (by rw [hA0]; simp [dval]), hR0, hB02, hs2⟩
  case round =>
    obtain ⟨k, r, hk, rfl, hOr, dr, hlr, er, hR, hBr, hs1r⟩ := hrel
    clear hO2 hR0 hB02 hs2
    have hszr := hBr.size
    by_cases h0 : k = 0
    · subst h0
      rw [Nat.pow_zero, Nat.div_one, Nat.mul_one, drow_list] at hR
      rw [Nat.pow_zero, Nat.div_one] at er
      have hv1 := isVals_lit hR
      rw [List.length_map, digsOf_len] at hv1
      have hP : DivPost a b w (.returned (.tuple #[.slice (some ⟨w.heap.size, 0, none⟩) a.length a.length, u7])) wr := ⟨_, _, r, rfl, by rw [← HA.out]; exact hv1, hOr.dig, dr, by rw [← HA.out]; exact er, hBr⟩
      clear hv1 hR er
      go_wp2
      exact bodyPost_ret (results_tmp2 Try.results41 _ _ _) rfl hP
    · obtain ⟨m, rfl⟩ : ∃ m, k = m + 1 := ⟨k - 1, by omega⟩
      have hd : decide (((m + 1 : Nat) : Int) - 1 ≥ 0) = true := by simp
      have Hbit := Lib.hid (show dat a (m / 16) / 2 ^ (m % 16) % 2 = A / 2 ^ m % 2 by rw [HA.out]; exact bit_at da m)
      obtain ⟨X, HX⟩ : ∃ X, Hid (2 * (A / 2 ^ (m + 1) % dval b) + A / 2 ^ m % 2 = X) := ⟨_, Lib.hid rfl⟩
      obtain ⟨cz, Hcz⟩ : ∃ cz, Hid (cmpI X (dval b) = cz) := ⟨_, Lib.hid rfl⟩
      obtain ⟨T, hT⟩ : ∃ T, T = A / 2 ^ (m + 1) / dval b * 2 ^ (m + 1) := ⟨_, rfl⟩
      have HT := Lib.hid (show T = 2 ^ (m + 1) * (A / 2 ^ (m + 1) / dval b) by rw [hT, Nat.mul_comm])
      rw [← hT] at hR
      have xa := dat_lt da (m / 16)
      have hm16 : m / 16 < a.length := by omega
      have hmod : A / 2 ^ m % 2 < 2 := Nat.mod_lt _ (by decide)
      have Hg0 := Lib.hid (fun h => div_step0 (A := A) (B := dval b) (m := m) HX.out h)
      have Hg1 := Lib.hid (fun h => div_step1 (A := A) (B := dval b) (m := m) hb0 HX.out h)
      by_cases hge : dval b ≤ X
      · have HR1 := Lib.hid (Hg1.out hge).2.1
        have hXb := (Hg1.out hge).1
        have HQ1 := Lib.hid (show A / 2 ^ m / dval b * 2 ^ m = T + 2 ^ m by rw [hT]; exact (Hg1.out hge).2.2)
        clear hT Hg0 Hg1
        by_cases hbit : A / 2 ^ m % 2 = 1
        · skip
          have hbI : ((dat a (m / 16) : Int) / 2 ^ (m % 16)).tmod 2 = 1 := by rw [shr_val, Int.tmod_eq_emod_of_nonneg (Int.natCast_nonneg _)]; have := Hbit.out; omega
          have hX : 2 * dval r + 1 = X := by rw [er]; have := HX.out; omega
          have hcI : decide (cz ≥ 0) = true := by rw [← Hcz.out, cmp_ge]; simpa using hge
          have hcP : 0 ≤ cz := by simpa using hcI
          go_wp2_with (first
            | (go_at_call 43; (with_reducible change Calls _ _ #[u7, u7] _ _); refine (dAdd_own r r u7 u7 _ dr dr hOr.dig hOr.dig (by omega) (by omega)).mono ?_; rintro e w2 ⟨v1, l1, rfl, hO1, d1, e1, n1, hB2⟩; have hs2 := hB2.size; have hO1b := own_base hO1 hs1r; have hR2 := hR.below hB2 hR.lt; have hB02 := hBr.trans (hB2.mono hszr); clear hO1; go_frame)
            | (go_at_call 52; refine (dAt_lit a va (m / 16) _ _ (hva.below hB02) (by omega)).mono ?_; rintro e w3 ⟨rfl, rfl⟩; go_frame)
            | ((with_reducible change wpList _ _ _ (Oper.mk (some 35) _ _ _ _ _ :: _) _ _); refine kBuildSlice1 _ _ _ (VU 1) rfl rfl Try.underlying35 i _ hi hz hs1 rfl rfl ?_; intro w4 hR4 hz4 hB4; clear hz4; have hs4 := hB4.size; have hB04 := hB02.trans (hB4.mono (by omega)); have hd1 : Dig w4 _ [1] := isVals_lit hR4; go_frame)
            | (go_at_call 43; refine (dAdd_own l1 [1] v1 _ _ d1 (digs_one (by decide)) (hO1b.dig.below hB4) hd1 (by omega) (by simp)).mono ?_; rintro e w5 ⟨v2, l2, rfl, hO2, d2, e2, n2, hB5⟩; have hs5 := hB5.size; have hO2b := own_base hO2 (show w1.heap.size ≤ w4.heap.size by omega); have hR5 := (hR2.below hB4 hR2.lt).below hB5 (hR2.below hB4 hR2.lt).lt; have hB05 := hB04.trans (hB5.mono (by omega)); rw [e1, dval_one] at e2; rw [show ([1] : List Nat).length = 1 from rfl] at n2; clear hO2 hd1 hR4; go_frame)
            | (go_at_call 37; refine (dCompare_any l2 b v2 vb _ d2 db hO2b.dig (hvb.below hB05) (by omega) (by omega)).mono ?_; rintro e w6 ⟨rfl, rfl⟩; rw [show cmpI (dval l2) (dval b) = cz by rw [e2, ← two_mul', hX]; exact Hcz.out]; go_frame)
            | (go_at_call 54; refine (dSub_own l2 b v2 vb _ d2 db hO2b.dig (hvb.below hB05) (by omega) (by rw [e2, ← two_mul', hX]; exact hge)).mono ?_; rintro e w7 ⟨v3, l3, rfl, hO3, d3, e3, n3, hB7⟩; have hs7 := hB7.size; have hO3b := own_base hO3 (show w1.heap.size ≤ w5.heap.size by omega); have hR7 := hR5.below hB7 hR5.lt; have hB07 := hB05.trans (hB7.mono (by omega)); rw [e2, ← two_mul', hX] at e3; clear hO3; go_frame)
            | ((with_reducible change wpList _ _ _ (Oper.mk (some 47) _ _ _ _ _ :: _) _ _); refine kIndexAddrS _ _ _ _ _ w.heap.size 0 a.length a.length _ (m / 16) rfl rfl rfl rfl Try.underlying35 info_w64 (by omega) (by omega) ?_; rw [Nat.zero_add]; go_frame)
            | ((with_reducible change wpList _ _ _ (Oper.mk (some 48) _ _ _ _ _ :: _) _ _); refine kLoad1 _ _ _ _ _ _ _ _ rfl rfl rfl hR7 Try.underlying22 rfl (drow_get _ _ _ (by omega)) ?_; go_frame)
            | ((with_reducible change wpList _ _ _ (Oper.mk (some 54) _ _ _ _ _ :: _) _ _); refine kIndexAddrS _ _ _ _ _ w.heap.size 0 a.length a.length _ (m / 16) rfl rfl rfl rfl Try.underlying35 info_w64 (by omega) (by omega) ?_; rw [Nat.zero_add]; go_frame)
            | ((with_reducible change wpList _ _ _ (Oper.mk none _ _ _ _ _ :: _) _ _); refine kStore1 _ _ _ _ _ (m / 16) _ (.int .u64 ((dg T (m / 16) + 2 ^ (m % 16) : Nat) : Int)) rfl rfl rfl (congrArg (Value.int IntKind.u64) (add_bit _ _ (dg_lt _ _) (by omega))) hR7 info_w64 (by rw [drow_size]; omega) rfl ?_; intro w8 hR8 hW8; rw [drow_bit _ _ _ _ HT.out rfl] at hR8; have hO8 := own_wrote hO3b hW8 (by omega); have hB08 := hB07.trans (hW8.below (Nat.le_refl _)); have hs8 := Nat.le_of_eq hW8.size.symm; go_frame))
          have hOO := hO8
          have dl3 := d3
          have el3 : dval l3 = X - dval b := e3
          have hlR : X - dval b < dval b := by omega
          have hR' : X - dval b = A / 2 ^ m % dval b := HR1.out
          have hRow : Row w8 w.heap.size 22 (drow (A / 2 ^ m / dval b * 2 ^ m) a.length) := by rw [HQ1.out]; exact hR8
          have hBB := hB08
          have hsB : w1.heap.size ≤ w8.heap.size := by omega
          clear hR7 hB07 hO3b hW8 hR8 hB08
          clear hbI hcI hX
          go_loopw [7] (fun v wq => ∃ n : Nat, n ≤ l3.length ∧ OwnD wq w1.heap.size v (l3.take n) ∧ Hid (dval (l3.take n) = dval l3) ∧ wq = w8) (fun v _ => slen v)
          case atStart => exact ⟨l3.length, Nat.le_refl _, by rw [List.take_of_length_le (Nat.le_refl _)]; exact hOO, Lib.hid (by rw [List.take_of_length_le (Nat.le_refl _)]), rfl⟩
          case round =>
            obtain ⟨n, hn, hOn, Hn, rfl⟩ := hrel
            have hmn : ((l3.take n).map VU).length = n := by simp; omega
            have hsl := (own_len hOn).trans (by rw [List.length_take, Nat.min_eq_left hn])
            by_cases hn0 : n = 0
            · have Hf := Lib.hid (trim_len (dl3.take n) db (.inl (by rw [hn0]; simp)) (by rw [Hn.out, el3]; exact hlR))
              have hdn : decide (0 < n) = false := by rw [hn0]; rfl
              have hn0' : ¬ 0 < n := by omega
              clear hn0
              go_wp2_with (first
                | ((with_reducible change wpList _ _ _ (Oper.mk (some 56) _ _ _ _ _ :: _) _ _); refine kLenN _ _ _ _ _ n rfl rfl rfl hOn.dig hmn Try.underlying35 ?_; go_frame))
              go_roundw
              case rel => exact ⟨m, l3.take n, by omega, by go_num, hOn, dl3.take n, Hf.out, by rw [Hn.out, el3, hR'], hRow, hBB, hsB⟩
              case measure => simp [intOf]
            · have hdn : decide (0 < n) = true := by simp; omega
              have hnp : 0 < n := by omega
              have hidx : (l3.take n)[n - 1]? = some (dat (l3.take n) (n - 1)) := dat_at (by rw [List.length_take]; omega)
              have hidx2 : ((l3.take n).map VU)[n - 1]? = some (VU (dat (l3.take n) (n - 1))) := by rw [List.getElem?_map, hidx]; rfl
              have xl := dat_lt (dl3.take n) (n - 1)
              by_cases hz0 : dat (l3.take n) (n - 1) = 0
              · have Hz := Lib.hid (trim_val hn hnp hz0)
                have hzI : ((dat (l3.take n) (n - 1) : Int) == 0) = true := by rw [hz0]; rfl
                go_wp2_with (first
                  | ((with_reducible change wpList _ _ _ (Oper.mk (some 56) _ _ _ _ _ :: _) _ _); refine kLenN _ _ _ _ _ n rfl rfl rfl hOn.dig hmn Try.underlying35 ?_; go_frame)
                  | ((with_reducible change wpList _ _ _ (Oper.mk (some 61) _ _ _ _ _ :: _) _ _); refine kLenN _ _ _ _ _ n rfl rfl rfl hOn.dig hmn Try.underlying35 ?_; go_frame)
                  | ((with_reducible change wpList _ _ _ (Oper.mk (some 63) _ _ _ _ _ :: _) _ _); refine kIndexAddrV _ _ _ _ _ _ _ _ (n - 1) _ rfl rfl rfl hOn.dig rfl Try.underlying35 info_w64 (by omega) hidx2 ?_; intro bc hbc; unfold VU at hbc; go_frame)
                  | ((with_reducible change wpList _ _ _ (Oper.mk (some 64) _ _ _ _ _ :: _) _ _); refine kLoadCell _ _ _ _ _ rfl rfl rfl hbc Try.underlying22 rfl ?_; go_frame)
                  | ((with_reducible change wpList _ _ _ (Oper.mk (some 69) _ _ _ _ _ :: _) _ _); refine kLenN _ _ _ _ _ n rfl rfl rfl hOn.dig hmn Try.underlying35 ?_; go_frame)
                  | ((with_reducible change wpList _ _ _ (Oper.mk (some 71) _ _ _ _ _ :: _) _ _); refine kSliceToV _ _ _ _ u7 _ _ _ (n - 1) rfl rfl rfl rfl Try.underlying35 info_w64 hOn.dig (by omega) (by rw [hmn]; omega) ?_; go_frame))
                go_roundw
                case rel => exact ⟨n - 1, by omega, own_to hOn hn (by omega), Lib.hid (by rw [Hz.out]; exact Hn.out), trivial⟩
                case measure => rw [slen_to hOn, hsl]; omega
              · have Hf := Lib.hid (trim_len (dl3.take n) db (.inr ⟨by rw [List.length_take]; omega, by rw [List.length_take, Nat.min_eq_left hn]; exact hz0⟩) (by rw [Hn.out, el3]; exact hlR))
                have hzI : ((dat (l3.take n) (n - 1) : Int) == 0) = false := by simp; omega
                go_wp2_with (first
                  | ((with_reducible change wpList _ _ _ (Oper.mk (some 56) _ _ _ _ _ :: _) _ _); refine kLenN _ _ _ _ _ n rfl rfl rfl hOn.dig hmn Try.underlying35 ?_; go_frame)
                  | ((with_reducible change wpList _ _ _ (Oper.mk (some 61) _ _ _ _ _ :: _) _ _); refine kLenN _ _ _ _ _ n rfl rfl rfl hOn.dig hmn Try.underlying35 ?_; go_frame)
                  | ((with_reducible change wpList _ _ _ (Oper.mk (some 63) _ _ _ _ _ :: _) _ _); refine kIndexAddrV _ _ _ _ _ _ _ _ (n - 1) _ rfl rfl rfl hOn.dig rfl Try.underlying35 info_w64 (by omega) hidx2 ?_; intro bc hbc; unfold VU at hbc; go_frame)
                  | ((with_reducible change wpList _ _ _ (Oper.mk (some 64) _ _ _ _ _ :: _) _ _); refine kLoadCell _ _ _ _ _ rfl rfl rfl hbc Try.underlying22 rfl ?_; go_frame))
                go_roundw
                case rel => exact ⟨m, l3.take n, by omega, by go_num, hOn, dl3.take n, Hf.out, by rw [Hn.out, el3, hR'], hRow, hBB, hsB⟩
                case measure => simp [intOf]
        · have hbit0 : A / 2 ^ m % 2 = 0 := by omega
          have hbI : ((dat a (m / 16) : Int) / 2 ^ (m % 16)).tmod 2 = 0 := by rw [shr_val, Int.tmod_eq_emod_of_nonneg (Int.natCast_nonneg _)]; have := Hbit.out; omega
          have hX : 2 * dval r = X := by rw [er]; have := HX.out; omega
          have hcI : decide (cz ≥ 0) = true := by rw [← Hcz.out, cmp_ge]; simpa using hge
          have hcP : 0 ≤ cz := by simpa using hcI
          go_wp2_with (first
            | (go_at_call 43; (with_reducible change Calls _ _ #[u7, u7] _ _); refine (dAdd_own r r u7 u7 _ dr dr hOr.dig hOr.dig (by omega) (by omega)).mono ?_; rintro e w2 ⟨v1, l1, rfl, hO1, d1, e1, n1, hB2⟩; have hs2 := hB2.size; have hO1b := own_base hO1 hs1r; have hR2 := hR.below hB2 hR.lt; have hB02 := hBr.trans (hB2.mono hszr); clear hO1; go_frame)
            | (go_at_call 52; refine (dAt_lit a va (m / 16) _ _ (hva.below hB02) (by omega)).mono ?_; rintro e w3 ⟨rfl, rfl⟩; go_frame)
            | (go_at_call 37; refine (dCompare_any l1 b v1 vb _ d1 db hO1b.dig (hvb.below hB02) (by omega) (by omega)).mono ?_; rintro e w6 ⟨rfl, rfl⟩; rw [show cmpI (dval l1) (dval b) = cz by rw [e1, ← two_mul', hX]; exact Hcz.out]; go_frame)
            | (go_at_call 54; refine (dSub_own l1 b v1 vb _ d1 db hO1b.dig (hvb.below hB02) (by omega) (by rw [e1, ← two_mul', hX]; exact hge)).mono ?_; rintro e w7 ⟨v3, l3, rfl, hO3, d3, e3, n3, hB7⟩; have hs7 := hB7.size; have hO3b := own_base hO3 (show w1.heap.size ≤ w2.heap.size by omega); have hR7 := hR2.below hB7 hR2.lt; have hB07 := hB02.trans (hB7.mono (by omega)); rw [e1, ← two_mul', hX] at e3; clear hO3; go_frame)
            | ((with_reducible change wpList _ _ _ (Oper.mk (some 47) _ _ _ _ _ :: _) _ _); refine kIndexAddrS _ _ _ _ _ w.heap.size 0 a.length a.length _ (m / 16) rfl rfl rfl rfl Try.underlying35 info_w64 (by omega) (by omega) ?_; rw [Nat.zero_add]; go_frame)
            | ((with_reducible change wpList _ _ _ (Oper.mk (some 48) _ _ _ _ _ :: _) _ _); refine kLoad1 _ _ _ _ _ _ _ _ rfl rfl rfl hR7 Try.underlying22 rfl (drow_get _ _ _ (by omega)) ?_; go_frame)
            | ((with_reducible change wpList _ _ _ (Oper.mk (some 54) _ _ _ _ _ :: _) _ _); refine kIndexAddrS _ _ _ _ _ w.heap.size 0 a.length a.length _ (m / 16) rfl rfl rfl rfl Try.underlying35 info_w64 (by omega) (by omega) ?_; rw [Nat.zero_add]; go_frame)
            | ((with_reducible change wpList _ _ _ (Oper.mk none _ _ _ _ _ :: _) _ _); refine kStore1 _ _ _ _ _ (m / 16) _ (.int .u64 ((dg T (m / 16) + 2 ^ (m % 16) : Nat) : Int)) rfl rfl rfl (congrArg (Value.int IntKind.u64) (add_bit _ _ (dg_lt _ _) (by omega))) hR7 info_w64 (by rw [drow_size]; omega) rfl ?_; intro w8 hR8 hW8; rw [drow_bit _ _ _ _ HT.out rfl] at hR8; have hO8 := own_wrote hO3b hW8 (by omega); have hB08 := hB07.trans (hW8.below (Nat.le_refl _)); have hs8 := Nat.le_of_eq hW8.size.symm; go_frame))
          have hOO := hO8
          have dl3 := d3
          have el3 : dval l3 = X - dval b := e3
          have hlR : X - dval b < dval b := by omega
          have hR' : X - dval b = A / 2 ^ m % dval b := HR1.out
          have hRow : Row w8 w.heap.size 22 (drow (A / 2 ^ m / dval b * 2 ^ m) a.length) := by rw [HQ1.out]; exact hR8
          have hBB := hB08
          have hsB : w1.heap.size ≤ w8.heap.size := by omega
          clear hR7 hB07 hO3b hW8 hR8 hB08
          clear hbI hcI hX
          go_loopw [7] (fun v wq => ∃ n : Nat, n ≤ l3.length ∧ OwnD wq w1.heap.size v (l3.take n) ∧ Hid (dval (l3.take n) = dval l3) ∧ wq = w8) (fun v _ => slen v)
          case atStart => exact ⟨l3.length, Nat.le_refl _, by rw [List.take_of_length_le (Nat.le_refl _)]; exact hOO, Lib.hid (by rw [List.take_of_length_le (Nat.le_refl _)]), rfl⟩
          case round =>
            obtain ⟨n, hn, hOn, Hn, rfl⟩ := hrel
            have hmn : ((l3.take n).map VU).length = n := by simp; omega
            have hsl := (own_len hOn).trans (by rw [List.length_take, Nat.min_eq_left hn])
            by_cases hn0 : n = 0
            · have Hf := Lib.hid (trim_len (dl3.take n) db (.inl (by rw [hn0]; simp)) (by rw [Hn.out, el3]; exact hlR))
              have hdn : decide (0 < n) = false := by rw [hn0]; rfl
              have hn0' : ¬ 0 < n := by omega
              clear hn0
              go_wp2_with (first
                | ((with_reducible change wpList _ _ _ (Oper.mk (some 56) _ _ _ _ _ :: _) _ _); refine kLenN _ _ _ _ _ n rfl rfl rfl hOn.dig hmn Try.underlying35 ?_; go_frame))
              go_roundw
              case rel => exact ⟨m, l3.take n, by omega, by go_num, hOn, dl3.take n, Hf.out, by rw [Hn.out, el3, hR'], hRow, hBB, hsB⟩
              case measure => simp [intOf]
            · have hdn : decide (0 < n) = true := by simp; omega
              have hnp : 0 < n := by omega
              have hidx : (l3.take n)[n - 1]? = some (dat (l3.take n) (n - 1)) := dat_at (by rw [List.length_take]; omega)
              have hidx2 : ((l3.take n).map VU)[n - 1]? = some (VU (dat (l3.take n) (n - 1))) := by rw [List.getElem?_map, hidx]; rfl
              have xl := dat_lt (dl3.take n) (n - 1)
              by_cases hz0 : dat (l3.take n) (n - 1) = 0
              · have Hz := Lib.hid (trim_val hn hnp hz0)
                have hzI : ((dat (l3.take n) (n - 1) : Int) == 0) = true := by rw [hz0]; rfl
                go_wp2_with (first
                  | ((with_reducible change wpList _ _ _ (Oper.mk (some 56) _ _ _ _ _ :: _) _ _); refine kLenN _ _ _ _ _ n rfl rfl rfl hOn.dig hmn Try.underlying35 ?_; go_frame)
                  | ((with_reducible change wpList _ _ _ (Oper.mk (some 61) _ _ _ _ _ :: _) _ _); refine kLenN _ _ _ _ _ n rfl rfl rfl hOn.dig hmn Try.underlying35 ?_; go_frame)
                  | ((with_reducible change wpList _ _ _ (Oper.mk (some 63) _ _ _ _ _ :: _) _ _); refine kIndexAddrV _ _ _ _ _ _ _ _ (n - 1) _ rfl rfl rfl hOn.dig rfl Try.underlying35 info_w64 (by omega) hidx2 ?_; intro bc hbc; unfold VU at hbc; go_frame)
                  | ((with_reducible change wpList _ _ _ (Oper.mk (some 64) _ _ _ _ _ :: _) _ _); refine kLoadCell _ _ _ _ _ rfl rfl rfl hbc Try.underlying22 rfl ?_; go_frame)
                  | ((with_reducible change wpList _ _ _ (Oper.mk (some 69) _ _ _ _ _ :: _) _ _); refine kLenN _ _ _ _ _ n rfl rfl rfl hOn.dig hmn Try.underlying35 ?_; go_frame)
                  | ((with_reducible change wpList _ _ _ (Oper.mk (some 71) _ _ _ _ _ :: _) _ _); refine kSliceToV _ _ _ _ u7 _ _ _ (n - 1) rfl rfl rfl rfl Try.underlying35 info_w64 hOn.dig (by omega) (by rw [hmn]; omega) ?_; go_frame))
                go_roundw
                case rel => exact ⟨n - 1, by omega, own_to hOn hn (by omega), Lib.hid (by rw [Hz.out]; exact Hn.out), trivial⟩
                case measure => rw [slen_to hOn, hsl]; omega
              · have Hf := Lib.hid (trim_len (dl3.take n) db (.inr ⟨by rw [List.length_take]; omega, by rw [List.length_take, Nat.min_eq_left hn]; exact hz0⟩) (by rw [Hn.out, el3]; exact hlR))
                have hzI : ((dat (l3.take n) (n - 1) : Int) == 0) = false := by simp; omega
                go_wp2_with (first
                  | ((with_reducible change wpList _ _ _ (Oper.mk (some 56) _ _ _ _ _ :: _) _ _); refine kLenN _ _ _ _ _ n rfl rfl rfl hOn.dig hmn Try.underlying35 ?_; go_frame)
                  | ((with_reducible change wpList _ _ _ (Oper.mk (some 61) _ _ _ _ _ :: _) _ _); refine kLenN _ _ _ _ _ n rfl rfl rfl hOn.dig hmn Try.underlying35 ?_; go_frame)
                  | ((with_reducible change wpList _ _ _ (Oper.mk (some 63) _ _ _ _ _ :: _) _ _); refine kIndexAddrV _ _ _ _ _ _ _ _ (n - 1) _ rfl rfl rfl hOn.dig rfl Try.underlying35 info_w64 (by omega) hidx2 ?_; intro bc hbc; unfold VU at hbc; go_frame)
                  | ((with_reducible change wpList _ _ _ (Oper.mk (some 64) _ _ _ _ _ :: _) _ _); refine kLoadCell _ _ _ _ _ rfl rfl rfl hbc Try.underlying22 rfl ?_; go_frame))
                go_roundw
                case rel => exact ⟨m, l3.take n, by omega, by go_num, hOn, dl3.take n, Hf.out, by rw [Hn.out, el3, hR'], hRow, hBB, hsB⟩
                case measure => simp [intOf]
      · have HR0 := Lib.hid (Hg0.out (by omega)).1
        have HQ0 := Lib.hid (show A / 2 ^ m / dval b * 2 ^ m = T by rw [hT]; exact (Hg0.out (by omega)).2)
        clear hT Hg0 Hg1
        by_cases hbit : A / 2 ^ m % 2 = 1
        · skip
          have hbI : ((dat a (m / 16) : Int) / 2 ^ (m % 16)).tmod 2 = 1 := by rw [shr_val, Int.tmod_eq_emod_of_nonneg (Int.natCast_nonneg _)]; have := Hbit.out; omega
          have hX : 2 * dval r + 1 = X := by rw [er]; have := HX.out; omega
          have hcI : decide (cz ≥ 0) = false := by rw [← Hcz.out, cmp_ge]; simpa using hge
          have hcP : cz < 0 := by simpa using hcI
          go_wp2_with (first
            | (go_at_call 43; (with_reducible change Calls _ _ #[u7, u7] _ _); refine (dAdd_own r r u7 u7 _ dr dr hOr.dig hOr.dig (by omega) (by omega)).mono ?_; rintro e w2 ⟨v1, l1, rfl, hO1, d1, e1, n1, hB2⟩; have hs2 := hB2.size; have hO1b := own_base hO1 hs1r; have hR2 := hR.below hB2 hR.lt; have hB02 := hBr.trans (hB2.mono hszr); clear hO1; go_frame)
            | (go_at_call 52; refine (dAt_lit a va (m / 16) _ _ (hva.below hB02) (by omega)).mono ?_; rintro e w3 ⟨rfl, rfl⟩; go_frame)
            | ((with_reducible change wpList _ _ _ (Oper.mk (some 35) _ _ _ _ _ :: _) _ _); refine kBuildSlice1 _ _ _ (VU 1) rfl rfl Try.underlying35 i _ hi hz hs1 rfl rfl ?_; intro w4 hR4 hz4 hB4; clear hz4; have hs4 := hB4.size; have hB04 := hB02.trans (hB4.mono (by omega)); have hd1 : Dig w4 _ [1] := isVals_lit hR4; go_frame)
            | (go_at_call 43; refine (dAdd_own l1 [1] v1 _ _ d1 (digs_one (by decide)) (hO1b.dig.below hB4) hd1 (by omega) (by simp)).mono ?_; rintro e w5 ⟨v2, l2, rfl, hO2, d2, e2, n2, hB5⟩; have hs5 := hB5.size; have hO2b := own_base hO2 (show w1.heap.size ≤ w4.heap.size by omega); have hR5 := (hR2.below hB4 hR2.lt).below hB5 (hR2.below hB4 hR2.lt).lt; have hB05 := hB04.trans (hB5.mono (by omega)); rw [e1, dval_one] at e2; rw [show ([1] : List Nat).length = 1 from rfl] at n2; clear hO2 hd1 hR4; go_frame)
            | (go_at_call 37; refine (dCompare_any l2 b v2 vb _ d2 db hO2b.dig (hvb.below hB05) (by omega) (by omega)).mono ?_; rintro e w6 ⟨rfl, rfl⟩; rw [show cmpI (dval l2) (dval b) = cz by rw [e2, ← two_mul', hX]; exact Hcz.out]; go_frame))
          have hOO := hO2b
          have dl2 := d2
          have el2 : dval l2 = X := by rw [e2, ← two_mul', hX]
          have hlR : X < dval b := by omega
          have hR' : X = A / 2 ^ m % dval b := HR0.out
          have hRow : Row w5 w.heap.size 22 (drow (A / 2 ^ m / dval b * 2 ^ m) a.length) := by rw [HQ0.out]; exact hR5
          have hBB := hB05
          have hsB : w1.heap.size ≤ w5.heap.size := by omega
          clear hbI hcI hX
          go_loopw [7] (fun v wq => ∃ n : Nat, n ≤ l2.length ∧ OwnD wq w1.heap.size v (l2.take n) ∧ Hid (dval (l2.take n) = dval l2) ∧ wq = w5) (fun v _ => slen v)
          case atStart => exact ⟨l2.length, Nat.le_refl _, by rw [List.take_of_length_le (Nat.le_refl _)]; exact hOO, Lib.hid (by rw [List.take_of_length_le (Nat.le_refl _)]), rfl⟩
          case round =>
            obtain ⟨n, hn, hOn, Hn, rfl⟩ := hrel
            have hmn : ((l2.take n).map VU).length = n := by simp; omega
            have hsl := (own_len hOn).trans (by rw [List.length_take, Nat.min_eq_left hn])
            by_cases hn0 : n = 0
            · have Hf := Lib.hid (trim_len (dl2.take n) db (.inl (by rw [hn0]; simp)) (by rw [Hn.out, el2]; exact hlR))
              have hdn : decide (0 < n) = false := by rw [hn0]; rfl
              have hn0' : ¬ 0 < n := by omega
              clear hn0
              go_wp2_with (first
                | ((with_reducible change wpList _ _ _ (Oper.mk (some 56) _ _ _ _ _ :: _) _ _); refine kLenN _ _ _ _ _ n rfl rfl rfl hOn.dig hmn Try.underlying35 ?_; go_frame))
              go_roundw
              case rel => exact ⟨m, l2.take n, by omega, by go_num, hOn, dl2.take n, Hf.out, by rw [Hn.out, el2, hR'], hRow, hBB, hsB⟩
              case measure => simp [intOf]
            · have hdn : decide (0 < n) = true := by simp; omega
              have hnp : 0 < n := by omega
              have hidx : (l2.take n)[n - 1]? = some (dat (l2.take n) (n - 1)) := dat_at (by rw [List.length_take]; omega)
              have hidx2 : ((l2.take n).map VU)[n - 1]? = some (VU (dat (l2.take n) (n - 1))) := by rw [List.getElem?_map, hidx]; rfl
              have xl := dat_lt (dl2.take n) (n - 1)
              by_cases hz0 : dat (l2.take n) (n - 1) = 0
              · have Hz := Lib.hid (trim_val hn hnp hz0)
                have hzI : ((dat (l2.take n) (n - 1) : Int) == 0) = true := by rw [hz0]; rfl
                go_wp2_with (first
                  | ((with_reducible change wpList _ _ _ (Oper.mk (some 56) _ _ _ _ _ :: _) _ _); refine kLenN _ _ _ _ _ n rfl rfl rfl hOn.dig hmn Try.underlying35 ?_; go_frame)
                  | ((with_reducible change wpList _ _ _ (Oper.mk (some 61) _ _ _ _ _ :: _) _ _); refine kLenN _ _ _ _ _ n rfl rfl rfl hOn.dig hmn Try.underlying35 ?_; go_frame)
                  | ((with_reducible change wpList _ _ _ (Oper.mk (some 63) _ _ _ _ _ :: _) _ _); refine kIndexAddrV _ _ _ _ _ _ _ _ (n - 1) _ rfl rfl rfl hOn.dig rfl Try.underlying35 info_w64 (by omega) hidx2 ?_; intro bc hbc; unfold VU at hbc; go_frame)
                  | ((with_reducible change wpList _ _ _ (Oper.mk (some 64) _ _ _ _ _ :: _) _ _); refine kLoadCell _ _ _ _ _ rfl rfl rfl hbc Try.underlying22 rfl ?_; go_frame)
                  | ((with_reducible change wpList _ _ _ (Oper.mk (some 69) _ _ _ _ _ :: _) _ _); refine kLenN _ _ _ _ _ n rfl rfl rfl hOn.dig hmn Try.underlying35 ?_; go_frame)
                  | ((with_reducible change wpList _ _ _ (Oper.mk (some 71) _ _ _ _ _ :: _) _ _); refine kSliceToV _ _ _ _ u7 _ _ _ (n - 1) rfl rfl rfl rfl Try.underlying35 info_w64 hOn.dig (by omega) (by rw [hmn]; omega) ?_; go_frame))
                go_roundw
                case rel => exact ⟨n - 1, by omega, own_to hOn hn (by omega), Lib.hid (by rw [Hz.out]; exact Hn.out), trivial⟩
                case measure => rw [slen_to hOn, hsl]; omega
              · have Hf := Lib.hid (trim_len (dl2.take n) db (.inr ⟨by rw [List.length_take]; omega, by rw [List.length_take, Nat.min_eq_left hn]; exact hz0⟩) (by rw [Hn.out, el2]; exact hlR))
                have hzI : ((dat (l2.take n) (n - 1) : Int) == 0) = false := by simp; omega
                go_wp2_with (first
                  | ((with_reducible change wpList _ _ _ (Oper.mk (some 56) _ _ _ _ _ :: _) _ _); refine kLenN _ _ _ _ _ n rfl rfl rfl hOn.dig hmn Try.underlying35 ?_; go_frame)
                  | ((with_reducible change wpList _ _ _ (Oper.mk (some 61) _ _ _ _ _ :: _) _ _); refine kLenN _ _ _ _ _ n rfl rfl rfl hOn.dig hmn Try.underlying35 ?_; go_frame)
                  | ((with_reducible change wpList _ _ _ (Oper.mk (some 63) _ _ _ _ _ :: _) _ _); refine kIndexAddrV _ _ _ _ _ _ _ _ (n - 1) _ rfl rfl rfl hOn.dig rfl Try.underlying35 info_w64 (by omega) hidx2 ?_; intro bc hbc; unfold VU at hbc; go_frame)
                  | ((with_reducible change wpList _ _ _ (Oper.mk (some 64) _ _ _ _ _ :: _) _ _); refine kLoadCell _ _ _ _ _ rfl rfl rfl hbc Try.underlying22 rfl ?_; go_frame))
                go_roundw
                case rel => exact ⟨m, l2.take n, by omega, by go_num, hOn, dl2.take n, Hf.out, by rw [Hn.out, el2, hR'], hRow, hBB, hsB⟩
                case measure => simp [intOf]
        · have hbit0 : A / 2 ^ m % 2 = 0 := by omega
          have hbI : ((dat a (m / 16) : Int) / 2 ^ (m % 16)).tmod 2 = 0 := by rw [shr_val, Int.tmod_eq_emod_of_nonneg (Int.natCast_nonneg _)]; have := Hbit.out; omega
          have hX : 2 * dval r = X := by rw [er]; have := HX.out; omega
          have hcI : decide (cz ≥ 0) = false := by rw [← Hcz.out, cmp_ge]; simpa using hge
          have hcP : cz < 0 := by simpa using hcI
          go_wp2_with (first
            | (go_at_call 43; (with_reducible change Calls _ _ #[u7, u7] _ _); refine (dAdd_own r r u7 u7 _ dr dr hOr.dig hOr.dig (by omega) (by omega)).mono ?_; rintro e w2 ⟨v1, l1, rfl, hO1, d1, e1, n1, hB2⟩; have hs2 := hB2.size; have hO1b := own_base hO1 hs1r; have hR2 := hR.below hB2 hR.lt; have hB02 := hBr.trans (hB2.mono hszr); clear hO1; go_frame)
            | (go_at_call 52; refine (dAt_lit a va (m / 16) _ _ (hva.below hB02) (by omega)).mono ?_; rintro e w3 ⟨rfl, rfl⟩; go_frame)
            | (go_at_call 37; refine (dCompare_any l1 b v1 vb _ d1 db hO1b.dig (hvb.below hB02) (by omega) (by omega)).mono ?_; rintro e w6 ⟨rfl, rfl⟩; rw [show cmpI (dval l1) (dval b) = cz by rw [e1, ← two_mul', hX]; exact Hcz.out]; go_frame))
          have hOO := hO1b
          have dl1 := d1
          have el1 : dval l1 = X := by rw [e1, ← two_mul', hX]
          have hlR : X < dval b := by omega
          have hR' : X = A / 2 ^ m % dval b := HR0.out
          have hRow : Row w2 w.heap.size 22 (drow (A / 2 ^ m / dval b * 2 ^ m) a.length) := by rw [HQ0.out]; exact hR2
          have hBB := hB02
          have hsB : w1.heap.size ≤ w2.heap.size := by omega
          clear hbI hcI hX
          go_loopw [7] (fun v wq => ∃ n : Nat, n ≤ l1.length ∧ OwnD wq w1.heap.size v (l1.take n) ∧ Hid (dval (l1.take n) = dval l1) ∧ wq = w2) (fun v _ => slen v)
          case atStart => exact ⟨l1.length, Nat.le_refl _, by rw [List.take_of_length_le (Nat.le_refl _)]; exact hOO, Lib.hid (by rw [List.take_of_length_le (Nat.le_refl _)]), rfl⟩
          case round =>
            obtain ⟨n, hn, hOn, Hn, rfl⟩ := hrel
            have hmn : ((l1.take n).map VU).length = n := by simp; omega
            have hsl := (own_len hOn).trans (by rw [List.length_take, Nat.min_eq_left hn])
            by_cases hn0 : n = 0
            · have Hf := Lib.hid (trim_len (dl1.take n) db (.inl (by rw [hn0]; simp)) (by rw [Hn.out, el1]; exact hlR))
              have hdn : decide (0 < n) = false := by rw [hn0]; rfl
              have hn0' : ¬ 0 < n := by omega
              clear hn0
              go_wp2_with (first
                | ((with_reducible change wpList _ _ _ (Oper.mk (some 56) _ _ _ _ _ :: _) _ _); refine kLenN _ _ _ _ _ n rfl rfl rfl hOn.dig hmn Try.underlying35 ?_; go_frame))
              go_roundw
              case rel => exact ⟨m, l1.take n, by omega, by go_num, hOn, dl1.take n, Hf.out, by rw [Hn.out, el1, hR'], hRow, hBB, hsB⟩
              case measure => simp [intOf]
            · have hdn : decide (0 < n) = true := by simp; omega
              have hnp : 0 < n := by omega
              have hidx : (l1.take n)[n - 1]? = some (dat (l1.take n) (n - 1)) := dat_at (by rw [List.length_take]; omega)
              have hidx2 : ((l1.take n).map VU)[n - 1]? = some (VU (dat (l1.take n) (n - 1))) := by rw [List.getElem?_map, hidx]; rfl
              have xl := dat_lt (dl1.take n) (n - 1)
              by_cases hz0 : dat (l1.take n) (n - 1) = 0
              · have Hz := Lib.hid (trim_val hn hnp hz0)
                have hzI : ((dat (l1.take n) (n - 1) : Int) == 0) = true := by rw [hz0]; rfl
                go_wp2_with (first
                  | ((with_reducible change wpList _ _ _ (Oper.mk (some 56) _ _ _ _ _ :: _) _ _); refine kLenN _ _ _ _ _ n rfl rfl rfl hOn.dig hmn Try.underlying35 ?_; go_frame)
                  | ((with_reducible change wpList _ _ _ (Oper.mk (some 61) _ _ _ _ _ :: _) _ _); refine kLenN _ _ _ _ _ n rfl rfl rfl hOn.dig hmn Try.underlying35 ?_; go_frame)
                  | ((with_reducible change wpList _ _ _ (Oper.mk (some 63) _ _ _ _ _ :: _) _ _); refine kIndexAddrV _ _ _ _ _ _ _ _ (n - 1) _ rfl rfl rfl hOn.dig rfl Try.underlying35 info_w64 (by omega) hidx2 ?_; intro bc hbc; unfold VU at hbc; go_frame)
                  | ((with_reducible change wpList _ _ _ (Oper.mk (some 64) _ _ _ _ _ :: _) _ _); refine kLoadCell _ _ _ _ _ rfl rfl rfl hbc Try.underlying22 rfl ?_; go_frame)
                  | ((with_reducible change wpList _ _ _ (Oper.mk (some 69) _ _ _ _ _ :: _) _ _); refine kLenN _ _ _ _ _ n rfl rfl rfl hOn.dig hmn Try.underlying35 ?_; go_frame)
                  | ((with_reducible change wpList _ _ _ (Oper.mk (some 71) _ _ _ _ _ :: _) _ _); refine kSliceToV _ _ _ _ u7 _ _ _ (n - 1) rfl rfl rfl rfl Try.underlying35 info_w64 hOn.dig (by omega) (by rw [hmn]; omega) ?_; go_frame))
                go_roundw
                case rel => exact ⟨n - 1, by omega, own_to hOn hn (by omega), Lib.hid (by rw [Hz.out]; exact Hn.out), trivial⟩
                case measure => rw [slen_to hOn, hsl]; omega
              · have Hf := Lib.hid (trim_len (dl1.take n) db (.inr ⟨by rw [List.length_take]; omega, by rw [List.length_take, Nat.min_eq_left hn]; exact hz0⟩) (by rw [Hn.out, el1]; exact hlR))
                have hzI : ((dat (l1.take n) (n - 1) : Int) == 0) = false := by simp; omega
                go_wp2_with (first
                  | ((with_reducible change wpList _ _ _ (Oper.mk (some 56) _ _ _ _ _ :: _) _ _); refine kLenN _ _ _ _ _ n rfl rfl rfl hOn.dig hmn Try.underlying35 ?_; go_frame)
                  | ((with_reducible change wpList _ _ _ (Oper.mk (some 61) _ _ _ _ _ :: _) _ _); refine kLenN _ _ _ _ _ n rfl rfl rfl hOn.dig hmn Try.underlying35 ?_; go_frame)
                  | ((with_reducible change wpList _ _ _ (Oper.mk (some 63) _ _ _ _ _ :: _) _ _); refine kIndexAddrV _ _ _ _ _ _ _ _ (n - 1) _ rfl rfl rfl hOn.dig rfl Try.underlying35 info_w64 (by omega) hidx2 ?_; intro bc hbc; unfold VU at hbc; go_frame)
                  | ((with_reducible change wpList _ _ _ (Oper.mk (some 64) _ _ _ _ _ :: _) _ _); refine kLoadCell _ _ _ _ _ rfl rfl rfl hbc Try.underlying22 rfl ?_; go_frame))
                go_roundw
                case rel => exact ⟨m, l1.take n, by omega, by go_num, hOn, dl1.take n, Hf.out, by rw [Hn.out, el1, hR'], hRow, hBB, hsB⟩
                case measure => simp [intOf]
end Go.Proofs.Ytdeggdmoijfhdaa
