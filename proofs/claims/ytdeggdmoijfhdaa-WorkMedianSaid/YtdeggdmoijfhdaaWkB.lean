/-
  Joined: WkRef, WkRef2, WkRef3, WkRef4, WkLaw0.
-/
import Derived.Test.YtdeggdmoijfhdaaWkA
import Derived.Test.YtdeggdmoijfhdaaFRefAll
import Derived.Test.YtdeggdmoijfhdaaWRef5
import Derived.Test.YtdeggdmoijfhdaaPcAll
/-
  Layer 12: the reference: so many times 256, the easiest one, Expand and Work by the numbers that their digits are.
-/
namespace Go.Proofs.Ytdeggdmoijfhdaa
open Go Go.RowKit

section
variable {ops : Array Oper} {Q : Exit → Act → World → Prop} {rest : List Oper} {o : Oper} {a : Act} {w : World}
theorem kDigN0 (ho : o.op = .buildSlice 35 0 #[]) (hg : Region.wanted o (yielded ops a.tmps) = true) (h : ∀ w1 v, Num w1 v 0 0 → Below w.heap.size w w1 → wpList Try.prog ops Q rest (a.put o.dst v) w1) : wpList Try.prog ops Q (o :: rest) a w := by
  obtain ⟨ix, hix, _⟩ := w64Info
  refine kBuildSlice0 _ _ ho hg Try.underlying35 ix hix ?_
  intro w1 hR _ hB
  exact h w1 _ ⟨[], fun _ h => by simp at h, isVals_lit (l := []) hR, rfl, Nat.le_refl _⟩ hB
theorem kDigN1 (x0 : Operand) (n : Nat) (hn : n < 65536) (ho : o.op = .buildSlice 35 1 #[(0, x0)]) (hg : Region.wanted o (yielded ops a.tmps) = true) (hx : a.eval x0 = .int .u64 (n : Int)) (h : ∀ w1 v, Num w1 v n 1 → Below w.heap.size w w1 → wpList Try.prog ops Q rest (a.put o.dst v) w1) : wpList Try.prog ops Q (o :: rest) a w := by
  obtain ⟨ix, hix, hzx, hsx, _⟩ := w64Info
  refine kBuildSlice1 _ _ _ (VU n) ho hg Try.underlying35 ix _ hix hzx hsx hx rfl ?_
  intro w1 hR _ hB
  exact h w1 _ ⟨[n], fun x hx => by simp at hx; subst hx; exact hn, isVals_lit (l := [VU n]) hR, by simp [dval], Nat.le_refl _⟩ hB
theorem kDigN2 (x0 x1 : Operand) (m n : Nat) (hm : m < 65536) (hn : n < 65536) (ho : o.op = .buildSlice 35 2 #[(0, x0), (1, x1)]) (hg : Region.wanted o (yielded ops a.tmps) = true) (hx : a.eval x0 = .int .u64 (m : Int)) (hy : a.eval x1 = .int .u64 (n : Int)) (h : ∀ w1 v, Num w1 v (m + 65536 * n) 2 → Below w.heap.size w w1 → wpList Try.prog ops Q rest (a.put o.dst v) w1) : wpList Try.prog ops Q (o :: rest) a w := by
  obtain ⟨ix, hix, hzx, hsx, _⟩ := w64Info
  refine kBuildSlice2 _ _ _ _ (VU m) (VU n) ho hg Try.underlying35 ix _ hix hzx hsx hx rfl hy rfl ?_
  intro w1 hR _ hB
  exact h w1 _ ⟨[m, n], fun x hx => by simp at hx; rcases hx with rfl | rfl <;> assumption, isVals_lit (l := [VU m, VU n]) hR, by simp [dval], Nat.le_refl _⟩ hB
end
theorem Num.more {w : World} {v : Value} {n k j : Nat} (h : Num w v n k) (hk : k ≤ j) : Num w v n j := by
  obtain ⟨l, h1, h2, h3, h4⟩ := h; exact ⟨l, h1, h2, h3, Nat.le_trans h4 hk⟩
theorem dBits_num {v : Value} {n k r : Nat} {w : World} (h : Num w v n k) (hk : k ≤ 1000) (hr : blen n = r) : Calls Try.prog 36 #[v] w fun e w' => e = .returned (.int .i64 (r : Int)) ∧ w = w' := by
  obtain ⟨l, h1, h2, h3, h4⟩ := h
  subst h3; subst hr
  exact dBits_any l v w h1 h2 (by omega)
theorem dCompare_r {va vb : Value} {na nb ka kb : Nat} {w : World} {r : Int} (ha : Num w va na ka) (hb : Num w vb nb kb) (hka : ka ≤ 1000) (hkb : kb ≤ 1000) (hr : cmpI na nb = r) : Calls Try.prog 37 #[va, vb] w fun e w' => e = .returned (.int .i64 r) ∧ w = w' := by
  subst hr; exact dCompare_num ha hb hka hkb
theorem dDiv_num {va vb : Value} {na nb ka kb q : Nat} {w : World} (ha : Num w va na ka) (hb : Num w vb nb kb) (hka : ka ≤ 50) (hkb : kb ≤ 900) (h0 : 0 < nb) (hq : na / nb = q) : Calls Try.prog 41 #[va, vb] w fun e w' => ∃ v1 v2, e = .returned (.tuple #[v1, v2]) ∧ Num w' v1 q ka ∧ Below w.heap.size w w' := by
  obtain ⟨a, h1, h2, h3, h4⟩ := ha
  obtain ⟨b, k1, k2, k3, k4⟩ := hb
  subst h3; subst k3; subst hq
  refine (dDiv_any a b va vb w h1 k1 h2 k2 (by omega) (by omega) h0).mono fun _ _ ⟨v1, v2, l2, e1, e2, _, _, _, e6⟩ => ⟨v1, v2, e1, ⟨_, digsOf_digs _ _, e2, ?_, by rw [digsOf_len]; omega⟩, e6⟩
  rw [digsOf_val, Nat.mod_eq_of_lt]
  exact Nat.lt_of_le_of_lt (Nat.div_le_self _ _) (dval_lt h1)

set_option maxRecDepth 100000 in
set_option maxHeartbeats 8000000 in
theorem qTimes_num {v : Value} {n k : Nat} {z : Int} (w : World) (h : Num w v n k) (hz : z ≤ 300) (hk : k ≤ 100) : Calls Try.prog 35 #[v, .int .i64 z] w (NumPost w (n * 256 ^ z.toNat) (k + z.toNat)) := by
  obtain ⟨m, Hm⟩ : ∃ m, Hid (z.toNat = m) := ⟨_, Lib.hid rfl⟩
  have hm : m ≤ 300 := by rw [← Hm.out]; omega
  rw [Hm.out]
  go_enter Try.func35, Try.ntmps35
  go_wp2
  go_loopw [5, 0] (fun i d wr => ∃ j : Nat, j ≤ m ∧ i = .int .i64 (j : Int) ∧ Num wr d (n * 256 ^ j) (k + j) ∧ Below w.heap.size w wr) (fun i _ _ => 301 - (intOf i).toNat)
  case atStart => exact ⟨0, Nat.zero_le _, rfl, by simpa using h, Below.refl _ _⟩
  case round =>
    obtain ⟨j, hj, rfl, N, hB⟩ := hrel
    clear h
    by_cases hlt : j < m
    · have hd : decide ((j : Int) < z) = true := by have := Hm.out; simp; omega
      go_wp2_with (first
        | ((with_reducible change wpList _ _ _ (Oper.mk (some 8) _ _ _ _ _ :: _) _ _); refine kLssI _ _ _ _ .i64 (j : Int) z true rfl rfl rfl rfl hd ?_; go_frame)
        | ((with_reducible change wpList _ _ _ (Oper.mk (some 12) _ _ _ _ _ :: _) _ _); refine kDigN1 _ 256 (by decide) rfl rfl rfl ?_; intro w1 v1 N1 hB1; have Na := N.below hB1; have hB' := hB.trans (hB1.mono hB.size); clear N hB hB1; go_frame)
        | (go_at_call 45; refine (dMul_num Na N1 (by omega) (by decide)).mono ?_; rintro e w2 ⟨v2, rfl, N2, hB2⟩; have hB'' := hB'.trans (hB2.mono hB'.size); clear Na N1 hB' hB2; go_frame)
        | ((with_reducible change wpList _ _ _ (Oper.mk (some 10) _ _ _ _ _ :: _) _ _); refine kYw (yAddZ _ _ _ _ (j : Int) 1 ((j + 1 : Nat) : Int) (by omega) rfl rfl rfl rfl) ?_; go_frame))
      go_roundw
      case rel => exact ⟨j + 1, by omega, rfl, by rw [Nat.pow_succ, ← Nat.mul_assoc]; exact N2, hB''⟩
      case measure => simp [intOf]; omega
    · have hd : decide ((j : Int) < z) = false := by have := Hm.out; simp; omega
      have hjm : j = m := by omega
      subst hjm
      go_wp2_with (first
        | ((with_reducible change wpList _ _ _ (Oper.mk (some 8) _ _ _ _ _ :: _) _ _); refine kLssI _ _ _ _ .i64 (j : Int) z false rfl rfl rfl rfl hd ?_; go_frame))
      go_ret
      exact ⟨_, rfl, N, hB⟩
set_option maxRecDepth 100000 in
theorem qEasiest_num {E : Nat} (hE : easyN = E) (w : World) : Calls Try.prog 38 #[] w (NumPost w E 31) := by
  obtain ⟨z, Hz⟩ : ∃ z : Int, Hid (z = 29) := ⟨_, Lib.hid rfl⟩
  go_enter Try.func38, Try.ntmps38
  go_wp2_with (first
    | ((with_reducible change wpList _ _ _ (Oper.mk (some 1) _ _ _ _ _ :: _) _ _); refine kDigN2 _ _ 65535 127 (by decide) (by decide) rfl rfl rfl rfl ?_; intro w1 v1 N1 hB1; go_frame)
    | (go_at_call 35; refine (qTimes_num _ N1 (by decide) (by decide)).mono ?_; rintro e w2 ⟨v2, rfl, N2, hB2⟩; go_frame))
  go_ret
  exact ⟨_, rfl, hE ▸ N2, hB1.trans (hB2.mono hB1.size)⟩
end Go.Proofs.Ytdeggdmoijfhdaa

/-
  Layer 12: the reference: Expand, Work and Next, by the numbers that their digits are.
-/
namespace Go.Proofs.Ytdeggdmoijfhdaa
open Go Go.RowKit

theorem raw_as (b : Nat) : b % 8388608 / 256 ^ (3 - b / 16777216) * 256 ^ (((b / 16777216 : Nat) : Int) - 3).toNat = rawN b := by
  unfold rawN
  by_cases h : b / 16777216 ≤ 3
  · rw [if_pos h, show (((b / 16777216 : Nat) : Int) - 3).toNat = 0 by omega, Nat.pow_zero, Nat.mul_one]
  · rw [if_neg h, show 3 - b / 16777216 = 0 by omega, Nat.pow_zero, Nat.div_one, show (((b / 16777216 : Nat) : Int) - 3).toNat = b / 16777216 - 3 by omega]
theorem blen_zero_iff (n : Nat) : blen n = 0 ↔ n = 0 := by
  constructor
  · intro h
    have := (byteN_le n 0).1 (by unfold byteN; omega)
    simpa using this
  · rintro rfl; rfl
theorem cmp_pos (x y : Nat) : decide (cmpI x y > 0) = decide (y < x) := by
  unfold cmpI; split
  · next h => simp; omega
  · split
    · next h => simp [h]
    · next h => simp [h]
/-- a number of at most 33 digits of 256, if it is no more than the easiest -/
theorem up_small {M e : Nat} (hM : 0 < M * 256 ^ e) (h : M * 256 ^ e ≤ easyN) : e < 32 := by
  apply Nat.lt_of_not_le; intro h32
  have h1 : 0 < M := Nat.pos_of_mul_pos_right hM
  have h2 : 256 ^ 32 ≤ 256 ^ e := Nat.pow_le_pow_right (by decide) h32
  have h3 : 256 ^ e ≤ M * 256 ^ e := Nat.le_mul_of_pos_left _ h1
  have := easy_lt
  omega
theorem ret2W {fn : Func} {R : Ending → World → Prop} {P : Program} {a : Act} {w : World} {t u : Tmp} (h : fn.results = #[.tmp t, .tmp u]) (hd : a.defers = []) (hR : R (.returned (.tuple #[a.tmps.getD t undef, a.tmps.getD u undef])) w) : bodyPost P fn R .ret a w :=
  bodyPost_ret (by simp [results, h]) hd hR
def QExp (w : World) (b : Nat) (e : Ending) (w' : World) : Prop := ∃ v, Below w.heap.size w w' ∧ ((badN b ∧ e = .returned (.tuple #[v, .int .i64 121]) ∧ Num w' v 0 0) ∨ (¬ badN b ∧ e = .returned (.tuple #[v, .int .i64 0]) ∧ Num w' v (rawN b) 34))

set_option maxRecDepth 100000 in
set_option maxHeartbeats 16000000 in
theorem qExpand_any {b : Nat} (hb : b < 4294967296) (w : World) : Calls Try.prog 15 #[.int .u32 (b : Int)] w (QExp w b) := by
  obtain ⟨M, HM⟩ : ∃ v_ : Nat, Hid (b % 8388608 = v_) := ⟨_, Lib.hid rfl⟩
  obtain ⟨E, HE⟩ : ∃ v_ : Nat, Hid (b / 16777216 = v_) := ⟨_, Lib.hid rfl⟩
  obtain ⟨E3, HE3⟩ : ∃ v_ : Int, Hid ((E : Int) - 3 = v_) := ⟨_, Lib.hid rfl⟩
  have hM : M < 8388608 := by rw [← HM.out]; exact Nat.mod_lt _ (by decide)
  have hE : E < 256 := by have := HE.out; omega
  have f9 : Hid (b % 8388608 = M ∧ 0 < 8388608) := Lib.hid ⟨HM.out, by decide⟩
  have f10 : Hid (IntKind.u64.wrap (M : Int) = (M : Int)) := Lib.hid (wrap_u64N (by omega))
  have f12 : Hid (b / 16777216 = E ∧ 0 < 16777216 ∧ IntKind.u32.wrap (b / 16777216 : Nat) = (b / 16777216 : Nat)) := Lib.hid ⟨HE.out, by decide, wrap_u32N (by omega)⟩
  have f13 : Hid (IntKind.i64.wrap (E : Int) = (E : Int)) := Lib.hid (wrap_i64N (by omega))
  go_enter Try.func15, Try.ntmps15
  go_wp2_with (first
    | ((with_reducible change wpList _ _ _ (Oper.mk (some 9) _ _ _ _ _ :: _) _ _); refine kYw (yRemN .u32 _ _ _ _ b 8388608 M f9.out rfl rfl rfl rfl) ?_; go_frame)
    | ((with_reducible change wpList _ _ _ (Oper.mk (some 10) _ _ _ _ _ :: _) _ _); refine kYw (yConvK Try.underlying28 Try.underlying22 _ (M : Int) (M : Int) f10.out rfl rfl rfl) ?_; go_frame)
    | ((with_reducible change wpList _ _ _ (Oper.mk (some 12) _ _ _ _ _ :: _) _ _); refine kYw (yQuoN .u32 _ _ _ _ b 16777216 E f12.out rfl rfl rfl rfl) ?_; go_frame)
    | ((with_reducible change wpList _ _ _ (Oper.mk (some 13) _ _ _ _ _ :: _) _ _); refine kYw (yConvK Try.underlying28 Try.underlying3 _ (E : Int) (E : Int) f13.out rfl rfl rfl) ?_; go_frame))
  clear f9 f10 f12 f13
  go_loopw [6, 4] (fun i d wr => ∃ j k q : Nat, Hid (E + j = k) ∧ Hid (M / 256 ^ j = q) ∧ Hid (k ≤ max E 3) ∧ i = .int .i64 (k : Int) ∧ d = .int .u64 (q : Int) ∧ wr = w) (fun i _ _ => 300 - (intOf i).toNat)
  case atStart => exact ⟨0, E, M, Lib.hid rfl, Lib.hid (by simp), Lib.hid (Nat.le_max_left _ _), rfl, rfl, rfl⟩
  case round =>
    obtain ⟨j, k, q, Hk, Hq, Hm, rfl, rfl, rfl⟩ := hrel
    have hq : q < 8388608 := by rw [← Hq.out]; exact Nat.lt_of_le_of_lt (Nat.div_le_self _ _) hM
    have hmx := Hm.out
    by_cases hlt : k < 3
    · have hd : decide ((k : Int) < 3) = true := by simp; omega
      obtain ⟨q1, Hq1⟩ : ∃ v_ : Nat, Hid (q / 256 = v_) := ⟨_, Lib.hid rfl⟩
      have f20 : Hid (q / 256 = q1 ∧ 0 < 256 ∧ IntKind.u64.wrap (q / 256 : Nat) = (q / 256 : Nat)) := Lib.hid ⟨Hq1.out, by decide, wrap_u64N (by omega)⟩
      go_wp2_with (first
        | ((with_reducible change wpList _ _ _ (Oper.mk (some 16) _ _ _ _ _ :: _) _ _); refine kYw (yLssK _ _ _ _ .i64 (k : Int) 3 true hd rfl rfl rfl rfl) ?_; go_frame)
        | ((with_reducible change wpList _ _ _ (Oper.mk (some 20) _ _ _ _ _ :: _) _ _); refine kYw (yQuoN .u64 _ _ _ _ q 256 q1 f20.out rfl rfl rfl rfl) ?_; go_frame)
        | ((with_reducible change wpList _ _ _ (Oper.mk (some 18) _ _ _ _ _ :: _) _ _); refine kYw (yAddZ _ _ _ _ (k : Int) 1 ((k + 1 : Nat) : Int) (by omega) rfl rfl rfl rfl) ?_; go_frame))
      go_roundw
      case rel => exact ⟨j + 1, k + 1, q1, Lib.hid (by have := Hk.out; omega), Lib.hid (by rw [← Hq1.out, ← Hq.out, Nat.pow_succ, Nat.div_div_eq_div_mul]), Lib.hid (by omega), rfl, rfl, by first | rfl | trivial⟩
      case measure => simp [intOf]; omega
    · have hd : decide ((k : Int) < 3) = false := by simp; omega
      have hj : 3 - E = j := by have := Hk.out; omega
      have hqR : q * 256 ^ E3.toNat = rawN b := by rw [← HE3.out, ← Hq.out, ← hj, ← HM.out, ← HE.out]; exact raw_as b
      have hE3 := HE3.out
      clear Hk Hq Hm hmx HM
      obtain ⟨r, Hr⟩ : ∃ v_ : Nat, Hid (q % 65536 = v_) := ⟨_, Lib.hid rfl⟩
      obtain ⟨s, Hs⟩ : ∃ v_ : Nat, Hid (q / 65536 = v_) := ⟨_, Lib.hid rfl⟩
      obtain ⟨R, HR⟩ : ∃ v_ : Nat, Hid (rawN b = v_) := ⟨_, Lib.hid rfl⟩
      obtain ⟨L, HL⟩ : ∃ v_ : Nat, Hid (blen R = v_) := ⟨_, Lib.hid rfl⟩
      obtain ⟨x, Hx⟩ : ∃ v_ : Nat, Hid (b / 8388608 = v_) := ⟨_, Lib.hid rfl⟩
      obtain ⟨c, Hc⟩ : ∃ v_ : Nat, Hid (x % 2 = v_) := ⟨_, Lib.hid rfl⟩
      have hr : r < 65536 := by rw [← Hr.out]; exact Nat.mod_lt _ (by decide)
      have hs : s < 65536 := by have := Hs.out; omega
      have hrs : (r + 65536 * s) * 256 ^ E3.toNat = R := by rw [← HR.out, ← hqR, ← Hr.out, ← Hs.out, Nat.mod_add_div]
      have f22 : Hid (q % 65536 = r ∧ 0 < 65536) := Lib.hid ⟨Hr.out, by decide⟩
      have f24 : Hid (q / 65536 = s ∧ 0 < 65536 ∧ IntKind.u64.wrap (q / 65536 : Nat) = (q / 65536 : Nat)) := Lib.hid ⟨Hs.out, by decide, wrap_u64N (by omega)⟩
      have f27 : Hid ((E : Int) - 3 = E3 ∧ -9223372036854775808 ≤ E3 ∧ E3 < 9223372036854775808) := Lib.hid (by omega)
      have f30 : Hid (b / 8388608 = x ∧ 0 < 8388608 ∧ IntKind.u32.wrap (b / 8388608 : Nat) = (b / 8388608 : Nat)) := Lib.hid ⟨Hx.out, by decide, wrap_u32N (by omega)⟩
      have f31 : Hid (x % 2 = c ∧ 0 < 2) := Lib.hid ⟨Hc.out, by decide⟩
      have hkz : E3.toNat ≤ 252 := by omega
      have hbad : badN b ↔ c = 1 ∨ R = 0 ∨ easyN < R := by rw [← HR.out, ← Hc.out, ← Hx.out]; rfl
      replace hrs := Lib.hid hrs
      clear hqR hE3 Hr Hs Hx Hc hj hM
      by_cases h1 : c = 1
      · have d32 : decide ((c : Int) = 1) = true := by simp; omega
        go_wp2_with (first
          | ((with_reducible change wpList _ _ _ (Oper.mk (some 16) _ _ _ _ _ :: _) _ _); refine kYw (yLssK _ _ _ _ .i64 (k : Int) 3 false hd rfl rfl rfl rfl) ?_; go_frame)
          | ((with_reducible change wpList _ _ _ (Oper.mk (some 22) _ _ _ _ _ :: _) _ _); refine kYw (yRemN .u64 _ _ _ _ q 65536 r f22.out rfl rfl rfl rfl) ?_; go_frame)
          | ((with_reducible change wpList _ _ _ (Oper.mk (some 24) _ _ _ _ _ :: _) _ _); refine kYw (yQuoN .u64 _ _ _ _ q 65536 s f24.out rfl rfl rfl rfl) ?_; go_frame)
          | ((with_reducible change wpList _ _ _ (Oper.mk (some 25) _ _ _ _ _ :: _) _ _); refine kDigN2 _ _ r s hr hs rfl rfl rfl rfl ?_; intro w1 v1 N1 hB1; go_frame)
          | ((with_reducible change wpList _ _ _ (Oper.mk (some 27) _ _ _ _ _ :: _) _ _); refine kYw (ySubZ _ _ _ _ (E : Int) 3 E3 f27.out rfl rfl rfl rfl) ?_; go_frame)
          | (go_at_call 35; refine (qTimes_num _ N1 (by omega) (by decide)).mono ?_; rintro e w2 ⟨v2, rfl, N2, hB2⟩; rw [hrs.out] at N2; have hB := hB1.trans (hB2.mono hB1.size); clear N1 hB1 hB2; go_frame)
          | ((with_reducible change wpList _ _ _ (Oper.mk (some 30) _ _ _ _ _ :: _) _ _); refine kYw (yQuoN .u32 _ _ _ _ b 8388608 x f30.out rfl rfl rfl rfl) ?_; go_frame)
          | ((with_reducible change wpList _ _ _ (Oper.mk (some 31) _ _ _ _ _ :: _) _ _); refine kYw (yRemN .u32 _ _ _ _ x 2 c f31.out rfl rfl rfl rfl) ?_; go_frame)
          | ((with_reducible change wpList _ _ _ (Oper.mk (some 32) _ _ _ _ _ :: _) _ _); refine kYw (yEqlK _ _ _ _ .u32 (c : Int) 1 true d32 rfl rfl rfl rfl) ?_; go_frame)
          | ((with_reducible change wpList _ _ _ (Oper.mk (some 44) _ _ _ _ _ :: _) _ _); refine kDigN0 rfl rfl ?_; intro w5 v5 N5 hB5; have hB6 := hB.trans (hB5.mono hB.size); go_frame))
        (try simp only [Exit.inBlock, Exit.then])
        refine ret2W rfl rfl ?_
        exact ⟨_, hB6, .inl ⟨hbad.2 (.inl h1), rfl, N5⟩⟩
      have d32 : decide ((c : Int) = 1) = false := by simp; omega
      by_cases h2 : R = 0
      · have d36 : decide ((L : Int) = 0) = true := by have := (blen_zero_iff R).2 h2; have := HL.out; simp; omega
        go_wp2_with (first
          | ((with_reducible change wpList _ _ _ (Oper.mk (some 16) _ _ _ _ _ :: _) _ _); refine kYw (yLssK _ _ _ _ .i64 (k : Int) 3 false hd rfl rfl rfl rfl) ?_; go_frame)
          | ((with_reducible change wpList _ _ _ (Oper.mk (some 22) _ _ _ _ _ :: _) _ _); refine kYw (yRemN .u64 _ _ _ _ q 65536 r f22.out rfl rfl rfl rfl) ?_; go_frame)
          | ((with_reducible change wpList _ _ _ (Oper.mk (some 24) _ _ _ _ _ :: _) _ _); refine kYw (yQuoN .u64 _ _ _ _ q 65536 s f24.out rfl rfl rfl rfl) ?_; go_frame)
          | ((with_reducible change wpList _ _ _ (Oper.mk (some 25) _ _ _ _ _ :: _) _ _); refine kDigN2 _ _ r s hr hs rfl rfl rfl rfl ?_; intro w1 v1 N1 hB1; go_frame)
          | ((with_reducible change wpList _ _ _ (Oper.mk (some 27) _ _ _ _ _ :: _) _ _); refine kYw (ySubZ _ _ _ _ (E : Int) 3 E3 f27.out rfl rfl rfl rfl) ?_; go_frame)
          | (go_at_call 35; refine (qTimes_num _ N1 (by omega) (by decide)).mono ?_; rintro e w2 ⟨v2, rfl, N2, hB2⟩; rw [hrs.out] at N2; have hB := hB1.trans (hB2.mono hB1.size); clear N1 hB1 hB2; go_frame)
          | ((with_reducible change wpList _ _ _ (Oper.mk (some 30) _ _ _ _ _ :: _) _ _); refine kYw (yQuoN .u32 _ _ _ _ b 8388608 x f30.out rfl rfl rfl rfl) ?_; go_frame)
          | ((with_reducible change wpList _ _ _ (Oper.mk (some 31) _ _ _ _ _ :: _) _ _); refine kYw (yRemN .u32 _ _ _ _ x 2 c f31.out rfl rfl rfl rfl) ?_; go_frame)
          | ((with_reducible change wpList _ _ _ (Oper.mk (some 32) _ _ _ _ _ :: _) _ _); refine kYw (yEqlK _ _ _ _ .u32 (c : Int) 1 false d32 rfl rfl rfl rfl) ?_; go_frame)
          | (go_at_call 36; refine (dBits_num N2 (by omega) HL.out).mono ?_; rintro e w3 ⟨rfl, rfl⟩; go_frame)
          | ((with_reducible change wpList _ _ _ (Oper.mk (some 36) _ _ _ _ _ :: _) _ _); refine kYw (yEqlK _ _ _ _ .i64 (L : Int) 0 true d36 rfl rfl rfl rfl) ?_; go_frame)
          | ((with_reducible change wpList _ _ _ (Oper.mk (some 44) _ _ _ _ _ :: _) _ _); refine kDigN0 rfl rfl ?_; intro w5 v5 N5 hB5; have hB6 := hB.trans (hB5.mono hB.size); go_frame))
        (try simp only [Exit.inBlock, Exit.then])
        refine ret2W rfl rfl ?_
        exact ⟨_, hB6, .inl ⟨hbad.2 (.inr (.inl h2)), rfl, N5⟩⟩
      have d36 : decide ((L : Int) = 0) = false := by have := mt (blen_zero_iff R).1 h2; have := HL.out; simp; omega
      obtain ⟨Y, HY⟩ : ∃ v_ : Nat, Hid (easyN = v_) := ⟨_, Lib.hid rfl⟩
      obtain ⟨C, HC⟩ : ∃ v_ : Int, Hid (cmpI R Y = v_) := ⟨_, Lib.hid rfl⟩
      by_cases h3 : easyN < R
      · have d42 : decide (C > 0) = true := by rw [← HC.out, cmp_pos, ← HY.out]; exact decide_eq_true h3
        go_wp2_with (first
          | ((with_reducible change wpList _ _ _ (Oper.mk (some 16) _ _ _ _ _ :: _) _ _); refine kYw (yLssK _ _ _ _ .i64 (k : Int) 3 false hd rfl rfl rfl rfl) ?_; go_frame)
          | ((with_reducible change wpList _ _ _ (Oper.mk (some 22) _ _ _ _ _ :: _) _ _); refine kYw (yRemN .u64 _ _ _ _ q 65536 r f22.out rfl rfl rfl rfl) ?_; go_frame)
          | ((with_reducible change wpList _ _ _ (Oper.mk (some 24) _ _ _ _ _ :: _) _ _); refine kYw (yQuoN .u64 _ _ _ _ q 65536 s f24.out rfl rfl rfl rfl) ?_; go_frame)
          | ((with_reducible change wpList _ _ _ (Oper.mk (some 25) _ _ _ _ _ :: _) _ _); refine kDigN2 _ _ r s hr hs rfl rfl rfl rfl ?_; intro w1 v1 N1 hB1; go_frame)
          | ((with_reducible change wpList _ _ _ (Oper.mk (some 27) _ _ _ _ _ :: _) _ _); refine kYw (ySubZ _ _ _ _ (E : Int) 3 E3 f27.out rfl rfl rfl rfl) ?_; go_frame)
          | (go_at_call 35; refine (qTimes_num _ N1 (by omega) (by decide)).mono ?_; rintro e w2 ⟨v2, rfl, N2, hB2⟩; rw [hrs.out] at N2; have hB := hB1.trans (hB2.mono hB1.size); clear N1 hB1 hB2; go_frame)
          | ((with_reducible change wpList _ _ _ (Oper.mk (some 30) _ _ _ _ _ :: _) _ _); refine kYw (yQuoN .u32 _ _ _ _ b 8388608 x f30.out rfl rfl rfl rfl) ?_; go_frame)
          | ((with_reducible change wpList _ _ _ (Oper.mk (some 31) _ _ _ _ _ :: _) _ _); refine kYw (yRemN .u32 _ _ _ _ x 2 c f31.out rfl rfl rfl rfl) ?_; go_frame)
          | ((with_reducible change wpList _ _ _ (Oper.mk (some 32) _ _ _ _ _ :: _) _ _); refine kYw (yEqlK _ _ _ _ .u32 (c : Int) 1 false d32 rfl rfl rfl rfl) ?_; go_frame)
          | (go_at_call 36; refine (dBits_num N2 (by omega) HL.out).mono ?_; rintro e w3 ⟨rfl, rfl⟩; go_frame)
          | ((with_reducible change wpList _ _ _ (Oper.mk (some 36) _ _ _ _ _ :: _) _ _); refine kYw (yEqlK _ _ _ _ .i64 (L : Int) 0 false d36 rfl rfl rfl rfl) ?_; go_frame)
          | (go_at_call 38; refine (qEasiest_num HY.out _).mono ?_; rintro e w3 ⟨v3, rfl, N3, hB3⟩; have N4 := N2.below hB3; have hB4 := hB.trans (hB3.mono hB.size); clear N2 hB hB3; go_frame)
          | (go_at_call 37; refine (dCompare_r N4 N3 (by omega) (by decide) HC.out).mono ?_; rintro e w4 ⟨rfl, rfl⟩; go_frame)
          | ((with_reducible change wpList _ _ _ (Oper.mk (some 42) _ _ _ _ _ :: _) _ _); refine kYw (yGtrK _ _ _ _ .i64 C 0 true d42 rfl rfl rfl rfl) ?_; go_frame)
          | ((with_reducible change wpList _ _ _ (Oper.mk (some 44) _ _ _ _ _ :: _) _ _); refine kDigN0 rfl rfl ?_; intro w5 v5 N5 hB5; have hB6 := hB4.trans (hB5.mono hB4.size); go_frame))
        (try simp only [Exit.inBlock, Exit.then])
        refine ret2W rfl rfl ?_
        exact ⟨_, hB6, .inl ⟨hbad.2 (.inr (.inr h3)), rfl, N5⟩⟩
      · have d42 : decide (C > 0) = false := by rw [← HC.out, cmp_pos, ← HY.out]; exact decide_eq_false h3
        go_wp2_with (first
          | ((with_reducible change wpList _ _ _ (Oper.mk (some 16) _ _ _ _ _ :: _) _ _); refine kYw (yLssK _ _ _ _ .i64 (k : Int) 3 false hd rfl rfl rfl rfl) ?_; go_frame)
          | ((with_reducible change wpList _ _ _ (Oper.mk (some 22) _ _ _ _ _ :: _) _ _); refine kYw (yRemN .u64 _ _ _ _ q 65536 r f22.out rfl rfl rfl rfl) ?_; go_frame)
          | ((with_reducible change wpList _ _ _ (Oper.mk (some 24) _ _ _ _ _ :: _) _ _); refine kYw (yQuoN .u64 _ _ _ _ q 65536 s f24.out rfl rfl rfl rfl) ?_; go_frame)
          | ((with_reducible change wpList _ _ _ (Oper.mk (some 25) _ _ _ _ _ :: _) _ _); refine kDigN2 _ _ r s hr hs rfl rfl rfl rfl ?_; intro w1 v1 N1 hB1; go_frame)
          | ((with_reducible change wpList _ _ _ (Oper.mk (some 27) _ _ _ _ _ :: _) _ _); refine kYw (ySubZ _ _ _ _ (E : Int) 3 E3 f27.out rfl rfl rfl rfl) ?_; go_frame)
          | (go_at_call 35; refine (qTimes_num _ N1 (by omega) (by decide)).mono ?_; rintro e w2 ⟨v2, rfl, N2, hB2⟩; rw [hrs.out] at N2; have hB := hB1.trans (hB2.mono hB1.size); clear N1 hB1 hB2; go_frame)
          | ((with_reducible change wpList _ _ _ (Oper.mk (some 30) _ _ _ _ _ :: _) _ _); refine kYw (yQuoN .u32 _ _ _ _ b 8388608 x f30.out rfl rfl rfl rfl) ?_; go_frame)
          | ((with_reducible change wpList _ _ _ (Oper.mk (some 31) _ _ _ _ _ :: _) _ _); refine kYw (yRemN .u32 _ _ _ _ x 2 c f31.out rfl rfl rfl rfl) ?_; go_frame)
          | ((with_reducible change wpList _ _ _ (Oper.mk (some 32) _ _ _ _ _ :: _) _ _); refine kYw (yEqlK _ _ _ _ .u32 (c : Int) 1 false d32 rfl rfl rfl rfl) ?_; go_frame)
          | (go_at_call 36; refine (dBits_num N2 (by omega) HL.out).mono ?_; rintro e w3 ⟨rfl, rfl⟩; go_frame)
          | ((with_reducible change wpList _ _ _ (Oper.mk (some 36) _ _ _ _ _ :: _) _ _); refine kYw (yEqlK _ _ _ _ .i64 (L : Int) 0 false d36 rfl rfl rfl rfl) ?_; go_frame)
          | (go_at_call 38; refine (qEasiest_num HY.out _).mono ?_; rintro e w3 ⟨v3, rfl, N3, hB3⟩; have N4 := N2.below hB3; have hB4 := hB.trans (hB3.mono hB.size); clear N2 hB hB3; go_frame)
          | (go_at_call 37; refine (dCompare_r N4 N3 (by omega) (by decide) HC.out).mono ?_; rintro e w4 ⟨rfl, rfl⟩; go_frame)
          | ((with_reducible change wpList _ _ _ (Oper.mk (some 42) _ _ _ _ _ :: _) _ _); refine kYw (yGtrK _ _ _ _ .i64 C 0 false d42 rfl rfl rfl rfl) ?_; go_frame))
        (try simp only [Exit.inBlock, Exit.then])
        refine ret2W rfl rfl ?_
        have hup : E3.toNat < 32 := up_small (M := r + 65536 * s) (by rw [hrs.out]; omega) (by rw [hrs.out]; omega)
        exact ⟨_, hB4, .inr ⟨fun hb' => by rcases hbad.1 hb' with h | h | h <;> contradiction, rfl, by rw [HR.out]; exact N4.more (by omega)⟩⟩
end Go.Proofs.Ytdeggdmoijfhdaa

/-
  Layer 12: the reference: a number's bytes, the highest first, and a number in four bytes.
-/
namespace Go.Proofs.Ytdeggdmoijfhdaa
open Go Go.RowKit

/-- a number's bytes, the highest first -/
def bytesL (n : Nat) : List UInt8 := (beL n).map UInt8.ofNat
theorem bytesL_zero : bytesL 0 = [] := by unfold bytesL; rw [beL_zero]; rfl
theorem bytesL_len (n : Nat) : (bytesL n).length = byteN n := by unfold bytesL; rw [List.length_map, beL_len]
theorem bytesL_more {x c : Nat} (hc : c < 256) (h : ¬ (x = 0 ∧ c = 0)) : bytesL (256 * x + c) = bytesL x ++ [UInt8.ofNat c] := by
  unfold bytesL; rw [beL_add hc, if_neg h, List.map_append]; rfl
theorem vb_ofN {c : Nat} (hc : c < 256) : VB (UInt8.ofNat c) = .int .u8 (c : Int) := by
  show Value.int .u8 (((UInt8.ofNat c).toNat : Nat) : Int) = _
  rw [UInt8.toNat_ofNat']; congr 2; omega
theorem bytesL_at {n k : Nat} (h : k < byteN n) : ((bytesL n).map VB)[k]? = some (.int .u8 ((n / 256 ^ (byteN n - 1 - k) % 256 : Nat) : Int)) := by
  unfold bytesL
  rw [List.getElem?_map, List.getElem?_map, beL_at n k h]
  show some (VB (UInt8.ofNat _)) = _
  rw [vb_ofN (Nat.mod_lt _ (by decide))]
theorem byteN_mono {m n : Nat} (h : m ≤ n) : byteN m ≤ byteN n := (byteN_le m _).2 (Nat.lt_of_le_of_lt h (byteN_lt n))
theorem byteN_dval {l : List Nat} (h : Digs l) : byteN (dval l) ≤ 2 * l.length := by
  refine (byteN_le _ _).2 ?_
  have := dval_lt h
  unfold P16 at this
  rw [Nat.pow_mul]; exact this
theorem byteN_zero_iff {n : Nat} : byteN n = 0 ↔ n = 0 := ⟨fun h => by rcases Nat.eq_zero_or_pos n with h0 | h0; exact h0; have := byteN_pos h0; omega, fun h => by rw [h]; exact byteN_zero⟩
theorem preN_le (n k : Nat) : 256 * preN n k ≤ preN n (k + 1) := by rw [preN_step]; omega
theorem own_notNew {w : World} {b g : Nat} {v : Value} {l : List UInt8} (h : OwnB w b v l) (hg : w.heap.size ≤ g) : v.ownBlock ≠ some g := by
  rcases h.2 with ⟨rfl, -⟩ | ⟨g', cap, cur, rfl, -, hr, -⟩
  · simp [Value.ownBlock]
  · intro e
    simp only [Value.ownBlock, Option.some.injEq] at e
    have := (Array.getElem?_eq_some_iff.1 hr).1
    omega
section
variable {ops : Array Oper} {o : Oper} {a : Act} {S : World → Prop} {Q : Exit → Act → World → Prop} {rest : List Oper} {w : World}
theorem yIndexK (T E : TypeId) (x y : Operand) (b : Addr) (n c j : Nat) (ht : Try.prog.underlying T = some (.slice E)) (hs : (Try.prog.info? E).map (·.size) = some 1) (hj : j < n) (ho : o.op = .indexAddr T x y) (hg : Region.wanted o (yielded ops a.tmps) = true) (hx : a.eval x = .slice (some b) n c) (hy : a.eval y = .int .i64 (j : Int)) : YieldsIf Try.prog ops S o (.pointer (some (b.add j))) a :=
  yOf hg fun w _ => by
    have hrun : (Instr.indexAt T (.slice (some b) n c) (.int .i64 (j : Int))).run Try.prog w = .ok (.pointer (some (b.add j))) w := by
      cases hq : Try.prog.info? E with
      | none => simp [hq] at hs
      | some t =>
        have hs' : t.size = 1 := by simpa [hq] using hs
        have hc : (0 : Int) ≤ (j : Int) ∧ (j : Int) < (n : Int) := by omega
        simp [Instr.indexAt, asIntOf, run_underlying ht, hc, sizeOf, typeInfo, hq, hs']
        intro hle; omega
    unfold execOp
    simp only [ho, hx, hy, Sem.run_bind, hrun, Result.andThen_ok, Sem.run_pure]
theorem yLoadK (T : TypeId) (x : Operand) (b : Addr) (v : Value) (d : TypeDesc) (hr : ∀ w, S w → w.cell? b = some v) (hu : Try.prog.underlying T = some d) (hd : aggDesc d = false) (ho : o.op = .load T x) (hg : Region.wanted o (yielded ops a.tmps) = true) (hx : a.eval x = .pointer (some b)) : YieldsIf Try.prog ops S o v a :=
  yOf hg fun w hS => by
    have hl : (loadVar T b).run Try.prog w = .ok v w := by simp [loadVar, Sem.run_bind, run_isAgg hu, hd, load, Sem.run, hr w hS]
    unfold execOp
    simp only [ho, hx, Instr.loadAt, Instr.sureAddr, Sem.run_bind, Sem.run_pure, Result.andThen_ok, hl]
theorem yLenK (T : TypeId) (x : Operand) (E : TypeId) (ao : Option Addr) (n c : Nat) (ht : Try.prog.underlying T = some (.slice E)) (ho : o.op = .call { callee := .builtin .len, args := #[x], argTypes := #[T] }) (hg : Region.wanted o (yielded ops a.tmps) = true) (hx : a.eval x = .slice ao n c) : YieldsIf Try.prog ops S o (.int .i64 (n : Int)) a :=
  yOf hg fun w hS => by
    unfold execOp
    simp [ho, hx, resolve, invoke, builtin, Builtin.len_, run_underlying ht, goInt]
theorem kAppGw (s x : Operand) (base : Nat) (v y : Value) (xs news : List UInt8) (hown : OwnB w base v xs) (hy : IsVals w y (news.map VB)) (hlen : xs.length + news.length ≤ 1000000000) (hbase : base ≤ w.heap.size) (ho : o.op = .call { callee := .builtin .append, args := #[s, x], argTypes := #[76, 76] }) (hg : o.guard = none) (hs : a.eval s = v) (hx : a.eval x = y)
    (h : ∀ v' w', OwnB w' base v' (xs ++ news) → Below base w w' → w.grownBy w' v.ownBlock → wpList Try.prog ops Q rest (a.put o.dst v') w') : wpList Try.prog ops Q (o :: rest) a w := by
  obtain ⟨i, hi, hz, hsize, hby⟩ := b8Info
  refine kAppend s x _ _ ho hg base i _ Try.underlying76 hi hz hsize rfl v y (xs.map VB) (news.map VB) hs hown hx hy (vbs_one _) (by simp [maxLen]; omega) (by rw [hby]; simp; omega) hbase fun v' w' h1 h2 => ?_
  rw [← List.map_append] at h1
  exact h v' w' h1 (below_grown hown h2 hbase) h2
end
theorem vals_one8 {c g : Nat} {w : World} (hc : c < 256) (h : Row w g 5 #[.int .u8 (c : Int)]) : IsVals w (.slice (some ⟨g, 0, none⟩) 1 1) ([UInt8.ofNat c].map VB) := by
  rw [List.map_cons, List.map_nil, vb_ofN hc]; exact isVals_lit (l := [.int .u8 (c : Int)]) h
theorem info_u64W : (Try.prog.info? 22).map (·.size) = some 1 := by kernel_rfl
set_option maxRecDepth 100000 in
set_option maxHeartbeats 16000000 in
theorem qBytes_num {v : Value} {n k : Nat} (w : World) (h : Num w v n k) (hk : k ≤ 1000) : Calls Try.prog 44 #[v] w (fun e w' => ∃ u, e = .returned u ∧ OwnB w' w.heap.size u (bytesL n) ∧ Below w.heap.size w w') := by
  obtain ⟨i8, hi8, hz8, hs8, hby8⟩ := b8Info
  obtain ⟨l, dl, hv0, rfl, hlk⟩ := h
  have hbn := byteN_dval dl
  obtain ⟨ao, c, rfl, hc, hn, hj⟩ := id hv0
  obtain ⟨N, HN⟩ : ∃ N, l.length = N := ⟨_, rfl⟩
  have hv : IsVals w (.slice ao N c) (l.map VU) := by rw [← HN, ← List.length_map VU]; exact hv0
  rw [List.length_map, HN]
  clear hv0 hc hn
  go_enter Try.func44, Try.ntmps44
  go_wp2_with (first
    | ((with_reducible change wpList _ _ _ (Oper.mk (some 7) _ _ _ _ _ :: _) _ _); refine kBuildSlice0 _ _ rfl rfl Try.underlying76 i8 hi8 ?_; intro w1 hR1 hzz hB1; clear hzz; have hO1 : OwnB w1 w.heap.size _ [] := own_empty (Nat.le_refl _) hR1; clear hR1; go_frame)
    | ((with_reducible change wpList _ _ _ (Oper.mk (some 9) _ _ _ _ _ :: _) _ _); refine kLenN _ _ _ _ _ N rfl rfl rfl (hv.below hB1) (by rw [List.length_map, HN]) Try.underlying35 ?_; go_frame)
    | ((with_reducible change wpList _ _ _ (Oper.mk (some 10) _ _ _ _ _ :: _) _ _); refine kYw (ySubZ _ _ _ _ (N : Int) 1 ((N : Int) - 1) (by omega) rfl rfl rfl rfl) ?_; go_frame))
  go_loopw [4, 3] (fun i u wr => ∃ (j : Nat) (z : Int), j ≤ N ∧ Hid (z = (j : Int) - 1) ∧ i = .int .i64 z ∧ OwnB wr w.heap.size u (bytesL (dval (l.drop j))) ∧ Below w.heap.size w wr) (fun i _ _ => (intOf i + 1).toNat)
  case atStart => exact ⟨N, _, Nat.le_refl _, Lib.hid rfl, rfl, by rw [List.drop_of_length_le (by omega), show dval [] = 0 from rfl, bytesL_zero]; exact hO1, hB1⟩
  case round =>
    obtain ⟨j, z, hjN, Hz, rfl, hO, hB⟩ := hrel
    clear hO1 hB1
    have hz := Hz.out
    by_cases h0 : j = 0
    · subst h0
      have hd : decide (z ≥ 0) = false := by simp; omega
      go_wp2_with (first
        | ((with_reducible change wpList _ _ _ (Oper.mk (some 12) _ _ _ _ _ :: _) _ _); refine kYw (yGeqK _ _ _ _ .i64 z 0 false hd rfl rfl rfl rfl) ?_; go_frame))
      go_ret
      exact ⟨_, rfl, hO, hB⟩
    · obtain ⟨p, rfl⟩ : ∃ p, j = p + 1 := ⟨j - 1, by omega⟩
      obtain rfl : z = (p : Int) := by omega
      clear hz Hz
      have hd : decide ((p : Int) ≥ 0) = true := by simp
      have hx := dat_lt dl p
      have hD := dval_drop l p
      have hle : dval (l.drop p) ≤ dval l := by rw [← dval_div dl]; exact Nat.div_le_self _ _
      obtain ⟨x, Hx⟩ : ∃ v_ : Nat, Hid (dat l p = v_) := ⟨_, Lib.hid rfl⟩
      obtain ⟨D, HD⟩ : ∃ v_ : Nat, Hid (dval (l.drop (p + 1)) = v_) := ⟨_, Lib.hid rfl⟩
      obtain ⟨D2, HD2⟩ : ∃ v_ : Nat, Hid (dval (l.drop p) = v_) := ⟨_, Lib.hid rfl⟩
      obtain ⟨hh, Hhh⟩ : ∃ v_ : Nat, Hid (x / 256 = v_) := ⟨_, Lib.hid rfl⟩
      obtain ⟨lo, Hlo⟩ : ∃ v_ : Nat, Hid (x % 256 = v_) := ⟨_, Lib.hid rfl⟩
      rw [Hx.out, HD.out, HD2.out] at hD
      rw [HD2.out] at hle
      rw [HD.out] at hO
      rw [Hx.out] at hx
      have hhl : hh < 256 := by have := Hhh.out; omega
      have hll : lo < 256 := by rw [← Hlo.out]; exact Nat.mod_lt _ (by decide)
      have hsum : D2 = 256 * (256 * D + hh) + lo := by have := Hhh.out; have := Hlo.out; omega
      have f19 : Hid (x / 256 = hh ∧ 0 < 256 ∧ IntKind.u64.wrap (x / 256 : Nat) = (x / 256 : Nat)) := Lib.hid ⟨Hhh.out, by decide, wrap_u64N (by omega)⟩
      have f20 : Hid (IntKind.u8.wrap (hh : Int) = (hh : Int)) := Lib.hid (by rw [IntKind.wrap_u8]; omega)
      have f25 : Hid (x % 256 = lo ∧ 0 < 256) := Lib.hid ⟨Hlo.out, by decide⟩
      have f26 : Hid (IntKind.u8.wrap (lo : Int) = (lo : Int)) := Lib.hid (by rw [IntKind.wrap_u8]; omega)
      have hat : (l.map VU)[p]? = some (VU x) := by rw [List.getElem?_map, dat_at (by omega), Hx.out]; rfl
      obtain ⟨b, rfl, hcell0⟩ := hj p _ hat
      have hcell := (hB.cell (block_lt_of_cell hcell0)).trans hcell0
      have hpN : p < N := by omega
      have hbD : byteN D2 ≤ 2000 := by have := byteN_mono hle; omega
      replace hle := Lib.hid hle
      replace hsum := Lib.hid hsum
      clear hcell0 hat hD hx Hx HD Hhh Hlo
      go_wp2_with (first
        | ((with_reducible change wpList _ _ _ (Oper.mk (some 12) _ _ _ _ _ :: _) _ _); refine kYw (yGeqK _ _ _ _ .i64 (p : Int) 0 true hd rfl rfl rfl rfl) ?_; go_frame))
      refine region_mixD [(0, true), (1, true), (2, true), (3, true), (4, true), (5, true), (6, true), (7, true), (8, true), (9, true), (10, true), (11, true), (14, true), (12, false), (13, true)] (fun q => q.cell? (b.add p) = some (VU x)) (by kernel_rfl) (by kernel_rfl) rfl ?_
      intro z hBd hsd; clear hsd
      simp only [List.map_cons, List.map_nil]
      dsimp only [List.filterMap, List.getElem?_cons_zero, List.getElem?_cons_succ]
      have hS : z.cell? (b.add p) = some (VU x) := (hBd.cell (block_lt_of_cell hcell)).trans hcell
      have hBz := hB.trans (hBd.mono hB.size)
      have hOz := hO.below hBd
      clear hB hO hBd hcell
      refine dY _ hS (yMove _ (.slice (some b) N c) rfl rfl rfl) ?_; go_frame
      refine dY _ hS (yMove _ (.int .i64 (p : Int)) rfl rfl rfl) ?_; go_frame
      refine dY _ hS (yIndexK _ _ _ _ b N c p Try.underlying35 info_u64W hpN rfl rfl rfl rfl) ?_; go_frame
      refine dY _ hS (yLoadK _ _ _ (VU x) _ (fun _ h => h) Try.underlying22 rfl rfl rfl rfl) ?_; go_frame
      refine dY _ hS (yQuoN .u64 _ _ _ _ x 256 hh f19.out rfl rfl rfl rfl) ?_; go_frame
      refine dY _ hS (yConvK Try.underlying22 Try.underlying5 _ (hh : Int) (hh : Int) f20.out rfl rfl rfl) ?_; go_frame
      refine dY _ hS (yMove _ (.slice (some b) N c) rfl rfl rfl) ?_; go_frame
      refine dY _ hS (yMove _ (.int .i64 (p : Int)) rfl rfl rfl) ?_; go_frame
      refine dY _ hS (yIndexK _ _ _ _ b N c p Try.underlying35 info_u64W hpN rfl rfl rfl rfl) ?_; go_frame
      refine dY _ hS (yLoadK _ _ _ (VU x) _ (fun _ h => h) Try.underlying22 rfl rfl rfl rfl) ?_; go_frame
      refine dY _ hS (yRemN .u64 _ _ _ _ x 256 lo f25.out rfl rfl rfl rfl) ?_; go_frame
      refine dY _ hS (yConvK Try.underlying22 Try.underlying5 _ (lo : Int) (lo : Int) f26.out rfl rfl rfl) ?_; go_frame
      refine dY _ hS (yMove _ (.int .i64 0) rfl rfl rfl) ?_; go_frame
      refine dLoud ?_
      refine kBuildSlice2 _ _ _ _ (.int .u8 (hh : Int)) (.int .u8 (lo : Int)) rfl rfl Try.underlying76 i8 _ hi8 hz8 hs8 rfl rfl rfl rfl ?_
      intro w2 hR2 hzz hB2; clear hzz
      have hS2 : w2.cell? (b.add p) = some (VU x) := (hB2.cell (block_lt_of_cell hS)).trans hS
      obtain ⟨gB, HgB⟩ : ∃ v_, z.heap.size = v_ := ⟨_, rfl⟩
      have hne0 := own_notNew hOz (Nat.le_of_eq HgB)
      rw [HgB] at hR2
      have hBw := hBz.trans (hB2.mono hBz.size)
      have hO2 := hOz.below hB2
      rw [HgB]
      clear hBz hOz hB2 HgB hS
      refine mixOn ⟨_, (fun _ h => h), hS2, ?_⟩
      go_frame
      refine dY _ hS2 (yLenK _ _ _ (some ⟨gB, 0, none⟩) 2 2 Try.underlying76 rfl rfl rfl) ?_; go_frame
      refine dDone ?_
      clear hS2
      obtain ⟨wo, hwo⟩ : ∃ wo : World, wo = wr := ⟨_, rfl⟩
      subst hwo
      go_wp2
      go_loopw [29, 3] (fun i u wq => ∃ k t : Nat, k ≤ 2 ∧ Hid (t = if k = 0 then D else if k = 1 then 256 * D + hh else 256 * (256 * D + hh) + lo) ∧ i = .int .i64 (k : Int) ∧ OwnB wq w.heap.size u (bytesL t) ∧ Below w.heap.size w wq ∧ (k < 2 → Row wq gB 5 #[.int .u8 (hh : Int), .int .u8 (lo : Int)]) ∧ (k = 0 → u.ownBlock ≠ some gB)) (fun i _ _ => 2 - (intOf i).toNat)
      case atStart => exact ⟨0, D, by omega, Lib.hid rfl, rfl, hO2, hBw, fun _ => hR2, fun _ => hne0⟩
      case round =>
        obtain ⟨k, t, hk2, Ht, rfl, hO, hB, hR, hne⟩ := hrel
        clear hO2 hBw hR2 hne0
        by_cases hlt : k < 2
        · have hd30 : decide ((k : Int) < 2) = true := by simp; omega
          have hR := hR hlt
          obtain ⟨c1, Hc1⟩ : ∃ c1, Hid (c1 = if k = 0 then hh else lo) := ⟨_, Lib.hid rfl⟩
          obtain ⟨t1, Ht1⟩ : ∃ t1, Hid (t1 = 256 * t + c1) := ⟨_, Lib.hid rfl⟩
          have hc1 : c1 < 256 := by rw [Hc1.out]; split <;> assumption
          have hV : IsVals wr (.slice (some ⟨gB, 0, none⟩) 2 2) [.int .u8 (hh : Int), .int .u8 (lo : Int)] := isVals_lit (l := [.int .u8 (hh : Int), .int .u8 (lo : Int)]) hR
          have hatk : [Value.int .u8 (hh : Int), .int .u8 (lo : Int)][k]? = some (.int .u8 (c1 : Int)) := by
            have := Hc1.out
            match k, hlt with
            | 0, _ => simp at this; simp [this]
            | 1, _ => simp at this; simp [this]
          have ht1 : Hid (t1 = if k + 1 = 0 then D else if k + 1 = 1 then 256 * D + hh else 256 * (256 * D + hh) + lo) := Lib.hid (by
            have h1 := Ht1.out; have h2 := Hc1.out; have h3 := Ht.out
            match k, hlt with
            | 0, _ => simp at h2 h3 ⊢; omega
            | 1, _ => simp at h2 h3 ⊢; omega)
          have htle : t ≤ D2 := by
            have h3 := Ht.out; have := hsum.out
            match k, hlt with
            | 0, _ => simp at h3; omega
            | 1, _ => simp at h3; omega
          have hbt := byteN_mono htle
          have hlb := bytesL_len t
          have hgBlt := hR.lt
          obtain ⟨Lb, HLb⟩ : ∃ v_ : Nat, Hid (byteN t = v_) := ⟨_, Lib.hid rfl⟩
          rw [HLb.out] at hbt hlb
          clear Ht Hc1 htle
          by_cases hpos : 0 < t
          · have d35 : decide ((Lb : Int) > 0) = true := by have := HLb.out; have := byteN_pos hpos; simp; omega
            go_wp2_with (first
              | ((with_reducible change wpList _ _ _ (Oper.mk (some 30) _ _ _ _ _ :: _) _ _); refine kYw (yLssK _ _ _ _ .i64 (k : Int) 2 true hd30 rfl rfl rfl rfl) ?_; go_frame)
              | ((with_reducible change wpList _ _ _ (Oper.mk (some 31) _ _ _ _ _ :: _) _ _); refine kIndexAddrV _ _ _ _ .i64 _ _ (k : Int) k (.int .u8 (c1 : Int)) rfl rfl rfl hV rfl Try.underlying76 info_b8P rfl hatk ?_; intro ba hba; go_frame)
              | ((with_reducible change wpList _ _ _ (Oper.mk (some 32) _ _ _ _ _ :: _) _ _); refine kLoadCell _ _ _ _ _ rfl rfl rfl hba Try.underlying5 rfl ?_; clear hba; go_frame)
              | ((with_reducible change wpList _ _ _ (Oper.mk (some 34) _ _ _ _ _ :: _) _ _); refine kLenN _ _ _ _ _ Lb rfl rfl rfl hO.vals (by rw [List.length_map, hlb]) Try.underlying76 ?_; go_frame)
              | ((with_reducible change wpList _ _ _ (Oper.mk (some 35) _ _ _ _ _ :: _) _ _); refine kYw (yGtrK _ _ _ _ .i64 (Lb : Int) 0 true d35 rfl rfl rfl rfl) ?_; go_frame)
              | ((with_reducible change wpList _ _ _ (Oper.mk (some 42) _ _ _ _ _ :: _) _ _); refine kBuildSlice1 _ _ _ (.int .u8 (c1 : Int)) rfl rfl Try.underlying76 i8 _ hi8 hz8 hs8 rfl rfl ?_; intro w5 hR5 hzz hB5; clear hzz; have hV5 := vals_one8 hc1 hR5; have hO5 := hO.below hB5; have hB6 := hB.trans (hB5.mono hB.size); have hR6 := hR.below hB5 hgBlt; clear hO hB hR hR5 hB5 hV; go_frame)
              | ((with_reducible change wpList _ _ _ (Oper.mk (some 43) _ _ _ _ _ :: _) _ _); refine kAppGw _ _ w.heap.size _ _ (bytesL t) [UInt8.ofNat c1] hO5 hV5 (by rw [hlb]; simp; omega) hB6.size rfl rfl rfl rfl ?_; intro v6 w6 hO6 hBq hgr; have hB7 := hB6.trans hBq; clear hO5 hV5 hBq; go_frame)
              | ((with_reducible change wpList _ _ _ (Oper.mk (some 44) _ _ _ _ _ :: _) _ _); refine kYw (yAddZ _ _ _ _ (k : Int) 1 ((k + 1 : Nat) : Int) (by omega) rfl rfl rfl rfl) ?_; go_frame))
            have hO7 : OwnB w6 w.heap.size v6 (bytesL t1) := by rw [Ht1.out, bytesL_more hc1 (by omega)]; exact hO6
            go_roundw
            case rel => exact ⟨k + 1, t1, by omega, ht1, rfl, hO7, hB7, fun h => (hgr.block gB hR6.lt (fun e => hne (by omega) e.symm)).trans hR6, fun h => absurd h (by omega)⟩
            case measure => simp [intOf]; omega
          have ht0 : t = 0 := by omega
          have d35 : decide ((Lb : Int) > 0) = false := by have := HLb.out; have := byteN_zero_iff.2 ht0; simp; omega
          by_cases hcp : 0 < c1
          · have d38 : decide ((c1 : Int) > 0) = true := by simp; omega
            go_wp2_with (first
              | ((with_reducible change wpList _ _ _ (Oper.mk (some 30) _ _ _ _ _ :: _) _ _); refine kYw (yLssK _ _ _ _ .i64 (k : Int) 2 true hd30 rfl rfl rfl rfl) ?_; go_frame)
              | ((with_reducible change wpList _ _ _ (Oper.mk (some 31) _ _ _ _ _ :: _) _ _); refine kIndexAddrV _ _ _ _ .i64 _ _ (k : Int) k (.int .u8 (c1 : Int)) rfl rfl rfl hV rfl Try.underlying76 info_b8P rfl hatk ?_; intro ba hba; go_frame)
              | ((with_reducible change wpList _ _ _ (Oper.mk (some 32) _ _ _ _ _ :: _) _ _); refine kLoadCell _ _ _ _ _ rfl rfl rfl hba Try.underlying5 rfl ?_; clear hba; go_frame)
              | ((with_reducible change wpList _ _ _ (Oper.mk (some 34) _ _ _ _ _ :: _) _ _); refine kLenN _ _ _ _ _ Lb rfl rfl rfl hO.vals (by rw [List.length_map, hlb]) Try.underlying76 ?_; go_frame)
              | ((with_reducible change wpList _ _ _ (Oper.mk (some 35) _ _ _ _ _ :: _) _ _); refine kYw (yGtrK _ _ _ _ .i64 (Lb : Int) 0 false d35 rfl rfl rfl rfl) ?_; go_frame)
              | ((with_reducible change wpList _ _ _ (Oper.mk (some 38) _ _ _ _ _ :: _) _ _); refine kYw (yGtrK _ _ _ _ .u8 (c1 : Int) 0 true d38 rfl rfl rfl rfl) ?_; go_frame)
              | ((with_reducible change wpList _ _ _ (Oper.mk (some 42) _ _ _ _ _ :: _) _ _); refine kBuildSlice1 _ _ _ (.int .u8 (c1 : Int)) rfl rfl Try.underlying76 i8 _ hi8 hz8 hs8 rfl rfl ?_; intro w5 hR5 hzz hB5; clear hzz; have hV5 := vals_one8 hc1 hR5; have hO5 := hO.below hB5; have hB6 := hB.trans (hB5.mono hB.size); have hR6 := hR.below hB5 hgBlt; clear hO hB hR hR5 hB5 hV; go_frame)
              | ((with_reducible change wpList _ _ _ (Oper.mk (some 43) _ _ _ _ _ :: _) _ _); refine kAppGw _ _ w.heap.size _ _ (bytesL t) [UInt8.ofNat c1] hO5 hV5 (by rw [hlb]; simp; omega) hB6.size rfl rfl rfl rfl ?_; intro v6 w6 hO6 hBq hgr; have hB7 := hB6.trans hBq; clear hO5 hV5 hBq; go_frame)
              | ((with_reducible change wpList _ _ _ (Oper.mk (some 44) _ _ _ _ _ :: _) _ _); refine kYw (yAddZ _ _ _ _ (k : Int) 1 ((k + 1 : Nat) : Int) (by omega) rfl rfl rfl rfl) ?_; go_frame))
            have hO7 : OwnB w6 w.heap.size v6 (bytesL t1) := by rw [Ht1.out, bytesL_more hc1 (by omega)]; exact hO6
            go_roundw
            case rel => exact ⟨k + 1, t1, by omega, ht1, rfl, hO7, hB7, fun h => (hgr.block gB hR6.lt (fun e => hne (by omega) e.symm)).trans hR6, fun h => absurd h (by omega)⟩
            case measure => simp [intOf]; omega
          · have d38 : decide ((c1 : Int) > 0) = false := by simp; omega
            go_wp2_with (first
              | ((with_reducible change wpList _ _ _ (Oper.mk (some 30) _ _ _ _ _ :: _) _ _); refine kYw (yLssK _ _ _ _ .i64 (k : Int) 2 true hd30 rfl rfl rfl rfl) ?_; go_frame)
              | ((with_reducible change wpList _ _ _ (Oper.mk (some 31) _ _ _ _ _ :: _) _ _); refine kIndexAddrV _ _ _ _ .i64 _ _ (k : Int) k (.int .u8 (c1 : Int)) rfl rfl rfl hV rfl Try.underlying76 info_b8P rfl hatk ?_; intro ba hba; go_frame)
              | ((with_reducible change wpList _ _ _ (Oper.mk (some 32) _ _ _ _ _ :: _) _ _); refine kLoadCell _ _ _ _ _ rfl rfl rfl hba Try.underlying5 rfl ?_; clear hba; go_frame)
              | ((with_reducible change wpList _ _ _ (Oper.mk (some 34) _ _ _ _ _ :: _) _ _); refine kLenN _ _ _ _ _ Lb rfl rfl rfl hO.vals (by rw [List.length_map, hlb]) Try.underlying76 ?_; go_frame)
              | ((with_reducible change wpList _ _ _ (Oper.mk (some 35) _ _ _ _ _ :: _) _ _); refine kYw (yGtrK _ _ _ _ .i64 (Lb : Int) 0 false d35 rfl rfl rfl rfl) ?_; go_frame)
              | ((with_reducible change wpList _ _ _ (Oper.mk (some 38) _ _ _ _ _ :: _) _ _); refine kYw (yGtrK _ _ _ _ .u8 (c1 : Int) 0 false d38 rfl rfl rfl rfl) ?_; go_frame)
              | ((with_reducible change wpList _ _ _ (Oper.mk (some 44) _ _ _ _ _ :: _) _ _); refine kYw (yAddZ _ _ _ _ (k : Int) 1 ((k + 1 : Nat) : Int) (by omega) rfl rfl rfl rfl) ?_; go_frame))
            have hO7 := hO
            rw [show t = t1 by have := Ht1.out; omega] at hO7
            go_roundw
            case rel => exact ⟨k + 1, t1, by omega, ht1, rfl, hO7, hB, fun _ => hR, fun h => absurd h (by omega)⟩
            case measure => simp [intOf]; omega
        · have hd30 : decide ((k : Int) < 2) = false := by simp; omega
          have hk : k = 2 := by omega
          have ht : t = D2 := by have h3 := Ht.out; have := hsum.out; subst hk; simp at h3; omega
          clear Ht hne hR
          go_wp2_with (first
            | ((with_reducible change wpList _ _ _ (Oper.mk (some 30) _ _ _ _ _ :: _) _ _); refine kYw (yLssK _ _ _ _ .i64 (k : Int) 2 false hd30 rfl rfl rfl rfl) ?_; go_frame)
            | ((with_reducible change wpList _ _ _ (Oper.mk (some 14) _ _ _ _ _ :: _) _ _); refine kYw (ySubZ _ _ _ _ (p : Int) 1 ((p : Int) - 1) (by omega) rfl rfl rfl rfl) ?_; go_frame))
          go_roundw
          case rel => exact ⟨p, _, by omega, Lib.hid rfl, rfl, by rw [HD2.out, ← ht]; exact hO, hB⟩
          case measure => first | (simp [intOf]; done) | (simp [intOf]; omega)
set_option maxRecDepth 100000 in
set_option maxHeartbeats 16000000 in
theorem qCompact_num {v : Value} {n k r : Nat} (w : World) (h : Num w v n k) (hk : k ≤ 1000) (hn : n < M256) (hr : compactN n = r) : Calls Try.prog 19 #[v] w (fun e w' => e = .returned (.int .u32 (r : Int)) ∧ Below w.heap.size w w') := by
  obtain ⟨L, HL⟩ : ∃ v_ : Nat, Hid (byteN n = v_) := ⟨_, Lib.hid rfl⟩
  have hL : L ≤ 32 := by rw [← HL.out]; exact byteN_max hn
  have hlen : ((bytesL n).map VB).length = L := by rw [List.length_map, bytesL_len, HL.out]
  have f11 : Hid (IntKind.u32.wrap (L : Int) = (L : Int)) := Lib.hid (wrap_u32N (by omega))
  have htop := topN_lt n
  have hp2 := preN_le n 2
  have hp1 := preN_le n 1
  have hp0 := preN_le n 0
  rw [show preN n (2 + 1) = topN n from preN_three n] at hp2
  go_enter Try.func19, Try.ntmps19
  go_wp2_with (first
    | (go_at_call 44; refine (qBytes_num _ h hk).mono ?_; rintro e w1 ⟨u, rfl, hO, hB⟩; go_frame)
    | ((with_reducible change wpList _ _ _ (Oper.mk (some 10) _ _ _ _ _ :: _) _ _); refine kLenN _ _ _ u _ L rfl rfl rfl hO.vals hlen Try.underlying76 ?_; go_frame)
    | ((with_reducible change wpList _ _ _ (Oper.mk (some 11) _ _ _ _ _ :: _) _ _); refine kYw (yConvK Try.underlying3 Try.underlying28 _ (L : Int) (L : Int) f11.out rfl rfl rfl) ?_; go_frame))
  have hV := hO.vals
  clear h hO f11
  go_loopw [6, 5] (fun i m wr => ∃ j q : Nat, j ≤ 3 ∧ Hid (preN n j = q) ∧ i = .int .i64 (j : Int) ∧ m = .int .u32 (q : Int) ∧ wr = w1) (fun i _ _ => 3 - (intOf i).toNat)
  case atStart => exact ⟨0, 0, by omega, Lib.hid (preN_zero n), rfl, rfl, rfl⟩
  case round =>
    obtain ⟨j, q, hj, Hq, rfl, rfl, rfl⟩ := hrel
    by_cases hlt : j < 3
    · have hd : decide ((j : Int) < 3) = true := by simp; omega
      have hq := Hq.out
      have hstep := preN_step n j
      have hnx : preN n (j + 1) < 16777216 := by
        match j, hlt with
        | 0, _ => simp at hp0 hp1 ⊢; omega
        | 1, _ => simp at hp1 ⊢; omega
        | 2, _ => rw [show preN n (2 + 1) = topN n from preN_three n]; exact htop
      obtain ⟨q1, Hq1⟩ : ∃ v_ : Nat, Hid (256 * q = v_) := ⟨_, Lib.hid rfl⟩
      obtain ⟨q2, Hq2⟩ : ∃ v_ : Nat, Hid (preN n (j + 1) = v_) := ⟨_, Lib.hid rfl⟩
      rw [Hq2.out] at hnx hstep
      rw [hq, Hq1.out, HL.out] at hstep
      have f17 : Hid (256 * q = q1 ∧ q1 < 4294967296) := Lib.hid ⟨Hq1.out, by omega⟩
      by_cases hjl : j < L
      · have hd21 : decide ((j : Int) < (L : Int)) = true := by simp; omega
        rw [if_pos hjl] at hstep
        obtain ⟨c, Hc⟩ : ∃ v_ : Nat, Hid (n / 256 ^ (L - 1 - j) % 256 = v_) := ⟨_, Lib.hid rfl⟩
        rw [Hc.out] at hstep
        have hat : ((bytesL n).map VB)[j]? = some (.int .u8 (c : Int)) := by rw [bytesL_at (by rw [HL.out]; exact hjl), HL.out, Hc.out]
        have hc : c < 256 := by rw [← Hc.out]; exact Nat.mod_lt _ (by decide)
        have f27 : Hid (IntKind.u32.wrap (c : Int) = (c : Int)) := Lib.hid (wrap_u32N (by omega))
        have f28 : Hid (q1 + c = q2 ∧ q2 < 4294967296) := Lib.hid ⟨hstep.symm, by omega⟩
        clear hq hstep Hc
        go_wp2_with (first
          | ((with_reducible change wpList _ _ _ (Oper.mk (some 13) _ _ _ _ _ :: _) _ _); refine kYw (yLssK _ _ _ _ .i64 (j : Int) 3 true hd rfl rfl rfl rfl) ?_; go_frame)
          | ((with_reducible change wpList _ _ _ (Oper.mk (some 17) _ _ _ _ _ :: _) _ _); refine kYw (yMulWk _ _ _ _ 256 q q1 f17.out rfl rfl rfl rfl) ?_; go_frame)
          | ((with_reducible change wpList _ _ _ (Oper.mk (some 20) _ _ _ _ _ :: _) _ _); refine kLenN _ _ _ u _ L rfl rfl rfl hV hlen Try.underlying76 ?_; go_frame)
          | ((with_reducible change wpList _ _ _ (Oper.mk (some 21) _ _ _ _ _ :: _) _ _); refine kYw (yLssK _ _ _ _ .i64 (j : Int) (L : Int) true hd21 rfl rfl rfl rfl) ?_; go_frame)
          | ((with_reducible change wpList _ _ _ (Oper.mk (some 25) _ _ _ _ _ :: _) _ _); refine kIndexAddrV _ _ _ _ .i64 _ _ (j : Int) j (.int .u8 (c : Int)) rfl rfl rfl hV rfl Try.underlying76 info_b8P rfl hat ?_; intro ba hba; go_frame)
          | ((with_reducible change wpList _ _ _ (Oper.mk (some 26) _ _ _ _ _ :: _) _ _); refine kLoadCell _ _ _ _ _ rfl rfl rfl hba Try.underlying5 rfl ?_; clear hba; go_frame)
          | ((with_reducible change wpList _ _ _ (Oper.mk (some 27) _ _ _ _ _ :: _) _ _); refine kYw (yConvK Try.underlying5 Try.underlying28 _ (c : Int) (c : Int) f27.out rfl rfl rfl) ?_; go_frame)
          | ((with_reducible change wpList _ _ _ (Oper.mk (some 28) _ _ _ _ _ :: _) _ _); refine kYw (yAddWk _ _ _ _ q1 c q2 f28.out rfl rfl rfl rfl) ?_; go_frame)
          | ((with_reducible change wpList _ _ _ (Oper.mk (some 15) _ _ _ _ _ :: _) _ _); refine kYw (yAddZ _ _ _ _ (j : Int) 1 ((j + 1 : Nat) : Int) (by omega) rfl rfl rfl rfl) ?_; go_frame))
        go_roundw
        case rel => exact ⟨j + 1, q2, by omega, Hq2, rfl, rfl, by first | rfl | trivial⟩
        case measure => simp [intOf]; omega
      · have hd21 : decide ((j : Int) < (L : Int)) = false := by simp; omega
        rw [if_neg hjl, Nat.add_zero] at hstep
        replace Hq2 := Lib.hid (Hq2.out.trans hstep)
        clear hq hstep
        go_wp2_with (first
          | ((with_reducible change wpList _ _ _ (Oper.mk (some 13) _ _ _ _ _ :: _) _ _); refine kYw (yLssK _ _ _ _ .i64 (j : Int) 3 true hd rfl rfl rfl rfl) ?_; go_frame)
          | ((with_reducible change wpList _ _ _ (Oper.mk (some 17) _ _ _ _ _ :: _) _ _); refine kYw (yMulWk _ _ _ _ 256 q q1 f17.out rfl rfl rfl rfl) ?_; go_frame)
          | ((with_reducible change wpList _ _ _ (Oper.mk (some 20) _ _ _ _ _ :: _) _ _); refine kLenN _ _ _ u _ L rfl rfl rfl hV hlen Try.underlying76 ?_; go_frame)
          | ((with_reducible change wpList _ _ _ (Oper.mk (some 21) _ _ _ _ _ :: _) _ _); refine kYw (yLssK _ _ _ _ .i64 (j : Int) (L : Int) false hd21 rfl rfl rfl rfl) ?_; go_frame)
          | ((with_reducible change wpList _ _ _ (Oper.mk (some 15) _ _ _ _ _ :: _) _ _); refine kYw (yAddZ _ _ _ _ (j : Int) 1 ((j + 1 : Nat) : Int) (by omega) rfl rfl rfl rfl) ?_; go_frame))
        go_roundw
        case rel => exact ⟨j + 1, _, by omega, Hq2, rfl, rfl, by first | rfl | trivial⟩
        case measure => simp [intOf]; omega
    · have hd : decide ((j : Int) < 3) = false := by simp; omega
      have hj3 : j = 3 := by omega
      have hq := Hq.out
      rw [hj3, preN_three] at hq
      rw [hq] at htop
      unfold compactN at hr
      rw [hq, HL.out] at hr
      clear hp0 hp1 hp2 Hq
      by_cases hs : q < 8388608
      · have d30 : decide ((q : Int) ≥ 8388608) = false := by simp; omega
        rw [if_pos hs] at hr
        obtain ⟨m, Hm⟩ : ∃ v_ : Nat, Hid (16777216 * L = v_) := ⟨_, Lib.hid rfl⟩
        have f37 : Hid (16777216 * L = m ∧ m < 4294967296) := Lib.hid ⟨Hm.out, by have := Hm.out; omega⟩
        have f38 : Hid (q + m = r ∧ r < 4294967296) := Lib.hid ⟨by rw [← Hm.out, hr], by omega⟩
        clear hq hr Hm
        go_wp2_with (first
          | ((with_reducible change wpList _ _ _ (Oper.mk (some 13) _ _ _ _ _ :: _) _ _); refine kYw (yLssK _ _ _ _ .i64 (j : Int) 3 false hd rfl rfl rfl rfl) ?_; go_frame)
          | ((with_reducible change wpList _ _ _ (Oper.mk (some 30) _ _ _ _ _ :: _) _ _); refine kYw (yGeqK _ _ _ _ .u32 (q : Int) 8388608 false d30 rfl rfl rfl rfl) ?_; go_frame)
          | ((with_reducible change wpList _ _ _ (Oper.mk (some 37) _ _ _ _ _ :: _) _ _); refine kYw (yMulWk _ _ _ _ 16777216 L m f37.out rfl rfl rfl rfl) ?_; go_frame)
          | ((with_reducible change wpList _ _ _ (Oper.mk (some 38) _ _ _ _ _ :: _) _ _); refine kYw (yAddWk _ _ _ _ q m r f38.out rfl rfl rfl rfl) ?_; go_frame))
        go_ret
        exact ⟨rfl, hB⟩
      · have d30 : decide ((q : Int) ≥ 8388608) = true := by simp; omega
        rw [if_neg hs] at hr
        obtain ⟨q3, Hq3⟩ : ∃ v_ : Nat, Hid (q / 256 = v_) := ⟨_, Lib.hid rfl⟩
        obtain ⟨L2, HL2⟩ : ∃ v_ : Nat, Hid (L + 1 = v_) := ⟨_, Lib.hid rfl⟩
        obtain ⟨m, Hm⟩ : ∃ v_ : Nat, Hid (16777216 * L2 = v_) := ⟨_, Lib.hid rfl⟩
        have f32 : Hid (q / 256 = q3 ∧ 0 < 256 ∧ IntKind.u32.wrap (q / 256 : Nat) = (q / 256 : Nat)) := Lib.hid ⟨Hq3.out, by decide, wrap_u32N (by omega)⟩
        have f34 : Hid (L + 1 = L2 ∧ L2 < 4294967296) := Lib.hid ⟨HL2.out, by have := HL2.out; omega⟩
        have f37 : Hid (16777216 * L2 = m ∧ m < 4294967296) := Lib.hid ⟨Hm.out, by have := Hm.out; have := HL2.out; omega⟩
        have f38 : Hid (q3 + m = r ∧ r < 4294967296) := Lib.hid ⟨by rw [← Hm.out, ← HL2.out, ← Hq3.out, hr], by have := Hm.out; have := HL2.out; have := Hq3.out; omega⟩
        clear hq hr Hm Hq3 HL2
        go_wp2_with (first
          | ((with_reducible change wpList _ _ _ (Oper.mk (some 13) _ _ _ _ _ :: _) _ _); refine kYw (yLssK _ _ _ _ .i64 (j : Int) 3 false hd rfl rfl rfl rfl) ?_; go_frame)
          | ((with_reducible change wpList _ _ _ (Oper.mk (some 30) _ _ _ _ _ :: _) _ _); refine kYw (yGeqK _ _ _ _ .u32 (q : Int) 8388608 true d30 rfl rfl rfl rfl) ?_; go_frame)
          | ((with_reducible change wpList _ _ _ (Oper.mk (some 32) _ _ _ _ _ :: _) _ _); refine kYw (yQuoN .u32 _ _ _ _ q 256 q3 f32.out rfl rfl rfl rfl) ?_; go_frame)
          | ((with_reducible change wpList _ _ _ (Oper.mk (some 34) _ _ _ _ _ :: _) _ _); refine kYw (yAddWk _ _ _ _ L 1 L2 f34.out rfl rfl rfl rfl) ?_; go_frame)
          | ((with_reducible change wpList _ _ _ (Oper.mk (some 37) _ _ _ _ _ :: _) _ _); refine kYw (yMulWk _ _ _ _ 16777216 L2 m f37.out rfl rfl rfl rfl) ?_; go_frame)
          | ((with_reducible change wpList _ _ _ (Oper.mk (some 38) _ _ _ _ _ :: _) _ _); refine kYw (yAddWk _ _ _ _ q3 m r f38.out rfl rfl rfl rfl) ?_; go_frame))
        go_ret
        exact ⟨rfl, hB⟩
end Go.Proofs.Ytdeggdmoijfhdaa

/-
  Layer 12: the reference: Work and Next.
-/
namespace Go.Proofs.Ytdeggdmoijfhdaa
open Go Go.RowKit

theorem qExpand_bad {b : Nat} (hb : b < 4294967296) (h : badN b) (w : World) : Calls Try.prog 15 #[.int .u32 (b : Int)] w (fun e w' => ∃ v, e = .returned (.tuple #[v, .int .i64 121]) ∧ Num w' v 0 0 ∧ Below w.heap.size w w') :=
  (qExpand_any hb w).mono fun _ _ ⟨v, hB, hc⟩ => by
    rcases hc with ⟨-, e, hN⟩ | ⟨hn, -, -⟩
    · exact ⟨v, e, hN, hB⟩
    · exact absurd h hn
theorem qExpand_ok {b t : Nat} (hb : b < 4294967296) (h : ¬ badN b) (ht : rawN b = t) (w : World) : Calls Try.prog 15 #[.int .u32 (b : Int)] w (fun e w' => ∃ v, e = .returned (.tuple #[v, .int .i64 0]) ∧ Num w' v t 34 ∧ Below w.heap.size w w') :=
  (qExpand_any hb w).mono fun _ _ ⟨v, hB, hc⟩ => by
    subst ht
    rcases hc with ⟨hn, -, -⟩ | ⟨-, e, hN⟩
    · exact absurd hn h
    · exact ⟨v, e, hN, hB⟩
/-- 2 to the power of 256, in digits -/
theorem pow_256 {w : World} {v : Value} {m : Nat} (h : Num w v (2 ^ m) (m / 16 + 1)) (hm : m = 256) : Num w v M256 17 := by subst hm; exact h
set_option maxRecDepth 100000 in
set_option maxHeartbeats 16000000 in
theorem qWork_num {b r : Nat} (hb : b < 4294967296) (hr : workN b = r) (w : World) : Calls Try.prog 18 #[.int .u32 (b : Int)] w (NumPost w r 17) := by
  by_cases h : badN b
  · have hr : r = 0 := by rw [← hr]; exact work_bad h
    subst hr
    go_enter Try.func18, Try.ntmps18
    go_wp2_with (first
      | (go_at_call 15; refine (qExpand_bad hb h _).mono ?_; rintro e w1 ⟨v1, rfl, N1, hB1⟩; go_frame)
      | ((with_reducible change wpList _ _ _ (Oper.mk (some 13) _ _ _ _ _ :: _) _ _); refine kYw (yNeqK _ _ _ _ .i64 121 0 true rfl rfl rfl rfl rfl) ?_; go_frame)
      | ((with_reducible change wpList _ _ _ (Oper.mk (some 14) _ _ _ _ _ :: _) _ _); refine kDigN0 rfl rfl ?_; intro w2 v2 N2 hB2; have hB3 := hB1.trans (hB2.mono hB1.size); go_frame))
    go_ret
    exact ⟨_, rfl, N2.more (by decide), hB3⟩
  · obtain ⟨t, Ht⟩ : ∃ v_ : Nat, Hid (rawN b = v_) := ⟨_, Lib.hid rfl⟩
    have hm : ∃ m : Nat, Hid (m = 256) := ⟨_, Lib.hid rfl⟩
    obtain ⟨m, Hm⟩ := hm
    obtain ⟨P, HP⟩ : ∃ P, Hid (M256 = P) := ⟨_, Lib.hid rfl⟩
    have hq : P / (t + 1) = r := by rw [← HP.out, ← Ht.out, ← hr, work_ok h]; rfl
    have f16 : Hid (m ≤ 1000 ∧ (256 : Int) = (m : Int)) := Lib.hid ⟨by rw [Hm.out]; decide, by rw [Hm.out]; rfl⟩
    have hP : ∀ w, Calls Try.prog 42 #[.int .i64 256] w (NumPost w P 17) := fun w => by
      have := dPower_num m f16.out.1 w
      rw [← f16.out.2] at this
      refine this.mono fun _ _ ⟨v, e, hN, hB⟩ => ⟨v, e, by rw [← HP.out]; exact pow_256 hN Hm.out, hB⟩
    clear f16 HP hr
    go_enter Try.func18, Try.ntmps18
    go_wp2_with (first
      | (go_at_call 15; refine (qExpand_ok hb h Ht.out _).mono ?_; rintro e w1 ⟨v1, rfl, N1, hB1⟩; go_frame)
      | ((with_reducible change wpList _ _ _ (Oper.mk (some 13) _ _ _ _ _ :: _) _ _); refine kYw (yNeqK _ _ _ _ .i64 0 0 false rfl rfl rfl rfl rfl) ?_; go_frame)
      | (go_at_call 42; refine (hP _).mono ?_; rintro e w2 ⟨v2, rfl, N2, hB2⟩; have N3 := N1.below hB2; have hB3 := hB1.trans (hB2.mono hB1.size); clear N1 hB1 hB2; go_frame)
      | ((with_reducible change wpList _ _ _ (Oper.mk (some 18) _ _ _ _ _ :: _) _ _); refine kDigN1 _ 1 (by decide) rfl rfl rfl ?_; intro w4 v4 N4 hB4; have N5 := N3.below hB4; have N6 := N2.below hB4; have hB5 := hB3.trans (hB4.mono hB3.size); clear N3 N2 hB3 hB4; go_frame)
      | (go_at_call 43; refine (dAdd_num N5 N4 (by decide) (by decide)).mono ?_; rintro e w7 ⟨v7, rfl, N7, hB7⟩; have N8 := N6.below hB7; have hB8 := hB5.trans (hB7.mono hB5.size); clear N5 N4 N6 hB5 hB7; go_frame)
      | (go_at_call 41; refine (dDiv_num N8 N7 (by decide) (by decide) (Nat.succ_pos _) hq).mono ?_; rintro e w9 ⟨v9, v10, rfl, N9, hB9⟩; have hB10 := hB8.trans (hB9.mono hB8.size); clear N8 N7 hB8 hB9; go_frame))
    go_ret
    exact ⟨_, rfl, N9, hB10⟩
set_option maxRecDepth 100000 in
set_option maxHeartbeats 16000000 in
theorem qNext_num {b f l r : Nat} (hb : b < 4294967296) (hf : f < 4294967296) (hl : l < 4294967296) (hr : nextN b f l = r) (w : World) : Calls Try.prog 21 #[.int .u32 (b : Int), .int .u32 (f : Int), .int .u32 (l : Int)] w (fun e w' => e = .returned (.int .u32 (r : Int)) ∧ Below w.heap.size w w') := by
  by_cases h : badN b
  · have hr : r = 545259519 := by rw [← hr]; exact next_bad f l h
    subst hr
    go_enter Try.func21, Try.ntmps21
    go_wp2_with (first
      | (go_at_call 15; refine (qExpand_bad hb h _).mono ?_; rintro e w1 ⟨v1, rfl, N1, hB1⟩; go_frame)
      | ((with_reducible change wpList _ _ _ (Oper.mk (some 18) _ _ _ _ _ :: _) _ _); refine kYw (yNeqK _ _ _ _ .i64 121 0 true rfl rfl rfl rfl rfl) ?_; go_frame))
    go_ret
    exact ⟨rfl, hB1⟩
  · obtain ⟨t, Ht⟩ : ∃ v_ : Nat, Hid (rawN b = v_) := ⟨_, Lib.hid rfl⟩
    obtain ⟨s, Hs⟩ : ∃ v_ : Nat, Hid (spanN f l = v_) := ⟨_, Lib.hid rfl⟩
    obtain ⟨d, Hd⟩ : ∃ v_ : Int, Hid ((l : Int) - (f : Int) = v_) := ⟨_, Lib.hid rfl⟩
    obtain ⟨Y, HY⟩ : ∃ v_ : Nat, Hid (easyN = v_) := ⟨_, Lib.hid rfl⟩
    obtain ⟨p, Hp⟩ : ∃ v_ : Nat, Hid (t * s / 4200 = v_) := ⟨_, Lib.hid rfl⟩
    have hs : 1050 ≤ s ∧ s ≤ 16800 := by rw [← Hs.out]; exact span_le f l
    have hd := Hd.out
    have htl := (not_bad h).2.2
    have f20 : Hid (IntKind.i64.wrap (l : Int) = (l : Int)) := Lib.hid (wrap_i64N (by omega))
    have f22 : Hid (IntKind.i64.wrap (f : Int) = (f : Int)) := Lib.hid (wrap_i64N (by omega))
    have f23 : Hid ((l : Int) - (f : Int) = d ∧ -9223372036854775808 ≤ d ∧ d < 9223372036854775808) := Lib.hid (by omega)
    have f31 : Hid (IntKind.u64.wrap (s : Int) = (s : Int)) := Lib.hid (wrap_u64N (by omega))
    have hcase : (d < 1050 ∧ s = 1050) ∨ (¬ d < 1050 ∧ d > 16800 ∧ s = 16800) ∨ (¬ d < 1050 ∧ ¬ d > 16800 ∧ d = (s : Int)) := by
      have := Hs.out; unfold spanN at this
      split at this
      · left; omega
      · split at this <;> omega
    obtain ⟨x, Hx⟩ : ∃ x, Hid (x = min p Y) := ⟨_, Lib.hid rfl⟩
    have hxr : compactN x = r := by rw [← hr, Hx.out, ← Hp.out, ← HY.out, ← Hs.out, ← Ht.out]; unfold nextN nextT; rw [if_neg h]
    have hxM : x < M256 := by rw [Hx.out, ← HY.out]; exact Nat.lt_of_le_of_lt (Nat.min_le_right _ _) easy_lt
    have hsl : s < 65536 := by omega
    have HC : ∃ C : Int, Hid (cmpI p Y = C) := ⟨_, Lib.hid rfl⟩
    obtain ⟨C, HC⟩ := HC
    clear hd Hd Hs htl hr hs
    by_cases ho : Y < p
    · have d41 : decide (C > 0) = true := by rw [← HC.out, cmp_pos]; exact decide_eq_true ho
      have hxe : Y = x := by rw [Hx.out, Nat.min_eq_right (Nat.le_of_lt ho)]
      rcases hcase with ⟨h1, h2⟩ | ⟨h1, h2, h3⟩ | ⟨h1, h2, h3⟩
      · have d25 : decide (d < 1050) = true := decide_eq_true h1
        have d27 : decide ((1050 : Int) > 16800) = false := rfl
        have c31 : IntKind.u64.wrap 1050 = (s : Int) := by rw [← f31.out, h2]; rfl
        go_enter Try.func21, Try.ntmps21
        go_wp2_with (first
          | (go_at_call 15; refine (qExpand_ok hb h Ht.out _).mono ?_; rintro e w1 ⟨v1, rfl, N1, hB1⟩; go_frame)
          | ((with_reducible change wpList _ _ _ (Oper.mk (some 18) _ _ _ _ _ :: _) _ _); refine kYw (yNeqK _ _ _ _ .i64 0 0 false rfl rfl rfl rfl rfl) ?_; go_frame)
          | ((with_reducible change wpList _ _ _ (Oper.mk (some 20) _ _ _ _ _ :: _) _ _); refine kYw (yConvK Try.underlying28 Try.underlying2 _ (l : Int) (l : Int) f20.out rfl rfl rfl) ?_; go_frame)
          | ((with_reducible change wpList _ _ _ (Oper.mk (some 22) _ _ _ _ _ :: _) _ _); refine kYw (yConvK Try.underlying28 Try.underlying2 _ (f : Int) (f : Int) f22.out rfl rfl rfl) ?_; go_frame)
          | ((with_reducible change wpList _ _ _ (Oper.mk (some 23) _ _ _ _ _ :: _) _ _); refine kYw (ySubZ _ _ _ _ (l : Int) (f : Int) d f23.out rfl rfl rfl rfl) ?_; go_frame)
          | ((with_reducible change wpList _ _ _ (Oper.mk (some 25) _ _ _ _ _ :: _) _ _); refine kYw (yLssK _ _ _ _ .i64 d 1050 true d25 rfl rfl rfl rfl) ?_; go_frame)
          | ((with_reducible change wpList _ _ _ (Oper.mk (some 27) _ _ _ _ _ :: _) _ _); refine kYw (yGtrK _ _ _ _ .i64 1050 16800 false d27 rfl rfl rfl rfl) ?_; go_frame)
          | ((with_reducible change wpList _ _ _ (Oper.mk (some 31) _ _ _ _ _ :: _) _ _); refine kYw (yConvK Try.underlying2 Try.underlying22 _ 1050 (s : Int) c31 rfl rfl rfl) ?_; go_frame)
          | ((with_reducible change wpList _ _ _ (Oper.mk (some 32) _ _ _ _ _ :: _) _ _); refine kDigN1 _ s hsl rfl rfl rfl ?_; intro w2 v2 N2 hB2; have N3 := N1.below hB2; have hB3 := hB1.trans (hB2.mono hB1.size); clear N1 hB1 hB2; go_frame)
          | (go_at_call 45; refine (dMul_num N3 N2 (by decide) (by decide)).mono ?_; rintro e w4 ⟨v4, rfl, N4, hB4⟩; have hB5 := hB3.trans (hB4.mono hB3.size); clear N3 N2 hB3 hB4; go_frame)
          | ((with_reducible change wpList _ _ _ (Oper.mk (some 34) _ _ _ _ _ :: _) _ _); refine kDigN1 _ 4200 (by decide) rfl rfl rfl ?_; intro w6 v6 N6 hB6; have N7 := N4.below hB6; have hB7 := hB5.trans (hB6.mono hB5.size); clear N4 hB5 hB6; go_frame)
          | (go_at_call 41; refine (dDiv_num N7 N6 (by decide) (by decide) (by decide) Hp.out).mono ?_; rintro e w8 ⟨v8, v9, rfl, N8, hB8⟩; have hB9 := hB7.trans (hB8.mono hB7.size); clear N7 N6 hB7 hB8; go_frame)
          | (go_at_call 38; refine (qEasiest_num HY.out _).mono ?_; rintro e w10 ⟨v10, rfl, N10, hB10⟩; have N11 := N8.below hB10; have hB11 := hB9.trans (hB10.mono hB9.size); clear N8 hB9 hB10; go_frame)
          | (go_at_call 37; refine (dCompare_r N11 N10 (by decide) (by decide) HC.out).mono ?_; rintro e w12 ⟨rfl, rfl⟩; go_frame)
          | ((with_reducible change wpList _ _ _ (Oper.mk (some 41) _ _ _ _ _ :: _) _ _); refine kYw (yGtrK _ _ _ _ .i64 C 0 true d41 rfl rfl rfl rfl) ?_; go_frame)
          | (go_at_call 38; refine (qEasiest_num HY.out _).mono ?_; rintro e w13 ⟨v13, rfl, N13, hB13⟩; have hB14 := hB11.trans (hB13.mono hB11.size); have N14 : Num _ _ x 31 := hxe ▸ N13; clear N11 hB11 hB13 N13; go_frame)
          | (go_at_call 19; refine (qCompact_num _ (N14) (by decide) hxM hxr).mono ?_; rintro e w15 ⟨rfl, hB15⟩; have hB16 := hB14.trans (hB15.mono hB14.size); go_frame))
        go_ret
        exact ⟨rfl, hB16⟩
      · have d25 : decide (d < 1050) = false := decide_eq_false h1
        have d27 : decide (d > 16800) = true := decide_eq_true h2
        have c31 : IntKind.u64.wrap 16800 = (s : Int) := by rw [← f31.out, h3]; rfl
        go_enter Try.func21, Try.ntmps21
        go_wp2_with (first
          | (go_at_call 15; refine (qExpand_ok hb h Ht.out _).mono ?_; rintro e w1 ⟨v1, rfl, N1, hB1⟩; go_frame)
          | ((with_reducible change wpList _ _ _ (Oper.mk (some 18) _ _ _ _ _ :: _) _ _); refine kYw (yNeqK _ _ _ _ .i64 0 0 false rfl rfl rfl rfl rfl) ?_; go_frame)
          | ((with_reducible change wpList _ _ _ (Oper.mk (some 20) _ _ _ _ _ :: _) _ _); refine kYw (yConvK Try.underlying28 Try.underlying2 _ (l : Int) (l : Int) f20.out rfl rfl rfl) ?_; go_frame)
          | ((with_reducible change wpList _ _ _ (Oper.mk (some 22) _ _ _ _ _ :: _) _ _); refine kYw (yConvK Try.underlying28 Try.underlying2 _ (f : Int) (f : Int) f22.out rfl rfl rfl) ?_; go_frame)
          | ((with_reducible change wpList _ _ _ (Oper.mk (some 23) _ _ _ _ _ :: _) _ _); refine kYw (ySubZ _ _ _ _ (l : Int) (f : Int) d f23.out rfl rfl rfl rfl) ?_; go_frame)
          | ((with_reducible change wpList _ _ _ (Oper.mk (some 25) _ _ _ _ _ :: _) _ _); refine kYw (yLssK _ _ _ _ .i64 d 1050 false d25 rfl rfl rfl rfl) ?_; go_frame)
          | ((with_reducible change wpList _ _ _ (Oper.mk (some 27) _ _ _ _ _ :: _) _ _); refine kYw (yGtrK _ _ _ _ .i64 d 16800 true d27 rfl rfl rfl rfl) ?_; go_frame)
          | ((with_reducible change wpList _ _ _ (Oper.mk (some 31) _ _ _ _ _ :: _) _ _); refine kYw (yConvK Try.underlying2 Try.underlying22 _ 16800 (s : Int) c31 rfl rfl rfl) ?_; go_frame)
          | ((with_reducible change wpList _ _ _ (Oper.mk (some 32) _ _ _ _ _ :: _) _ _); refine kDigN1 _ s hsl rfl rfl rfl ?_; intro w2 v2 N2 hB2; have N3 := N1.below hB2; have hB3 := hB1.trans (hB2.mono hB1.size); clear N1 hB1 hB2; go_frame)
          | (go_at_call 45; refine (dMul_num N3 N2 (by decide) (by decide)).mono ?_; rintro e w4 ⟨v4, rfl, N4, hB4⟩; have hB5 := hB3.trans (hB4.mono hB3.size); clear N3 N2 hB3 hB4; go_frame)
          | ((with_reducible change wpList _ _ _ (Oper.mk (some 34) _ _ _ _ _ :: _) _ _); refine kDigN1 _ 4200 (by decide) rfl rfl rfl ?_; intro w6 v6 N6 hB6; have N7 := N4.below hB6; have hB7 := hB5.trans (hB6.mono hB5.size); clear N4 hB5 hB6; go_frame)
          | (go_at_call 41; refine (dDiv_num N7 N6 (by decide) (by decide) (by decide) Hp.out).mono ?_; rintro e w8 ⟨v8, v9, rfl, N8, hB8⟩; have hB9 := hB7.trans (hB8.mono hB7.size); clear N7 N6 hB7 hB8; go_frame)
          | (go_at_call 38; refine (qEasiest_num HY.out _).mono ?_; rintro e w10 ⟨v10, rfl, N10, hB10⟩; have N11 := N8.below hB10; have hB11 := hB9.trans (hB10.mono hB9.size); clear N8 hB9 hB10; go_frame)
          | (go_at_call 37; refine (dCompare_r N11 N10 (by decide) (by decide) HC.out).mono ?_; rintro e w12 ⟨rfl, rfl⟩; go_frame)
          | ((with_reducible change wpList _ _ _ (Oper.mk (some 41) _ _ _ _ _ :: _) _ _); refine kYw (yGtrK _ _ _ _ .i64 C 0 true d41 rfl rfl rfl rfl) ?_; go_frame)
          | (go_at_call 38; refine (qEasiest_num HY.out _).mono ?_; rintro e w13 ⟨v13, rfl, N13, hB13⟩; have hB14 := hB11.trans (hB13.mono hB11.size); have N14 : Num _ _ x 31 := hxe ▸ N13; clear N11 hB11 hB13 N13; go_frame)
          | (go_at_call 19; refine (qCompact_num _ (N14) (by decide) hxM hxr).mono ?_; rintro e w15 ⟨rfl, hB15⟩; have hB16 := hB14.trans (hB15.mono hB14.size); go_frame))
        go_ret
        exact ⟨rfl, hB16⟩
      · have d25 : decide (d < 1050) = false := decide_eq_false h1
        have d27 : decide (d > 16800) = false := decide_eq_false h2
        have c31 : IntKind.u64.wrap d = (s : Int) := by rw [h3]; exact f31.out
        go_enter Try.func21, Try.ntmps21
        go_wp2_with (first
          | (go_at_call 15; refine (qExpand_ok hb h Ht.out _).mono ?_; rintro e w1 ⟨v1, rfl, N1, hB1⟩; go_frame)
          | ((with_reducible change wpList _ _ _ (Oper.mk (some 18) _ _ _ _ _ :: _) _ _); refine kYw (yNeqK _ _ _ _ .i64 0 0 false rfl rfl rfl rfl rfl) ?_; go_frame)
          | ((with_reducible change wpList _ _ _ (Oper.mk (some 20) _ _ _ _ _ :: _) _ _); refine kYw (yConvK Try.underlying28 Try.underlying2 _ (l : Int) (l : Int) f20.out rfl rfl rfl) ?_; go_frame)
          | ((with_reducible change wpList _ _ _ (Oper.mk (some 22) _ _ _ _ _ :: _) _ _); refine kYw (yConvK Try.underlying28 Try.underlying2 _ (f : Int) (f : Int) f22.out rfl rfl rfl) ?_; go_frame)
          | ((with_reducible change wpList _ _ _ (Oper.mk (some 23) _ _ _ _ _ :: _) _ _); refine kYw (ySubZ _ _ _ _ (l : Int) (f : Int) d f23.out rfl rfl rfl rfl) ?_; go_frame)
          | ((with_reducible change wpList _ _ _ (Oper.mk (some 25) _ _ _ _ _ :: _) _ _); refine kYw (yLssK _ _ _ _ .i64 d 1050 false d25 rfl rfl rfl rfl) ?_; go_frame)
          | ((with_reducible change wpList _ _ _ (Oper.mk (some 27) _ _ _ _ _ :: _) _ _); refine kYw (yGtrK _ _ _ _ .i64 d 16800 false d27 rfl rfl rfl rfl) ?_; go_frame)
          | ((with_reducible change wpList _ _ _ (Oper.mk (some 31) _ _ _ _ _ :: _) _ _); refine kYw (yConvK Try.underlying2 Try.underlying22 _ d (s : Int) c31 rfl rfl rfl) ?_; go_frame)
          | ((with_reducible change wpList _ _ _ (Oper.mk (some 32) _ _ _ _ _ :: _) _ _); refine kDigN1 _ s hsl rfl rfl rfl ?_; intro w2 v2 N2 hB2; have N3 := N1.below hB2; have hB3 := hB1.trans (hB2.mono hB1.size); clear N1 hB1 hB2; go_frame)
          | (go_at_call 45; refine (dMul_num N3 N2 (by decide) (by decide)).mono ?_; rintro e w4 ⟨v4, rfl, N4, hB4⟩; have hB5 := hB3.trans (hB4.mono hB3.size); clear N3 N2 hB3 hB4; go_frame)
          | ((with_reducible change wpList _ _ _ (Oper.mk (some 34) _ _ _ _ _ :: _) _ _); refine kDigN1 _ 4200 (by decide) rfl rfl rfl ?_; intro w6 v6 N6 hB6; have N7 := N4.below hB6; have hB7 := hB5.trans (hB6.mono hB5.size); clear N4 hB5 hB6; go_frame)
          | (go_at_call 41; refine (dDiv_num N7 N6 (by decide) (by decide) (by decide) Hp.out).mono ?_; rintro e w8 ⟨v8, v9, rfl, N8, hB8⟩; have hB9 := hB7.trans (hB8.mono hB7.size); clear N7 N6 hB7 hB8; go_frame)
          | (go_at_call 38; refine (qEasiest_num HY.out _).mono ?_; rintro e w10 ⟨v10, rfl, N10, hB10⟩; have N11 := N8.below hB10; have hB11 := hB9.trans (hB10.mono hB9.size); clear N8 hB9 hB10; go_frame)
          | (go_at_call 37; refine (dCompare_r N11 N10 (by decide) (by decide) HC.out).mono ?_; rintro e w12 ⟨rfl, rfl⟩; go_frame)
          | ((with_reducible change wpList _ _ _ (Oper.mk (some 41) _ _ _ _ _ :: _) _ _); refine kYw (yGtrK _ _ _ _ .i64 C 0 true d41 rfl rfl rfl rfl) ?_; go_frame)
          | (go_at_call 38; refine (qEasiest_num HY.out _).mono ?_; rintro e w13 ⟨v13, rfl, N13, hB13⟩; have hB14 := hB11.trans (hB13.mono hB11.size); have N14 : Num _ _ x 31 := hxe ▸ N13; clear N11 hB11 hB13 N13; go_frame)
          | (go_at_call 19; refine (qCompact_num _ (N14) (by decide) hxM hxr).mono ?_; rintro e w15 ⟨rfl, hB15⟩; have hB16 := hB14.trans (hB15.mono hB14.size); go_frame))
        go_ret
        exact ⟨rfl, hB16⟩
    · have d41 : decide (C > 0) = false := by rw [← HC.out, cmp_pos]; exact decide_eq_false ho
      have hxe : p = x := by rw [Hx.out, Nat.min_eq_left (Nat.le_of_not_lt ho)]
      rcases hcase with ⟨h1, h2⟩ | ⟨h1, h2, h3⟩ | ⟨h1, h2, h3⟩
      · have d25 : decide (d < 1050) = true := decide_eq_true h1
        have d27 : decide ((1050 : Int) > 16800) = false := rfl
        have c31 : IntKind.u64.wrap 1050 = (s : Int) := by rw [← f31.out, h2]; rfl
        go_enter Try.func21, Try.ntmps21
        go_wp2_with (first
          | (go_at_call 15; refine (qExpand_ok hb h Ht.out _).mono ?_; rintro e w1 ⟨v1, rfl, N1, hB1⟩; go_frame)
          | ((with_reducible change wpList _ _ _ (Oper.mk (some 18) _ _ _ _ _ :: _) _ _); refine kYw (yNeqK _ _ _ _ .i64 0 0 false rfl rfl rfl rfl rfl) ?_; go_frame)
          | ((with_reducible change wpList _ _ _ (Oper.mk (some 20) _ _ _ _ _ :: _) _ _); refine kYw (yConvK Try.underlying28 Try.underlying2 _ (l : Int) (l : Int) f20.out rfl rfl rfl) ?_; go_frame)
          | ((with_reducible change wpList _ _ _ (Oper.mk (some 22) _ _ _ _ _ :: _) _ _); refine kYw (yConvK Try.underlying28 Try.underlying2 _ (f : Int) (f : Int) f22.out rfl rfl rfl) ?_; go_frame)
          | ((with_reducible change wpList _ _ _ (Oper.mk (some 23) _ _ _ _ _ :: _) _ _); refine kYw (ySubZ _ _ _ _ (l : Int) (f : Int) d f23.out rfl rfl rfl rfl) ?_; go_frame)
          | ((with_reducible change wpList _ _ _ (Oper.mk (some 25) _ _ _ _ _ :: _) _ _); refine kYw (yLssK _ _ _ _ .i64 d 1050 true d25 rfl rfl rfl rfl) ?_; go_frame)
          | ((with_reducible change wpList _ _ _ (Oper.mk (some 27) _ _ _ _ _ :: _) _ _); refine kYw (yGtrK _ _ _ _ .i64 1050 16800 false d27 rfl rfl rfl rfl) ?_; go_frame)
          | ((with_reducible change wpList _ _ _ (Oper.mk (some 31) _ _ _ _ _ :: _) _ _); refine kYw (yConvK Try.underlying2 Try.underlying22 _ 1050 (s : Int) c31 rfl rfl rfl) ?_; go_frame)
          | ((with_reducible change wpList _ _ _ (Oper.mk (some 32) _ _ _ _ _ :: _) _ _); refine kDigN1 _ s hsl rfl rfl rfl ?_; intro w2 v2 N2 hB2; have N3 := N1.below hB2; have hB3 := hB1.trans (hB2.mono hB1.size); clear N1 hB1 hB2; go_frame)
          | (go_at_call 45; refine (dMul_num N3 N2 (by decide) (by decide)).mono ?_; rintro e w4 ⟨v4, rfl, N4, hB4⟩; have hB5 := hB3.trans (hB4.mono hB3.size); clear N3 N2 hB3 hB4; go_frame)
          | ((with_reducible change wpList _ _ _ (Oper.mk (some 34) _ _ _ _ _ :: _) _ _); refine kDigN1 _ 4200 (by decide) rfl rfl rfl ?_; intro w6 v6 N6 hB6; have N7 := N4.below hB6; have hB7 := hB5.trans (hB6.mono hB5.size); clear N4 hB5 hB6; go_frame)
          | (go_at_call 41; refine (dDiv_num N7 N6 (by decide) (by decide) (by decide) Hp.out).mono ?_; rintro e w8 ⟨v8, v9, rfl, N8, hB8⟩; have hB9 := hB7.trans (hB8.mono hB7.size); clear N7 N6 hB7 hB8; go_frame)
          | (go_at_call 38; refine (qEasiest_num HY.out _).mono ?_; rintro e w10 ⟨v10, rfl, N10, hB10⟩; have N11 := N8.below hB10; have hB11 := hB9.trans (hB10.mono hB9.size); clear N8 hB9 hB10; go_frame)
          | (go_at_call 37; refine (dCompare_r N11 N10 (by decide) (by decide) HC.out).mono ?_; rintro e w12 ⟨rfl, rfl⟩; go_frame)
          | ((with_reducible change wpList _ _ _ (Oper.mk (some 41) _ _ _ _ _ :: _) _ _); refine kYw (yGtrK _ _ _ _ .i64 C 0 false d41 rfl rfl rfl rfl) ?_; go_frame)
          | (go_at_call 19; refine (qCompact_num _ ((hxe ▸ N11 : Num _ _ x _)) (by decide) hxM hxr).mono ?_; rintro e w15 ⟨rfl, hB15⟩; have hB16 := hB11.trans (hB15.mono hB11.size); go_frame))
        go_ret
        exact ⟨rfl, hB16⟩
      · have d25 : decide (d < 1050) = false := decide_eq_false h1
        have d27 : decide (d > 16800) = true := decide_eq_true h2
        have c31 : IntKind.u64.wrap 16800 = (s : Int) := by rw [← f31.out, h3]; rfl
        go_enter Try.func21, Try.ntmps21
        go_wp2_with (first
          | (go_at_call 15; refine (qExpand_ok hb h Ht.out _).mono ?_; rintro e w1 ⟨v1, rfl, N1, hB1⟩; go_frame)
          | ((with_reducible change wpList _ _ _ (Oper.mk (some 18) _ _ _ _ _ :: _) _ _); refine kYw (yNeqK _ _ _ _ .i64 0 0 false rfl rfl rfl rfl rfl) ?_; go_frame)
          | ((with_reducible change wpList _ _ _ (Oper.mk (some 20) _ _ _ _ _ :: _) _ _); refine kYw (yConvK Try.underlying28 Try.underlying2 _ (l : Int) (l : Int) f20.out rfl rfl rfl) ?_; go_frame)
          | ((with_reducible change wpList _ _ _ (Oper.mk (some 22) _ _ _ _ _ :: _) _ _); refine kYw (yConvK Try.underlying28 Try.underlying2 _ (f : Int) (f : Int) f22.out rfl rfl rfl) ?_; go_frame)
          | ((with_reducible change wpList _ _ _ (Oper.mk (some 23) _ _ _ _ _ :: _) _ _); refine kYw (ySubZ _ _ _ _ (l : Int) (f : Int) d f23.out rfl rfl rfl rfl) ?_; go_frame)
          | ((with_reducible change wpList _ _ _ (Oper.mk (some 25) _ _ _ _ _ :: _) _ _); refine kYw (yLssK _ _ _ _ .i64 d 1050 false d25 rfl rfl rfl rfl) ?_; go_frame)
          | ((with_reducible change wpList _ _ _ (Oper.mk (some 27) _ _ _ _ _ :: _) _ _); refine kYw (yGtrK _ _ _ _ .i64 d 16800 true d27 rfl rfl rfl rfl) ?_; go_frame)
          | ((with_reducible change wpList _ _ _ (Oper.mk (some 31) _ _ _ _ _ :: _) _ _); refine kYw (yConvK Try.underlying2 Try.underlying22 _ 16800 (s : Int) c31 rfl rfl rfl) ?_; go_frame)
          | ((with_reducible change wpList _ _ _ (Oper.mk (some 32) _ _ _ _ _ :: _) _ _); refine kDigN1 _ s hsl rfl rfl rfl ?_; intro w2 v2 N2 hB2; have N3 := N1.below hB2; have hB3 := hB1.trans (hB2.mono hB1.size); clear N1 hB1 hB2; go_frame)
          | (go_at_call 45; refine (dMul_num N3 N2 (by decide) (by decide)).mono ?_; rintro e w4 ⟨v4, rfl, N4, hB4⟩; have hB5 := hB3.trans (hB4.mono hB3.size); clear N3 N2 hB3 hB4; go_frame)
          | ((with_reducible change wpList _ _ _ (Oper.mk (some 34) _ _ _ _ _ :: _) _ _); refine kDigN1 _ 4200 (by decide) rfl rfl rfl ?_; intro w6 v6 N6 hB6; have N7 := N4.below hB6; have hB7 := hB5.trans (hB6.mono hB5.size); clear N4 hB5 hB6; go_frame)
          | (go_at_call 41; refine (dDiv_num N7 N6 (by decide) (by decide) (by decide) Hp.out).mono ?_; rintro e w8 ⟨v8, v9, rfl, N8, hB8⟩; have hB9 := hB7.trans (hB8.mono hB7.size); clear N7 N6 hB7 hB8; go_frame)
          | (go_at_call 38; refine (qEasiest_num HY.out _).mono ?_; rintro e w10 ⟨v10, rfl, N10, hB10⟩; have N11 := N8.below hB10; have hB11 := hB9.trans (hB10.mono hB9.size); clear N8 hB9 hB10; go_frame)
          | (go_at_call 37; refine (dCompare_r N11 N10 (by decide) (by decide) HC.out).mono ?_; rintro e w12 ⟨rfl, rfl⟩; go_frame)
          | ((with_reducible change wpList _ _ _ (Oper.mk (some 41) _ _ _ _ _ :: _) _ _); refine kYw (yGtrK _ _ _ _ .i64 C 0 false d41 rfl rfl rfl rfl) ?_; go_frame)
          | (go_at_call 19; refine (qCompact_num _ ((hxe ▸ N11 : Num _ _ x _)) (by decide) hxM hxr).mono ?_; rintro e w15 ⟨rfl, hB15⟩; have hB16 := hB11.trans (hB15.mono hB11.size); go_frame))
        go_ret
        exact ⟨rfl, hB16⟩
      · have d25 : decide (d < 1050) = false := decide_eq_false h1
        have d27 : decide (d > 16800) = false := decide_eq_false h2
        have c31 : IntKind.u64.wrap d = (s : Int) := by rw [h3]; exact f31.out
        go_enter Try.func21, Try.ntmps21
        go_wp2_with (first
          | (go_at_call 15; refine (qExpand_ok hb h Ht.out _).mono ?_; rintro e w1 ⟨v1, rfl, N1, hB1⟩; go_frame)
          | ((with_reducible change wpList _ _ _ (Oper.mk (some 18) _ _ _ _ _ :: _) _ _); refine kYw (yNeqK _ _ _ _ .i64 0 0 false rfl rfl rfl rfl rfl) ?_; go_frame)
          | ((with_reducible change wpList _ _ _ (Oper.mk (some 20) _ _ _ _ _ :: _) _ _); refine kYw (yConvK Try.underlying28 Try.underlying2 _ (l : Int) (l : Int) f20.out rfl rfl rfl) ?_; go_frame)
          | ((with_reducible change wpList _ _ _ (Oper.mk (some 22) _ _ _ _ _ :: _) _ _); refine kYw (yConvK Try.underlying28 Try.underlying2 _ (f : Int) (f : Int) f22.out rfl rfl rfl) ?_; go_frame)
          | ((with_reducible change wpList _ _ _ (Oper.mk (some 23) _ _ _ _ _ :: _) _ _); refine kYw (ySubZ _ _ _ _ (l : Int) (f : Int) d f23.out rfl rfl rfl rfl) ?_; go_frame)
          | ((with_reducible change wpList _ _ _ (Oper.mk (some 25) _ _ _ _ _ :: _) _ _); refine kYw (yLssK _ _ _ _ .i64 d 1050 false d25 rfl rfl rfl rfl) ?_; go_frame)
          | ((with_reducible change wpList _ _ _ (Oper.mk (some 27) _ _ _ _ _ :: _) _ _); refine kYw (yGtrK _ _ _ _ .i64 d 16800 false d27 rfl rfl rfl rfl) ?_; go_frame)
          | ((with_reducible change wpList _ _ _ (Oper.mk (some 31) _ _ _ _ _ :: _) _ _); refine kYw (yConvK Try.underlying2 Try.underlying22 _ d (s : Int) c31 rfl rfl rfl) ?_; go_frame)
          | ((with_reducible change wpList _ _ _ (Oper.mk (some 32) _ _ _ _ _ :: _) _ _); refine kDigN1 _ s hsl rfl rfl rfl ?_; intro w2 v2 N2 hB2; have N3 := N1.below hB2; have hB3 := hB1.trans (hB2.mono hB1.size); clear N1 hB1 hB2; go_frame)
          | (go_at_call 45; refine (dMul_num N3 N2 (by decide) (by decide)).mono ?_; rintro e w4 ⟨v4, rfl, N4, hB4⟩; have hB5 := hB3.trans (hB4.mono hB3.size); clear N3 N2 hB3 hB4; go_frame)
          | ((with_reducible change wpList _ _ _ (Oper.mk (some 34) _ _ _ _ _ :: _) _ _); refine kDigN1 _ 4200 (by decide) rfl rfl rfl ?_; intro w6 v6 N6 hB6; have N7 := N4.below hB6; have hB7 := hB5.trans (hB6.mono hB5.size); clear N4 hB5 hB6; go_frame)
          | (go_at_call 41; refine (dDiv_num N7 N6 (by decide) (by decide) (by decide) Hp.out).mono ?_; rintro e w8 ⟨v8, v9, rfl, N8, hB8⟩; have hB9 := hB7.trans (hB8.mono hB7.size); clear N7 N6 hB7 hB8; go_frame)
          | (go_at_call 38; refine (qEasiest_num HY.out _).mono ?_; rintro e w10 ⟨v10, rfl, N10, hB10⟩; have N11 := N8.below hB10; have hB11 := hB9.trans (hB10.mono hB9.size); clear N8 hB9 hB10; go_frame)
          | (go_at_call 37; refine (dCompare_r N11 N10 (by decide) (by decide) HC.out).mono ?_; rintro e w12 ⟨rfl, rfl⟩; go_frame)
          | ((with_reducible change wpList _ _ _ (Oper.mk (some 41) _ _ _ _ _ :: _) _ _); refine kYw (yGtrK _ _ _ _ .i64 C 0 false d41 rfl rfl rfl rfl) ?_; go_frame)
          | (go_at_call 19; refine (qCompact_num _ ((hxe ▸ N11 : Num _ _ x _)) (by decide) hxM hxr).mono ?_; rintro e w15 ⟨rfl, hB15⟩; have hB16 := hB11.trans (hB15.mono hB11.size); go_frame))
        go_ret
        exact ⟨rfl, hB16⟩
end Go.Proofs.Ytdeggdmoijfhdaa

/-
  Layer 12: the statements: what they have in common.
-/
namespace Go.Proofs.Ytdeggdmoijfhdaa
open Go Go.RowKit

theorem info_u32W : (Try.prog.info? 28).map (·.size) = some 1 := by kernel_rfl
theorem yLeqK {P : Program} {ops : Array Oper} {o : Oper} {a : Act} {S : World → Prop} (T T2 : TypeId) (x y : Operand) (k : IntKind) (m n : Int) (b : Bool) (hb : decide (m ≤ n) = b) (ho : o.op = .binOp .leq T x y T2) (hg : Region.wanted o (yielded ops a.tmps) = true) (hx : a.eval x = .int k m) (hy : a.eval y = .int k n) : YieldsIf P ops S o (.bool b) a :=
  yOf hg fun w _ => by
    subst hb
    unfold execOp; simp only [ho, hx, hy]; simp [eqGuard, binOp, Op.intCmp]
theorem same_W (n : Nat) : decide (n % M256 = n % M256) = true := by simp
theorem zero_W {n : Nat} (h : n = 0) : decide (n % M256 = 0 % M256) = true := by subst h; rfl
theorem pos_W {n : Nat} (h : 0 < n) (hn : n < M256) : decide (n % M256 = 0 % M256) = false := by rw [Nat.mod_eq_of_lt hn, Nat.zero_mod]; exact decide_eq_false (by omega)
theorem nsame_W (n : Nat) : (!decide (n % M256 = n % M256)) = false := by simp
theorem easy_fine : ¬ badN 545259519 := by decide +kernel
theorem easy_raw : rawN 545259519 = easyN := by decide +kernel
theorem easy_work : workN 545259519 = 2 := by decide +kernel
theorem kExpand_okL {v : Int} {b t : Nat} (hv : v = (b : Int)) (hb : b < 4294967296) (h : ¬ badN b) (Ht : rawN b = t) (w : World) : Calls Try.prog 9 #[.int .u32 v] w fun e w' => e = .returned (.tuple #[WV t, .int .i64 0]) ∧ Below w.heap.size w w' := by subst hv; exact kExpand_ok hb h Ht w
theorem kExpand_badL {v : Int} {b : Nat} (hv : v = (b : Int)) (hb : b < 4294967296) (h : badN b) (w : World) : Calls Try.prog 9 #[.int .u32 v] w fun e w' => e = .returned (.tuple #[WV 0, .int .i64 121]) ∧ Below w.heap.size w w' := by subst hv; exact kExpand_bad hb h w
theorem kWork_asL {v : Int} {b r : Nat} (hv : v = (b : Int)) (hb : b < 4294967296) (hr : workN b = r) (w : World) : Calls Try.prog 17 #[.int .u32 v] w fun e w' => e = .returned (WV r) ∧ Below w.heap.size w w' := by subst hv; exact kWork_as hb hr w
theorem kNext_asL {u v x : Int} {b f l r : Nat} (hu : u = (b : Int)) (hv : v = (f : Int)) (hx : x = (l : Int)) (hb : b < 4294967296) (hf : f < 4294967296) (hl : l < 4294967296) (hr : nextN b f l = r) (w : World) : Calls Try.prog 14 #[.int .u32 u, .int .u32 v, .int .u32 x] w fun e w' => e = .returned (.int .u32 (r : Int)) ∧ Below w.heap.size w w' := by subst hu hv hx; exact kNext_as hb hf hl hr w
set_option maxRecDepth 100000 in
set_option maxHeartbeats 32000000 in
theorem workAlive_any (w : World) : Calls Try.prog 10 #[] w (fun e w' => e = .returned (.bool true) ∧ Below w.heap.size w w') := by
  obtain ⟨E, HE⟩ : ∃ v_ : Nat, Hid (rawN 545259519 = v_) := ⟨_, Lib.hid rfl⟩
  obtain ⟨n, Hn⟩ : ∃ v_ : Nat, Hid (workN 545259519 = v_) := ⟨_, Lib.hid rfl⟩
  obtain ⟨c, Hc⟩ : ∃ v_ : Nat, Hid (compactN E = v_) := ⟨_, Lib.hid rfl⟩
  have fE : Hid (rawN 545259519 = E) := HE
  have hEN : E = easyN := by rw [← HE.out, easy_raw]
  have hE : E < M256 := by rw [hEN]; exact easy_lt
  have hn : n = 2 := by rw [← Hn.out, easy_work]
  have f8 : Hid (n < 18446744073709551616 ∧ (2 : Int) = (n : Int)) := Lib.hid ⟨by omega, by omega⟩
  have hc : c = 545259519 := by rw [← Hc.out, hEN]; exact compact_easy
  have f17 : Hid (decide ((c : Int) = 545259519) = true) := Lib.hid (by simp; omega)
  clear hEN hn hc HE
  have hM0 := mm_nil w
  (try unfold WV)
  go_enter Try.func10, Try.ntmps10
  go_wp2_with (first
    | (go_at_call 9; (with_reducible change Calls _ _ #[Value.int .u32 (545259519)] _ _); refine (kExpand_okL (b := 545259519) rfl (by decide) easy_fine fE.out _).mono ?_; rintro e w1 ⟨rfl, hB1⟩; have hM1 := hM0.on hB1; clear hB1 hM0; (try unfold WV); go_frame)
    | ((with_reducible change wpList _ _ _ (Oper.mk (some 1) _ _ _ _ _ :: _) _ _); refine mmAlloc hM1 _ _ rfl rfl zero_Wide ?_; intro w2 hM2; clear hM1; go_frame)
    | ((with_reducible change wpList _ _ _ (Oper.mk none (Op.store _ (Operand.tmp 1) (Operand.tmp 5)) _ _ _ _ :: _) _ _); refine mmStoreAt hM2 0 _ _ _ _ _ _ (wcells E) rfl rfl rfl rfl rfl (info_WideC _) (by simp only [wcells_size]) (wcells_one _) ?_; intro w3 hM3; dsimp only [List.set] at hM3; clear hM2; go_frame)
    | (go_at_call 17; (with_reducible change Calls _ _ #[Value.int .u32 (545259519)] _ _); refine (kWork_asL (b := 545259519) rfl (by decide) Hn.out _).mono ?_; rintro e w4 ⟨rfl, hB4⟩; have hM4 := hM3.on hB4; clear hB4 hM3; (try unfold WV); go_frame)
    | (go_at_call 29; (with_reducible change Calls _ _ #[Value.int .u64 (2)] _ _); refine (wOf_lit n 2 f8.out.1 f8.out.2 _).mono ?_; rintro e w5 ⟨rfl, hB5⟩; have hM5 := hM4.on hB5; clear hB5 hM4; (try unfold WV); go_frame)
    | ((with_reducible change wpList _ _ _ (Oper.mk (some 9) _ _ _ _ _ :: _) _ _); refine kEqlW _ _ _ (n) (n) true rfl rfl rfl rfl (same_W n) ?_; go_frame)
    | ((with_reducible change wpList _ _ _ (Oper.mk (some 12) _ _ _ _ _ :: _) _ _); refine kEqlI _ _ _ _ .i64 (0) (0) true rfl rfl rfl rfl (by decide) ?_; go_frame)
    | ((with_reducible change wpList _ _ _ (Oper.mk (some 15) _ _ _ _ _ :: _) _ _); refine kLoadRow _ _ _ _ _ _ rfl rfl rfl (hM5.get 0 rfl) Try.underlying24 rfl (info_WideC _) ?_; go_frame)
    | (go_at_call 13; (with_reducible change Calls _ _ #[Value.agg (wcells E)] _ _); refine (kCompact_as hE Hc.out _).mono ?_; rintro e w6 ⟨rfl, hB6⟩; have hM6 := hM5.on hB6; clear hB6 hM5; (try unfold WV); go_frame)
    | ((with_reducible change wpList _ _ _ (Oper.mk (some 17) _ _ _ _ _ :: _) _ _); refine kYw (yEqlK _ _ _ _ .u32 (c) (545259519) true f17.out rfl rfl rfl rfl) ?_; go_frame))
  go_ret
  exact ⟨rfl, hM6.below⟩
end Go.Proofs.Ytdeggdmoijfhdaa
