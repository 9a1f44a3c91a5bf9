/-
  Layer 12: the reference: Expand, Work and Next, by the numbers that their digits are.
-/
import Derived.Test.YtdeggdmoijfhdaaWkRef
namespace Go.Proofs.Ytdeggdmoijfhdaa
open Go Go.RowKit

theorem raw_as (b : Nat) : b % 8388608 / 256 ^ (3 - b / 16777216) * 256 ^ (((b / 16777216 : Nat) : Int) - 3).toNat = rawN b := by
  unfold rawN
  by_cases h : b / 16777216 ≤ 3
  · rw [if_pos h, show (((b / 16777216 : Nat) : Int) - 3).toNat = 0 by omega, Nat.pow_zero, Nat.mul_one]
  · rw [if_neg h, show 3 - b / 16777216 = 0 by omega, Nat.pow_zero, Nat.div_one, show (((b / 16777216 : Nat) : Int) - 3).toNat = b / 16777216 - 3 by omega]
theorem blen_zero_iff (n : Nat) : blen n = 0 ↔ n = 0 := by
  constructor
  · intro h
    have := (byteN_le n 0).1 (by unfold byteN; omega)
    simpa using this
  · rintro rfl; rfl
theorem cmp_pos (x y : Nat) : decide (cmpI x y > 0) = decide (y < x) := by
  unfold cmpI; split
  · next h => simp; omega
  · split
    · next h => simp [h]
    · next h => simp [h]
/-- a number of at most 33 digits of 256, if it is no more than the easiest -/
theorem up_small {M e : Nat} (hM : 0 < M * 256 ^ e) (h : M * 256 ^ e ≤ easyN) : e < 32 := by
  apply Nat.lt_of_not_le; intro h32
  have h1 : 0 < M := Nat.pos_of_mul_pos_right hM
  have h2 : 256 ^ 32 ≤ 256 ^ e := Nat.pow_le_pow_right (by decide) h32
  have h3 : 256 ^ e ≤ M * 256 ^ e := Nat.le_mul_of_pos_left _ h1
  have := easy_lt
  omega
theorem ret2W {fn : Func} {R : Ending → World → Prop} {P : Program} {a : Act} {w : World} {t u : Tmp} (h : fn.results = #[.tmp t, .tmp u]) (hd : a.defers = []) (hR : R (.returned (.tuple #[a.tmps.getD t undef, a.tmps.getD u undef])) w) : bodyPost P fn R .ret a w :=
  bodyPost_ret (by simp [results, h]) hd hR
def QExp (w : World) (b : Nat) (e : Ending) (w' : World) : Prop := ∃ v, Below w.heap.size w w' ∧ ((badN b ∧ e = .returned (.tuple #[v, .int .i64 121]) ∧ Num w' v 0 0) ∨ (¬ badN b ∧ e = .returned (.tuple #[v, .int .i64 0]) ∧ Num w' v (rawN b) 34))

set_option maxRecDepth 100000 in
set_option maxHeartbeats 16000000 in
theorem qExpand_any {b : Nat} (hb : b < 4294967296) (w : World) : Calls Try.prog 15 #[.int .u32 (b : Int)] w (QExp w b) := by
  obtain ⟨M, HM⟩ : ∃ v_ : Nat, Hid (b % 8388608 = v_) := ⟨_, Lib.hid rfl⟩
  obtain ⟨E, HE⟩ : ∃ v_ : Nat, Hid (b / 16777216 = v_) := ⟨_, Lib.hid rfl⟩
  obtain ⟨E3, HE3⟩ : ∃ v_ : Int, Hid ((E : Int) - 3 = v_) := ⟨_, Lib.hid rfl⟩
  have hM : M < 8388608 := by rw [← HM.out]; exact Nat.mod_lt _ (by decide)
  have hE : E < 256 := by have := HE.out; omega
  have f9 : Hid (b % 8388608 = M ∧ 0 < 8388608) := Lib.hid ⟨HM.out, by decide⟩
  have f10 : Hid (IntKind.u64.wrap (M : Int) = (M : Int)) := Lib.hid (wrap_u64N (by omega))
  have f12 : Hid (b / 16777216 = E ∧ 0 < 16777216 ∧ IntKind.u32.wrap (b / 16777216 : Nat) = (b / 16777216 : Nat)) := Lib.hid ⟨HE.out, by decide, wrap_u32N (by omega)⟩
  have f13 : Hid (IntKind.i64.wrap (E : Int) = (E : Int)) := Lib.hid (wrap_i64N (by omega))
  go_enter Try.func15, Try.ntmps15
  go_wp2_with (first
    | ((with_reducible change wpList _ _ _ (Oper.mk (some 9) _ _ _ _ _ :: _) _ _); refine kYw (yRemN .u32 _ _ _ _ b 8388608 M f9.out rfl rfl rfl rfl) ?_; go_frame)
    | ((with_reducible change wpList _ _ _ (Oper.mk (some 10) _ _ _ _ _ :: _) _ _); refine kYw (yConvK Try.underlying28 Try.underlying22 _ (M : Int) (M : Int) f10.out rfl rfl rfl) ?_; go_frame)
    | ((with_reducible change wpList _ _ _ (Oper.mk (some 12) _ _ _ _ _ :: _) _ _); refine kYw (yQuoN .u32 _ _ _ _ b 16777216 E f12.out rfl rfl rfl rfl) ?_; go_frame)
    | ((with_reducible change wpList _ _ _ (Oper.mk (some 13) _ _ _ _ _ :: _) _ _); refine kYw (yConvK Try.underlying28 Try.underlying3 _ (E : Int) (E : Int) f13.out rfl rfl rfl) ?_; go_frame))
  clear f9 f10 f12 f13
  go_loopw [6, 4] (fun i d wr => ∃ j k q : Nat, Hid (E + j = k) ∧ Hid (M / 256 ^ j = q) ∧ Hid (k ≤ max E 3) ∧ i = .int .i64 (k : Int) ∧ d = .int .u64 (q : Int) ∧ wr = w) (fun i _ _ => 300 - (intOf i).toNat)
  case atStart => exact ⟨0, E, M, Lib.hid rfl, Lib.hid (by simp), Lib.hid (Nat.le_max_left _ _), rfl, rfl, rfl⟩
  case round =>
    obtain ⟨j, k, q, Hk, Hq, Hm, rfl, rfl, rfl⟩ := hrel
    have hq : q < 8388608 := by rw [← Hq.out]; exact Nat.lt_of_le_of_lt (Nat.div_le_self _ _) hM
    have hmx := Hm.out
    by_cases hlt : k < 3
    · have hd : decide ((k : Int) < 3) = true := by simp; omega
      obtain ⟨q1, Hq1⟩ : ∃ v_ : Nat, Hid (q / 256 = v_) := ⟨_, Lib.hid rfl⟩
      have f20 : Hid (q / 256 = q1 ∧ 0 < 256 ∧ IntKind.u64.wrap (q / 256 : Nat) = (q / 256 : Nat)) := Lib.hid ⟨Hq1.out, by decide, wrap_u64N (by omega)⟩
      go_wp2_with (first
        | ((with_reducible change wpList _ _ _ (Oper.mk (some 16) _ _ _ _ _ :: _) _ _); refine kYw (yLssK _ _ _ _ .i64 (k : Int) 3 true hd rfl rfl rfl rfl) ?_; go_frame)
        | ((with_reducible change wpList _ _ _ (Oper.mk (some 20) _ _ _ _ _ :: _) _ _); refine kYw (yQuoN .u64 _ _ _ _ q 256 q1 f20.out rfl rfl rfl rfl) ?_; go_frame)
        | ((with_reducible change wpList _ _ _ (Oper.mk (some 18) _ _ _ _ _ :: _) _ _); refine kYw (yAddZ _ _ _ _ (k : Int) 1 ((k + 1 : Nat) : Int) (by omega) rfl rfl rfl rfl) ?_; go_frame))
      go_roundw
      case rel => exact ⟨j + 1, k + 1, q1, Lib.hid (by have := Hk.out; omega), Lib.hid (by rw [← Hq1.out, ← Hq.out, Nat.pow_succ, Nat.div_div_eq_div_mul]), Lib.hid (by omega), rfl, rfl, by first | rfl | trivial⟩
      case measure => simp [intOf]; omega
    · have hd : decide ((k : Int) < 3) = false := by simp; omega
      have hj : 3 - E = j := by have := Hk.out; omega
      have hqR : q * 256 ^ E3.toNat = rawN b := by rw [← HE3.out, ← Hq.out, ← hj, ← HM.out, ← HE.out]; exact raw_as b
      have hE3 := HE3.out
      clear Hk Hq Hm hmx HM
      obtain ⟨r, Hr⟩ : ∃ v_ : Nat, Hid (q % 65536 = v_) := ⟨_, Lib.hid rfl⟩
      obtain ⟨s, Hs⟩ : ∃ v_ : Nat, Hid (q / 65536 = v_) := ⟨_, Lib.hid rfl⟩
      obtain ⟨R, HR⟩ : ∃ v_ : Nat, Hid (rawN b = v_) := ⟨_, Lib.hid rfl⟩
      obtain ⟨L, HL⟩ : ∃ v_ : Nat, Hid (blen R = v_) := ⟨_, Lib.hid rfl⟩
      obtain ⟨x, Hx⟩ : ∃ v_ : Nat, Hid (b / 8388608 = v_) := ⟨_, Lib.hid rfl⟩
      obtain ⟨c, Hc⟩ : ∃ v_ : Nat, Hid (x % 2 = v_) := ⟨_, Lib.hid rfl⟩
      have hr : r < 65536 := by rw [← Hr.out]; exact Nat.mod_lt _ (by decide)
      have hs : s < 65536 := by have := Hs.out; omega
      have hrs : (r + 65536 * s) * 256 ^ E3.toNat = R := by rw [← HR.out, ← hqR, ← Hr.out, ← Hs.out, Nat.mod_add_div]
      have f22 : Hid (q % 65536 = r ∧ 0 < 65536) := Lib.hid ⟨Hr.out, by decide⟩
      have f24 : Hid (q / 65536 = s ∧ 0 < 65536 ∧ IntKind.u64.wrap (q / 65536 : Nat) = (q / 65536 : Nat)) := Lib.hid ⟨Hs.out, by decide, wrap_u64N (by omega)⟩
      have f27 : Hid ((E : Int) - 3 = E3 ∧ -9223372036854775808 ≤ E3 ∧ E3 < 9223372036854775808) := Lib.hid (by omega)
      have f30 : Hid (b / 8388608 = x ∧ 0 < 8388608 ∧ IntKind.u32.wrap (b / 8388608 : Nat) = (b / 8388608 : Nat)) := Lib.hid ⟨Hx.out, by decide, wrap_u32N (by omega)⟩
      have f31 : Hid (x % 2 = c ∧ 0 < 2) := Lib.hid ⟨Hc.out, by decide⟩
      have hkz : E3.toNat ≤ 252 := by omega
      have hbad : badN b ↔ c = 1 ∨ R = 0 ∨ easyN < R := by rw [← HR.out, ← Hc.out, ← Hx.out]; rfl
      replace hrs := Lib.hid hrs
      clear hqR hE3 Hr Hs Hx Hc hj hM
      by_cases h1 : c = 1
      · have d32 : decide ((c : Int) = 1) = true := by simp; omega
        go_wp2_with (first
          | ((with_reducible change wpList _ _ _ (Oper.mk (some 16) _ _ _ _ _ :: _) _ _); refine kYw (yLssK _ _ _ _ .i64 (k : Int) 3 false hd rfl rfl rfl rfl) ?_; go_frame)
          | ((with_reducible change wpList _ _ _ (Oper.mk (some 22) _ _ _ _ _ :: _) _ _); refine kYw (yRemN .u64 _ _ _ _ q 65536 r f22.out rfl rfl rfl rfl) ?_; go_frame)
          | ((with_reducible change wpList _ _ _ (Oper.mk (some 24) _ _ _ _ _ :: _) _ _); refine kYw (yQuoN .u64 _ _ _ _ q 65536 s f24.out rfl rfl rfl rfl) ?_; go_frame)
          | ((with_reducible change wpList _ _ _ (Oper.mk (some 25) _ _ _ _ _ :: _) _ _); refine kDigN2 _ _ r s hr hs rfl rfl rfl rfl ?_; intro w1 v1 N1 hB1; go_frame)
          | ((with_reducible change wpList _ _ _ (Oper.mk (some 27) _ _ _ _ _ :: _) _ _); refine kYw (ySubZ _ _ _ _ (E : Int) 3 E3 f27.out rfl rfl rfl rfl) ?_; go_frame)
          | (go_at_call 35; refine (qTimes_num _ N1 (by omega) (by decide)).mono ?_; rintro e w2 ⟨v2, rfl, N2, hB2⟩; rw [hrs.out] at N2; have hB := hB1.trans (hB2.mono hB1.size); clear N1 hB1 hB2; go_frame)
          | ((with_reducible change wpList _ _ _ (Oper.mk (some 30) _ _ _ _ _ :: _) _ _); refine kYw (yQuoN .u32 _ _ _ _ b 8388608 x f30.out rfl rfl rfl rfl) ?_; go_frame)
          | ((with_reducible change wpList _ _ _ (Oper.mk (some 31) _ _ _ _ _ :: _) _ _); refine kYw (yRemN .u32 _ _ _ _ x 2 c f31.out rfl rfl rfl rfl) ?_; go_frame)
          | ((with_reducible change wpList _ _ _ (Oper.mk (some 32) _ _ _ _ _ :: _) _ _); refine kYw (yEqlK _ _ _ _ .u32 (c : Int) 1 true d32 rfl rfl rfl rfl) ?_; go_frame)
          | ((with_reducible change wpList _ _ _ (Oper.mk (some 44) _ _ _ _ _ :: _) _ _); refine kDigN0 rfl rfl ?_; intro w5 v5 N5 hB5; have hB6 := hB.trans (hB5.mono hB.size); go_frame))
        (try simp only [Exit.inBlock, Exit.then])
        refine ret2W rfl rfl ?_
        exact ⟨_, hB6, .inl ⟨hbad.2 (.inl h1), rfl, N5⟩⟩
      have d32 : decide ((c : Int) = 1) = false := by simp; omega
      by_cases h2 : R = 0
      · have d36 : decide ((L : Int) = 0) = true := by have := (blen_zero_iff R).2 h2; have := HL.out; simp; omega
        go_wp2_with (first
          | ((with_reducible change wpList _ _ _ (Oper.mk (some 16) _ _ _ _ _ :: _) _ _); refine kYw (yLssK _ _ _ _ .i64 (k : Int) 3 false hd rfl rfl rfl rfl) ?_; go_frame)
          | ((with_reducible change wpList _ _ _ (Oper.mk (some 22) _ _ _ _ _ :: _) _ _); refine kYw (yRemN .u64 _ _ _ _ q 65536 r f22.out rfl rfl rfl rfl) ?_; go_frame)
          | ((with_reducible change wpList _ _ _ (Oper.mk (some 24) _ _ _ _ _ :: _) _ _); refine kYw (yQuoN .u64 _ _ _ _ q 65536 s f24.out rfl rfl rfl rfl) ?_; go_frame)
          | ((with_reducible change wpList _ _ _ (Oper.mk (some 25) _ _ _ _ _ :: _) _ _); refine kDigN2 _ _ r s hr hs rfl rfl rfl rfl ?_; intro w1 v1 N1 hB1; go_frame)
          | ((with_reducible change wpList _ _ _ (Oper.mk (some 27) _ _ _ _ _ :: _) _ _); refine kYw (ySubZ _ _ _ _ (E : Int) 3 E3 f27.out rfl rfl rfl rfl) ?_; go_frame)
          | (go_at_call 35; refine (qTimes_num _ N1 (by omega) (by decide)).mono ?_; rintro e w2 ⟨v2, rfl, N2, hB2⟩; rw [hrs.out] at N2; have hB := hB1.trans (hB2.mono hB1.size); clear N1 hB1 hB2; go_frame)
          | ((with_reducible change wpList _ _ _ (Oper.mk (some 30) _ _ _ _ _ :: _) _ _); refine kYw (yQuoN .u32 _ _ _ _ b 8388608 x f30.out rfl rfl rfl rfl) ?_; go_frame)
          | ((with_reducible change wpList _ _ _ (Oper.mk (some 31) _ _ _ _ _ :: _) _ _); refine kYw (yRemN .u32 _ _ _ _ x 2 c f31.out rfl rfl rfl rfl) ?_; go_frame)
          | ((with_reducible change wpList _ _ _ (Oper.mk (some 32) _ _ _ _ _ :: _) _ _); refine kYw (yEqlK _ _ _ _ .u32 (c : Int) 1 false d32 rfl rfl rfl rfl) ?_; go_frame)
          | (go_at_call 36; refine (dBits_num N2 (by omega) HL.out).mono ?_; rintro e w3 ⟨rfl, rfl⟩; go_frame)
          | ((with_reducible change wpList _ _ _ (Oper.mk (some 36) _ _ _ _ _ :: _) _ _); refine kYw (yEqlK _ _ _ _ .i64 (L : Int) 0 true d36 rfl rfl rfl rfl) ?_; go_frame)
          | ((with_reducible change wpList _ _ _ (Oper.mk (some 44) _ _ _ _ _ :: _) _ _); refine kDigN0 rfl rfl ?_; intro w5 v5 N5 hB5; have hB6 := hB.trans (hB5.mono hB.size); go_frame))
        (try simp only [Exit.inBlock, Exit.then])
        refine ret2W rfl rfl ?_
        exact ⟨_, hB6, .inl ⟨hbad.2 (.inr (.inl h2)), rfl, N5⟩⟩
      have d36 : decide ((L : Int) = 0) = false := by have := mt (blen_zero_iff R).1 h2; have := HL.out; simp; omega
      obtain ⟨Y, HY⟩ : ∃ v_ : Nat, Hid (easyN = v_) := ⟨_, Lib.hid rfl⟩
      obtain ⟨C, HC⟩ : ∃ v_ : Int, Hid (cmpI R Y = v_) := ⟨_, Lib.hid rfl⟩
      by_cases h3 : easyN < R
      · have d42 : decide (C > 0) = true := by rw [← HC.out, cmp_pos, ← HY.out]; exact decide_eq_true h3
        go_wp2_with (first
          | ((with_reducible change wpList _ _ _ (Oper.mk (some 16) _ _ _ _ _ :: _) _ _); refine kYw (yLssK _ _ _ _ .i64 (k : Int) 3 false hd rfl rfl rfl rfl) ?_; go_frame)
          | ((with_reducible change wpList _ _ _ (Oper.mk (some 22) _ _ _ _ _ :: _) _ _); refine kYw (yRemN .u64 _ _ _ _ q 65536 r f22.out rfl rfl rfl rfl) ?_; go_frame)
          | ((with_reducible change wpList _ _ _ (Oper.mk (some 24) _ _ _ _ _ :: _) _ _); refine kYw (yQuoN .u64 _ _ _ _ q 65536 s f24.out rfl rfl rfl rfl) ?_; go_frame)
          | ((with_reducible change wpList _ _ _ (Oper.mk (some 25) _ _ _ _ _ :: _) _ _); refine kDigN2 _ _ r s hr hs rfl rfl rfl rfl ?_; intro w1 v1 N1 hB1; go_frame)
          | ((with_reducible change wpList _ _ _ (Oper.mk (some 27) _ _ _ _ _ :: _) _ _); refine kYw (ySubZ _ _ _ _ (E : Int) 3 E3 f27.out rfl rfl rfl rfl) ?_; go_frame)
          | (go_at_call 35; refine (qTimes_num _ N1 (by omega) (by decide)).mono ?_; rintro e w2 ⟨v2, rfl, N2, hB2⟩; rw [hrs.out] at N2; have hB := hB1.trans (hB2.mono hB1.size); clear N1 hB1 hB2; go_frame)
          | ((with_reducible change wpList _ _ _ (Oper.mk (some 30) _ _ _ _ _ :: _) _ _); refine kYw (yQuoN .u32 _ _ _ _ b 8388608 x f30.out rfl rfl rfl rfl) ?_; go_frame)
          | ((with_reducible change wpList _ _ _ (Oper.mk (some 31) _ _ _ _ _ :: _) _ _); refine kYw (yRemN .u32 _ _ _ _ x 2 c f31.out rfl rfl rfl rfl) ?_; go_frame)
          | ((with_reducible change wpList _ _ _ (Oper.mk (some 32) _ _ _ _ _ :: _) _ _); refine kYw (yEqlK _ _ _ _ .u32 (c : Int) 1 false d32 rfl rfl rfl rfl) ?_; go_frame)
          | (go_at_call 36; refine (dBits_num N2 (by omega) HL.out).mono ?_; rintro e w3 ⟨rfl, rfl⟩; go_frame)
          | ((with_reducible change wpList _ _ _ (Oper.mk (some 36) _ _ _ _ _ :: _) _ _); refine kYw (yEqlK _ _ _ _ .i64 (L : Int) 0 false d36 rfl rfl rfl rfl) ?_; go_frame)
          | (go_at_call 38; refine (qEasiest_num HY.out _).mono ?_; rintro e w3 ⟨v3, rfl, N3, hB3⟩; have N4 := N2.below hB3; have hB4 := hB.trans (hB3.mono hB.size); clear N2 hB hB3; go_frame)
          | (go_at_call 37; refine (dCompare_r N4 N3 (by omega) (by decide) HC.out).mono ?_; rintro e w4 ⟨rfl, rfl⟩; go_frame)
          | ((with_reducible change wpList _ _ _ (Oper.mk (some 42) _ _ _ _ _ :: _) _ _); refine kYw (yGtrK _ _ _ _ .i64 C 0 true d42 rfl rfl rfl rfl) ?_; go_frame)
          | ((with_reducible change wpList _ _ _ (Oper.mk (some 44) _ _ _ _ _ :: _) _ _); refine kDigN0 rfl rfl ?_; intro w5 v5 N5 hB5; have hB6 := hB4.trans (hB5.mono hB4.size); go_frame))
        (try simp only [Exit.inBlock, Exit.then])
        refine ret2W rfl rfl ?_
        exact ⟨_, hB6, .inl ⟨hbad.2 (.inr (.inr h3)), rfl, N5⟩⟩
      · have d42 : decide (C > 0) = false := by rw [← HC.out, cmp_pos, ← HY.out]; exact decide_eq_false h3
        go_wp2_with (first
          | ((with_reducible change wpList _ _ _ (Oper.mk (some 16) _ _ _ _ _ :: _) _ _); refine kYw (yLssK _ _ _ _ .i64 (k : Int) 3 false hd rfl rfl rfl rfl) ?_; go_frame)
          | ((with_reducible change wpList _ _ _ (Oper.mk (some 22) _ _ _ _ _ :: _) _ _); refine kYw (yRemN .u64 _ _ _ _ q 65536 r f22.out rfl rfl rfl rfl) ?_; go_frame)
          | ((with_reducible change wpList _ _ _ (Oper.mk (some 24) _ _ _ _ _ :: _) _ _); refine kYw (yQuoN .u64 _ _ _ _ q 65536 s f24.out rfl rfl rfl rfl) ?_; go_frame)
          | ((with_reducible change wpList _ _ _ (Oper.mk (some 25) _ _ _ _ _ :: _) _ _); refine kDigN2 _ _ r s hr hs rfl rfl rfl rfl ?_; intro w1 v1 N1 hB1; go_frame)
          | ((with_reducible change wpList _ _ _ (Oper.mk (some 27) _ _ _ _ _ :: _) _ _); refine kYw (ySubZ _ _ _ _ (E : Int) 3 E3 f27.out rfl rfl rfl rfl) ?_; go_frame)
          | (go_at_call 35; refine (qTimes_num _ N1 (by omega) (by decide)).mono ?_; rintro e w2 ⟨v2, rfl, N2, hB2⟩; rw [hrs.out] at N2; have hB := hB1.trans (hB2.mono hB1.size); clear N1 hB1 hB2; go_frame)
          | ((with_reducible change wpList _ _ _ (Oper.mk (some 30) _ _ _ _ _ :: _) _ _); refine kYw (yQuoN .u32 _ _ _ _ b 8388608 x f30.out rfl rfl rfl rfl) ?_; go_frame)
          | ((with_reducible change wpList _ _ _ (Oper.mk (some 31) _ _ _ _ _ :: _) _ _); refine kYw (yRemN .u32 _ _ _ _ x 2 c f31.out rfl rfl rfl rfl) ?_; go_frame)
          | ((with_reducible change wpList _ _ _ (Oper.mk (some 32) _ _ _ _ _ :: _) _ _); refine kYw (yEqlK _ _ _ _ .u32 (c : Int) 1 false d32 rfl rfl rfl rfl) ?_; go_frame)
          | (go_at_call 36; refine (dBits_num N2 (by omega) HL.out).mono ?_; rintro e w3 ⟨rfl, rfl⟩; go_frame)
          | ((with_reducible change wpList _ _ _ (Oper.mk (some 36) _ _ _ _ _ :: _) _ _); refine kYw (yEqlK _ _ _ _ .i64 (L : Int) 0 false d36 rfl rfl rfl rfl) ?_; go_frame)
          | (go_at_call 38; refine (qEasiest_num HY.out _).mono ?_; rintro e w3 ⟨v3, rfl, N3, hB3⟩; have N4 := N2.below hB3; have hB4 := hB.trans (hB3.mono hB.size); clear N2 hB hB3; go_frame)
          | (go_at_call 37; refine (dCompare_r N4 N3 (by omega) (by decide) HC.out).mono ?_; rintro e w4 ⟨rfl, rfl⟩; go_frame)
          | ((with_reducible change wpList _ _ _ (Oper.mk (some 42) _ _ _ _ _ :: _) _ _); refine kYw (yGtrK _ _ _ _ .i64 C 0 false d42 rfl rfl rfl rfl) ?_; go_frame))
        (try simp only [Exit.inBlock, Exit.then])
        refine ret2W rfl rfl ?_
        have hup : E3.toNat < 32 := up_small (M := r + 65536 * s) (by rw [hrs.out]; omega) (by rw [hrs.out]; omega)
        exact ⟨_, hB4, .inr ⟨fun hb' => by rcases hbad.1 hb' with h | h | h <;> contradiction, rfl, by rw [HR.out]; exact N4.more (by omega)⟩⟩
end Go.Proofs.Ytdeggdmoijfhdaa
