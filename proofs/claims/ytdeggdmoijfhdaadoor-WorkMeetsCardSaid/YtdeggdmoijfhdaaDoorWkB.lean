/-
  Joined: WkRef, WkRef2, WkRef3, WkRef4, WkLaw0.
-/
import Derived.Test.YtdeggdmoijfhdaaDoorWkA
import Derived.Test.YtdeggdmoijfhdaaDoorFRefAll
import Derived.Test.YtdeggdmoijfhdaaDoorWRef5
import Derived.Test.YtdeggdmoijfhdaaDoorPcAll
/-
  Layer 12: the reference: so many times 256, the easiest one, Expand and Work by the numbers that their digits are.
-/
namespace Go.Proofs.YtdeggdmoijfhdaaDoor
open Go Go.RowKit

section
variable {ops : Array Oper} {Q : Exit → Act → World → Prop} {rest : List Oper} {o : Oper} {a : Act} {w : World}
theorem kDigN0 (ho : o.op = .buildSlice 41 0 #[]) (hg : Region.wanted o (yielded ops a.tmps) = true) (h : ∀ w1 v, Num w1 v 0 0 → Below w.heap.size w w1 → wpList Tryd.prog ops Q rest (a.put o.dst v) w1) : wpList Tryd.prog ops Q (o :: rest) a w := by
  obtain ⟨ix, hix, _⟩ := w64Info
  refine kBuildSlice0 _ _ ho hg Tryd.underlying41 ix hix ?_
  intro w1 hR _ hB
  exact h w1 _ ⟨[], fun _ h => by simp at h, isVals_lit (l := []) hR, rfl, Nat.le_refl _⟩ hB
theorem kDigN1 (x0 : Operand) (n : Nat) (hn : n < 65536) (ho : o.op = .buildSlice 41 1 #[(0, x0)]) (hg : Region.wanted o (yielded ops a.tmps) = true) (hx : a.eval x0 = .int .u64 (n : Int)) (h : ∀ w1 v, Num w1 v n 1 → Below w.heap.size w w1 → wpList Tryd.prog ops Q rest (a.put o.dst v) w1) : wpList Tryd.prog ops Q (o :: rest) a w := by
  obtain ⟨ix, hix, hzx, hsx, _⟩ := w64Info
  refine kBuildSlice1 _ _ _ (VU n) ho hg Tryd.underlying41 ix _ hix hzx hsx hx rfl ?_
  intro w1 hR _ hB
  exact h w1 _ ⟨[n], fun x hx => by simp at hx; subst hx; exact hn, isVals_lit (l := [VU n]) hR, by simp [dval], Nat.le_refl _⟩ hB
theorem kDigN2 (x0 x1 : Operand) (m n : Nat) (hm : m < 65536) (hn : n < 65536) (ho : o.op = .buildSlice 41 2 #[(0, x0), (1, x1)]) (hg : Region.wanted o (yielded ops a.tmps) = true) (hx : a.eval x0 = .int .u64 (m : Int)) (hy : a.eval x1 = .int .u64 (n : Int)) (h : ∀ w1 v, Num w1 v (m + 65536 * n) 2 → Below w.heap.size w w1 → wpList Tryd.prog ops Q rest (a.put o.dst v) w1) : wpList Tryd.prog ops Q (o :: rest) a w := by
  obtain ⟨ix, hix, hzx, hsx, _⟩ := w64Info
  refine kBuildSlice2 _ _ _ _ (VU m) (VU n) ho hg Tryd.underlying41 ix _ hix hzx hsx hx rfl hy rfl ?_
  intro w1 hR _ hB
  exact h w1 _ ⟨[m, n], fun x hx => by simp at hx; rcases hx with rfl | rfl <;> assumption, isVals_lit (l := [VU m, VU n]) hR, by simp [dval], Nat.le_refl _⟩ hB
end
theorem Num.more {w : World} {v : Value} {n k j : Nat} (h : Num w v n k) (hk : k ≤ j) : Num w v n j := by
  obtain ⟨l, h1, h2, h3, h4⟩ := h; exact ⟨l, h1, h2, h3, Nat.le_trans h4 hk⟩
theorem dBits_num {v : Value} {n k r : Nat} {w : World} (h : Num w v n k) (hk : k ≤ 1000) (hr : blen n = r) : Calls Tryd.prog 28 #[v] w fun e w' => e = .returned (.int .i64 (r : Int)) ∧ w = w' := by
  obtain ⟨l, h1, h2, h3, h4⟩ := h
  subst h3; subst hr
  exact dBits_any l v w h1 h2 (by omega)
theorem dCompare_r {va vb : Value} {na nb ka kb : Nat} {w : World} {r : Int} (ha : Num w va na ka) (hb : Num w vb nb kb) (hka : ka ≤ 1000) (hkb : kb ≤ 1000) (hr : cmpI na nb = r) : Calls Tryd.prog 15 #[va, vb] w fun e w' => e = .returned (.int .i64 r) ∧ w = w' := by
  subst hr; exact dCompare_num ha hb hka hkb
set_option maxRecDepth 100000 in
set_option maxHeartbeats 8000000 in
theorem qTimes_num {v : Value} {n k : Nat} {z : Int} (w : World) (h : Num w v n k) (hz : z ≤ 300) (hk : k ≤ 100) : Calls Tryd.prog 27 #[v, .int .i64 z] w (NumPost w (n * 256 ^ z.toNat) (k + z.toNat)) := by
  obtain ⟨m, Hm⟩ : ∃ m, Hid (z.toNat = m) := ⟨_, Lib.hid rfl⟩
  have hm : m ≤ 300 := by rw [← Hm.out]; omega
  rw [Hm.out]
  go_enter Tryd.func27, Tryd.ntmps27
  go_wp2
  go_loopw [5, 0] (fun i d wr => ∃ j : Nat, j ≤ m ∧ i = .int .i64 (j : Int) ∧ Num wr d (n * 256 ^ j) (k + j) ∧ Below w.heap.size w wr) (fun i _ _ => 301 - (intOf i).toNat)
  case atStart => exact ⟨0, Nat.zero_le _, rfl, by simpa using h, Below.refl _ _⟩
  case round =>
    obtain ⟨j, hj, rfl, N, hB⟩ := hrel
    clear h
    by_cases hlt : j < m
    · have hd : decide ((j : Int) < z) = true := by have := Hm.out; simp; omega
      go_wp2_with (first
        | ((with_reducible change wpList _ _ _ (Oper.mk (some 8) _ _ _ _ _ :: _) _ _); refine kLssI _ _ _ _ .i64 (j : Int) z true rfl rfl rfl rfl hd ?_; go_frame)
        | ((with_reducible change wpList _ _ _ (Oper.mk (some 12) _ _ _ _ _ :: _) _ _); refine kDigN1 _ 256 (by decide) rfl rfl rfl ?_; intro w1 v1 N1 hB1; have Na := N.below hB1; have hB' := hB.trans (hB1.mono hB.size); clear N hB hB1; go_frame)
        | (go_at_call 39; refine (dMul_num Na N1 (by omega) (by decide)).mono ?_; rintro e w2 ⟨v2, rfl, N2, hB2⟩; have hB'' := hB'.trans (hB2.mono hB'.size); clear Na N1 hB' hB2; go_frame)
        | ((with_reducible change wpList _ _ _ (Oper.mk (some 10) _ _ _ _ _ :: _) _ _); refine kYw (yAddZ _ _ _ _ (j : Int) 1 ((j + 1 : Nat) : Int) (by omega) rfl rfl rfl rfl) ?_; go_frame))
      go_roundw
      case rel => exact ⟨j + 1, by omega, rfl, by rw [Nat.pow_succ, ← Nat.mul_assoc]; exact N2, hB''⟩
      case measure => simp [intOf]; omega
    · have hd : decide ((j : Int) < z) = false := by have := Hm.out; simp; omega
      have hjm : j = m := by omega
      subst hjm
      go_wp2_with (first
        | ((with_reducible change wpList _ _ _ (Oper.mk (some 8) _ _ _ _ _ :: _) _ _); refine kLssI _ _ _ _ .i64 (j : Int) z false rfl rfl rfl rfl hd ?_; go_frame))
      go_ret
      exact ⟨_, rfl, N, hB⟩
set_option maxRecDepth 100000 in
theorem qEasiest_num {E : Nat} (hE : easyN = E) (w : World) : Calls Tryd.prog 29 #[] w (NumPost w E 31) := by
  obtain ⟨z, Hz⟩ : ∃ z : Int, Hid (z = 29) := ⟨_, Lib.hid rfl⟩
  go_enter Tryd.func29, Tryd.ntmps29
  go_wp2_with (first
    | ((with_reducible change wpList _ _ _ (Oper.mk (some 1) _ _ _ _ _ :: _) _ _); refine kDigN2 _ _ 65535 127 (by decide) (by decide) rfl rfl rfl rfl ?_; intro w1 v1 N1 hB1; go_frame)
    | (go_at_call 27; refine (qTimes_num _ N1 (by decide) (by decide)).mono ?_; rintro e w2 ⟨v2, rfl, N2, hB2⟩; go_frame))
  go_ret
  exact ⟨_, rfl, hE ▸ N2, hB1.trans (hB2.mono hB1.size)⟩
end Go.Proofs.YtdeggdmoijfhdaaDoor

/-
  Layer 12: the reference: Expand, Work and Next, by the numbers that their digits are.
-/
namespace Go.Proofs.YtdeggdmoijfhdaaDoor
open Go Go.RowKit

theorem raw_as (b : Nat) : b % 8388608 / 256 ^ (3 - b / 16777216) * 256 ^ (((b / 16777216 : Nat) : Int) - 3).toNat = rawN b := by
  unfold rawN
  by_cases h : b / 16777216 ≤ 3
  · rw [if_pos h, show (((b / 16777216 : Nat) : Int) - 3).toNat = 0 by omega, Nat.pow_zero, Nat.mul_one]
  · rw [if_neg h, show 3 - b / 16777216 = 0 by omega, Nat.pow_zero, Nat.div_one, show (((b / 16777216 : Nat) : Int) - 3).toNat = b / 16777216 - 3 by omega]
theorem blen_zero_iff (n : Nat) : blen n = 0 ↔ n = 0 := by
  constructor
  · intro h
    have := (byteN_le n 0).1 (by unfold byteN; omega)
    simpa using this
  · rintro rfl; rfl
theorem cmp_pos (x y : Nat) : decide (cmpI x y > 0) = decide (y < x) := by
  unfold cmpI; split
  · next h => simp; omega
  · split
    · next h => simp [h]
    · next h => simp [h]
/-- a number of at most 33 digits of 256, if it is no more than the easiest -/
theorem up_small {M e : Nat} (hM : 0 < M * 256 ^ e) (h : M * 256 ^ e ≤ easyN) : e < 32 := by
  apply Nat.lt_of_not_le; intro h32
  have h1 : 0 < M := Nat.pos_of_mul_pos_right hM
  have h2 : 256 ^ 32 ≤ 256 ^ e := Nat.pow_le_pow_right (by decide) h32
  have h3 : 256 ^ e ≤ M * 256 ^ e := Nat.le_mul_of_pos_left _ h1
  have := easy_lt
  omega
theorem ret2W {fn : Func} {R : Ending → World → Prop} {P : Program} {a : Act} {w : World} {t u : Tmp} (h : fn.results = #[.tmp t, .tmp u]) (hd : a.defers = []) (hR : R (.returned (.tuple #[a.tmps.getD t undef, a.tmps.getD u undef])) w) : bodyPost P fn R .ret a w :=
  bodyPost_ret (by simp [results, h]) hd hR
def QExp (w : World) (b : Nat) (e : Ending) (w' : World) : Prop := ∃ v, Below w.heap.size w w' ∧ ((badN b ∧ e = .returned (.tuple #[v, .int .i64 121]) ∧ Num w' v 0 0) ∨ (¬ badN b ∧ e = .returned (.tuple #[v, .int .i64 0]) ∧ Num w' v (rawN b) 34))

set_option maxRecDepth 100000 in
set_option maxHeartbeats 16000000 in
theorem qExpand_any {b : Nat} (hb : b < 4294967296) (w : World) : Calls Tryd.prog 13 #[.int .u32 (b : Int)] w (QExp w b) := by
  obtain ⟨M, HM⟩ : ∃ v_ : Nat, Hid (b % 8388608 = v_) := ⟨_, Lib.hid rfl⟩
  obtain ⟨E, HE⟩ : ∃ v_ : Nat, Hid (b / 16777216 = v_) := ⟨_, Lib.hid rfl⟩
  obtain ⟨E3, HE3⟩ : ∃ v_ : Int, Hid ((E : Int) - 3 = v_) := ⟨_, Lib.hid rfl⟩
  have hM : M < 8388608 := by rw [← HM.out]; exact Nat.mod_lt _ (by decide)
  have hE : E < 256 := by have := HE.out; omega
  have f9 : Hid (b % 8388608 = M ∧ 0 < 8388608) := Lib.hid ⟨HM.out, by decide⟩
  have f10 : Hid (IntKind.u64.wrap (M : Int) = (M : Int)) := Lib.hid (wrap_u64N (by omega))
  have f12 : Hid (b / 16777216 = E ∧ 0 < 16777216 ∧ IntKind.u32.wrap (b / 16777216 : Nat) = (b / 16777216 : Nat)) := Lib.hid ⟨HE.out, by decide, wrap_u32N (by omega)⟩
  have f13 : Hid (IntKind.i64.wrap (E : Int) = (E : Int)) := Lib.hid (wrap_i64N (by omega))
  go_enter Tryd.func13, Tryd.ntmps13
  go_wp2_with (first
    | ((with_reducible change wpList _ _ _ (Oper.mk (some 9) _ _ _ _ _ :: _) _ _); refine kYw (yRemN .u32 _ _ _ _ b 8388608 M f9.out rfl rfl rfl rfl) ?_; go_frame)
    | ((with_reducible change wpList _ _ _ (Oper.mk (some 10) _ _ _ _ _ :: _) _ _); refine kYw (yConvK Tryd.underlying22 Tryd.underlying29 _ (M : Int) (M : Int) f10.out rfl rfl rfl) ?_; go_frame)
    | ((with_reducible change wpList _ _ _ (Oper.mk (some 12) _ _ _ _ _ :: _) _ _); refine kYw (yQuoN .u32 _ _ _ _ b 16777216 E f12.out rfl rfl rfl rfl) ?_; go_frame)
    | ((with_reducible change wpList _ _ _ (Oper.mk (some 13) _ _ _ _ _ :: _) _ _); refine kYw (yConvK Tryd.underlying22 Tryd.underlying3 _ (E : Int) (E : Int) f13.out rfl rfl rfl) ?_; go_frame))
  clear f9 f10 f12 f13
  go_loopw [6, 4] (fun i d wr => ∃ j k q : Nat, Hid (E + j = k) ∧ Hid (M / 256 ^ j = q) ∧ Hid (k ≤ max E 3) ∧ i = .int .i64 (k : Int) ∧ d = .int .u64 (q : Int) ∧ wr = w) (fun i _ _ => 300 - (intOf i).toNat)
  case atStart => exact ⟨0, E, M, Lib.hid rfl, Lib.hid (by simp), Lib.hid (Nat.le_max_left _ _), rfl, rfl, rfl⟩
  case round =>
    obtain ⟨j, k, q, Hk, Hq, Hm, rfl, rfl, rfl⟩ := hrel
    have hq : q < 8388608 := by rw [← Hq.out]; exact Nat.lt_of_le_of_lt (Nat.div_le_self _ _) hM
    have hmx := Hm.out
    by_cases hlt : k < 3
    · have hd : decide ((k : Int) < 3) = true := by simp; omega
      obtain ⟨q1, Hq1⟩ : ∃ v_ : Nat, Hid (q / 256 = v_) := ⟨_, Lib.hid rfl⟩
      have f20 : Hid (q / 256 = q1 ∧ 0 < 256 ∧ IntKind.u64.wrap (q / 256 : Nat) = (q / 256 : Nat)) := Lib.hid ⟨Hq1.out, by decide, wrap_u64N (by omega)⟩
      go_wp2_with (first
        | ((with_reducible change wpList _ _ _ (Oper.mk (some 16) _ _ _ _ _ :: _) _ _); refine kYw (yLssK _ _ _ _ .i64 (k : Int) 3 true hd rfl rfl rfl rfl) ?_; go_frame)
        | ((with_reducible change wpList _ _ _ (Oper.mk (some 20) _ _ _ _ _ :: _) _ _); refine kYw (yQuoN .u64 _ _ _ _ q 256 q1 f20.out rfl rfl rfl rfl) ?_; go_frame)
        | ((with_reducible change wpList _ _ _ (Oper.mk (some 18) _ _ _ _ _ :: _) _ _); refine kYw (yAddZ _ _ _ _ (k : Int) 1 ((k + 1 : Nat) : Int) (by omega) rfl rfl rfl rfl) ?_; go_frame))
      go_roundw
      case rel => exact ⟨j + 1, k + 1, q1, Lib.hid (by have := Hk.out; omega), Lib.hid (by rw [← Hq1.out, ← Hq.out, Nat.pow_succ, Nat.div_div_eq_div_mul]), Lib.hid (by omega), rfl, rfl, by first | rfl | trivial⟩
      case measure => simp [intOf]; omega
    · have hd : decide ((k : Int) < 3) = false := by simp; omega
      have hj : 3 - E = j := by have := Hk.out; omega
      have hqR : q * 256 ^ E3.toNat = rawN b := by rw [← HE3.out, ← Hq.out, ← hj, ← HM.out, ← HE.out]; exact raw_as b
      have hE3 := HE3.out
      clear Hk Hq Hm hmx HM
      obtain ⟨r, Hr⟩ : ∃ v_ : Nat, Hid (q % 65536 = v_) := ⟨_, Lib.hid rfl⟩
      obtain ⟨s, Hs⟩ : ∃ v_ : Nat, Hid (q / 65536 = v_) := ⟨_, Lib.hid rfl⟩
      obtain ⟨R, HR⟩ : ∃ v_ : Nat, Hid (rawN b = v_) := ⟨_, Lib.hid rfl⟩
      obtain ⟨L, HL⟩ : ∃ v_ : Nat, Hid (blen R = v_) := ⟨_, Lib.hid rfl⟩
      obtain ⟨x, Hx⟩ : ∃ v_ : Nat, Hid (b / 8388608 = v_) := ⟨_, Lib.hid rfl⟩
      obtain ⟨c, Hc⟩ : ∃ v_ : Nat, Hid (x % 2 = v_) := ⟨_, Lib.hid rfl⟩
      have hr : r < 65536 := by rw [← Hr.out]; exact Nat.mod_lt _ (by decide)
      have hs : s < 65536 := by have := Hs.out; omega
      have hrs : (r + 65536 * s) * 256 ^ E3.toNat = R := by rw [← HR.out, ← hqR, ← Hr.out, ← Hs.out, Nat.mod_add_div]
      have f22 : Hid (q % 65536 = r ∧ 0 < 65536) := Lib.hid ⟨Hr.out, by decide⟩
      have f24 : Hid (q / 65536 = s ∧ 0 < 65536 ∧ IntKind.u64.wrap (q / 65536 : Nat) = (q / 65536 : Nat)) := Lib.hid ⟨Hs.out, by decide, wrap_u64N (by omega)⟩
      have f27 : Hid ((E : Int) - 3 = E3 ∧ -9223372036854775808 ≤ E3 ∧ E3 < 9223372036854775808) := Lib.hid (by omega)
      have f30 : Hid (b / 8388608 = x ∧ 0 < 8388608 ∧ IntKind.u32.wrap (b / 8388608 : Nat) = (b / 8388608 : Nat)) := Lib.hid ⟨Hx.out, by decide, wrap_u32N (by omega)⟩
      have f31 : Hid (x % 2 = c ∧ 0 < 2) := Lib.hid ⟨Hc.out, by decide⟩
      have hkz : E3.toNat ≤ 252 := by omega
      have hbad : badN b ↔ c = 1 ∨ R = 0 ∨ easyN < R := by rw [← HR.out, ← Hc.out, ← Hx.out]; rfl
      replace hrs := Lib.hid hrs
      clear hqR hE3 Hr Hs Hx Hc hj hM
      by_cases h1 : c = 1
      · have d32 : decide ((c : Int) = 1) = true := by simp; omega
        go_wp2_with (first
          | ((with_reducible change wpList _ _ _ (Oper.mk (some 16) _ _ _ _ _ :: _) _ _); refine kYw (yLssK _ _ _ _ .i64 (k : Int) 3 false hd rfl rfl rfl rfl) ?_; go_frame)
          | ((with_reducible change wpList _ _ _ (Oper.mk (some 22) _ _ _ _ _ :: _) _ _); refine kYw (yRemN .u64 _ _ _ _ q 65536 r f22.out rfl rfl rfl rfl) ?_; go_frame)
          | ((with_reducible change wpList _ _ _ (Oper.mk (some 24) _ _ _ _ _ :: _) _ _); refine kYw (yQuoN .u64 _ _ _ _ q 65536 s f24.out rfl rfl rfl rfl) ?_; go_frame)
          | ((with_reducible change wpList _ _ _ (Oper.mk (some 25) _ _ _ _ _ :: _) _ _); refine kDigN2 _ _ r s hr hs rfl rfl rfl rfl ?_; intro w1 v1 N1 hB1; go_frame)
          | ((with_reducible change wpList _ _ _ (Oper.mk (some 27) _ _ _ _ _ :: _) _ _); refine kYw (ySubZ _ _ _ _ (E : Int) 3 E3 f27.out rfl rfl rfl rfl) ?_; go_frame)
          | (go_at_call 27; refine (qTimes_num _ N1 (by omega) (by decide)).mono ?_; rintro e w2 ⟨v2, rfl, N2, hB2⟩; rw [hrs.out] at N2; have hB := hB1.trans (hB2.mono hB1.size); clear N1 hB1 hB2; go_frame)
          | ((with_reducible change wpList _ _ _ (Oper.mk (some 30) _ _ _ _ _ :: _) _ _); refine kYw (yQuoN .u32 _ _ _ _ b 8388608 x f30.out rfl rfl rfl rfl) ?_; go_frame)
          | ((with_reducible change wpList _ _ _ (Oper.mk (some 31) _ _ _ _ _ :: _) _ _); refine kYw (yRemN .u32 _ _ _ _ x 2 c f31.out rfl rfl rfl rfl) ?_; go_frame)
          | ((with_reducible change wpList _ _ _ (Oper.mk (some 32) _ _ _ _ _ :: _) _ _); refine kYw (yEqlK _ _ _ _ .u32 (c : Int) 1 true d32 rfl rfl rfl rfl) ?_; go_frame)
          | ((with_reducible change wpList _ _ _ (Oper.mk (some 44) _ _ _ _ _ :: _) _ _); refine kDigN0 rfl rfl ?_; intro w5 v5 N5 hB5; have hB6 := hB.trans (hB5.mono hB.size); go_frame))
        (try simp only [Exit.inBlock, Exit.then])
        refine ret2W rfl rfl ?_
        exact ⟨_, hB6, .inl ⟨hbad.2 (.inl h1), rfl, N5⟩⟩
      have d32 : decide ((c : Int) = 1) = false := by simp; omega
      by_cases h2 : R = 0
      · have d36 : decide ((L : Int) = 0) = true := by have := (blen_zero_iff R).2 h2; have := HL.out; simp; omega
        go_wp2_with (first
          | ((with_reducible change wpList _ _ _ (Oper.mk (some 16) _ _ _ _ _ :: _) _ _); refine kYw (yLssK _ _ _ _ .i64 (k : Int) 3 false hd rfl rfl rfl rfl) ?_; go_frame)
          | ((with_reducible change wpList _ _ _ (Oper.mk (some 22) _ _ _ _ _ :: _) _ _); refine kYw (yRemN .u64 _ _ _ _ q 65536 r f22.out rfl rfl rfl rfl) ?_; go_frame)
          | ((with_reducible change wpList _ _ _ (Oper.mk (some 24) _ _ _ _ _ :: _) _ _); refine kYw (yQuoN .u64 _ _ _ _ q 65536 s f24.out rfl rfl rfl rfl) ?_; go_frame)
          | ((with_reducible change wpList _ _ _ (Oper.mk (some 25) _ _ _ _ _ :: _) _ _); refine kDigN2 _ _ r s hr hs rfl rfl rfl rfl ?_; intro w1 v1 N1 hB1; go_frame)
          | ((with_reducible change wpList _ _ _ (Oper.mk (some 27) _ _ _ _ _ :: _) _ _); refine kYw (ySubZ _ _ _ _ (E : Int) 3 E3 f27.out rfl rfl rfl rfl) ?_; go_frame)
          | (go_at_call 27; refine (qTimes_num _ N1 (by omega) (by decide)).mono ?_; rintro e w2 ⟨v2, rfl, N2, hB2⟩; rw [hrs.out] at N2; have hB := hB1.trans (hB2.mono hB1.size); clear N1 hB1 hB2; go_frame)
          | ((with_reducible change wpList _ _ _ (Oper.mk (some 30) _ _ _ _ _ :: _) _ _); refine kYw (yQuoN .u32 _ _ _ _ b 8388608 x f30.out rfl rfl rfl rfl) ?_; go_frame)
          | ((with_reducible change wpList _ _ _ (Oper.mk (some 31) _ _ _ _ _ :: _) _ _); refine kYw (yRemN .u32 _ _ _ _ x 2 c f31.out rfl rfl rfl rfl) ?_; go_frame)
          | ((with_reducible change wpList _ _ _ (Oper.mk (some 32) _ _ _ _ _ :: _) _ _); refine kYw (yEqlK _ _ _ _ .u32 (c : Int) 1 false d32 rfl rfl rfl rfl) ?_; go_frame)
          | (go_at_call 28; refine (dBits_num N2 (by omega) HL.out).mono ?_; rintro e w3 ⟨rfl, rfl⟩; go_frame)
          | ((with_reducible change wpList _ _ _ (Oper.mk (some 36) _ _ _ _ _ :: _) _ _); refine kYw (yEqlK _ _ _ _ .i64 (L : Int) 0 true d36 rfl rfl rfl rfl) ?_; go_frame)
          | ((with_reducible change wpList _ _ _ (Oper.mk (some 44) _ _ _ _ _ :: _) _ _); refine kDigN0 rfl rfl ?_; intro w5 v5 N5 hB5; have hB6 := hB.trans (hB5.mono hB.size); go_frame))
        (try simp only [Exit.inBlock, Exit.then])
        refine ret2W rfl rfl ?_
        exact ⟨_, hB6, .inl ⟨hbad.2 (.inr (.inl h2)), rfl, N5⟩⟩
      have d36 : decide ((L : Int) = 0) = false := by have := mt (blen_zero_iff R).1 h2; have := HL.out; simp; omega
      obtain ⟨Y, HY⟩ : ∃ v_ : Nat, Hid (easyN = v_) := ⟨_, Lib.hid rfl⟩
      obtain ⟨C, HC⟩ : ∃ v_ : Int, Hid (cmpI R Y = v_) := ⟨_, Lib.hid rfl⟩
      by_cases h3 : easyN < R
      · have d42 : decide (C > 0) = true := by rw [← HC.out, cmp_pos, ← HY.out]; exact decide_eq_true h3
        go_wp2_with (first
          | ((with_reducible change wpList _ _ _ (Oper.mk (some 16) _ _ _ _ _ :: _) _ _); refine kYw (yLssK _ _ _ _ .i64 (k : Int) 3 false hd rfl rfl rfl rfl) ?_; go_frame)
          | ((with_reducible change wpList _ _ _ (Oper.mk (some 22) _ _ _ _ _ :: _) _ _); refine kYw (yRemN .u64 _ _ _ _ q 65536 r f22.out rfl rfl rfl rfl) ?_; go_frame)
          | ((with_reducible change wpList _ _ _ (Oper.mk (some 24) _ _ _ _ _ :: _) _ _); refine kYw (yQuoN .u64 _ _ _ _ q 65536 s f24.out rfl rfl rfl rfl) ?_; go_frame)
          | ((with_reducible change wpList _ _ _ (Oper.mk (some 25) _ _ _ _ _ :: _) _ _); refine kDigN2 _ _ r s hr hs rfl rfl rfl rfl ?_; intro w1 v1 N1 hB1; go_frame)
          | ((with_reducible change wpList _ _ _ (Oper.mk (some 27) _ _ _ _ _ :: _) _ _); refine kYw (ySubZ _ _ _ _ (E : Int) 3 E3 f27.out rfl rfl rfl rfl) ?_; go_frame)
          | (go_at_call 27; refine (qTimes_num _ N1 (by omega) (by decide)).mono ?_; rintro e w2 ⟨v2, rfl, N2, hB2⟩; rw [hrs.out] at N2; have hB := hB1.trans (hB2.mono hB1.size); clear N1 hB1 hB2; go_frame)
          | ((with_reducible change wpList _ _ _ (Oper.mk (some 30) _ _ _ _ _ :: _) _ _); refine kYw (yQuoN .u32 _ _ _ _ b 8388608 x f30.out rfl rfl rfl rfl) ?_; go_frame)
          | ((with_reducible change wpList _ _ _ (Oper.mk (some 31) _ _ _ _ _ :: _) _ _); refine kYw (yRemN .u32 _ _ _ _ x 2 c f31.out rfl rfl rfl rfl) ?_; go_frame)
          | ((with_reducible change wpList _ _ _ (Oper.mk (some 32) _ _ _ _ _ :: _) _ _); refine kYw (yEqlK _ _ _ _ .u32 (c : Int) 1 false d32 rfl rfl rfl rfl) ?_; go_frame)
          | (go_at_call 28; refine (dBits_num N2 (by omega) HL.out).mono ?_; rintro e w3 ⟨rfl, rfl⟩; go_frame)
          | ((with_reducible change wpList _ _ _ (Oper.mk (some 36) _ _ _ _ _ :: _) _ _); refine kYw (yEqlK _ _ _ _ .i64 (L : Int) 0 false d36 rfl rfl rfl rfl) ?_; go_frame)
          | (go_at_call 29; refine (qEasiest_num HY.out _).mono ?_; rintro e w3 ⟨v3, rfl, N3, hB3⟩; have N4 := N2.below hB3; have hB4 := hB.trans (hB3.mono hB.size); clear N2 hB hB3; go_frame)
          | (go_at_call 15; refine (dCompare_r N4 N3 (by omega) (by decide) HC.out).mono ?_; rintro e w4 ⟨rfl, rfl⟩; go_frame)
          | ((with_reducible change wpList _ _ _ (Oper.mk (some 42) _ _ _ _ _ :: _) _ _); refine kYw (yGtrK _ _ _ _ .i64 C 0 true d42 rfl rfl rfl rfl) ?_; go_frame)
          | ((with_reducible change wpList _ _ _ (Oper.mk (some 44) _ _ _ _ _ :: _) _ _); refine kDigN0 rfl rfl ?_; intro w5 v5 N5 hB5; have hB6 := hB4.trans (hB5.mono hB4.size); go_frame))
        (try simp only [Exit.inBlock, Exit.then])
        refine ret2W rfl rfl ?_
        exact ⟨_, hB6, .inl ⟨hbad.2 (.inr (.inr h3)), rfl, N5⟩⟩
      · have d42 : decide (C > 0) = false := by rw [← HC.out, cmp_pos, ← HY.out]; exact decide_eq_false h3
        go_wp2_with (first
          | ((with_reducible change wpList _ _ _ (Oper.mk (some 16) _ _ _ _ _ :: _) _ _); refine kYw (yLssK _ _ _ _ .i64 (k : Int) 3 false hd rfl rfl rfl rfl) ?_; go_frame)
          | ((with_reducible change wpList _ _ _ (Oper.mk (some 22) _ _ _ _ _ :: _) _ _); refine kYw (yRemN .u64 _ _ _ _ q 65536 r f22.out rfl rfl rfl rfl) ?_; go_frame)
          | ((with_reducible change wpList _ _ _ (Oper.mk (some 24) _ _ _ _ _ :: _) _ _); refine kYw (yQuoN .u64 _ _ _ _ q 65536 s f24.out rfl rfl rfl rfl) ?_; go_frame)
          | ((with_reducible change wpList _ _ _ (Oper.mk (some 25) _ _ _ _ _ :: _) _ _); refine kDigN2 _ _ r s hr hs rfl rfl rfl rfl ?_; intro w1 v1 N1 hB1; go_frame)
          | ((with_reducible change wpList _ _ _ (Oper.mk (some 27) _ _ _ _ _ :: _) _ _); refine kYw (ySubZ _ _ _ _ (E : Int) 3 E3 f27.out rfl rfl rfl rfl) ?_; go_frame)
          | (go_at_call 27; refine (qTimes_num _ N1 (by omega) (by decide)).mono ?_; rintro e w2 ⟨v2, rfl, N2, hB2⟩; rw [hrs.out] at N2; have hB := hB1.trans (hB2.mono hB1.size); clear N1 hB1 hB2; go_frame)
          | ((with_reducible change wpList _ _ _ (Oper.mk (some 30) _ _ _ _ _ :: _) _ _); refine kYw (yQuoN .u32 _ _ _ _ b 8388608 x f30.out rfl rfl rfl rfl) ?_; go_frame)
          | ((with_reducible change wpList _ _ _ (Oper.mk (some 31) _ _ _ _ _ :: _) _ _); refine kYw (yRemN .u32 _ _ _ _ x 2 c f31.out rfl rfl rfl rfl) ?_; go_frame)
          | ((with_reducible change wpList _ _ _ (Oper.mk (some 32) _ _ _ _ _ :: _) _ _); refine kYw (yEqlK _ _ _ _ .u32 (c : Int) 1 false d32 rfl rfl rfl rfl) ?_; go_frame)
          | (go_at_call 28; refine (dBits_num N2 (by omega) HL.out).mono ?_; rintro e w3 ⟨rfl, rfl⟩; go_frame)
          | ((with_reducible change wpList _ _ _ (Oper.mk (some 36) _ _ _ _ _ :: _) _ _); refine kYw (yEqlK _ _ _ _ .i64 (L : Int) 0 false d36 rfl rfl rfl rfl) ?_; go_frame)
          | (go_at_call 29; refine (qEasiest_num HY.out _).mono ?_; rintro e w3 ⟨v3, rfl, N3, hB3⟩; have N4 := N2.below hB3; have hB4 := hB.trans (hB3.mono hB.size); clear N2 hB hB3; go_frame)
          | (go_at_call 15; refine (dCompare_r N4 N3 (by omega) (by decide) HC.out).mono ?_; rintro e w4 ⟨rfl, rfl⟩; go_frame)
          | ((with_reducible change wpList _ _ _ (Oper.mk (some 42) _ _ _ _ _ :: _) _ _); refine kYw (yGtrK _ _ _ _ .i64 C 0 false d42 rfl rfl rfl rfl) ?_; go_frame))
        (try simp only [Exit.inBlock, Exit.then])
        refine ret2W rfl rfl ?_
        have hup : E3.toNat < 32 := up_small (M := r + 65536 * s) (by rw [hrs.out]; omega) (by rw [hrs.out]; omega)
        exact ⟨_, hB4, .inr ⟨fun hb' => by rcases hbad.1 hb' with h | h | h <;> contradiction, rfl, by rw [HR.out]; exact N4.more (by omega)⟩⟩
end Go.Proofs.YtdeggdmoijfhdaaDoor

/-
  Layer 12: the reference: a number's bytes, the highest first, and a number in four bytes.
-/
namespace Go.Proofs.YtdeggdmoijfhdaaDoor
open Go Go.RowKit

/-- a number's bytes, the highest first -/
def bytesL (n : Nat) : List UInt8 := (beL n).map UInt8.ofNat
theorem bytesL_zero : bytesL 0 = [] := by unfold bytesL; rw [beL_zero]; rfl
theorem bytesL_len (n : Nat) : (bytesL n).length = byteN n := by unfold bytesL; rw [List.length_map, beL_len]
theorem bytesL_more {x c : Nat} (hc : c < 256) (h : ¬ (x = 0 ∧ c = 0)) : bytesL (256 * x + c) = bytesL x ++ [UInt8.ofNat c] := by
  unfold bytesL; rw [beL_add hc, if_neg h, List.map_append]; rfl
theorem vb_ofN {c : Nat} (hc : c < 256) : VB (UInt8.ofNat c) = .int .u8 (c : Int) := by
  show Value.int .u8 (((UInt8.ofNat c).toNat : Nat) : Int) = _
  rw [UInt8.toNat_ofNat']; congr 2; omega
theorem bytesL_at {n k : Nat} (h : k < byteN n) : ((bytesL n).map VB)[k]? = some (.int .u8 ((n / 256 ^ (byteN n - 1 - k) % 256 : Nat) : Int)) := by
  unfold bytesL
  rw [List.getElem?_map, List.getElem?_map, beL_at n k h]
  show some (VB (UInt8.ofNat _)) = _
  rw [vb_ofN (Nat.mod_lt _ (by decide))]
theorem byteN_mono {m n : Nat} (h : m ≤ n) : byteN m ≤ byteN n := (byteN_le m _).2 (Nat.lt_of_le_of_lt h (byteN_lt n))
theorem byteN_dval {l : List Nat} (h : Digs l) : byteN (dval l) ≤ 2 * l.length := by
  refine (byteN_le _ _).2 ?_
  have := dval_lt h
  unfold P16 at this
  rw [Nat.pow_mul]; exact this
theorem byteN_zero_iff {n : Nat} : byteN n = 0 ↔ n = 0 := ⟨fun h => by rcases Nat.eq_zero_or_pos n with h0 | h0; exact h0; have := byteN_pos h0; omega, fun h => by rw [h]; exact byteN_zero⟩
theorem preN_le (n k : Nat) : 256 * preN n k ≤ preN n (k + 1) := by rw [preN_step]; omega
theorem own_notNew {w : World} {b g : Nat} {v : Value} {l : List UInt8} (h : OwnB w b v l) (hg : w.heap.size ≤ g) : v.ownBlock ≠ some g := by
  rcases h.2 with ⟨rfl, -⟩ | ⟨g', cap, cur, rfl, -, hr, -⟩
  · simp [Value.ownBlock]
  · intro e
    simp only [Value.ownBlock, Option.some.injEq] at e
    have := (Array.getElem?_eq_some_iff.1 hr).1
    omega
section
variable {ops : Array Oper} {o : Oper} {a : Act} {S : World → Prop} {Q : Exit → Act → World → Prop} {rest : List Oper} {w : World}
theorem yIndexK (T E : TypeId) (x y : Operand) (b : Addr) (n c j : Nat) (ht : Tryd.prog.underlying T = some (.slice E)) (hs : (Tryd.prog.info? E).map (·.size) = some 1) (hj : j < n) (ho : o.op = .indexAddr T x y) (hg : Region.wanted o (yielded ops a.tmps) = true) (hx : a.eval x = .slice (some b) n c) (hy : a.eval y = .int .i64 (j : Int)) : YieldsIf Tryd.prog ops S o (.pointer (some (b.add j))) a :=
  yOf hg fun w _ => by
    have hrun : (Instr.indexAt T (.slice (some b) n c) (.int .i64 (j : Int))).run Tryd.prog w = .ok (.pointer (some (b.add j))) w := by
      cases hq : Tryd.prog.info? E with
      | none => simp [hq] at hs
      | some t =>
        have hs' : t.size = 1 := by simpa [hq] using hs
        have hc : (0 : Int) ≤ (j : Int) ∧ (j : Int) < (n : Int) := by omega
        simp [Instr.indexAt, asIntOf, run_underlying ht, hc, sizeOf, typeInfo, hq, hs']
        intro hle; omega
    unfold execOp
    simp only [ho, hx, hy, Sem.run_bind, hrun, Result.andThen_ok, Sem.run_pure]
theorem yLoadK (T : TypeId) (x : Operand) (b : Addr) (v : Value) (d : TypeDesc) (hr : ∀ w, S w → w.cell? b = some v) (hu : Tryd.prog.underlying T = some d) (hd : aggDesc d = false) (ho : o.op = .load T x) (hg : Region.wanted o (yielded ops a.tmps) = true) (hx : a.eval x = .pointer (some b)) : YieldsIf Tryd.prog ops S o v a :=
  yOf hg fun w hS => by
    have hl : (loadVar T b).run Tryd.prog w = .ok v w := by simp [loadVar, Sem.run_bind, run_isAgg hu, hd, load, Sem.run, hr w hS]
    unfold execOp
    simp only [ho, hx, Instr.loadAt, Instr.sureAddr, Sem.run_bind, Sem.run_pure, Result.andThen_ok, hl]
theorem yLenK (T : TypeId) (x : Operand) (E : TypeId) (ao : Option Addr) (n c : Nat) (ht : Tryd.prog.underlying T = some (.slice E)) (ho : o.op = .call { callee := .builtin .len, args := #[x], argTypes := #[T] }) (hg : Region.wanted o (yielded ops a.tmps) = true) (hx : a.eval x = .slice ao n c) : YieldsIf Tryd.prog ops S o (.int .i64 (n : Int)) a :=
  yOf hg fun w hS => by
    unfold execOp
    simp [ho, hx, resolve, invoke, builtin, Builtin.len_, run_underlying ht, goInt]
theorem kAppGw (s x : Operand) (base : Nat) (v y : Value) (xs news : List UInt8) (hown : OwnB w base v xs) (hy : IsVals w y (news.map VB)) (hlen : xs.length + news.length ≤ 1000000000) (hbase : base ≤ w.heap.size) (ho : o.op = .call { callee := .builtin .append, args := #[s, x], argTypes := #[57, 57] }) (hg : o.guard = none) (hs : a.eval s = v) (hx : a.eval x = y)
    (h : ∀ v' w', OwnB w' base v' (xs ++ news) → Below base w w' → w.grownBy w' v.ownBlock → wpList Tryd.prog ops Q rest (a.put o.dst v') w') : wpList Tryd.prog ops Q (o :: rest) a w := by
  obtain ⟨i, hi, hz, hsize, hby⟩ := b8Info
  refine kAppend s x _ _ ho hg base i _ Tryd.underlying57 hi hz hsize rfl v y (xs.map VB) (news.map VB) hs hown hx hy (vbs_one _) (by simp [maxLen]; omega) (by rw [hby]; simp; omega) hbase fun v' w' h1 h2 => ?_
  rw [← List.map_append] at h1
  exact h v' w' h1 (below_grown hown h2 hbase) h2
end
theorem vals_one8 {c g : Nat} {w : World} (hc : c < 256) (h : Row w g 5 #[.int .u8 (c : Int)]) : IsVals w (.slice (some ⟨g, 0, none⟩) 1 1) ([UInt8.ofNat c].map VB) := by
  rw [List.map_cons, List.map_nil, vb_ofN hc]; exact isVals_lit (l := [.int .u8 (c : Int)]) h
theorem info_u64W : (Tryd.prog.info? 29).map (·.size) = some 1 := by kernel_rfl
end Go.Proofs.YtdeggdmoijfhdaaDoor

/-
  Layer 12: the reference: Work and Next.
-/
namespace Go.Proofs.YtdeggdmoijfhdaaDoor
open Go Go.RowKit

theorem qExpand_bad {b : Nat} (hb : b < 4294967296) (h : badN b) (w : World) : Calls Tryd.prog 13 #[.int .u32 (b : Int)] w (fun e w' => ∃ v, e = .returned (.tuple #[v, .int .i64 121]) ∧ Num w' v 0 0 ∧ Below w.heap.size w w') :=
  (qExpand_any hb w).mono fun _ _ ⟨v, hB, hc⟩ => by
    rcases hc with ⟨-, e, hN⟩ | ⟨hn, -, -⟩
    · exact ⟨v, e, hN, hB⟩
    · exact absurd h hn
theorem qExpand_ok {b t : Nat} (hb : b < 4294967296) (h : ¬ badN b) (ht : rawN b = t) (w : World) : Calls Tryd.prog 13 #[.int .u32 (b : Int)] w (fun e w' => ∃ v, e = .returned (.tuple #[v, .int .i64 0]) ∧ Num w' v t 34 ∧ Below w.heap.size w w') :=
  (qExpand_any hb w).mono fun _ _ ⟨v, hB, hc⟩ => by
    subst ht
    rcases hc with ⟨hn, -, -⟩ | ⟨-, e, hN⟩
    · exact absurd hn h
    · exact ⟨v, e, hN, hB⟩
/-- 2 to the power of 256, in digits -/
theorem pow_256 {w : World} {v : Value} {m : Nat} (h : Num w v (2 ^ m) (m / 16 + 1)) (hm : m = 256) : Num w v M256 17 := by subst hm; exact h
end Go.Proofs.YtdeggdmoijfhdaaDoor

/-
  Layer 12: the statements: what they have in common.
-/
namespace Go.Proofs.YtdeggdmoijfhdaaDoor
open Go Go.RowKit

theorem info_u32W : (Tryd.prog.info? 22).map (·.size) = some 1 := by kernel_rfl
theorem yLeqK {P : Program} {ops : Array Oper} {o : Oper} {a : Act} {S : World → Prop} (T T2 : TypeId) (x y : Operand) (k : IntKind) (m n : Int) (b : Bool) (hb : decide (m ≤ n) = b) (ho : o.op = .binOp .leq T x y T2) (hg : Region.wanted o (yielded ops a.tmps) = true) (hx : a.eval x = .int k m) (hy : a.eval y = .int k n) : YieldsIf P ops S o (.bool b) a :=
  yOf hg fun w _ => by
    subst hb
    unfold execOp; simp only [ho, hx, hy]; simp [eqGuard, binOp, Op.intCmp]
theorem same_W (n : Nat) : decide (n % M256 = n % M256) = true := by simp
theorem zero_W {n : Nat} (h : n = 0) : decide (n % M256 = 0 % M256) = true := by subst h; rfl
theorem pos_W {n : Nat} (h : 0 < n) (hn : n < M256) : decide (n % M256 = 0 % M256) = false := by rw [Nat.mod_eq_of_lt hn, Nat.zero_mod]; exact decide_eq_false (by omega)
theorem nsame_W (n : Nat) : (!decide (n % M256 = n % M256)) = false := by simp
theorem easy_fine : ¬ badN 545259519 := by decide +kernel
theorem easy_raw : rawN 545259519 = easyN := by decide +kernel
theorem easy_work : workN 545259519 = 2 := by decide +kernel
theorem kExpand_okL {v : Int} {b t : Nat} (hv : v = (b : Int)) (hb : b < 4294967296) (h : ¬ badN b) (Ht : rawN b = t) (w : World) : Calls Tryd.prog 7 #[.int .u32 v] w fun e w' => e = .returned (.tuple #[WV t, .int .i64 0]) ∧ Below w.heap.size w w' := by subst hv; exact kExpand_ok hb h Ht w
theorem kExpand_badL {v : Int} {b : Nat} (hv : v = (b : Int)) (hb : b < 4294967296) (h : badN b) (w : World) : Calls Tryd.prog 7 #[.int .u32 v] w fun e w' => e = .returned (.tuple #[WV 0, .int .i64 121]) ∧ Below w.heap.size w w' := by subst hv; exact kExpand_bad hb h w
theorem kWork_asL {v : Int} {b r : Nat} (hv : v = (b : Int)) (hb : b < 4294967296) (hr : workN b = r) (w : World) : Calls Tryd.prog 8 #[.int .u32 v] w fun e w' => e = .returned (WV r) ∧ Below w.heap.size w w' := by subst hv; exact kWork_as hb hr w
set_option maxRecDepth 100000 in
set_option maxHeartbeats 32000000 in
theorem workAlive_any (w : World) : Calls Tryd.prog 4 #[] w (fun e w' => e = .returned (.bool true) ∧ Below w.heap.size w w') := by
  obtain ⟨E, HE⟩ : ∃ v_ : Nat, Hid (rawN 545259519 = v_) := ⟨_, Lib.hid rfl⟩
  obtain ⟨n, Hn⟩ : ∃ v_ : Nat, Hid (workN 545259519 = v_) := ⟨_, Lib.hid rfl⟩
  obtain ⟨c, Hc⟩ : ∃ v_ : Nat, Hid (compactN E = v_) := ⟨_, Lib.hid rfl⟩
  have fE : Hid (rawN 545259519 = E) := HE
  have hEN : E = easyN := by rw [← HE.out, easy_raw]
  have hE : E < M256 := by rw [hEN]; exact easy_lt
  have hn : n = 2 := by rw [← Hn.out, easy_work]
  have f8 : Hid (n < 18446744073709551616 ∧ (2 : Int) = (n : Int)) := Lib.hid ⟨by omega, by omega⟩
  have hc : c = 545259519 := by rw [← Hc.out, hEN]; exact compact_easy
  have f17 : Hid (decide ((c : Int) = 545259519) = true) := Lib.hid (by simp; omega)
  clear hEN hn hc HE
  have hM0 := mm_nil w
  (try unfold WV)
  go_enter Tryd.func4, Tryd.ntmps4
  go_wp2_with (first
    | (go_at_call 7; (with_reducible change Calls _ _ #[Value.int .u32 (545259519)] _ _); refine (kExpand_okL (b := 545259519) rfl (by decide) easy_fine fE.out _).mono ?_; rintro e w1 ⟨rfl, hB1⟩; have hM1 := hM0.on hB1; clear hB1 hM0; (try unfold WV); go_frame)
    | ((with_reducible change wpList _ _ _ (Oper.mk (some 1) _ _ _ _ _ :: _) _ _); refine mmAlloc hM1 _ _ rfl rfl zero_Wide ?_; intro w2 hM2; clear hM1; go_frame)
    | ((with_reducible change wpList _ _ _ (Oper.mk none (Op.store _ (Operand.tmp 1) (Operand.tmp 5)) _ _ _ _ :: _) _ _); refine mmStoreAt hM2 0 _ _ _ _ _ _ (wcells E) rfl rfl rfl rfl rfl (info_WideC _) (by simp only [wcells_size]) (wcells_one _) ?_; intro w3 hM3; dsimp only [List.set] at hM3; clear hM2; go_frame)
    | (go_at_call 8; (with_reducible change Calls _ _ #[Value.int .u32 (545259519)] _ _); refine (kWork_asL (b := 545259519) rfl (by decide) Hn.out _).mono ?_; rintro e w4 ⟨rfl, hB4⟩; have hM4 := hM3.on hB4; clear hB4 hM3; (try unfold WV); go_frame)
    | (go_at_call 9; (with_reducible change Calls _ _ #[Value.int .u64 (2)] _ _); refine (wOf_lit n 2 f8.out.1 f8.out.2 _).mono ?_; rintro e w5 ⟨rfl, hB5⟩; have hM5 := hM4.on hB5; clear hB5 hM4; (try unfold WV); go_frame)
    | ((with_reducible change wpList _ _ _ (Oper.mk (some 9) _ _ _ _ _ :: _) _ _); refine kEqlW _ _ _ (n) (n) true rfl rfl rfl rfl (same_W n) ?_; go_frame)
    | ((with_reducible change wpList _ _ _ (Oper.mk (some 12) _ _ _ _ _ :: _) _ _); refine kEqlI _ _ _ _ .i64 (0) (0) true rfl rfl rfl rfl (by decide) ?_; go_frame)
    | ((with_reducible change wpList _ _ _ (Oper.mk (some 15) _ _ _ _ _ :: _) _ _); refine kLoadRow _ _ _ _ _ _ rfl rfl rfl (hM5.get 0 rfl) Tryd.underlying31 rfl (info_WideC _) ?_; go_frame)
    | (go_at_call 10; (with_reducible change Calls _ _ #[Value.agg (wcells E)] _ _); refine (kCompact_as hE Hc.out _).mono ?_; rintro e w6 ⟨rfl, hB6⟩; have hM6 := hM5.on hB6; clear hB6 hM5; (try unfold WV); go_frame)
    | ((with_reducible change wpList _ _ _ (Oper.mk (some 17) _ _ _ _ _ :: _) _ _); refine kYw (yEqlK _ _ _ _ .u32 (c) (545259519) true f17.out rfl rfl rfl rfl) ?_; go_frame))
  go_ret
  exact ⟨rfl, hM6.below⟩
end Go.Proofs.YtdeggdmoijfhdaaDoor
