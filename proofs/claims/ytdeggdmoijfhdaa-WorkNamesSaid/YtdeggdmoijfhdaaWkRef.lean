/-
  Layer 12: the reference: so many times 256, the easiest one, Expand and Work by the numbers that their digits are.
-/
import Derived.Test.YtdeggdmoijfhdaaWkKit
import Derived.Test.YtdeggdmoijfhdaaFRefAll
import Derived.Test.YtdeggdmoijfhdaaWRef5
namespace Go.Proofs.Ytdeggdmoijfhdaa
open Go Go.RowKit

section
variable {ops : Array Oper} {Q : Exit → Act → World → Prop} {rest : List Oper} {o : Oper} {a : Act} {w : World}
theorem kDigN0 (ho : o.op = .buildSlice 35 0 #[]) (hg : Region.wanted o (yielded ops a.tmps) = true) (h : ∀ w1 v, Num w1 v 0 0 → Below w.heap.size w w1 → wpList Try.prog ops Q rest (a.put o.dst v) w1) : wpList Try.prog ops Q (o :: rest) a w := by
  obtain ⟨ix, hix, _⟩ := w64Info
  refine kBuildSlice0 _ _ ho hg Try.underlying35 ix hix ?_
  intro w1 hR _ hB
  exact h w1 _ ⟨[], fun _ h => by simp at h, isVals_lit (l := []) hR, rfl, Nat.le_refl _⟩ hB
theorem kDigN1 (x0 : Operand) (n : Nat) (hn : n < 65536) (ho : o.op = .buildSlice 35 1 #[(0, x0)]) (hg : Region.wanted o (yielded ops a.tmps) = true) (hx : a.eval x0 = .int .u64 (n : Int)) (h : ∀ w1 v, Num w1 v n 1 → Below w.heap.size w w1 → wpList Try.prog ops Q rest (a.put o.dst v) w1) : wpList Try.prog ops Q (o :: rest) a w := by
  obtain ⟨ix, hix, hzx, hsx, _⟩ := w64Info
  refine kBuildSlice1 _ _ _ (VU n) ho hg Try.underlying35 ix _ hix hzx hsx hx rfl ?_
  intro w1 hR _ hB
  exact h w1 _ ⟨[n], fun x hx => by simp at hx; subst hx; exact hn, isVals_lit (l := [VU n]) hR, by simp [dval], Nat.le_refl _⟩ hB
theorem kDigN2 (x0 x1 : Operand) (m n : Nat) (hm : m < 65536) (hn : n < 65536) (ho : o.op = .buildSlice 35 2 #[(0, x0), (1, x1)]) (hg : Region.wanted o (yielded ops a.tmps) = true) (hx : a.eval x0 = .int .u64 (m : Int)) (hy : a.eval x1 = .int .u64 (n : Int)) (h : ∀ w1 v, Num w1 v (m + 65536 * n) 2 → Below w.heap.size w w1 → wpList Try.prog ops Q rest (a.put o.dst v) w1) : wpList Try.prog ops Q (o :: rest) a w := by
  obtain ⟨ix, hix, hzx, hsx, _⟩ := w64Info
  refine kBuildSlice2 _ _ _ _ (VU m) (VU n) ho hg Try.underlying35 ix _ hix hzx hsx hx rfl hy rfl ?_
  intro w1 hR _ hB
  exact h w1 _ ⟨[m, n], fun x hx => by simp at hx; rcases hx with rfl | rfl <;> assumption, isVals_lit (l := [VU m, VU n]) hR, by simp [dval], Nat.le_refl _⟩ hB
end
theorem Num.more {w : World} {v : Value} {n k j : Nat} (h : Num w v n k) (hk : k ≤ j) : Num w v n j := by
  obtain ⟨l, h1, h2, h3, h4⟩ := h; exact ⟨l, h1, h2, h3, Nat.le_trans h4 hk⟩
theorem dBits_num {v : Value} {n k r : Nat} {w : World} (h : Num w v n k) (hk : k ≤ 1000) (hr : blen n = r) : Calls Try.prog 36 #[v] w fun e w' => e = .returned (.int .i64 (r : Int)) ∧ w = w' := by
  obtain ⟨l, h1, h2, h3, h4⟩ := h
  subst h3; subst hr
  exact dBits_any l v w h1 h2 (by omega)
theorem dCompare_r {va vb : Value} {na nb ka kb : Nat} {w : World} {r : Int} (ha : Num w va na ka) (hb : Num w vb nb kb) (hka : ka ≤ 1000) (hkb : kb ≤ 1000) (hr : cmpI na nb = r) : Calls Try.prog 37 #[va, vb] w fun e w' => e = .returned (.int .i64 r) ∧ w = w' := by
  subst hr; exact dCompare_num ha hb hka hkb
theorem dDiv_num {va vb : Value} {na nb ka kb q : Nat} {w : World} (ha : Num w va na ka) (hb : Num w vb nb kb) (hka : ka ≤ 50) (hkb : kb ≤ 900) (h0 : 0 < nb) (hq : na / nb = q) : Calls Try.prog 41 #[va, vb] w fun e w' => ∃ v1 v2, e = .returned (.tuple #[v1, v2]) ∧ Num w' v1 q ka ∧ Below w.heap.size w w' := by
  obtain ⟨a, h1, h2, h3, h4⟩ := ha
  obtain ⟨b, k1, k2, k3, k4⟩ := hb
  subst h3; subst k3; subst hq
  refine (dDiv_any a b va vb w h1 k1 h2 k2 (by omega) (by omega) h0).mono fun _ _ ⟨v1, v2, l2, e1, e2, _, _, _, e6⟩ => ⟨v1, v2, e1, ⟨_, digsOf_digs _ _, e2, ?_, by rw [digsOf_len]; omega⟩, e6⟩
  rw [digsOf_val, Nat.mod_eq_of_lt]
  exact Nat.lt_of_le_of_lt (Nat.div_le_self _ _) (dval_lt h1)

set_option maxRecDepth 100000 in
set_option maxHeartbeats 8000000 in
theorem qTimes_num {v : Value} {n k : Nat} {z : Int} (w : World) (h : Num w v n k) (hz : z ≤ 300) (hk : k ≤ 100) : Calls Try.prog 35 #[v, .int .i64 z] w (NumPost w (n * 256 ^ z.toNat) (k + z.toNat)) := by
  obtain ⟨m, Hm⟩ : ∃ m, Hid (z.toNat = m) := ⟨_, Lib.hid rfl⟩
  have hm : m ≤ 300 := by rw [← Hm.out]; omega
  rw [Hm.out]
  go_enter Try.func35, Try.ntmps35
  go_wp2
  go_loopw [5, 0] (fun i d wr => ∃ j : Nat, j ≤ m ∧ i = .int .i64 (j : Int) ∧ Num wr d (n * 256 ^ j) (k + j) ∧ Below w.heap.size w wr) (fun i _ _ => 301 - (intOf i).toNat)
  case atStart => exact ⟨0, Nat.zero_le _, rfl, by simpa using h, Below.refl _ _⟩
  case round =>
    obtain ⟨j, hj, rfl, N, hB⟩ := hrel
    clear h
    by_cases hlt : j < m
    · have hd : decide ((j : Int) < z) = true := by have := Hm.out; simp; omega
      go_wp2_with (first
        | ((with_reducible change wpList _ _ _ (Oper.mk (some 8) _ _ _ _ _ :: _) _ _); refine kLssI _ _ _ _ .i64 (j : Int) z true rfl rfl rfl rfl hd ?_; go_frame)
        | ((with_reducible change wpList _ _ _ (Oper.mk (some 12) _ _ _ _ _ :: _) _ _); refine kDigN1 _ 256 (by decide) rfl rfl rfl ?_; intro w1 v1 N1 hB1; have Na := N.below hB1; have hB' := hB.trans (hB1.mono hB.size); clear N hB hB1; go_frame)
        | (go_at_call 45; refine (dMul_num Na N1 (by omega) (by decide)).mono ?_; rintro e w2 ⟨v2, rfl, N2, hB2⟩; have hB'' := hB'.trans (hB2.mono hB'.size); clear Na N1 hB' hB2; go_frame)
        | ((with_reducible change wpList _ _ _ (Oper.mk (some 10) _ _ _ _ _ :: _) _ _); refine kYw (yAddZ _ _ _ _ (j : Int) 1 ((j + 1 : Nat) : Int) (by omega) rfl rfl rfl rfl) ?_; go_frame))
      go_roundw
      case rel => exact ⟨j + 1, by omega, rfl, by rw [Nat.pow_succ, ← Nat.mul_assoc]; exact N2, hB''⟩
      case measure => simp [intOf]; omega
    · have hd : decide ((j : Int) < z) = false := by have := Hm.out; simp; omega
      have hjm : j = m := by omega
      subst hjm
      go_wp2_with (first
        | ((with_reducible change wpList _ _ _ (Oper.mk (some 8) _ _ _ _ _ :: _) _ _); refine kLssI _ _ _ _ .i64 (j : Int) z false rfl rfl rfl rfl hd ?_; go_frame))
      go_ret
      exact ⟨_, rfl, N, hB⟩
set_option maxRecDepth 100000 in
theorem qEasiest_num {E : Nat} (hE : easyN = E) (w : World) : Calls Try.prog 38 #[] w (NumPost w E 31) := by
  obtain ⟨z, Hz⟩ : ∃ z : Int, Hid (z = 29) := ⟨_, Lib.hid rfl⟩
  go_enter Try.func38, Try.ntmps38
  go_wp2_with (first
    | ((with_reducible change wpList _ _ _ (Oper.mk (some 1) _ _ _ _ _ :: _) _ _); refine kDigN2 _ _ 65535 127 (by decide) (by decide) rfl rfl rfl rfl ?_; intro w1 v1 N1 hB1; go_frame)
    | (go_at_call 35; refine (qTimes_num _ N1 (by decide) (by decide)).mono ?_; rintro e w2 ⟨v2, rfl, N2, hB2⟩; go_frame))
  go_ret
  exact ⟨_, rfl, hE ▸ N2, hB1.trans (hB2.mono hB1.size)⟩
end Go.Proofs.Ytdeggdmoijfhdaa
