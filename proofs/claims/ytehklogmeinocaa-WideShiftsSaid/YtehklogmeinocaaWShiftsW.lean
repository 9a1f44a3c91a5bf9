/-
  The walk of the statement WideShifts.
-/
import Derived.Test.YtehklogmeinocaaWRef5
import Derived.Test.YtehklogmeinocaaWNamesW
namespace Go.Proofs.Ytehklogmeinocaa
open Go Go.RowKit

theorem M256_pow : M256 = 2 ^ 256 := by decide +kernel
theorem mul_fits {a : Nat} (ma : a < M256) (N : Nat) : a * 2 ^ N < P16 (16 + (N / 16 + 1)) := by
  have h1 : a * 2 ^ N < M256 * 2 ^ N := Nat.mul_lt_mul_of_pos_right ma (Nat.pow_pos (by decide))
  have e : M256 * 2 ^ N = 2 ^ (256 + N) := by rw [Nat.pow_add, M256_pow]
  have h2 : 2 ^ (256 + N) ≤ 2 ^ (16 * (16 + (N / 16 + 1))) := Nat.pow_le_pow_right (by decide) (by omega)
  rw [P16_pow]; omega
theorem left_out (a N : Nat) (h : 256 ≤ N) : a * 2 ^ N % M256 = 0 := by
  have e : 2 ^ N = M256 * 2 ^ (N - 256) := by
    have h4 : 2 ^ 256 * 2 ^ (N - 256) = 2 ^ N := by rw [← Nat.pow_add, Nat.add_sub_cancel' h]
    rw [← h4, M256_pow]
  rw [e, Nat.mul_left_comm, Nat.mul_mod_right]
theorem right_out {a : Nat} (ma : a < M256) (N : Nat) (h : 256 ≤ N) : a / 2 ^ N = 0 := by
  refine Nat.div_eq_of_lt (Nat.lt_of_lt_of_le ma ?_)
  rw [M256_pow]; exact Nat.pow_le_pow_right (by decide) h

set_option maxRecDepth 100000 in
set_option maxHeartbeats 16000000 in
theorem WideShifts_any (a : Nat) (ma : a < M256) (z : Int) (hz : -9223372036854775808 ≤ z ∧ z ≤ 9223372036854775807) (w : World) :
    Calls Try.prog 6 #[WV a, .int .i64 z] w fun e w' => e = .returned (.bool true) ∧ Below w.heap.size w w' := by
  have hM0 := mem_nil w
  have dx := digsOf_digs a 16
  have hbl : blen a ≤ 256 := (blen_le a 256).2 (by simpa [M256] using ma)
  unfold WV
  by_cases h1 : z < 1
  · have hd1 : decide (z < 1) = true := by simpa using h1
    have F1 := Lib.hid (show decide (a * 2 ^ z.toNat % M256 = a % M256) = true by rw [show z.toNat = 0 by omega]; simp)
    have F2 := Lib.hid (show decide (a / 2 ^ z.toNat % M256 = a % M256) = true by rw [show z.toNat = 0 by omega]; simp)
    go_enter Try.func6, Try.ntmps6
    go_wp2_with (first
      | ((with_reducible change wpList _ _ _ (Oper.mk (some 2) _ _ _ _ _ :: _) _ _); refine mBox hM0 _ _ rfl rfl rfl ?_; intro w1 hM1; clear hM0; go_frame)
      | (go_at_call 14; refine (wideAlive_any _).mono ?_; rintro e w2 ⟨rfl, hB2⟩; have hM2 := hM1.on hB2; clear hB2 hM1; (try unfold WV); go_frame)
      | ((with_reducible change wpList _ _ _ (Oper.mk (some 10) _ _ _ _ _ :: _) _ _); refine mLoad hM2 0 _ _ _ rfl rfl rfl rfl ?_; go_frame)
      | (go_at_call 18; refine (dOf_any a _).mono ?_; rintro e w3 ⟨vx, rfl, hx0, hB3⟩; have hM3 := hM2.on hB3; clear hB3 hM2; go_frame)
      | ((with_reducible change wpList _ _ _ (Oper.mk (some 12) _ _ _ _ _ :: _) _ _); refine mLoad hM3 0 _ _ _ rfl rfl rfl rfl ?_; go_frame)
      | (go_at_call 15; refine (wBits_any a ma _).mono ?_; rintro e w4 ⟨rfl, hB4⟩; have hM4 := hM3.on hB4; have hx1 := hx0.below hB4; clear hB4 hM3 hx0; go_frame)
      | (go_at_call 28; refine (dBits_any _ vx _ dx hx1 (by rw [digsOf_len]; omega)).mono ?_; rintro e wz ⟨rfl, rfl⟩; rw [digsOf_16 a ma]; go_frame))
    refine region_below_tail 12 (by kernel_rfl) (by kernel_rfl) ?_
    simp only [List.take_succ_cons, List.take_zero, List.drop_succ_cons, List.drop_zero]
    repeat (first
      | ((with_reducible change wpQuiet _ _ _ _ (Oper.mk (some 19) _ _ _ _ _ :: _) _); refine qLoadM hM4 0 _ _ _ rfl rfl rfl rfl ?_; go_frame)
      | ((with_reducible change wpQuiet _ _ _ _ (Oper.mk (some 22) _ _ _ _ _ :: _) _); refine qLoadM hM4 0 _ _ _ rfl rfl rfl rfl ?_; go_frame)
      | ((with_reducible change wpQuiet _ _ _ _ (Oper.mk (some 25) _ _ _ _ _ :: _) _); refine qLoadM hM4 0 _ _ _ rfl rfl rfl rfl ?_; go_frame)
      | ((with_reducible change wpQuiet _ _ _ _ (Oper.mk (some 28) _ _ _ _ _ :: _) _); refine qLoadM hM4 0 _ _ _ rfl rfl rfl rfl ?_; go_frame)
      | ((with_reducible change wpQuiet _ _ _ _ (Oper.mk (some 23) _ _ _ _ _ :: _) _); refine qEqlW _ _ _ (a * 2 ^ z.toNat) a true rfl rfl rfl rfl F1.out ?_; go_frame)
      | ((with_reducible change wpQuiet _ _ _ _ (Oper.mk (some 29) _ _ _ _ _ :: _) _); refine qEqlW _ _ _ (a / 2 ^ z.toNat) a true rfl rfl rfl rfl F2.out ?_; go_frame)
      | go_big_quiet_step (first
        | (go_at_call 17; exact Calls.regrown_of (wRight_any a z ma (by omega) _))
        | (go_at_call 16; exact Calls.regrown_of (wLeft_any a z (by omega) _))))
    refine wpQuiet_nil ?_
    rintro _ ⟨p, rfl⟩
    have hbr := below_regrown w4 p.d p.os
    have hB := hM4.below.trans (hbr.mono hM4.size)
    go_wp2
    go_ret
    exact ⟨rfl, hB⟩
  · have hd1 : decide (z < 1) = false := by simpa using h1
    by_cases h3 : z > 300
    · have hd3 : decide (z > 300) = true := by simpa using h3
      have F1 := Lib.hid (show decide (a * 2 ^ z.toNat % M256 = 0 % M256) = true by rw [left_out a _ (by omega)]; rfl)
      have F2 := Lib.hid (show decide (a / 2 ^ z.toNat % M256 = 0 % M256) = true by rw [right_out ma _ (by omega)]; rfl)
      go_enter Try.func6, Try.ntmps6
      go_wp2_with (first
        | ((with_reducible change wpList _ _ _ (Oper.mk (some 2) _ _ _ _ _ :: _) _ _); refine mBox hM0 _ _ rfl rfl rfl ?_; intro w1 hM1; clear hM0; go_frame)
        | (go_at_call 14; refine (wideAlive_any _).mono ?_; rintro e w2 ⟨rfl, hB2⟩; have hM2 := hM1.on hB2; clear hB2 hM1; (try unfold WV); go_frame)
        | ((with_reducible change wpList _ _ _ (Oper.mk (some 10) _ _ _ _ _ :: _) _ _); refine mLoad hM2 0 _ _ _ rfl rfl rfl rfl ?_; go_frame)
        | (go_at_call 18; refine (dOf_any a _).mono ?_; rintro e w3 ⟨vx, rfl, hx0, hB3⟩; have hM3 := hM2.on hB3; clear hB3 hM2; go_frame)
        | ((with_reducible change wpList _ _ _ (Oper.mk (some 12) _ _ _ _ _ :: _) _ _); refine mLoad hM3 0 _ _ _ rfl rfl rfl rfl ?_; go_frame)
        | (go_at_call 15; refine (wBits_any a ma _).mono ?_; rintro e w4 ⟨rfl, hB4⟩; have hM4 := hM3.on hB4; have hx1 := hx0.below hB4; clear hB4 hM3 hx0; go_frame)
        | (go_at_call 28; refine (dBits_any _ vx _ dx hx1 (by rw [digsOf_len]; omega)).mono ?_; rintro e wz ⟨rfl, rfl⟩; rw [digsOf_16 a ma]; go_frame)
        | ((with_reducible change wpList _ _ _ (Oper.mk (some 33) _ _ _ _ _ :: _) _ _); refine mLoad hM4 0 _ _ _ rfl rfl rfl rfl ?_; go_frame)
        | (go_at_call 16; refine (wLeft_any a z (by omega) _).mono ?_; rintro e w5 ⟨rfl, hB5⟩; have hM5 := hM4.on hB5; clear hB5 hM4; (try unfold WV); go_frame)
        | ((with_reducible change wpList _ _ _ (Oper.mk (some 37) _ _ _ _ _ :: _) _ _); refine kEqlW _ _ _ (a * 2 ^ z.toNat) (0) true rfl rfl rfl (by rw [lit_zero]; rfl) (F1.out) ?_; go_frame)
        | ((with_reducible change wpList _ _ _ (Oper.mk (some 39) _ _ _ _ _ :: _) _ _); refine mLoad hM5 0 _ _ _ rfl rfl rfl rfl ?_; go_frame)
        | (go_at_call 17; refine (wRight_any a z ma (by omega) _).mono ?_; rintro e w6 ⟨rfl, hB6⟩; have hM6 := hM5.on hB6; clear hB6 hM5; (try unfold WV); go_frame)
        | ((with_reducible change wpList _ _ _ (Oper.mk (some 43) _ _ _ _ _ :: _) _ _); refine kEqlW _ _ _ (a / 2 ^ z.toNat) (0) true rfl rfl rfl (by rw [lit_zero]; rfl) (F2.out) ?_; go_frame))
      go_ret
      exact ⟨rfl, hM6.below⟩
    · obtain ⟨N, rfl⟩ := Int.eq_ofNat_of_zero_le (show 0 ≤ z by omega)
      have hd3 : decide ((N : Int) > 300) = false := by simpa using h3
      go_enter Try.func6, Try.ntmps6
      go_wp2_with (first
        | ((with_reducible change wpList _ _ _ (Oper.mk (some 2) _ _ _ _ _ :: _) _ _); refine mBox hM0 _ _ rfl rfl rfl ?_; intro w1 hM1; clear hM0; go_frame)
        | (go_at_call 14; refine (wideAlive_any _).mono ?_; rintro e w2 ⟨rfl, hB2⟩; have hM2 := hM1.on hB2; clear hB2 hM1; (try unfold WV); go_frame)
        | ((with_reducible change wpList _ _ _ (Oper.mk (some 10) _ _ _ _ _ :: _) _ _); refine mLoad hM2 0 _ _ _ rfl rfl rfl rfl ?_; go_frame)
        | (go_at_call 18; refine (dOf_any a _).mono ?_; rintro e w3 ⟨vx, rfl, hx0, hB3⟩; have hM3 := hM2.on hB3; clear hB3 hM2; go_frame)
        | ((with_reducible change wpList _ _ _ (Oper.mk (some 12) _ _ _ _ _ :: _) _ _); refine mLoad hM3 0 _ _ _ rfl rfl rfl rfl ?_; go_frame)
        | (go_at_call 15; refine (wBits_any a ma _).mono ?_; rintro e w4 ⟨rfl, hB4⟩; have hM4 := hM3.on hB4; have hx1 := hx0.below hB4; clear hB4 hM3 hx0; go_frame)
        | (go_at_call 28; refine (dBits_any _ vx _ dx hx1 (by rw [digsOf_len]; omega)).mono ?_; rintro e wz ⟨rfl, rfl⟩; rw [digsOf_16 a ma]; go_frame)
        | (go_at_call 22; refine (dPower_any N (by omega) _).mono ?_; first | (rintro e w5 ⟨vp, rfl, hp0, hB5⟩; have hM5 := hM4.on hB5; have hx2 := hx1.below hB5; clear hB5 hM4 hx1; go_frame))
        | (go_at_call 27; refine (dDiv_any _ _ vx vp _ dx (powL_digs N) hx2 hp0 (by rw [digsOf_len]; omega) (by rw [powL_len]; omega) (by rw [powL_val]; exact Nat.pow_pos (by decide))).mono ?_; rintro e w6 ⟨vt, vs, ls, rfl, ht0, hs0, ds, es, hB6⟩; have hM6 := hM5.on hB6; have hx3 := hx2.below hB6; rw [digsOf_16 a ma, powL_val, digsOf_len] at ht0; clear hB6 hM5 hx2 hp0 hs0 ds es; go_frame)
        | ((with_reducible change wpList _ _ _ (Oper.mk (some 52) _ _ _ _ _ :: _) _ _); refine mLoad hM6 0 _ _ _ rfl rfl rfl rfl ?_; go_frame)
        | (go_at_call 16; refine (wLeft_any a (N : Int) (by omega) _).mono ?_; rintro e w7 ⟨rfl, hB7⟩; have hM7 := hM6.on hB7; have hx4 := hx3.below hB7; have ht1 := ht0.below hB7; clear hB7 hM6 hx3 ht0; (try unfold WV); go_frame)
        | (go_at_call 22; refine (dPower_any N (by omega) _).mono ?_; rintro e w8 ⟨vq, rfl, hq0, hB8⟩; have hM8 := hM7.on hB8; have hx5 := hx4.below hB8; have ht2 := ht1.below hB8; clear hB8 hM7 hx4 ht1; go_frame)
        | (go_at_call 26; refine (dMul_any _ _ vx vq _ dx (powL_digs N) hx5 hq0 (by rw [digsOf_len]; omega) (by rw [powL_len]; omega)).mono ?_; rintro e w9 ⟨vm, rfl, hm0, hB9⟩; have hM9 := hM8.on hB9; have ht3 := ht2.below hB9; clear hB9 hM8 hx5 hq0 ht2; go_frame)
        | (go_at_call 23; (with_reducible change Calls _ _ #[vm] _ _); refine (dWide_any _ vm _ (digsOf_digs _ _) hm0).mono ?_; rintro e w10 ⟨rfl, hB10⟩; have hM10 := hM9.on hB10; have ht4 := ht3.below hB10; clear hB10 hM9 ht3 hm0; (try unfold WV); rw [show dval (digsOf (dval (digsOf a 16) * dval (powL N)) ((digsOf a 16).length + (powL N).length)) = a * 2 ^ N by rw [digsOf_16 a ma, powL_val, digsOf_len, powL_len, digsOf_val]; exact Nat.mod_eq_of_lt (mul_fits ma N)]; go_frame)
        | ((with_reducible change wpList _ _ _ (Oper.mk (some 60) _ _ _ _ _ :: _) _ _); refine kEqlW _ _ _ (a * 2 ^ (N : Int).toNat) (a * 2 ^ N) true rfl rfl rfl (rfl) (by simp) ?_; go_frame)
        | ((with_reducible change wpList _ _ _ (Oper.mk (some 62) _ _ _ _ _ :: _) _ _); refine mLoad hM10 0 _ _ _ rfl rfl rfl rfl ?_; go_frame)
        | (go_at_call 17; refine (wRight_any a (N : Int) ma (by omega) _).mono ?_; rintro e w11 ⟨rfl, hB11⟩; have hM11 := hM10.on hB11; have ht5 := ht4.below hB11; clear hB11 hM10 ht4; (try unfold WV); go_frame)
        | (go_at_call 23; (with_reducible change Calls _ _ #[vt] _ _); refine (dWide_any _ vt _ (digsOf_digs _ _) ht5).mono ?_; rintro e w12 ⟨rfl, hB12⟩; have hM12 := hM11.on hB12; clear hB12 hM11 ht5; (try unfold WV); rw [show dval (digsOf (a / 2 ^ N) 16) = a / 2 ^ N from digsOf_16 _ (Nat.lt_of_le_of_lt (Nat.div_le_self _ _) ma)]; go_frame)
        | ((with_reducible change wpList _ _ _ (Oper.mk (some 67) _ _ _ _ _ :: _) _ _); refine kEqlW _ _ _ (a / 2 ^ (N : Int).toNat) (a / 2 ^ N) true rfl rfl rfl (rfl) (by simp) ?_; go_frame))
      go_ret
      exact ⟨rfl, hM12.below⟩
end Go.Proofs.Ytehklogmeinocaa
