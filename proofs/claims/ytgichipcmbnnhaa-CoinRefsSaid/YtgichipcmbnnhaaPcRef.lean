/-
  Layer 6: the reference's writers.
-/
import Derived.Test.YtgichipcmbnnhaaPcText
namespace Go.Proofs.Ytgichipcmbnnhaa
open Go Go.RowKit

theorem clampS_of (z : Int) (k : Nat) (h : k = clampS z) (hz : (k : Int) < z) : k = 8 := by unfold clampS at h; omega
set_option maxRecDepth 100000 in
set_option maxHeartbeats 8000000 in
theorem jFixed_any (n : Nat) (hn : n < 18446744073709551616) (z : Int) (w : World) : Calls Try.prog 38 #[.int .u64 (n : Int), .int .i64 z] w (POwnPost w (fixedL n (clampS z))) := by
  obtain ⟨i, hi, hz, hs1, hby⟩ := b8Info
  have h8 := clampS_le z
  have hcl : ∀ k, k < clampS z → (k : Int) < z := by unfold clampS; omega
  have hco := clampS_of z
  generalize clampS z = S at *
  go_enter Try.func38, Try.ntmps38
  go_wp2_with (first
    | ((with_reducible change wpList _ _ _ (Oper.mk (some 7) _ _ _ _ _ :: _) _ _); refine kBuildSlice0 _ _ rfl rfl Try.underlying25 i hi ?_; intro w1 hR1 hz1 hB1; clear hz1; have hO1 : OwnB w1 w.heap.size _ [] := own_empty (Nat.le_refl _) hR1; clear hR1; go_frame))
  go_loopw [6, 5, 0] (fun i v m wr => ∃ k : Nat, k ≤ S ∧ i = .int .i64 k ∧ m = .int .u64 ((n / 256 ^ k : Nat) : Int) ∧ OwnB wr w.heap.size v (fixedL n k) ∧ Below w.heap.size w wr) (fun i _ _ _ => S - (intOf i).toNat)
  case atStart => exact ⟨0, by omega, rfl, by rw [Nat.pow_zero, Nat.div_one], hO1, hB1⟩
  case round =>
    obtain ⟨k, hk, rfl, rfl, hO, hB⟩ := hrel
    clear hO1 hB1
    by_cases hlt : k < S
    · have hd : decide ((k : Int) < z) = true := by simp; exact hcl k hlt
      have hd8 : decide ((k : Int) < 8) = true := by simp; omega
      have hsz := hB.size
      have hqn : n / 256 ^ k ≤ n := Nat.div_le_self _ _
      generalize hq : n / 256 ^ k = q at hO hqn ⊢
      have hx : VB (UInt8.ofNat (q % 256)) = .int .u8 ((q % 256 % 256 : Nat) : Int) := by rw [Nat.mod_mod]; exact VB_of (Nat.mod_lt _ (by decide))
      go_wp2_with (first
        | ((with_reducible change wpList _ _ _ (Oper.mk (some 10) _ _ _ _ _ :: _) _ _); refine kLssI _ _ _ _ .i64 (k : Int) z true rfl rfl rfl rfl hd ?_; go_frame)
        | ((with_reducible change wpList _ _ _ (Oper.mk (some 13) _ _ _ _ _ :: _) _ _); refine kLssI _ _ _ _ .i64 (k : Int) 8 true rfl rfl rfl rfl hd8 ?_; go_frame)
        | ((with_reducible change wpList _ _ _ (Oper.mk (some 19) _ _ _ _ _ :: _) _ _); refine kRemUP _ _ _ _ q 256 (by decide) rfl rfl rfl rfl ?_; go_frame)
        | ((with_reducible change wpList _ _ _ (Oper.mk (some 20) _ _ _ _ _ :: _) _ _); refine kConv8 _ (q % 256) rfl rfl rfl ?_; go_frame)
        | ((with_reducible change wpList _ _ _ (Oper.mk (some 21) _ _ _ _ _ :: _) _ _); refine kBuildSlice1 _ _ _ (VB (UInt8.ofNat (q % 256))) rfl rfl Try.underlying25 i _ hi hz hs1 hx.symm rfl ?_; intro w2 hR2 hz2 hB2; clear hz2; have hV2 := isVals_lit (l := [VB (UInt8.ofNat (q % 256))]) hR2; clear hR2; have hO2 := hO.below hB2; have hsz2 := hB2.size; clear hO; go_frame)
        | ((with_reducible change wpList _ _ _ (Oper.mk (some 22) _ _ _ _ _ :: _) _ _); refine kAppB _ _ rfl rfl w.heap.size _ _ (fixedL n k) [UInt8.ofNat (q % 256)] hO2 hV2 rfl rfl (by rw [fixedL_len]; simp; omega) (by omega) ?_; intro v3 w3 hO3 hB3; have hB4 := hB.trans ((hB2.mono hsz).trans hB3); clear hO2 hV2 hB2 hB3 hB; go_frame)
        | ((with_reducible change wpList _ _ _ (Oper.mk (some 24) _ _ _ _ _ :: _) _ _); refine kQuoU _ _ _ _ q 256 (by decide) (by omega) rfl rfl rfl rfl ?_; go_frame)
        | ((with_reducible change wpList _ _ _ (Oper.mk (some 16) _ _ _ _ _ :: _) _ _); refine kAddI _ _ _ _ (k : Int) 1 ((k + 1 : Nat) : Int) (by omega) rfl rfl rfl rfl ?_; go_frame))
      go_roundw
      case rel =>
        refine ⟨k + 1, by omega, rfl, ?_, ?_, hB4⟩
        · rw [← hq, Nat.div_div_eq_div_mul, Nat.pow_succ]
        · rw [fixedL_snoc, hq]; exact hO3
      case measure => simp [intOf]; omega
    · have Hk := Lib.hid (show k = S by omega)
      by_cases hz2 : (k : Int) < z
      · have hd : decide ((k : Int) < z) = true := by simp; omega
        have hd8 : decide ((k : Int) < 8) = false := by have := hco k Hk.out hz2; simp; omega
        clear hz2
        go_wp2_with (first
          | ((with_reducible change wpList _ _ _ (Oper.mk (some 10) _ _ _ _ _ :: _) _ _); refine kLssI _ _ _ _ .i64 (k : Int) z true rfl rfl rfl rfl hd ?_; go_frame)
          | ((with_reducible change wpList _ _ _ (Oper.mk (some 13) _ _ _ _ _ :: _) _ _); refine kLssI _ _ _ _ .i64 (k : Int) 8 false rfl rfl rfl rfl hd8 ?_; go_frame))
        go_ret
        exact ⟨_, rfl, by rw [← Hk.out]; exact hO, hB⟩
      · have hd : decide ((k : Int) < z) = false := by simp; omega
        clear hz2
        go_wp2_with (first
          | ((with_reducible change wpList _ _ _ (Oper.mk (some 10) _ _ _ _ _ :: _) _ _); refine kLssI _ _ _ _ .i64 (k : Int) z false rfl rfl rfl rfl hd ?_; go_frame))
        go_ret
        exact ⟨_, rfl, by rw [← Hk.out]; exact hO, hB⟩
set_option maxRecDepth 100000 in
set_option maxHeartbeats 8000000 in
theorem jCount_any (n : Nat) (hn : n < 18446744073709551616) (w : World) : Calls Try.prog 47 #[.int .u64 (n : Int)] w (POwnPost w (countL n)) := by
  obtain ⟨i, hi, hz, hs1, hby⟩ := b8Info
  by_cases h1 : n ≤ 252
  · rw [show countL n = [UInt8.ofNat n] by unfold countL; rw [if_pos h1]]
    have hx : VB (UInt8.ofNat n) = .int .u8 ((n % 256 : Nat) : Int) := by rw [Nat.mod_eq_of_lt (by omega)]; exact VB_of (by omega)
    go_enter Try.func47, Try.ntmps47
    go_wp2_with (first
      | ((with_reducible change wpList _ _ _ (Oper.mk (some 4) _ _ _ _ _ :: _) _ _); refine kLeqI _ _ _ _ .u64 (n : Int) 252 true rfl rfl rfl rfl (by simp; omega) ?_; go_frame)
      | ((with_reducible change wpList _ _ _ (Oper.mk (some 6) _ _ _ _ _ :: _) _ _); refine kConv8 _ n rfl rfl rfl ?_; go_frame)
      | ((with_reducible change wpList _ _ _ (Oper.mk (some 7) _ _ _ _ _ :: _) _ _); refine kBuildSlice1 _ _ _ (VB (UInt8.ofNat n)) rfl rfl Try.underlying25 i _ hi hz hs1 hx.symm rfl ?_; intro w2 hR2 hz2 hB2; clear hz2; have hO2 := own_one (base := w.heap.size) (Nat.le_refl _) hR2; clear hR2; go_frame))
    go_ret
    exact ⟨_, rfl, hO2, hB2⟩
  by_cases h2 : n ≤ 65535
  · rw [show countL n = [253] ++ fixedL n (clampS 2) by unfold countL; rw [if_neg h1, if_pos h2]; rfl]
    go_enter Try.func47, Try.ntmps47
    go_wp2_with (first
      | ((with_reducible change wpList _ _ _ (Oper.mk (some 4) _ _ _ _ _ :: _) _ _); refine kLeqI _ _ _ _ .u64 (n : Int) 252 false rfl rfl rfl rfl (by simp; omega) ?_; go_frame)
      | ((with_reducible change wpList _ _ _ (Oper.mk (some 9) _ _ _ _ _ :: _) _ _); refine kLeqI _ _ _ _ .u64 (n : Int) 65535 true rfl rfl rfl rfl (by simp; omega) ?_; go_frame)
      | ((with_reducible change wpList _ _ _ (Oper.mk (some 10) _ _ _ _ _ :: _) _ _); refine kBuildSlice1 _ _ _ (VB 253) rfl rfl Try.underlying25 i _ hi hz hs1 rfl rfl ?_; intro w2 hR2 hz2 hB2; clear hz2; have hO2 := own_one (base := w.heap.size) (Nat.le_refl _) hR2; clear hR2; go_frame)
      | (go_at_call 38; refine (jFixed_any n hn 2 _).mono ?_; rintro e w4 ⟨v4, rfl, hO4, hB4⟩; have hO5 := hO2.below hB4; have hsz4 := hB2.size; have hB5 := hB2.trans (hB4.mono hsz4); have hsz5 := hB5.size; clear hO2 hB2 hB4; go_frame)
      | ((with_reducible change wpList _ _ _ (Oper.mk (some 13) _ _ _ _ _ :: _) _ _); refine kAppB _ _ rfl rfl _ _ _ [253] (fixedL n 2) hO5 hO4.vals rfl rfl (by rw [fixedL_len]; decide) hsz5 ?_; intro v6 w6 hO6 hB6; have hB7 := hB5.trans hB6; clear hO5 hO4 hB5 hB6 hsz5 hsz4; go_frame))
    go_ret
    exact ⟨_, rfl, hO6, hB7⟩
  by_cases h3 : n ≤ 4294967295
  · rw [show countL n = [254] ++ fixedL n (clampS 4) by unfold countL; rw [if_neg h1, if_neg h2, if_pos h3]; rfl]
    go_enter Try.func47, Try.ntmps47
    go_wp2_with (first
      | ((with_reducible change wpList _ _ _ (Oper.mk (some 4) _ _ _ _ _ :: _) _ _); refine kLeqI _ _ _ _ .u64 (n : Int) 252 false rfl rfl rfl rfl (by simp; omega) ?_; go_frame)
      | ((with_reducible change wpList _ _ _ (Oper.mk (some 9) _ _ _ _ _ :: _) _ _); refine kLeqI _ _ _ _ .u64 (n : Int) 65535 false rfl rfl rfl rfl (by simp; omega) ?_; go_frame)
      | ((with_reducible change wpList _ _ _ (Oper.mk (some 15) _ _ _ _ _ :: _) _ _); refine kLeqI _ _ _ _ .u64 (n : Int) 4294967295 true rfl rfl rfl rfl (by simp; omega) ?_; go_frame)
      | ((with_reducible change wpList _ _ _ (Oper.mk (some 16) _ _ _ _ _ :: _) _ _); refine kBuildSlice1 _ _ _ (VB 254) rfl rfl Try.underlying25 i _ hi hz hs1 rfl rfl ?_; intro w2 hR2 hz2 hB2; clear hz2; have hO2 := own_one (base := w.heap.size) (Nat.le_refl _) hR2; clear hR2; go_frame)
      | (go_at_call 38; refine (jFixed_any n hn 4 _).mono ?_; rintro e w4 ⟨v4, rfl, hO4, hB4⟩; have hO5 := hO2.below hB4; have hsz4 := hB2.size; have hB5 := hB2.trans (hB4.mono hsz4); have hsz5 := hB5.size; clear hO2 hB2 hB4; go_frame)
      | ((with_reducible change wpList _ _ _ (Oper.mk (some 19) _ _ _ _ _ :: _) _ _); refine kAppB _ _ rfl rfl _ _ _ [254] (fixedL n 4) hO5 hO4.vals rfl rfl (by rw [fixedL_len]; decide) hsz5 ?_; intro v6 w6 hO6 hB6; have hB7 := hB5.trans hB6; clear hO5 hO4 hB5 hB6 hsz5 hsz4; go_frame))
    go_ret
    exact ⟨_, rfl, hO6, hB7⟩
  · rw [show countL n = [255] ++ fixedL n (clampS 8) by unfold countL; rw [if_neg h1, if_neg h2, if_neg h3]; rfl]
    go_enter Try.func47, Try.ntmps47
    go_wp2_with (first
      | ((with_reducible change wpList _ _ _ (Oper.mk (some 4) _ _ _ _ _ :: _) _ _); refine kLeqI _ _ _ _ .u64 (n : Int) 252 false rfl rfl rfl rfl (by simp; omega) ?_; go_frame)
      | ((with_reducible change wpList _ _ _ (Oper.mk (some 9) _ _ _ _ _ :: _) _ _); refine kLeqI _ _ _ _ .u64 (n : Int) 65535 false rfl rfl rfl rfl (by simp; omega) ?_; go_frame)
      | ((with_reducible change wpList _ _ _ (Oper.mk (some 15) _ _ _ _ _ :: _) _ _); refine kLeqI _ _ _ _ .u64 (n : Int) 4294967295 false rfl rfl rfl rfl (by simp; omega) ?_; go_frame)
      | ((with_reducible change wpList _ _ _ (Oper.mk (some 20) _ _ _ _ _ :: _) _ _); refine kBuildSlice1 _ _ _ (VB 255) rfl rfl Try.underlying25 i _ hi hz hs1 rfl rfl ?_; intro w2 hR2 hz2 hB2; clear hz2; have hO2 := own_one (base := w.heap.size) (Nat.le_refl _) hR2; clear hR2; go_frame)
      | (go_at_call 38; refine (jFixed_any n hn 8 _).mono ?_; rintro e w4 ⟨v4, rfl, hO4, hB4⟩; have hO5 := hO2.below hB4; have hsz4 := hB2.size; have hB5 := hB2.trans (hB4.mono hsz4); have hsz5 := hB5.size; clear hO2 hB2 hB4; go_frame)
      | ((with_reducible change wpList _ _ _ (Oper.mk (some 23) _ _ _ _ _ :: _) _ _); refine kAppB _ _ rfl rfl _ _ _ [255] (fixedL n 8) hO5 hO4.vals rfl rfl (by rw [fixedL_len]; decide) hsz5 ?_; intro v6 w6 hO6 hB6; have hB7 := hB5.trans hB6; clear hO5 hO4 hB5 hB6 hsz5 hsz4; go_frame))
    go_ret
    exact ⟨_, rfl, hO6, hB7⟩
set_option maxRecDepth 100000 in
set_option maxHeartbeats 8000000 in
theorem jText_any {x : List UInt8} {v : Value} (w : World) (hv : IsVals w v (x.map VB)) (hl : x.length ≤ 100000) : Calls Try.prog 39 #[v] w (POwnPost w (textL x)) := by
  obtain ⟨m, hm⟩ : ∃ m, x.length = m := ⟨_, rfl⟩
  have hcl := countL_le m
  unfold textL
  rw [hm]
  go_enter Try.func39, Try.ntmps39
  go_wp2_with (first
    | ((with_reducible change wpList _ _ _ (Oper.mk (some 4) _ _ _ _ _ :: _) _ _); refine kLenN _ _ _ v _ m rfl rfl rfl hv (by rw [List.length_map, hm]) Try.underlying25 ?_; go_frame)
    | ((with_reducible change wpList _ _ _ (Oper.mk (some 5) _ _ _ _ _ :: _) _ _); refine kConvIU _ m (by omega) rfl rfl rfl ?_; go_frame)
    | (go_at_call 47; refine (jCount_any m (by omega) _).mono ?_; rintro e w1 ⟨v1, rfl, hO1, hB1⟩; have hv1 := hv.below hB1; have hsz := hB1.size; go_frame)
    | ((with_reducible change wpList _ _ _ (Oper.mk (some 8) _ _ _ _ _ :: _) _ _); refine kAppB _ _ rfl rfl w.heap.size _ _ (countL m) x hO1 hv1 rfl rfl (by omega) hsz ?_; intro v2 w2 hO2 hB2; have hB3 := hB1.trans hB2; clear hO1 hB1 hB2 hv1; go_frame))
  go_ret
  exact ⟨_, rfl, hO2, hB3⟩
set_option maxRecDepth 100000 in
set_option maxHeartbeats 8000000 in
theorem jNumber_any {l : List UInt8} {v : Value} (w : World) (hv : IsVals w v (l.map VB)) (hl : l.length ≤ 8) : Calls Try.prog 60 #[v] w fun e w' => e = .returned (.int .u64 (numL l : Int)) ∧ w' = w := by
  obtain ⟨N, hN⟩ : ∃ N, l.length = N := ⟨_, rfl⟩
  go_enter Try.func60, Try.ntmps60
  go_wp2_with (first
    | ((with_reducible change wpList _ _ _ (Oper.mk (some 8) _ _ _ _ _ :: _) _ _); refine kLenN _ _ _ v _ N rfl rfl rfl hv (by rw [List.length_map, hN]) Try.underlying25 ?_; go_frame))
  go_loopw [9, 3, 4] (fun i n m wr => ∃ (k W : Nat), k ≤ N ∧ W = 256 ^ k % 18446744073709551616 ∧ i = .int .i64 k ∧ n = .int .u64 (numL (l.take k) : Int) ∧ m = .int .u64 (W : Int) ∧ wr = w) (fun i _ _ _ => N - (intOf i).toNat)
  case atStart => exact ⟨0, 1, by omega, rfl, rfl, rfl, rfl, rfl⟩
  case round =>
    obtain ⟨k, W, hk, hW, rfl, rfl, rfl, rfl⟩ := hrel
    by_cases hlt : k < N
    · have hd : decide ((k : Int) < (N : Int)) = true := by simp; omega
      have hkl : k < l.length := by omega
      have hnt := numL_take l k hkl
      have hcell : (l.map VB)[k]? = some (VB l[k]) := by rw [List.getElem?_map, List.getElem?_eq_getElem hkl]; rfl
      have h1 := numL_lt64 (l.take (k + 1)) (by rw [List.length_take]; omega)
      have hW2 : W = 256 ^ k := by
        rw [hW, Nat.mod_eq_of_lt]
        have h2 : 256 ^ k ≤ 256 ^ 7 := Nat.pow_le_pow_right (by decide) (by omega)
        have e7 : (256 : Nat) ^ 7 = 72057594037927936 := by decide
        omega
      rw [← hW2] at hnt
      obtain ⟨c, hc⟩ : ∃ c, l[k] = c := ⟨_, rfl⟩
      rw [hc] at hnt hcell
      have hcl := c.toNat_lt
      have hmul : c.toNat * W % 18446744073709551616 = c.toNat * W := Nat.mod_eq_of_lt (by omega)
      have hadd : (numL (l.take k) + c.toNat * W) % 18446744073709551616 = numL (l.take (k + 1)) := by rw [← hnt]; exact Nat.mod_eq_of_lt h1
      have hW3 : W * 256 % 18446744073709551616 = 256 ^ (k + 1) % 18446744073709551616 := by rw [hW2, Nat.pow_succ]
      obtain ⟨cW, hcW⟩ : ∃ cW, c.toNat * W = cW := ⟨_, rfl⟩
      rw [hcW] at hmul hadd
      obtain ⟨n1, hn1⟩ : ∃ n1, numL (l.take (k + 1)) = n1 := ⟨_, rfl⟩
      obtain ⟨n0, hn0⟩ : ∃ n0, numL (l.take k) = n0 := ⟨_, rfl⟩
      obtain ⟨V, hV⟩ : ∃ V, W * 256 % 18446744073709551616 = V := ⟨_, rfl⟩
      rw [hn0, hn1] at hadd
      rw [hn0]
      rw [← hcW] at hmul
      clear h1 hnt hW2 hW
      go_wp2_with (first
        | ((with_reducible change wpList _ _ _ (Oper.mk (some 10) _ _ _ _ _ :: _) _ _); refine kLssI _ _ _ _ .i64 (k : Int) (N : Int) true rfl rfl rfl rfl hd ?_; go_frame)
        | ((with_reducible change wpList _ _ _ (Oper.mk (some 11) _ _ _ _ _ :: _) _ _); refine kIndexAddrV _ _ _ _ .i64 v _ (k : Int) k (VB c) rfl rfl rfl hv rfl Try.underlying25 info_b8P rfl hcell ?_; intro b hb; go_frame)
        | ((with_reducible change wpList _ _ _ (Oper.mk (some 12) _ _ _ _ _ :: _) _ _); refine kLoadCell _ _ b (VB c) _ rfl rfl rfl hb Try.underlying5 rfl ?_; clear hb; go_frame)
        | ((with_reducible change wpList _ _ _ (Oper.mk (some 15) _ _ _ _ _ :: _) _ _); refine kConvB8 _ c.toNat hcl rfl rfl rfl ?_; go_frame)
        | ((with_reducible change wpList _ _ _ (Oper.mk (some 17) _ _ _ _ _ :: _) _ _); refine kMulU _ _ _ _ c.toNat W cW (hmul.trans hcW) rfl rfl rfl rfl ?_; go_frame)
        | ((with_reducible change wpList _ _ _ (Oper.mk (some 18) _ _ _ _ _ :: _) _ _); refine kAddUP _ _ _ _ n0 cW n1 hadd rfl rfl rfl rfl ?_; go_frame)
        | ((with_reducible change wpList _ _ _ (Oper.mk (some 20) _ _ _ _ _ :: _) _ _); refine kMulU _ _ _ _ W 256 V hV rfl rfl rfl rfl ?_; go_frame)
        | ((with_reducible change wpList _ _ _ (Oper.mk (some 21) _ _ _ _ _ :: _) _ _); refine kAddI _ _ _ _ (k : Int) 1 ((k + 1 : Nat) : Int) (by omega) rfl rfl rfl rfl ?_; go_frame))
      go_roundw
      case rel => exact ⟨k + 1, V, by omega, by rw [← hV, hW3], rfl, by rw [hn1], rfl, trivial⟩
      case measure => simp [intOf]; omega
    · have hd : decide ((k : Int) < (N : Int)) = false := by simp; omega
      have hT : l.take k = l := List.take_of_length_le (by omega)
      rw [hT]
      go_wp2_with (first
        | ((with_reducible change wpList _ _ _ (Oper.mk (some 10) _ _ _ _ _ :: _) _ _); refine kLssI _ _ _ _ .i64 (k : Int) (N : Int) false rfl rfl rfl rfl hd ?_; go_frame))
      go_ret
      exact ⟨rfl, rfl⟩
end Go.Proofs.Ytgichipcmbnnhaa
