/-
  Layer 6: the walks of what writes: numbers and texts behind bytes, in new memory.
-/
import Derived.Test.YtgichipcmbnnhaaPcBase
namespace Go.Proofs.Ytgichipcmbnnhaa
open Go Go.RowKit

theorem vals_slice {w : World} {v : Value} {l : List UInt8} (h : IsVals w v (l.map VB)) : ∃ ao c, v = .slice ao l.length c := by
  obtain ⟨ao, c, rfl, _⟩ := h; exact ⟨ao, c, by simp⟩
set_option maxRecDepth 100000 in
set_option maxHeartbeats 8000000 in
theorem bClone_any {l : List UInt8} {v : Value} (w : World) (hv : IsVals w v (l.map VB)) (hl : l.length ≤ 1000000) : Calls Try.prog 41 #[v] w (POwnPost w l) := by
  obtain ⟨i, hi, hz, hs1, hby⟩ := b8Info
  obtain ⟨ao, c, rfl⟩ := vals_slice hv
  cases ao with
  | none =>
    obtain ⟨rfl, h1, rfl⟩ := vals_none hv
    go_enter Try.func41, Try.ntmps41
    go_wp2_with (first
      | ((with_reducible change wpList _ _ _ (Oper.mk (some 4) _ _ _ _ _ :: _) _ _); refine kEqlNilS _ _ _ _ _ none _ _ true rfl Try.underlying25 rfl rfl rfl rfl ?_; go_frame))
    go_ret
    exact ⟨_, rfl, ownB_nil _ _, Below.refl _ _⟩
  | some ad =>
    generalize hq : l.length = q at hv ⊢
    go_enter Try.func41, Try.ntmps41
    go_wp2_with (first
      | ((with_reducible change wpList _ _ _ (Oper.mk (some 4) _ _ _ _ _ :: _) _ _); refine kEqlNilS _ _ _ _ _ (some ad) _ _ false rfl Try.underlying25 rfl rfl rfl rfl ?_; go_frame)
      | ((with_reducible change wpList _ _ _ (Oper.mk (some 5) _ _ _ _ _ :: _) _ _); refine kBuildSlice0 _ _ rfl rfl Try.underlying25 i hi ?_; intro w1 hR1 hz1 hB1; clear hz1; have hO1 : OwnB w1 w.heap.size _ [] := own_empty (Nat.le_refl _) hR1; clear hR1; have hv1 := hv.below hB1; have hsz1 := hB1.size; clear hv; go_frame)
      | ((with_reducible change wpList _ _ _ (Oper.mk (some 7) _ _ _ _ _ :: _) _ _); refine kAppB _ _ rfl rfl w.heap.size _ _ [] l hO1 hv1 rfl rfl (by simp; omega) hsz1 ?_; intro v2 w2 hO2 hB2; rw [List.nil_append] at hO2; have hB := hB1.trans hB2; clear hO1 hv1 hsz1 hB1 hB2; go_frame))
    go_ret
    exact ⟨_, rfl, hO2, hB⟩
set_option maxRecDepth 100000 in
set_option maxHeartbeats 8000000 in
theorem pcWithin_any (z : Int) (w : World) : Calls Try.prog 58 #[.int .i64 z] w fun e w' => e = .returned (.int .i64 (clampS z : Int)) ∧ w' = w := by
  obtain ⟨y, hy⟩ : ∃ y, (if (0 : Int) > z then 0 else z) = y := ⟨_, rfl⟩
  have e : (if (8 : Int) < y then (8 : Int) else y) = (clampS z : Int) := by unfold clampS; omega
  go_enter Try.func58, Try.ntmps58
  go_wp2_with (first
    | ((with_reducible change wpList _ _ _ (Oper.mk (some 4) _ _ _ _ _ :: _) _ _); refine kMaxZ _ _ z 0 y hy rfl rfl rfl rfl ?_; go_frame)
    | ((with_reducible change wpList _ _ _ (Oper.mk (some 5) _ _ _ _ _ :: _) _ _); refine kMinZ _ _ y 8 _ e rfl rfl rfl rfl ?_; go_frame))
  go_ret
  exact ⟨rfl, rfl⟩
theorem byte_cases (c : UInt8) : c.toNat ≤ 252 ∨ c = 253 ∨ c = 254 ∨ c = 255 := by
  have h := c.toNat_lt
  by_cases h1 : c.toNat ≤ 252
  · exact .inl h1
  · rcases (show c.toNat = 253 ∨ c.toNat = 254 ∨ c.toNat = 255 by omega) with e | e | e
    · exact .inr (.inl (UInt8.toNat_inj.1 e))
    · exact .inr (.inr (.inl (UInt8.toNat_inj.1 e)))
    · exact .inr (.inr (.inr (UInt8.toNat_inj.1 e)))
theorem fSize_low {c : UInt8} (h : c.toNat ≤ 252) : fSize c = 0 := by unfold fSize; rw [if_pos h]
set_option maxRecDepth 100000 in
set_option maxHeartbeats 8000000 in
theorem pcSizeBehind_any (c : UInt8) (w : World) : Calls Try.prog 50 #[VB c] w fun e w' => e = .returned (.int .i64 (fSize c : Int)) ∧ w' = w := by
  rcases byte_cases c with h | rfl | rfl | rfl
  · rw [fSize_low h]
    have hb : decide (B c < 253) = true := by unfold B; simp; omega
    go_enter Try.func50, Try.ntmps50
    go_wp2_with (first
      | ((with_reducible change wpList _ _ _ (Oper.mk (some 4) _ _ _ _ _ :: _) _ _); refine kLssI _ _ _ _ .u8 (B c) 253 true rfl rfl rfl rfl hb ?_; go_frame))
    go_ret
    exact ⟨rfl, rfl⟩
  · change Calls Try.prog 50 #[.int .u8 253] w _
    go_enter Try.func50, Try.ntmps50
    go_wp2
    go_ret
    exact ⟨rfl, rfl⟩
  · change Calls Try.prog 50 #[.int .u8 254] w _
    go_enter Try.func50, Try.ntmps50
    go_wp2
    go_ret
    exact ⟨rfl, rfl⟩
  · change Calls Try.prog 50 #[.int .u8 255] w _
    go_enter Try.func50, Try.ntmps50
    go_wp2
    go_ret
    exact ⟨rfl, rfl⟩
/-- a count's first byte -/
def cFirst (n : Nat) : UInt8 := if n ≤ 252 then UInt8.ofNat n else if n ≤ 65535 then 253 else if n ≤ 4294967295 then 254 else 255
theorem cFirst_size {n : Nat} : fSize (cFirst n) = cSize n := by
  unfold cFirst cSize
  split
  · rw [fSize_low (by rw [u8_nat (by omega)]; assumption)]
  · split
    · decide
    · split <;> decide
theorem countL_first (n : Nat) : countL n = cFirst n :: fixedL n (fSize (cFirst n)) := by
  rw [cFirst_size]
  unfold countL cFirst cSize
  split
  · rfl
  · split
    · rfl
    · split <;> rfl
theorem VB_of {n : Nat} (h : n < 256) : VB (UInt8.ofNat n) = .int .u8 (n : Int) := by
  show Value.int .u8 (B (UInt8.ofNat n)) = _
  unfold B; rw [u8_nat h]
set_option maxRecDepth 100000 in
set_option maxHeartbeats 8000000 in
theorem pcFirst_any (n : Nat) (w : World) : Calls Try.prog 51 #[.int .u64 (n : Int)] w fun e w' => e = .returned (VB (cFirst n)) ∧ w' = w := by
  by_cases h1 : n ≤ 252
  · have e1 : VB (cFirst n) = .int .u8 ((n % 256 : Nat) : Int) := by unfold cFirst; rw [if_pos h1, VB_of (by omega), Nat.mod_eq_of_lt (by omega)]
    rw [e1]
    clear e1
    go_enter Try.func51, Try.ntmps51
    go_wp2_with (first
      | ((with_reducible change wpList _ _ _ (Oper.mk (some 5) _ _ _ _ _ :: _) _ _); refine kLssI _ _ _ _ .u64 (n : Int) 253 true rfl rfl rfl rfl (by simp; omega) ?_; go_frame)
      | ((with_reducible change wpList _ _ _ (Oper.mk (some 7) _ _ _ _ _ :: _) _ _); refine kConv8 _ n rfl rfl rfl ?_; go_frame))
    go_ret
    exact ⟨rfl, rfl⟩
  by_cases h2 : n ≤ 65535
  · rw [show cFirst n = 253 by unfold cFirst; rw [if_neg h1, if_pos h2]]
    go_enter Try.func51, Try.ntmps51
    go_wp2_with (first
      | ((with_reducible change wpList _ _ _ (Oper.mk (some 5) _ _ _ _ _ :: _) _ _); refine kLssI _ _ _ _ .u64 (n : Int) 253 false rfl rfl rfl rfl (by simp; omega) ?_; go_frame)
      | ((with_reducible change wpList _ _ _ (Oper.mk (some 10) _ _ _ _ _ :: _) _ _); refine kLeqI _ _ _ _ .u64 (n : Int) 65535 true rfl rfl rfl rfl (by simp; omega) ?_; go_frame))
    go_ret
    exact ⟨rfl, rfl⟩
  by_cases h3 : n ≤ 4294967295
  · rw [show cFirst n = 254 by unfold cFirst; rw [if_neg h1, if_neg h2, if_pos h3]]
    go_enter Try.func51, Try.ntmps51
    go_wp2_with (first
      | ((with_reducible change wpList _ _ _ (Oper.mk (some 5) _ _ _ _ _ :: _) _ _); refine kLssI _ _ _ _ .u64 (n : Int) 253 false rfl rfl rfl rfl (by simp; omega) ?_; go_frame)
      | ((with_reducible change wpList _ _ _ (Oper.mk (some 10) _ _ _ _ _ :: _) _ _); refine kLeqI _ _ _ _ .u64 (n : Int) 65535 false rfl rfl rfl rfl (by simp; omega) ?_; go_frame)
      | ((with_reducible change wpList _ _ _ (Oper.mk (some 13) _ _ _ _ _ :: _) _ _); refine kLeqI _ _ _ _ .u64 (n : Int) 4294967295 true rfl rfl rfl rfl (by simp; omega) ?_; go_frame))
    go_ret
    exact ⟨rfl, rfl⟩
  · rw [show cFirst n = 255 by unfold cFirst; rw [if_neg h1, if_neg h2, if_neg h3]]
    go_enter Try.func51, Try.ntmps51
    go_wp2_with (first
      | ((with_reducible change wpList _ _ _ (Oper.mk (some 5) _ _ _ _ _ :: _) _ _); refine kLssI _ _ _ _ .u64 (n : Int) 253 false rfl rfl rfl rfl (by simp; omega) ?_; go_frame)
      | ((with_reducible change wpList _ _ _ (Oper.mk (some 10) _ _ _ _ _ :: _) _ _); refine kLeqI _ _ _ _ .u64 (n : Int) 65535 false rfl rfl rfl rfl (by simp; omega) ?_; go_frame)
      | ((with_reducible change wpList _ _ _ (Oper.mk (some 13) _ _ _ _ _ :: _) _ _); refine kLeqI _ _ _ _ .u64 (n : Int) 4294967295 false rfl rfl rfl rfl (by simp; omega) ?_; go_frame))
    go_ret
    exact ⟨rfl, rfl⟩
theorem fixedL_snoc (n k : Nat) : fixedL n (k + 1) = fixedL n k ++ [UInt8.ofNat (n / 256 ^ k % 256)] := by
  induction k generalizing n with
  | zero => show [UInt8.ofNat (n % 256)] = _; rw [Nat.pow_zero, Nat.div_one]; rfl
  | succ k ih =>
    show UInt8.ofNat (n % 256) :: fixedL (n / 256) (k + 1) = (UInt8.ofNat (n % 256) :: fixedL (n / 256) k) ++ _
    rw [ih, Nat.div_div_eq_div_mul, show 256 * 256 ^ k = 256 ^ (k + 1) by rw [Nat.pow_succ, Nat.mul_comm]]; rfl
theorem own_make8 {w : World} {g base : Nat} (hb : base ≤ g) (h : Row w g 5 (Array.replicate 8 (.int .u8 0))) : OwnB w base (.slice (some ⟨g, 0, none⟩) 0 8) [] :=
  ⟨rfl, .inr ⟨g, 8, _, rfl, hb, h, by decide, by decide, by simp, by simp⟩⟩
theorem clampS_le (z : Int) : clampS z ≤ 8 := by unfold clampS; omega
set_option maxRecDepth 100000 in
set_option maxHeartbeats 8000000 in
theorem pcLowest_any (n : Nat) (z : Int) (w : World) : Calls Try.prog 54 #[.int .u64 (n : Int), .int .i64 z] w (POwnPost w (fixedL n (clampS z))) := by
  obtain ⟨i, hi, hz, hs1, hby⟩ := b8Info
  have h8 := clampS_le z
  have hwz := fun w => pcWithin_any z w
  generalize clampS z = S at *
  go_enter Try.func54, Try.ntmps54
  go_wp2_with (first
    | ((with_reducible change wpList _ _ _ (Oper.mk (some 6) _ _ _ _ _ :: _) _ _); refine kMake _ _ _ _ rfl rfl i _ Try.underlying25 hi hz hs1 _ rfl .i64 .i64 0 8 0 8 rfl rfl rfl rfl (by decide) (by rw [hby]; decide) (by decide) ?_; intro w1 hR1 hz1 hB1; clear hz1; have hO1 : OwnB w1 w.heap.size _ [] := own_make8 (Nat.le_refl _) hR1; clear hR1; go_frame)
    | (go_at_call 58; refine (hwz _).mono ?_; rintro e w2 ⟨rfl, rfl⟩; go_frame))
  clear hwz
  go_loopw [9, 5, 0] (fun i v m wr => ∃ k : Nat, k ≤ S ∧ i = .int .i64 k ∧ m = .int .u64 ((n / 256 ^ k : Nat) : Int) ∧ OwnB wr w.heap.size v (fixedL n k) ∧ Below w.heap.size w wr) (fun i _ _ _ => S - (intOf i).toNat)
  case atStart => exact ⟨0, by omega, rfl, by rw [Nat.pow_zero, Nat.div_one], hO1, hB1⟩
  case round =>
    obtain ⟨k, hk, rfl, rfl, hO, hB⟩ := hrel
    clear hO1 hB1
    by_cases hlt : k < S
    · have hd : decide ((k : Int) < (S : Int)) = true := by simp; omega
      have hsz := hB.size
      generalize hq : n / 256 ^ k = q at hO ⊢
      have hx : VB (UInt8.ofNat (q % 256)) = .int .u8 ((q % 256 : Nat) : Int) := VB_of (Nat.mod_lt _ (by decide))
      go_wp2_with (first
        | ((with_reducible change wpList _ _ _ (Oper.mk (some 10) _ _ _ _ _ :: _) _ _); refine kLssI _ _ _ _ .i64 (k : Int) (S : Int) true rfl rfl rfl rfl hd ?_; go_frame)
        | ((with_reducible change wpList _ _ _ (Oper.mk (some 13) _ _ _ _ _ :: _) _ _); refine kConv8 _ q rfl rfl rfl ?_; go_frame)
        | ((with_reducible change wpList _ _ _ (Oper.mk (some 14) _ _ _ _ _ :: _) _ _); refine kBuildSlice1 _ _ _ (VB (UInt8.ofNat (q % 256))) rfl rfl Try.underlying25 i _ hi hz hs1 hx.symm rfl ?_; intro w2 hR2 hz2 hB2; clear hz2; have hV2 := isVals_lit (l := [VB (UInt8.ofNat (q % 256))]) hR2; clear hR2; have hO2 := hO.below hB2; have hsz2 := hB2.size; clear hO; go_frame)
        | ((with_reducible change wpList _ _ _ (Oper.mk (some 15) _ _ _ _ _ :: _) _ _); refine kAppB _ _ rfl rfl w.heap.size _ _ (fixedL n k) [UInt8.ofNat (q % 256)] hO2 hV2 rfl rfl (by rw [fixedL_len]; simp; omega) (by omega) ?_; intro v3 w3 hO3 hB3; have hB4 := hB.trans ((hB2.mono hsz).trans hB3); clear hO2 hV2 hB2 hB3 hB; go_frame)
        | ((with_reducible change wpList _ _ _ (Oper.mk (some 17) _ _ _ _ _ :: _) _ _); refine kShrU _ _ _ _ q 8 256 (by decide) (by decide) rfl rfl rfl rfl ?_; go_frame)
        | ((with_reducible change wpList _ _ _ (Oper.mk (some 18) _ _ _ _ _ :: _) _ _); refine kAddI _ _ _ _ (k : Int) 1 ((k + 1 : Nat) : Int) (by omega) rfl rfl rfl rfl ?_; go_frame))
      go_roundw
      case rel =>
        refine ⟨k + 1, by omega, rfl, ?_, ?_, hB4⟩
        · rw [← hq, Nat.div_div_eq_div_mul, Nat.pow_succ]
        · rw [fixedL_snoc, hq]; exact hO3
      case measure => simp [intOf]; omega
    · have hd : decide ((k : Int) < (S : Int)) = false := by simp; omega
      have Hk := Lib.hid (show k = S by omega)
      go_wp2_with (first
        | ((with_reducible change wpList _ _ _ (Oper.mk (some 10) _ _ _ _ _ :: _) _ _); refine kLssI _ _ _ _ .i64 (k : Int) (S : Int) false rfl rfl rfl rfl hd ?_; go_frame))
      go_ret
      exact ⟨_, rfl, by rw [← Hk.out]; exact hO, hB⟩
theorem clampS_size (c : UInt8) : clampS (fSize c : Int) = fSize c := by
  unfold fSize clampS; split <;> (try split) <;> (try split) <;> decide
theorem fSize_le (c : UInt8) : fSize c ≤ 8 := by unfold fSize; split <;> (try split) <;> (try split) <;> decide
set_option maxRecDepth 100000 in
set_option maxHeartbeats 8000000 in
theorem pcCounted_any (n : Nat) (w : World) : Calls Try.prog 55 #[.int .u64 (n : Int)] w (POwnPost w (countL n)) := by
  obtain ⟨i, hi, hz, hs1, hby⟩ := b8Info
  have h8 := fSize_le (cFirst n)
  have hlw := fun w => pcLowest_any n (fSize (cFirst n) : Int) w
  rw [clampS_size] at hlw
  rw [countL_first]
  have hfs := fun w => pcFirst_any n w
  have hsb := fun w => pcSizeBehind_any (cFirst n) w
  generalize cFirst n = c at *
  go_enter Try.func55, Try.ntmps55
  go_wp2_with (first
    | (go_at_call 51; refine (hfs _).mono ?_; rintro e w1 ⟨rfl, rfl⟩; go_frame)
    | ((with_reducible change wpList _ _ _ (Oper.mk (some 7) _ _ _ _ _ :: _) _ _); refine kBuildSlice1 _ _ _ (VB c) rfl rfl Try.underlying25 i _ hi hz hs1 rfl rfl ?_; intro w2 hR2 hz2 hB2; clear hz2; have hO2 := own_one (base := w1.heap.size) (Nat.le_refl _) hR2; clear hR2; go_frame)
    | (go_at_call 50; refine (hsb _).mono ?_; rintro e w3 ⟨rfl, rfl⟩; go_frame)
    | (go_at_call 54; refine (hlw _).mono ?_; rintro e w4 ⟨v4, rfl, hO4, hB4⟩; have hO5 := hO2.below hB4; have hsz4 := hB2.size; have hB5 := hB2.trans (hB4.mono hsz4); have hsz5 := hB5.size; clear hO2 hB2 hB4; go_frame)
    | ((with_reducible change wpList _ _ _ (Oper.mk (some 12) _ _ _ _ _ :: _) _ _); refine kAppB _ _ rfl rfl _ _ _ [c] (fixedL n (fSize c)) hO5 hO4.vals rfl rfl (by rw [fixedL_len]; simp; omega) hsz5 ?_; intro v6 w6 hO6 hB6; have hB7 := hB5.trans hB6; clear hO5 hO4 hB5 hB6 hsz5 hsz4; go_frame))
  go_ret
  exact ⟨_, rfl, hO6, hB7⟩
set_option maxRecDepth 100000 in
set_option maxHeartbeats 8000000 in
theorem pcBehind_any {l t : List UInt8} {v u : Value} (w : World) (hv : IsVals w v (l.map VB)) (hu : IsVals w u (t.map VB)) (hl : l.length ≤ 500000) (ht : t.length ≤ 500000) : Calls Try.prog 53 #[v, u] w (POwnPost w (l ++ t)) := by
  by_cases h0 : t = []
  · subst h0
    rw [List.append_nil]
    go_enter Try.func53, Try.ntmps53
    go_wp2_with (first
      | ((with_reducible change wpList _ _ _ (Oper.mk (some 6) _ _ _ _ _ :: _) _ _); refine kLenN _ _ _ u _ 0 rfl rfl rfl hu rfl Try.underlying25 ?_; go_frame)
      | (go_at_call 41; refine (bClone_any _ hv (by omega)).mono ?_; rintro e w1 ⟨v1, rfl, hO1, hB1⟩; go_frame))
    go_ret
    exact ⟨_, rfl, hO1, hB1⟩
  · obtain ⟨q, hq⟩ : ∃ q, t.length = q := ⟨_, rfl⟩
    obtain ⟨p, hp⟩ : ∃ p, l.length = p := ⟨_, rfl⟩
    have hq0 : 0 < q := by rw [← hq]; exact List.length_pos_iff.2 h0
    have hd : decide ((q : Int) = 0) = false := by simp; omega
    go_enter Try.func53, Try.ntmps53
    go_wp2_with (first
      | ((with_reducible change wpList _ _ _ (Oper.mk (some 6) _ _ _ _ _ :: _) _ _); refine kLenN _ _ _ u _ q rfl rfl rfl hu (by rw [List.length_map, hq]) Try.underlying25 ?_; go_frame)
      | ((with_reducible change wpList _ _ _ (Oper.mk (some 7) _ _ _ _ _ :: _) _ _); refine kEqlI _ _ _ _ .i64 (q : Int) 0 false rfl rfl rfl rfl hd ?_; go_frame)
      | ((with_reducible change wpList _ _ _ (Oper.mk (some 12) _ _ _ _ _ :: _) _ _); refine kLenN _ _ _ v _ p rfl rfl rfl hv (by rw [List.length_map, hp]) Try.underlying25 ?_; go_frame)
      | ((with_reducible change wpList _ _ _ (Oper.mk (some 14) _ _ _ _ _ :: _) _ _); refine kLenN _ _ _ v _ p rfl rfl rfl hv (by rw [List.length_map, hp]) Try.underlying25 ?_; go_frame)
      | ((with_reducible change wpList _ _ _ (Oper.mk (some 15) _ _ _ _ _ :: _) _ _); refine kSliceFull _ _ _ rfl rfl v l hv rfl (by rw [hp]; rfl) (by rw [hp]; rfl) ?_; go_frame)
      | ((with_reducible change wpList _ _ _ (Oper.mk (some 17) _ _ _ _ _ :: _) _ _); refine kAppNew _ _ rfl rfl v u l t hv hu rfl rfl h0 (by omega) ?_; intro v6 w6 hO6 hB6; go_frame))
    go_ret
    exact ⟨_, rfl, hO6, hB6⟩
set_option maxRecDepth 100000 in
set_option maxHeartbeats 8000000 in
theorem pcCount_any {l : List UInt8} {v : Value} (n : Nat) (w : World) (hv : IsVals w v (l.map VB)) (hl : l.length ≤ 500000) : Calls Try.prog 48 #[v, .int .u64 (n : Int)] w (POwnPost w (l ++ countL n)) := by
  have hc : (countL n).length ≤ 500000 := by have := fSize_le (cFirst n); rw [countL_len, ← cFirst_size]; omega
  go_enter Try.func48, Try.ntmps48
  go_wp2_with (first
    | (go_at_call 55; refine (pcCounted_any n _).mono ?_; rintro e w1 ⟨v1, rfl, hO1, hB1⟩; have hv1 := hv.below hB1; have hu1 := hO1.vals; have hsz := hB1.size; clear hO1; go_frame)
    | (go_at_call 53; refine (pcBehind_any _ hv1 hu1 hl hc).mono ?_; rintro e w2 ⟨v2, rfl, hO2, hB2⟩; have hO3 := own_less hsz hO2; have hB3 := hB1.trans (hB2.mono hsz); clear hB1 hB2 hO2; go_frame))
  go_ret
  exact ⟨_, rfl, hO3, hB3⟩
set_option maxRecDepth 100000 in
set_option maxHeartbeats 8000000 in
theorem pcFixed_any {l : List UInt8} {v : Value} (n : Nat) (z : Int) (w : World) (hv : IsVals w v (l.map VB)) (hl : l.length ≤ 500000) : Calls Try.prog 36 #[v, .int .u64 (n : Int), .int .i64 z] w (POwnPost w (l ++ fixedL n (clampS z))) := by
  have hc : (fixedL n (clampS z)).length ≤ 500000 := by have := clampS_le z; rw [fixedL_len]; omega
  go_enter Try.func36, Try.ntmps36
  go_wp2_with (first
    | (go_at_call 54; refine (pcLowest_any n z _).mono ?_; rintro e w1 ⟨v1, rfl, hO1, hB1⟩; have hv1 := hv.below hB1; have hu1 := hO1.vals; have hsz := hB1.size; clear hO1; go_frame)
    | (go_at_call 53; refine (pcBehind_any _ hv1 hu1 hl hc).mono ?_; rintro e w2 ⟨v2, rfl, hO2, hB2⟩; have hO3 := own_less hsz hO2; have hB3 := hB1.trans (hB2.mono hsz); clear hB1 hB2 hO2; go_frame))
  go_ret
  exact ⟨_, rfl, hO3, hB3⟩
end Go.Proofs.Ytgichipcmbnnhaa
