/-
  The walks of wide's Left and Right.
-/
import Derived.Test.YtajpdmcbdekpbaaDoorWBits
namespace Go.Proofs.YtajpdmcbdekpbaaDoor
open Go Go.RowKit

/-! ### plain -/
theorem pow_split (r : Nat) (hr : r ≤ 64) : (18446744073709551616 : Nat) = 2 ^ (64 - r) * 2 ^ r := by
  rw [← Nat.pow_add, show 64 - r + r = 64 by omega]
theorem limb_shl0 (a r m : Nat) (hr : r ≤ 64) : limb (a * 2 ^ r) m = (limb a m * 2 ^ r % 18446744073709551616 + (if m = 0 then 0 else limb a (m - 1) / 2 ^ (64 - r))) ∧ (if m = 0 then 0 else limb a (m - 1) / 2 ^ (64 - r)) < 2 ^ r := by
  have h2 : 0 < 2 ^ r := Nat.pow_pos (by decide)
  have hB : (if m = 0 then 0 else limb a (m - 1) / 2 ^ (64 - r)) < 2 ^ r := by
    split
    · exact h2
    · have := limb_lt a (m - 1)
      refine Nat.div_lt_of_lt_mul ?_
      rw [← pow_split r hr]; exact this
  refine ⟨?_, hB⟩
  have e1 : a * 2 ^ r / P64 m = a / P64 m * 2 ^ r + low a m * 2 ^ r / P64 m := by
    have : a * 2 ^ r = low a m * 2 ^ r + P64 m * (a / P64 m * 2 ^ r) := by
      conv => lhs; rw [← Nat.mod_add_div a (P64 m)]
      rw [Nat.add_mul, Nat.mul_assoc]; rfl
    rw [this, Nat.add_mul_div_left _ _ (P64_pos m), Nat.add_comm]
  have e2 : low a m * 2 ^ r / P64 m = if m = 0 then 0 else limb a (m - 1) / 2 ^ (64 - r) := by
    by_cases hm : m = 0
    · subst hm; rw [low_zero, if_pos rfl]; simp
    · rw [if_neg hm]
      obtain ⟨k, rfl⟩ : ∃ k, m = k + 1 := ⟨m - 1, by omega⟩
      rw [P64_succ, pow_split r hr, ← Nat.mul_assoc, Nat.mul_div_mul_right _ _ h2, ← Nat.div_div_eq_div_mul, Nat.add_sub_cancel]
      congr 1
      rw [low_succ, Nat.add_mul_div_left _ _ (P64_pos k), Nat.div_eq_of_lt (low_lt a k), Nat.zero_add]
  show a * 2 ^ r / P64 m % _ = _
  rw [e1, e2]
  generalize (if m = 0 then 0 else limb a (m - 1) / 2 ^ (64 - r)) = e at *
  have e3 : (a / P64 m * 2 ^ r) % 18446744073709551616 = limb a m * 2 ^ r % 18446744073709551616 := by
    unfold limb; rw [Nat.mod_mul_mod]
  have e4 : limb a m * 2 ^ r % 18446744073709551616 + 2 ^ r ≤ 18446744073709551616 := by
    rw [pow_split r hr, Nat.mul_mod_mul_right, ← Nat.add_one_mul]
    exact Nat.mul_le_mul_right _ (Nat.mod_lt _ (Nat.pow_pos (by decide)))
  rw [Nat.add_mod, e3, Nat.mod_eq_of_lt (show e < 18446744073709551616 by omega)]
  exact Nat.mod_eq_of_lt (by omega)
theorem limb_shlq (a q r m : Nat) : limb (a * 2 ^ (64 * q + r)) (q + m) = limb (a * 2 ^ r) m := by
  have e : a * 2 ^ (64 * q + r) = a * 2 ^ r * P64 q := by rw [Nat.pow_add, ← P64_pow, Nat.mul_comm (P64 q), Nat.mul_assoc]
  have e2 : P64 (q + m) = P64 m * P64 q := by unfold P64; rw [← Nat.pow_add, Nat.add_comm]
  unfold limb
  rw [e, e2, Nat.mul_div_mul_right _ _ (P64_pos q)]
theorem limb_shl_low (a q r j : Nat) (h : j < q) : limb (a * 2 ^ (64 * q + r)) j = 0 := by
  have e : a * 2 ^ (64 * q + r) = 0 + P64 q * (a * 2 ^ r) := by rw [Nat.pow_add, ← P64_pow, Nat.zero_add]; ac_rfl
  rw [e, limb_mult _ _ _ _ h]; unfold limb; simp
theorem shl_or (a r m : Nat) (hr : r ≤ 64) (hm : m ≠ 0) : bits .or .u64 ((limb a m * 2 ^ r % 18446744073709551616 : Nat) : Int) ((limb a (m - 1) / 2 ^ (64 - r) : Nat) : Int) = ((limb (a * 2 ^ r) m : Nat) : Int) := by
  obtain ⟨e, hB⟩ := limb_shl0 a r m hr
  rw [if_neg hm] at e hB
  have h1 : limb a m * 2 ^ r % 18446744073709551616 < 18446744073709551616 := Nat.mod_lt _ (by decide)
  have h2 : limb a (m - 1) / 2 ^ (64 - r) < 18446744073709551616 := Nat.lt_of_le_of_lt (Nat.div_le_self _ _) (limb_lt _ _)
  rw [u64_or_nat _ _ h1 h2, e]
  congr 1
  have e4 : limb a m * 2 ^ r % 18446744073709551616 = 2 ^ r * (limb a m % 2 ^ (64 - r)) := by
    rw [pow_split r hr, Nat.mul_mod_mul_right, Nat.mul_comm]
  rw [e4]
  exact (Nat.two_pow_add_eq_or_of_lt hB _).symm

theorem shl_val (x r : Nat) : IntKind.u64.wrap ((x : Int) * 2 ^ r) = ((x * 2 ^ r % 18446744073709551616 : Nat) : Int) := by
  rw [← wrap64, Int.natCast_mul, Int.natCast_pow]; rfl
theorem shr_val (x r : Nat) : (x : Int) / 2 ^ r = ((x / 2 ^ r : Nat) : Int) := by
  rw [Int.natCast_ediv, Int.natCast_pow]; rfl
theorem shlm_val (x r : Nat) : (x : Int) * 2 ^ r % 18446744073709551616 = ((x * 2 ^ r % 18446744073709551616 : Nat) : Int) := by
  rw [Int.natCast_emod, Int.natCast_mul, Int.natCast_pow]; rfl
theorem set_set (cs : Array Value) (i : Nat) (u v : Value) : (cs.setIfInBounds i u).setIfInBounds i v = cs.setIfInBounds i v := by simp
/-- the first k cells of the number, the others nought -/
theorem sumTo_low (n q : Nat) (h : ∀ j, j < q → limb n j = 0) : sumTo n q = wcells 0 := by
  rw [wcells_zero]; exact tab_congr fun j _ => by
    split
    · rw [h j (by assumption)]; rfl
    · rfl

theorem div_shr (a q r j : Nat) (hr : r ≤ 64) : a / 2 ^ (64 * q + r) / P64 j = limb a (q + j) / 2 ^ r + 2 ^ (64 - r) * (a / P64 (q + j + 1)) := by
  have h2 : 0 < 2 ^ r := Nat.pow_pos (by decide)
  have e : a / 2 ^ (64 * q + r) / P64 j = a / P64 (q + j) / 2 ^ r := by
    rw [Nat.pow_add, ← P64_pow, Nat.div_div_eq_div_mul, Nat.div_div_eq_div_mul]
    congr 1
    have : P64 (q + j) = P64 q * P64 j := by unfold P64; rw [Nat.pow_add]
    rw [this]; ac_rfl
  rw [e, div_step a (q + j), pow_split r hr, Nat.mul_comm (2 ^ (64 - r)) (2 ^ r), Nat.mul_assoc, Nat.add_mul_div_left _ _ h2]
theorem limb_shr_last (a q r j : Nat) (hr : r ≤ 64) (h : a < P64 (q + j + 1)) : limb (a / 2 ^ (64 * q + r)) j = limb a (q + j) / 2 ^ r := by
  show a / 2 ^ (64 * q + r) / P64 j % _ = _
  rw [div_shr a q r j hr, Nat.div_eq_of_lt h, Nat.mul_zero, Nat.add_zero]
  exact Nat.mod_eq_of_lt (Nat.lt_of_le_of_lt (Nat.div_le_self _ _) (limb_lt _ _))
theorem shr_or (a q r j : Nat) (hr : r ≤ 64) : bits .or .u64 ((limb a (q + j) / 2 ^ r : Nat) : Int) ((limb a (q + j + 1) * 2 ^ (64 - r) % 18446744073709551616 : Nat) : Int) = ((limb (a / 2 ^ (64 * q + r)) j : Nat) : Int) := by
  have h2 : 0 < 2 ^ r := Nat.pow_pos (by decide)
  have hb : limb a (q + j) / 2 ^ r < 2 ^ (64 - r) := by
    refine Nat.div_lt_of_lt_mul ?_
    have := limb_lt a (q + j)
    rw [Nat.mul_comm, ← pow_split r hr]; exact this
  have h1 : limb a (q + j + 1) * 2 ^ (64 - r) % 18446744073709551616 < 18446744073709551616 := Nat.mod_lt _ (by decide)
  rw [u64_or_nat _ _ (Nat.lt_of_le_of_lt (Nat.div_le_self _ _) (limb_lt _ _)) h1]
  congr 1
  have e4 : limb a (q + j + 1) * 2 ^ (64 - r) % 18446744073709551616 = 2 ^ (64 - r) * (limb a (q + j + 1) % 2 ^ r) := by
    rw [pow_split r hr, Nat.mul_comm, Nat.mul_mod_mul_left]
  have e5 : limb a (q + j + 1) % 2 ^ r = a / P64 (q + j + 1) % 2 ^ r := by
    unfold limb
    rw [pow_split r hr]
    exact Nat.mod_mod_of_dvd _ (Nat.dvd_mul_left _ _)
  rw [e4, e5, Nat.or_comm, ← Nat.two_pow_add_eq_or_of_lt hb]
  show _ = a / 2 ^ (64 * q + r) / P64 j % _
  rw [div_shr a q r j hr]
  have e6 : (2 ^ (64 - r) * (a / P64 (q + j + 1))) % 18446744073709551616 = 2 ^ (64 - r) * (a / P64 (q + j + 1) % 2 ^ r) := by
    rw [pow_split r hr, Nat.mul_mod_mul_left]
  have e7 : 2 ^ (64 - r) * (a / P64 (q + j + 1) % 2 ^ r) + 2 ^ (64 - r) ≤ 18446744073709551616 := by
    rw [pow_split r hr, ← Nat.mul_add_one]
    exact Nat.mul_le_mul_left _ (Nat.mod_lt _ h2)
  rw [Nat.add_comm (limb a (q + j) / 2 ^ r), Nat.add_mod, e6, Nat.mod_eq_of_lt (show limb a (q + j) / 2 ^ r < 18446744073709551616 by omega)]
  exact (Nat.mod_eq_of_lt (by omega)).symm
theorem sumTo_high (n k : Nat) (h : ∀ j, j < 4 → k ≤ j → limb n j = 0) : sumTo n k = wcells n := tab_congr fun j hj => by
  split
  · rfl
  · rw [h j hj (by omega)]
theorem limb_shr_high (a q r j : Nat) (ha : a < M256) (hr : r ≤ 64) (h : 4 ≤ q + j) : limb (a / 2 ^ (64 * q + r)) j = 0 := by
  have hP : M256 ≤ P64 (q + j) := by rw [← P64_four]; exact Nat.pow_le_pow_right (by decide) h
  have hP2 : M256 ≤ P64 (q + j + 1) := by rw [← P64_four]; exact Nat.pow_le_pow_right (by decide) (by omega)
  show a / 2 ^ (64 * q + r) / P64 j % _ = _
  rw [div_shr a q r j hr, Nat.div_eq_of_lt (show a < P64 (q + j + 1) by omega)]
  unfold limb
  rw [Nat.div_eq_of_lt (show a < P64 (q + j) by omega)]
  simp
theorem sumTo_size (n k : Nat) : (sumTo n k).size = 4 := by unfold sumTo; exact tab_size _ _

set_option maxRecDepth 100000 in
set_option maxHeartbeats 2000000 in
theorem wRight_pos (a N : Nat) (ha : a < M256) (h1 : 1 ≤ N) (hN : N < 9223372036854775808) (w : World) :
    Calls Tryd.prog 36 #[WV a, .int .i64 (N : Int)] w fun e w' => e = .returned (WV (a / 2 ^ N)) ∧ Below w.heap.size w w' := by
  unfold WV
  obtain ⟨q, r, hr, hq⟩ : ∃ q r, r < 64 ∧ N = 64 * q + r := ⟨N / 64, N % 64, Nat.mod_lt _ (by decide), (Nat.div_add_mod N 64).symm⟩
  have e1 : (N : Int) / 64 = (q : Int) := by omega
  have e2 : (N : Int) % 64 = (r : Int) := by omega
  have hqN : q < 144115188075855872 := by omega
  have Hq := Lib.hid hq
  clear hq
  go_enter Tryd.func36, Tryd.ntmps36
  go_wp2_with (first
    | ((with_reducible change wpList _ _ _ (Oper.mk (some 2) _ _ _ _ _ :: _) _ _); refine kBoxL _ _ _ rfl rfl rfl ?_; intro w1 hR1 hl1 hB1)
    | ((with_reducible change wpList _ _ _ (Oper.mk (some 4) _ _ _ _ _ :: _) _ _); refine kAllocL _ _ rfl rfl zero_Wide ?_; intro w2 hR2 hl2 hB2)
    | ((with_reducible change wpList _ _ _ (Oper.mk (some 5) _ _ _ _ _ :: _) _ _); refine kAllocL _ _ rfl rfl zero_Wide ?_; intro w3 hR3 hl3 hB3))
  have hRa := (hR1.below hB2 (by omega)).below hB3 (by omega)
  have hRm := hR2.below hB3 (by omega)
  have hB : Below w.heap.size w w3 := (hB1.trans (hB2.mono (by omega))).trans (hB3.mono (by omega))
  rw [e2]
  clear hR1 hR2 hB1 hB2 hB3 e1 e2
  go_loopw [8] (fun i wr => ∃ m : Nat, (m = 0 ∨ q + m ≤ 4) ∧ i = .int .i64 ((q : Int) + (m : Int)) ∧ Row wr w2.heap.size 25 (sumTo (a / 2 ^ N) m) ∧ Below w2.heap.size w3 wr) (fun i _ => 4 - (intOf i).toNat)
  case atStart => exact ⟨0, by omega, by simp, by rw [sumTo_zero]; exact hR3, Below.refl _ _⟩
  case round =>
    obtain ⟨m, hm, rfl, hR, hBr⟩ := hrel
    by_cases hlt : q + m < 4
    · have hd : decide ((q : Int) + (m : Int) < 4) = true := by simp; omega
      have hRar := hRa.below hBr (by omega)
      by_cases hm0 : q + m = 3
      · have hd0 : decide ((q : Int) + (m : Int) + 1 < 4) = false := by simp; omega
        have hval : limb (a / 2 ^ N) m = limb a (q + m) / 2 ^ r := by
          rw [Hq.out]; exact limb_shr_last a q r m (by omega) (by rw [hm0, P64_four]; exact ha)
        have Hval := Lib.hid hval
        clear hval hm0
        go_wp2_with (first
          | ((with_reducible change wpList _ _ _ (Oper.mk (some 25) _ _ _ _ _ :: _) _ _); refine kIndexAddr1 _ _ _ _ _ _ _ (q + m) _ rfl rfl rfl rfl Tryd.underlying25 info_w64 (by omega) (by omega) ?_)
          | ((with_reducible change wpList _ _ _ (Oper.mk (some 26) _ _ _ _ _ :: _) _ _); refine kLoad1 _ _ _ _ _ _ _ _ rfl rfl rfl hRar Tryd.underlying23 rfl (wcells_get a (q + m) (by omega)) ?_)
          | ((with_reducible change wpList _ _ _ (Oper.mk (some 29) _ _ _ _ _ :: _) _ _); refine kIndexAddr1 _ _ _ _ _ _ _ m _ rfl rfl rfl rfl Tryd.underlying25 info_w64 (by omega) (by omega) ?_)
          | ((with_reducible change wpList _ _ _ (Oper.mk none _ _ _ _ _ :: _) _ _); refine kStore1 _ _ _ _ _ _ _ (.int .u64 (limb (a / 2 ^ N) m : Int)) rfl rfl rfl (congrArg (Value.int IntKind.u64) (by rw [Hval.out]; exact shr_val _ _)) hR info_w64 (by rw [sumTo_size]; omega) rfl ?_; intro w5 hR5 hW5; rw [sumTo_set] at hR5))
        go_roundw
        case rel => exact ⟨m + 1, by omega, by go_num, hR5, hBr.trans (hW5.below (by omega))⟩
        case measure => simp [intOf]; omega
      · have hd0 : decide ((q : Int) + (m : Int) + 1 < 4) = true := by simp; omega
        have hval : bits .or .u64 ((limb a (q + m) / 2 ^ r : Nat) : Int) ((limb a (q + m + 1) * 2 ^ (64 - r) % 18446744073709551616 : Nat) : Int) = (limb (a / 2 ^ N) m : Int) := by
          rw [Hq.out]; exact shr_or a q r m (by omega)
        have Hval := Lib.hid hval
        clear hval
        go_wp2_with (first
          | ((with_reducible change wpList _ _ _ (Oper.mk (some 25) _ _ _ _ _ :: _) _ _); refine kIndexAddr1 _ _ _ _ _ _ _ (q + m) _ rfl rfl rfl rfl Tryd.underlying25 info_w64 (by omega) (by omega) ?_)
          | ((with_reducible change wpList _ _ _ (Oper.mk (some 26) _ _ _ _ _ :: _) _ _); refine kLoad1 _ _ _ _ _ _ _ _ rfl rfl rfl hRar Tryd.underlying23 rfl (wcells_get a (q + m) (by omega)) ?_)
          | ((with_reducible change wpList _ _ _ (Oper.mk (some 29) _ _ _ _ _ :: _) _ _); refine kIndexAddr1 _ _ _ _ _ _ _ m _ rfl rfl rfl rfl Tryd.underlying25 info_w64 (by omega) (by omega) ?_)
          | ((with_reducible change wpList _ _ _ (Oper.mk none _ _ _ _ _ :: _) _ _); refine kStore1 _ _ _ _ _ _ _ (.int .u64 ((limb a (q + m) / 2 ^ r : Nat) : Int)) rfl rfl rfl (congrArg (Value.int IntKind.u64) (shr_val _ _)) hR info_w64 (by rw [sumTo_size]; omega) rfl ?_; intro w5 hR5 hW5))
        have hR5a := hW5.row hRar (by omega)
        have hg5 : ((sumTo (a / 2 ^ N) m).setIfInBounds m (.int .u64 ((limb a (q + m) / 2 ^ r : Nat) : Int)))[m]? = some (.int .u64 ((limb a (q + m) / 2 ^ r : Nat) : Int)) := by
          rw [Array.getElem?_setIfInBounds_self_of_lt (by rw [sumTo_size]; omega)]
        refine region_drew_tail 14 (by kernel_rfl) (by kernel_rfl) ?_
        simp only [List.take_succ_cons, List.take_zero, List.drop_succ_cons, List.drop_zero]
        repeat (first
          | ((with_reducible change wpQuiet _ _ _ _ (Oper.mk (some 36) _ _ _ _ _ :: _) _); refine qIndexAddr1 _ _ _ _ _ _ _ m _ rfl rfl rfl rfl Tryd.underlying25 info_w64 (by omega) (by omega) ?_; go_frame)
          | ((with_reducible change wpQuiet _ _ _ _ (Oper.mk (some 37) _ _ _ _ _ :: _) _); refine qLoad1 _ _ _ _ _ _ _ _ rfl rfl rfl (fun _ ⟨_, e⟩ => by rw [e]; exact hR5) Tryd.underlying23 rfl hg5 ?_; go_frame)
          | ((with_reducible change wpQuiet _ _ _ _ (Oper.mk (some 40) _ _ _ _ _ :: _) _); refine qIndexAddr1 _ _ _ _ _ _ _ (q + m + 1) _ rfl rfl rfl rfl Tryd.underlying25 info_w64 (by omega) (by omega) ?_; go_frame)
          | ((with_reducible change wpQuiet _ _ _ _ (Oper.mk (some 41) _ _ _ _ _ :: _) _); refine qLoad1 _ _ _ _ _ _ _ _ rfl rfl rfl (fun _ ⟨_, e⟩ => by rw [e]; exact hR5a) Tryd.underlying23 rfl (wcells_get a (q + m + 1) (by omega)) ?_; go_frame)
          | ((with_reducible change wpQuiet _ _ _ _ (Oper.mk (some 46) _ _ _ _ _ :: _) _); refine qIndexAddr1 _ _ _ _ _ _ _ m _ rfl rfl rfl rfl Tryd.underlying25 info_w64 (by omega) (by omega) ?_; go_frame)
          | go_big_quiet_step (fail))
        refine wpQuiet_nil ?_
        rintro _ ⟨nq, rfl⟩
        refine kStore1 _ _ _ _ _ m _ (.int .u64 (limb (a / 2 ^ N) m : Int)) rfl rfl rfl (congrArg (Value.int IntKind.u64) (by first | (rw [shr_val, shl_val]; exact Hval.out) | (rw [shr_val, shlm_val]; exact Hval.out))) (hR5.drewN nq) info_w64 (by rw [Array.size_setIfInBounds, sumTo_size]; omega) rfl ?_
        intro w6 hR6 hW6
        rw [set_set, sumTo_set] at hR6
        have hB6 : Below w2.heap.size w3 w6 := (hBr.trans (hW5.below (by omega))).trans ⟨hW6.os, hW6.tape, hW6.output, Nat.le_of_eq hW6.size.symm, fun k hk => hW6.other k (by omega)⟩
        go_wp2
        go_roundw
        case rel => exact ⟨m + 1, by omega, by go_num, hR6, hB6⟩
        case measure => simp [intOf]; omega
    · have hd : decide ((q : Int) + (m : Int) < 4) = false := by simp; omega
      rw [sumTo_high _ _ (fun j hj hmj => by rw [Hq.out]; exact limb_shr_high a q r j ha (by omega) (by omega))] at hR
      have hRmr := hRm.below hBr (by omega)
      have hBw : Below w.heap.size w wr := hB.trans (hBr.mono (by omega))
      go_wp2_with (first
        | ((with_reducible change wpList _ _ _ (Oper.mk (some 47) _ _ _ _ _ :: _) _ _); refine kLoadRow _ _ _ _ _ _ rfl rfl rfl hR Tryd.underlying25 rfl (info_WideC _) ?_)
        | ((with_reducible change wpList _ _ _ (Oper.mk none _ _ _ _ _ :: _) _ _); refine kStoreRow _ _ _ _ _ _ _ rfl rfl rfl rfl hRmr (info_WideC _) (by simp only [wcells_size]) (wcells_one _) ?_; intro w6 hR6 hW6))
      exact result_row Tryd.results36 rfl hR6 Tryd.underlying25 rfl (info_WideC _) rfl ⟨rfl, hBw.trans (hW6.below (by omega))⟩

set_option maxRecDepth 100000 in
set_option maxHeartbeats 2000000 in
theorem wRight_neg (a : Nat) (z : Int) (hz : z < 1) (w : World) :
    Calls Tryd.prog 36 #[WV a, .int .i64 z] w fun e w' => e = .returned (WV a) ∧ Below w.heap.size w w' := by
  unfold WV
  have hd : decide (z < 1) = true := by simp; omega
  go_enter Tryd.func36, Tryd.ntmps36
  go_wp2_with (first
    | ((with_reducible change wpList _ _ _ (Oper.mk (some 2) _ _ _ _ _ :: _) _ _); refine kBoxL _ _ _ rfl rfl rfl ?_; intro w1 hR1 hl1 hB1)
    | ((with_reducible change wpList _ _ _ (Oper.mk (some 4) _ _ _ _ _ :: _) _ _); refine kAllocL _ _ rfl rfl zero_Wide ?_; intro w2 hR2 hl2 hB2)
    | ((with_reducible change wpList _ _ _ (Oper.mk (some 11) _ _ _ _ _ :: _) _ _); refine kLoadRow _ _ _ _ _ _ rfl rfl rfl (hR1.below hB2 (by omega)) Tryd.underlying25 rfl (info_WideC _) ?_)
    | ((with_reducible change wpList _ _ _ (Oper.mk none _ _ _ _ _ :: _) _ _); refine kStoreRow _ _ _ _ _ _ _ rfl rfl rfl rfl hR2 (info_WideC _) (by simp only [wcells_size]) (wcells_one _) ?_; intro w6 hR6 hW6))
  exact result_row Tryd.results36 rfl hR6 Tryd.underlying25 rfl (info_WideC _) rfl ⟨rfl, (hB1.trans (hB2.mono (by omega))).trans (hW6.below (by omega))⟩

theorem wRight_any (a : Nat) (z : Int) (ha : a < M256) (hz : z < 9223372036854775808) (w : World) :
    Calls Tryd.prog 36 #[WV a, .int .i64 z] w fun e w' => e = .returned (WV (a / 2 ^ z.toNat)) ∧ Below w.heap.size w w' := by
  by_cases h : z < 1
  · have := wRight_neg a z h w
    rwa [show z.toNat = 0 by omega, Nat.pow_zero, Nat.div_one]
  · obtain ⟨N, rfl⟩ := Int.eq_ofNat_of_zero_le (show 0 ≤ z by omega)
    exact wRight_pos a N ha (by omega) (by omega) w
end Go.Proofs.YtajpdmcbdekpbaaDoor
