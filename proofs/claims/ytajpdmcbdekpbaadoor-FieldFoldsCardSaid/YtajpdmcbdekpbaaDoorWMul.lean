/-
  The walk of wide's Mul: both numbers multiplied, 512 bits.
-/
import Derived.Test.YtajpdmcbdekpbaaDoorWMul64
namespace Go.Proofs.YtajpdmcbdekpbaaDoor
open Go Go.RowKit

theorem info_arr8 : (Tryd.prog.info? 68).map (·.size) = some 8 := by kernel_rfl
theorem zero_arr8 : ((Tryd.prog.info? 68).bind (·.zero)).map Value.cells = some (tab 8 fun _ => .int .u64 0) := by kernel_rfl

/-- what is in the row of eight once k limbs of a are through, and of the next one m limbs of b -/
def mulN (a b k m : Nat) : Nat := low a k * b + limb a k * low b m * P64 k
def mulTab (a b k m : Nat) : Array Value := tab 8 fun j => .int .u64 ((if j < k + m then limb (mulN a b k m) j else limb (low a k * b) j : Nat) : Int)
def mulRow (n : Nat) : Array Value := tab 8 fun j => .int .u64 (limb n j : Int)
theorem mulN_zero (a b k : Nat) : mulN a b k 0 = low a k * b := by unfold mulN; rw [low_zero]; simp
theorem mulN_four (a b k : Nat) (hb : b < M256) : mulN a b k 4 = low a (k + 1) * b := by
  unfold mulN; rw [low_four b hb, low_succ, Nat.add_mul]; congr 1
  rw [Nat.mul_comm (P64 k), Nat.mul_right_comm]
theorem mulN_succ (a b k m : Nat) : mulN a b k (m + 1) = mulN a b k m + P64 (k + m) * (limb a k * limb b m) := by
  unfold mulN
  rw [low_succ, Nat.mul_add, Nat.add_mul, Nat.add_assoc]
  congr 1
  congr 1
  have e : P64 (k + m) = P64 k * P64 m := by unfold P64; rw [Nat.pow_add]
  rw [e]
  generalize P64 k = p; generalize P64 m = q; generalize limb a k = x; generalize limb b m = y
  ac_rfl
theorem mulTab_zero (a b k : Nat) : mulTab a b k 0 = mulRow (low a k * b) := tab_congr fun j _ => by
  rw [mulN_zero]; split <;> rfl
theorem limb_mult (n q j k : Nat) (h : j < k) : limb (n + P64 k * q) j = limb n j := by
  have e : P64 k = P64 j * (18446744073709551616 * P64 (k - j - 1)) := by
    unfold P64; rw [← Nat.mul_assoc, ← Nat.pow_succ, ← Nat.pow_add]; congr 1; omega
  unfold limb
  rw [e, Nat.mul_assoc, Nat.add_mul_div_left _ _ (P64_pos j), Nat.mul_assoc, Nat.add_mul_mod_self_left]
theorem div_step (n k : Nat) : n / P64 k = limb n k + 18446744073709551616 * (n / P64 (k + 1)) := by
  unfold limb
  rw [P64_succ, ← Nat.div_div_eq_div_mul, Nat.mod_add_div]
/-- one step of the inner loop -/
theorem mul_step {a b k m c : Nat} (h : mulN a b k m / P64 (k + m) = low a k * b / P64 (k + m) + c) :
    limb (mulN a b k (m + 1)) (k + m) = (limb a k * limb b m + limb (low a k * b) (k + m) + c) % 18446744073709551616 ∧
    mulN a b k (m + 1) / P64 (k + (m + 1)) = low a k * b / P64 (k + (m + 1)) + (limb a k * limb b m + limb (low a k * b) (k + m) + c) / 18446744073709551616 := by
  have e1 : mulN a b k (m + 1) / P64 (k + m) = limb (low a k * b) (k + m) + 18446744073709551616 * (low a k * b / P64 (k + m + 1)) + c + limb a k * limb b m := by
    rw [mulN_succ, Nat.add_mul_div_left _ _ (P64_pos _), h, div_step (low a k * b) (k + m)]
  constructor
  · show mulN a b k (m + 1) / P64 (k + m) % _ = _
    rw [e1]; omega
  · rw [show k + (m + 1) = k + m + 1 from rfl, P64_succ, ← Nat.div_div_eq_div_mul, ← Nat.div_div_eq_div_mul, e1, div_step (low a k * b) (k + m)]
    have hl := limb_lt (low a k * b) (k + m)
    generalize limb a k * limb b m = z
    generalize limb (low a k * b) (k + m) = y at *
    generalize low a k * b / P64 (k + m + 1) = q
    omega
theorem mulTab_set (a b k m : Nat) (v : Nat) (hv : v = limb (mulN a b k (m + 1)) (k + m)) : (mulTab a b k m).setIfInBounds (k + m) (.int .u64 (v : Int)) = mulTab a b k (m + 1) := tab_set fun j hj => by
  subst hv
  by_cases h : j = k + m
  · subst h; rw [if_pos rfl, if_pos (by omega)]
  · rw [if_neg h]
    by_cases h2 : j < k + m
    · rw [if_pos h2, if_pos (by omega), mulN_succ, limb_mult _ _ _ _ h2]
    · rw [if_neg h2, if_neg (by omega)]
theorem mulAdd_bound {x y p q : Nat} (hx : x < 18446744073709551616) (hy : y < 18446744073709551616) (hp : p < 18446744073709551616) (hq : q < 18446744073709551616) : (x * y + p + q) / 18446744073709551616 < 18446744073709551616 := by
  have hle : x * y ≤ 340282366920938463426481119284349108225 := Nat.mul_le_mul (Nat.le_of_lt_succ hx) (Nat.le_of_lt_succ hy)
  omega
theorem low_mul_lt (a b k : Nat) (hb : b < M256) : low a k * b < P64 (k + 4) := by
  have h1 := low_lt a k
  have e : P64 (k + 4) = P64 k * M256 := by rw [← P64_four]; unfold P64; rw [Nat.pow_add]
  rw [e]
  exact Nat.lt_of_le_of_lt (Nat.mul_le_mul_right b (Nat.le_of_lt h1)) (Nat.mul_lt_mul_of_pos_left hb (P64_pos k))
theorem mulRow_end (a b k c : Nat) (hb : b < M256) (h : mulN a b k 4 / P64 (k + 4) = low a k * b / P64 (k + 4) + c) : (mulTab a b k 4).setIfInBounds (k + 4) (.int .u64 (c : Int)) = mulRow (low a (k + 1) * b) := tab_set fun j hj => by
  rw [mulN_four a b k hb] at *
  have hT := low_mul_lt a b k hb
  have hN := low_mul_lt a b (k + 1) hb
  rw [Nat.div_eq_of_lt hT, Nat.zero_add] at h
  by_cases hjk : j = k + 4
  · subst hjk
    rw [if_pos rfl]
    congr 2
    unfold limb
    rw [h]
    have : c < 18446744073709551616 := by
      rw [← h]
      rw [show k + 1 + 4 = k + 4 + 1 by omega, P64_succ] at hN
      exact Nat.div_lt_of_lt_mul hN
    exact Nat.mod_eq_of_lt this
  · rw [if_neg hjk]
    by_cases h2 : j < k + 4
    · rw [if_pos h2]
    · rw [if_neg h2]
      have hP : P64 (k + 4) ≤ P64 j := Nat.pow_le_pow_right (by decide) (by omega)
      have hP2 : P64 (k + 1 + 4) ≤ P64 j := Nat.pow_le_pow_right (by decide) (by omega)
      unfold limb
      rw [Nat.div_eq_of_lt (Nat.lt_of_lt_of_le hN hP2), Nat.div_eq_of_lt (Nat.lt_of_lt_of_le hT hP)]
theorem mulRow_zero : mulRow 0 = tab 8 fun _ => .int .u64 0 := tab_congr fun j _ => by unfold limb; simp
theorem mulRow_low (n : Nat) : (mulRow n).extract 0 4 = wcells n := by
  unfold mulRow wcells tab; rfl
theorem limb_high (n j : Nat) : limb n (4 + j) = limb (n / M256) j := by
  unfold limb; rw [Nat.div_div_eq_div_mul, ← P64_four]; unfold P64; rw [← Nat.pow_add]
theorem mulRow_high (n : Nat) : (mulRow n).extract 4 8 = wcells (n / M256) := by
  have : (mulRow n).extract 4 8 = tab 4 fun j => .int .u64 (limb n (4 + j) : Int) := by unfold mulRow tab; rfl
  rw [this]; exact tab_congr fun j _ => by rw [limb_high]

set_option maxRecDepth 100000 in
set_option maxHeartbeats 2000000 in
theorem wMul_any (a b : Nat) (ha : a < M256) (hb : b < M256) (w : World) :
    Calls Tryd.prog 42 #[WV a, WV b] w fun e w' => e = .returned (.tuple #[WV (a * b), WV (a * b / M256)]) ∧ Below w.heap.size w w' := by
  unfold WV
  go_enter Tryd.func42, Tryd.ntmps42
  go_wp2_with (first
    | ((with_reducible change wpList _ _ _ (Oper.mk (some 2) _ _ _ _ _ :: _) _ _); refine kBoxL _ _ _ rfl rfl rfl ?_; intro w1 hR1 hl1 hB1)
    | ((with_reducible change wpList _ _ _ (Oper.mk (some 3) _ _ _ _ _ :: _) _ _); refine kBoxL _ _ _ rfl rfl rfl ?_; intro w2 hR2 hl2 hB2)
    | ((with_reducible change wpList _ _ _ (Oper.mk (some 4) _ _ _ _ _ :: _) _ _); refine kAllocL _ _ rfl rfl zero_Wide ?_; intro w3 hR3 hl3 hB3)
    | ((with_reducible change wpList _ _ _ (Oper.mk (some 5) _ _ _ _ _ :: _) _ _); refine kAllocL _ _ rfl rfl zero_Wide ?_; intro w4 hR4 hl4 hB4)
    | ((with_reducible change wpList _ _ _ (Oper.mk (some 6) _ _ _ _ _ :: _) _ _); refine kAllocL _ _ rfl rfl zero_arr8 ?_; intro w5 hR5 hl5 hB5)
    | ((with_reducible change wpList _ _ _ (Oper.mk (some 12) _ _ _ _ _ :: _) _ _); refine kLoadRow _ _ _ _ _ _ rfl rfl rfl ((((hR1.below hB2 (by omega)).below hB3 (by omega)).below hB4 (by omega)).below hB5 (by omega)) Tryd.underlying25 rfl (info_WideC _) ?_))
  have hRb := ((hR2.below hB3 (by omega)).below hB4 (by omega)).below hB5 (by omega)
  have hRp := (hR3.below hB4 (by omega)).below hB5 (by omega)
  have hRq := hR4.below hB5 (by omega)
  have hB : Below w.heap.size w w5 := (((hB1.trans (hB2.mono (by omega))).trans (hB3.mono (by omega))).trans (hB4.mono (by omega))).trans (hB5.mono (by omega))
  rw [← mulRow_zero] at hR5
  clear hR1 hR2 hR3 hR4 hB1 hB2 hB3 hB4 hB5
  go_loopw [13] (fun i wr => ∃ k : Nat, k ≤ 4 ∧ i = .int .i64 k ∧ Row wr w4.heap.size 68 (mulRow (low a k * b)) ∧ Below w4.heap.size w5 wr) (fun i _ => 4 - (intOf i).toNat)
  case atStart => exact ⟨0, by omega, rfl, by rw [low_zero, Nat.zero_mul]; exact hR5, Below.refl _ _⟩
  case round =>
    obtain ⟨k, hk, rfl, hR, hBr⟩ := hrel
    by_cases hlt : k < 4
    · have hd : decide ((k : Int) < 4) = true := by simp; omega
      go_wp2_with (first
        | ((with_reducible change wpList _ _ _ (Oper.mk (some 16) _ _ _ _ _ :: _) _ _); refine kIndex _ _ _ _ _ _ _ k _ _ _ rfl rfl rfl rfl Tryd.underlying25 Tryd.underlying23 rfl info_w64 rfl hlt (wcells_get a k hlt) ?_)
        | ((with_reducible change wpList _ _ _ (Oper.mk (some 17) _ _ _ _ _ :: _) _ _); refine kLoadRow _ _ _ _ _ _ rfl rfl rfl (hRb.below hBr (by omega)) Tryd.underlying25 rfl (info_WideC _) ?_))
      go_loopw [18, 9] (fun i c wq => ∃ m cn : Nat, m ≤ 4 ∧ cn < 18446744073709551616 ∧ i = .int .i64 m ∧ c = .int .u64 (cn : Int) ∧ Hid (mulN a b k m / P64 (k + m) = low a k * b / P64 (k + m) + cn) ∧ Row wq w4.heap.size 68 (mulTab a b k m) ∧ Below w4.heap.size w5 wq) (fun i _ _ => 4 - (intOf i).toNat)
      case atStart => exact ⟨0, 0, by omega, by decide, rfl, rfl, Lib.hid (by rw [mulN_zero]; rfl), by rw [mulTab_zero]; exact hR, hBr⟩
      case round =>
        obtain ⟨m, cn, hm, hcn, rfl, rfl, Hc, hRq2, hBq⟩ := hrel
        by_cases hltm : m < 4
        · have hdm : decide ((m : Int) < 4) = true := by simp; omega
          have hst := Lib.hid (mul_step Hc.out)
          have hbd := mulAdd_bound (limb_lt a k) (limb_lt b m) (limb_lt (low a k * b) (k + m)) hcn
          have hget : (mulTab a b k m)[k + m]? = some (.int .u64 (limb (low a k * b) (k + m) : Int)) := by
            unfold mulTab; rw [tab_get _ _ _ (by omega), if_neg (by omega)]
          go_wp2_with (first
            | ((with_reducible change wpList _ _ _ (Oper.mk (some 21) _ _ _ _ _ :: _) _ _); refine kIndex _ _ _ _ _ _ _ m _ _ _ rfl rfl rfl rfl Tryd.underlying25 Tryd.underlying23 rfl info_w64 rfl hltm (wcells_get b m hltm) ?_)
            | ((with_reducible change wpList _ _ _ (Oper.mk (some 31) _ _ _ _ _ :: _) _ _); refine kIndexAddr1 _ _ _ _ _ _ _ (k + m) _ rfl rfl rfl rfl Tryd.underlying68 info_w64 (by omega) (by omega) ?_)
            | ((with_reducible change wpList _ _ _ (Oper.mk (some 32) _ _ _ _ _ :: _) _ _); refine kLoad1 _ _ _ _ _ _ _ _ rfl rfl rfl hRq2 Tryd.underlying23 rfl hget ?_)
            | (go_at_call 51; refine (mulAdd_any (limb a k) (limb b m) (limb (low a k * b) (k + m)) cn (limb_lt _ _) (limb_lt _ _) (limb_lt _ _) hcn _).mono ?_; rintro e w6 ⟨rfl, rfl⟩; rw [← hst.out.1]; (generalize hc2 : (limb a k * limb b m + limb (low a k * b) (k + m) + cn) / 18446744073709551616 = c2 at *); have Hc2 := Lib.hid hc2; clear hc2)
            | ((with_reducible change wpList _ _ _ (Oper.mk (some 37) _ _ _ _ _ :: _) _ _); refine kIndexAddr1 _ _ _ _ _ _ _ (k + m) _ rfl rfl rfl rfl Tryd.underlying68 info_w64 (by omega) (by omega) ?_)
            | ((with_reducible change wpList _ _ _ (Oper.mk none _ _ _ _ _ :: _) _ _); refine kStore1 _ _ _ _ _ _ _ (.int .u64 (limb (mulN a b k (m + 1)) (k + m) : Int)) rfl rfl rfl rfl hRq2 info_w64 (by unfold mulTab; rw [tab_size]; omega) rfl ?_; intro w7 hR7 hW7; rw [mulTab_set _ _ _ _ _ rfl] at hR7))
          go_roundw
          case rel => exact ⟨m + 1, c2, by omega, hbd, by go_num, rfl, Lib.hid hst.out.2, hR7, hBq.trans (hW7.below (Nat.le_refl _))⟩
          case measure => simp [intOf]; omega
        · obtain rfl : m = 4 := by omega
          go_wp2_with (first
            | ((with_reducible change wpList _ _ _ (Oper.mk (some 42) _ _ _ _ _ :: _) _ _); refine kIndexAddr1 _ _ _ _ _ _ _ (k + 4) _ rfl rfl rfl rfl Tryd.underlying68 info_w64 (by omega) (by omega) ?_)
            | ((with_reducible change wpList _ _ _ (Oper.mk none _ _ _ _ _ :: _) _ _); refine kStore1 _ _ _ _ _ _ _ (.int .u64 (cn : Int)) rfl rfl rfl rfl hRq2 info_w64 (by unfold mulTab; rw [tab_size]; omega) rfl ?_; intro w7 hR7 hW7; rw [mulRow_end _ _ _ _ hb Hc.out] at hR7))
          go_roundw
          case rel => exact ⟨k + 1, by omega, by go_num, hR7, hBq.trans (hW7.below (Nat.le_refl _))⟩
          case measure => simp [intOf]; omega
    · obtain rfl : k = 4 := by omega
      rw [low_four a ha] at hR
      have hRpr := hRp.below hBr (by omega)
      have hRqr := hRq.below hBr (by omega)
      have hBw : Below w.heap.size w wr := hB.trans (hBr.mono (by omega))
      go_wp2_with fail
      refine region_mix' [true, true, true, true, true, true, false] (fun w' => Row w' w4.heap.size 68 (mulRow (a * b))) (by kernel_rfl) (by kernel_rfl) ?_
      intro wd hBd hsd
      have hS := hR.below hBd hR.lt
      simp only [List.length_cons, List.length_nil, List.take_succ_cons, List.take_zero, List.drop_succ_cons, List.drop_zero]
      refine mixSliceArrTo _ _ _ _ 8 w4.heap.size 4 _ _ hS rfl rfl rfl rfl Tryd.underlying68 info_w64 rfl (by decide) ?_; go_frame
      refine mixArrayAt _ _ _ 4 4 8 _ hS rfl rfl rfl Tryd.underlying25 (by decide) ?_; go_frame
      refine mixLoadAs _ _ _ _ 0 4 _ _ _ hS rfl rfl rfl (fun _ h => h) Tryd.underlying25 rfl info_Wide (by unfold mulRow; rw [tab_size]; decide) (mulRow_low _) ?_; go_frame
      refine mixSliceArrFrom _ _ _ _ 8 w4.heap.size 4 _ _ hS rfl rfl rfl rfl Tryd.underlying68 info_w64 rfl (by decide) ?_; go_frame
      refine mixArrayAt _ _ _ 4 4 4 _ hS rfl rfl rfl Tryd.underlying25 (by decide) ?_; go_frame
      refine mixLoadAs _ _ _ _ 4 4 _ _ _ hS rfl rfl rfl (fun _ h => h) Tryd.underlying25 rfl info_Wide (by unfold mulRow; rw [tab_size]; decide) (mulRow_high _) ?_; go_frame
      refine mixLoud ?_
      refine kStoreRow _ _ _ _ _ _ _ rfl rfl rfl rfl (hRpr.below hBd hRpr.lt) (info_WideC _) (by simp only [wcells_size]) (wcells_one _) ?_
      intro w6 hR6 hW6
      refine mixOn ⟨hW6.row hS (by omega), ?_⟩
      go_frame
      refine mixEnd ?_
      refine kStoreRow _ _ _ _ _ _ _ rfl rfl rfl rfl (hW6.row (hRqr.below hBd hRqr.lt) (by omega)) (info_WideC _) (by simp only [wcells_size]) (wcells_one _) ?_
      intro w7 hR7 hW7
      go_frame
      go_wp2
      have hlr := hR.lt
      exact result_row2 Tryd.results42 rfl rfl (hW7.row hR6 (by omega)) Tryd.underlying25 rfl (info_WideC _) hR7 Tryd.underlying25 rfl (info_WideC _) rfl ⟨rfl, ((hBw.trans (hBd.mono (by omega))).trans (hW6.below (by omega))).trans (hW7.below (by omega))⟩
end Go.Proofs.YtajpdmcbdekpbaaDoor
