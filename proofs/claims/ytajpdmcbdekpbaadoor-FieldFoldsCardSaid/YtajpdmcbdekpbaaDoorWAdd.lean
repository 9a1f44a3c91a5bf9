/-
  The walks of wide's Add, Sub and Less, and of Of: numbers of 256 bits, modulo 2 to the power of 256.
-/
import Derived.Test.YtajpdmcbdekpbaaDoorWBase
namespace Go.Proofs.YtajpdmcbdekpbaaDoor
open Go Go.RowKit

/-- the sum's cells, the first k of them written -/
def sumTo (n k : Nat) : Array Value := tab 4 fun j => .int .u64 ((if j < k then limb n j else 0 : Nat) : Int)
theorem sumTo_zero (n : Nat) : sumTo n 0 = wcells 0 := by rw [wcells_zero]; exact tab_congr fun j _ => by simp
theorem sumTo_four (n : Nat) : sumTo n 4 = wcells n := tab_congr fun j hj => by rw [if_pos hj]
theorem sumTo_set (n k : Nat) : (sumTo n k).setIfInBounds k (.int .u64 (limb n k : Int)) = sumTo n (k + 1) := tab_set fun j hj => by
  by_cases h : j = k
  · subst h; rw [if_pos rfl, if_pos (by omega)]
  · rw [if_neg h]
    by_cases h2 : j < k
    · rw [if_pos h2, if_pos (by omega)]
    · rw [if_neg h2, if_neg (by omega)]

set_option maxRecDepth 100000 in
set_option maxHeartbeats 1000000 in
theorem wAdd_any (a b : Nat) (ha : a < M256) (hb : b < M256) (w : World) :
    Calls Tryd.prog 35 #[WV a, WV b] w fun e w' => e = .returned (.tuple #[WV (a + b), .bool (decide (M256 ≤ a + b))]) ∧ Below w.heap.size w w' := by
  unfold WV
  go_enter Tryd.func35, Tryd.ntmps35
  go_wp2_with (first
    | ((with_reducible change wpList _ _ _ (Oper.mk (some 2) _ _ _ _ _ :: _) _ _); refine kBoxL _ _ _ rfl rfl rfl ?_; intro w1 hR1 hl1 hB1)
    | ((with_reducible change wpList _ _ _ (Oper.mk (some 3) _ _ _ _ _ :: _) _ _); refine kBoxL _ _ _ rfl rfl rfl ?_; intro w2 hR2 hl2 hB2)
    | ((with_reducible change wpList _ _ _ (Oper.mk (some 4) _ _ _ _ _ :: _) _ _); refine kAllocL _ _ rfl rfl zero_Wide ?_; intro w3 hR3 hl3 hB3)
    | ((with_reducible change wpList _ _ _ (Oper.mk (some 6) _ _ _ _ _ :: _) _ _); refine kAllocL _ _ rfl rfl zero_Wide ?_; intro w4 hR4 hl4 hB4))
  have hRa := ((hR1.below hB2 (by omega)).below hB3 (by omega)).below hB4 (by omega)
  have hRb := (hR2.below hB3 (by omega)).below hB4 (by omega)
  have hRs := hR3.below hB4 (by omega)
  have hB : Below w.heap.size w w4 := ((hB1.trans (hB2.mono (by omega))).trans (hB3.mono (by omega))).trans (hB4.mono (by omega))
  clear hR1 hR2 hR3 hB1 hB2 hB3 hB4
  go_loopw [9, 7] (fun i c wr => ∃ k : Nat, k ≤ 4 ∧ i = .int .i64 k ∧ c = .int .u64 (car a b k : Int) ∧ Row wr w3.heap.size 25 (sumTo (a + b) k) ∧ Below w3.heap.size w4 wr) (fun i _ _ => 4 - (intOf i).toNat)
  case atStart => exact ⟨0, by omega, rfl, by rw [car_zero]; rfl, by rw [sumTo_zero]; exact hR4, Below.refl _ _⟩
  case round =>
    obtain ⟨k, hk, rfl, rfl, hR, hBr⟩ := hrel
    by_cases hlt : k < 4
    · have hd : decide ((k : Int) < 4) = true := by simp; omega
      go_wp2_with fail
      refine region_mix' [true, true, true, true, true, true, true, true, true, true, true, true, true, false] (fun w' => Row w' w.heap.size 25 (wcells a) ∧ Row w' w1.heap.size 25 (wcells b)) (by kernel_rfl) (by kernel_rfl) ?_
      intro wd hBd hsd
      have hS : Row wd w.heap.size 25 (wcells a) ∧ Row wd w1.heap.size 25 (wcells b) := ⟨((hRa.below hBr (by omega)).below hBd (hRa.below hBr (by omega)).lt), ((hRb.below hBr (by omega)).below hBd (hRb.below hBr (by omega)).lt)⟩
      have hRd := hR.below hBd hR.lt
      simp only [List.length_cons, List.length_nil, List.take_succ_cons, List.take_zero, List.drop_succ_cons, List.drop_zero]
      refine mixMove _ (.int .i64 k) hS rfl rfl rfl ?_; go_frame
      refine mixMove _ (.int .i64 k) hS rfl rfl rfl ?_; go_frame
      refine mixIndexAddr1 _ _ _ _ _ _ _ k _ hS rfl rfl rfl rfl Tryd.underlying25 info_w64 rfl hlt ?_; go_frame
      refine mixLoad1 _ _ _ _ _ _ _ _ hS rfl rfl rfl (fun _ h => h.1) Tryd.underlying23 rfl (wcells_get a k hlt) ?_; go_frame
      refine mixMove _ (.int .i64 k) hS rfl rfl rfl ?_; go_frame
      refine mixIndexAddr1 _ _ _ _ _ _ _ k _ hS rfl rfl rfl rfl Tryd.underlying25 info_w64 rfl hlt ?_; go_frame
      refine mixLoad1 _ _ _ _ _ _ _ _ hS rfl rfl rfl (fun _ h => h.2) Tryd.underlying23 rfl (wcells_get b k hlt) ?_; go_frame
      refine mixMove _ (.int .u64 (car a b k : Int)) hS rfl rfl rfl ?_; go_frame
      refine mixCallV3 _ _ _ _ _ _ _ _ (.tuple #[.int .u64 (limb (a + b) k : Int), .int .u64 (car a b (k + 1) : Int)]) hS rfl rfl rfl rfl rfl (fun w => by rw [limb_add, car_succ]; exact run_add64W _ _ _ (car_le a b k) w) ?_; go_frame
      refine mixMove _ (.tuple #[.int .u64 (limb (a + b) k : Int), .int .u64 (car a b (k + 1) : Int)]) hS rfl rfl rfl ?_; go_frame
      refine mixExtract _ _ _ (.int .u64 (limb (a + b) k : Int)) hS rfl rfl rfl rfl ?_; go_frame
      refine mixExtract _ _ _ (.int .u64 (car a b (k + 1) : Int)) hS rfl rfl rfl rfl ?_; go_frame
      refine mixIndexAddr1 _ _ _ _ _ _ _ k _ hS rfl rfl rfl rfl Tryd.underlying25 info_w64 rfl hlt ?_; go_frame
      refine mixLoud ?_
      refine kStore1 _ _ _ _ _ _ _ (.int .u64 (limb (a + b) k : Int)) rfl rfl rfl rfl hRd info_w64 (by unfold sumTo; rw [tab_size]; omega) rfl ?_
      intro w5 hR5 hW5
      rw [sumTo_set] at hR5
      refine mixOn ⟨⟨hW5.row hS.1 (by omega), hW5.row hS.2 (by omega)⟩, ?_⟩
      go_frame
      refine mixEnd ?_
      have hB5 : Below w3.heap.size w4 w5 := (hBr.trans (hBd.mono (Nat.le_of_lt hR.lt))).trans (hW5.below (Nat.le_refl _))
      clear hW5 hRd hS hBd hsd
      go_wp2
      go_roundw
      case rel => exact ⟨k + 1, by omega, by go_num, rfl, hR5, hB5⟩
      case measure => simp [intOf]; omega
    · obtain rfl : k = 4 := by omega
      rw [sumTo_four] at hR
      have hRq := hRs.below hBr (by omega)
      have hBq : Below w.heap.size w wr := hB.trans (hBr.mono (by omega))
      go_wp2_with (first
        | ((with_reducible change wpList _ _ _ (Oper.mk (some 26) _ _ _ _ _ :: _) _ _); refine kLoadRow _ _ _ _ _ _ rfl rfl rfl hR Tryd.underlying25 rfl (info_WideC _) ?_)
        | ((with_reducible change wpList _ _ _ (Oper.mk none _ _ _ _ _ :: _) _ _); refine kStoreRow _ _ _ _ _ _ _ rfl rfl rfl rfl hRq (info_WideC _) (by simp only [wcells_size]) (wcells_one _) ?_; intro w6 hR6 hW6))
      refine result_row_tmp Tryd.results35 rfl rfl hR6 Tryd.underlying25 rfl (info_WideC _) rfl ⟨?_, hBq.trans (hW6.below (by omega))⟩
      rw [car_four a b ha hb]
      by_cases hm : M256 ≤ a + b <;> simp [hm]
set_option maxRecDepth 100000 in
set_option maxHeartbeats 1000000 in
theorem wSub_any (a b : Nat) (ha : a < M256) (hb : b < M256) (w : World) :
    Calls Tryd.prog 38 #[WV a, WV b] w fun e w' => e = .returned (.tuple #[WV (a + M256 - b), .bool (decide (a < b))]) ∧ Below w.heap.size w w' := by
  unfold WV
  go_enter Tryd.func38, Tryd.ntmps38
  go_wp2_with (first
    | ((with_reducible change wpList _ _ _ (Oper.mk (some 2) _ _ _ _ _ :: _) _ _); refine kBoxL _ _ _ rfl rfl rfl ?_; intro w1 hR1 hl1 hB1)
    | ((with_reducible change wpList _ _ _ (Oper.mk (some 3) _ _ _ _ _ :: _) _ _); refine kBoxL _ _ _ rfl rfl rfl ?_; intro w2 hR2 hl2 hB2)
    | ((with_reducible change wpList _ _ _ (Oper.mk (some 4) _ _ _ _ _ :: _) _ _); refine kAllocL _ _ rfl rfl zero_Wide ?_; intro w3 hR3 hl3 hB3)
    | ((with_reducible change wpList _ _ _ (Oper.mk (some 6) _ _ _ _ _ :: _) _ _); refine kAllocL _ _ rfl rfl zero_Wide ?_; intro w4 hR4 hl4 hB4))
  have hRa := ((hR1.below hB2 (by omega)).below hB3 (by omega)).below hB4 (by omega)
  have hRb := (hR2.below hB3 (by omega)).below hB4 (by omega)
  have hRs := hR3.below hB4 (by omega)
  have hB : Below w.heap.size w w4 := ((hB1.trans (hB2.mono (by omega))).trans (hB3.mono (by omega))).trans (hB4.mono (by omega))
  clear hR1 hR2 hR3 hB1 hB2 hB3 hB4
  go_loopw [9, 7] (fun i c wr => ∃ k : Nat, k ≤ 4 ∧ i = .int .i64 k ∧ c = .int .u64 (brw a b k : Int) ∧ Row wr w3.heap.size 25 (sumTo (a + M256 - b) k) ∧ Below w3.heap.size w4 wr) (fun i _ _ => 4 - (intOf i).toNat)
  case atStart => exact ⟨0, by omega, rfl, by rw [brw_zero]; rfl, by rw [sumTo_zero]; exact hR4, Below.refl _ _⟩
  case round =>
    obtain ⟨k, hk, rfl, rfl, hR, hBr⟩ := hrel
    by_cases hlt : k < 4
    · have hd : decide ((k : Int) < 4) = true := by simp; omega
      go_wp2_with fail
      refine region_mix' [true, true, true, true, true, true, true, true, true, true, true, true, true, false] (fun w' => Row w' w.heap.size 25 (wcells a) ∧ Row w' w1.heap.size 25 (wcells b)) (by kernel_rfl) (by kernel_rfl) ?_
      intro wd hBd hsd
      have hS : Row wd w.heap.size 25 (wcells a) ∧ Row wd w1.heap.size 25 (wcells b) := ⟨((hRa.below hBr (by omega)).below hBd (hRa.below hBr (by omega)).lt), ((hRb.below hBr (by omega)).below hBd (hRb.below hBr (by omega)).lt)⟩
      have hRd := hR.below hBd hR.lt
      simp only [List.length_cons, List.length_nil, List.take_succ_cons, List.take_zero, List.drop_succ_cons, List.drop_zero]
      refine mixMove _ (.int .i64 k) hS rfl rfl rfl ?_; go_frame
      refine mixMove _ (.int .i64 k) hS rfl rfl rfl ?_; go_frame
      refine mixIndexAddr1 _ _ _ _ _ _ _ k _ hS rfl rfl rfl rfl Tryd.underlying25 info_w64 rfl hlt ?_; go_frame
      refine mixLoad1 _ _ _ _ _ _ _ _ hS rfl rfl rfl (fun _ h => h.1) Tryd.underlying23 rfl (wcells_get a k hlt) ?_; go_frame
      refine mixMove _ (.int .i64 k) hS rfl rfl rfl ?_; go_frame
      refine mixIndexAddr1 _ _ _ _ _ _ _ k _ hS rfl rfl rfl rfl Tryd.underlying25 info_w64 rfl hlt ?_; go_frame
      refine mixLoad1 _ _ _ _ _ _ _ _ hS rfl rfl rfl (fun _ h => h.2) Tryd.underlying23 rfl (wcells_get b k hlt) ?_; go_frame
      refine mixMove _ (.int .u64 (brw a b k : Int)) hS rfl rfl rfl ?_; go_frame
      refine mixCallV3 _ _ _ _ _ _ _ _ (.tuple #[.int .u64 (limb (a + M256 - b) k : Int), .int .u64 (brw a b (k + 1) : Int)]) hS rfl rfl rfl rfl rfl (fun w => by rw [limb_sub a b k (by omega) hlt, brw_succ]; exact run_sub64W _ _ _ (brw_le a b k) w) ?_; go_frame
      refine mixMove _ (.tuple #[.int .u64 (limb (a + M256 - b) k : Int), .int .u64 (brw a b (k + 1) : Int)]) hS rfl rfl rfl ?_; go_frame
      refine mixExtract _ _ _ (.int .u64 (limb (a + M256 - b) k : Int)) hS rfl rfl rfl rfl ?_; go_frame
      refine mixExtract _ _ _ (.int .u64 (brw a b (k + 1) : Int)) hS rfl rfl rfl rfl ?_; go_frame
      refine mixIndexAddr1 _ _ _ _ _ _ _ k _ hS rfl rfl rfl rfl Tryd.underlying25 info_w64 rfl hlt ?_; go_frame
      refine mixLoud ?_
      refine kStore1 _ _ _ _ _ _ _ (.int .u64 (limb (a + M256 - b) k : Int)) rfl rfl rfl rfl hRd info_w64 (by unfold sumTo; rw [tab_size]; omega) rfl ?_
      intro w5 hR5 hW5
      rw [sumTo_set] at hR5
      refine mixOn ⟨⟨hW5.row hS.1 (by omega), hW5.row hS.2 (by omega)⟩, ?_⟩
      go_frame
      refine mixEnd ?_
      have hB5 : Below w3.heap.size w4 w5 := (hBr.trans (hBd.mono (Nat.le_of_lt hR.lt))).trans (hW5.below (Nat.le_refl _))
      clear hW5 hRd hS hBd hsd
      go_wp2
      go_roundw
      case rel => exact ⟨k + 1, by omega, by go_num, rfl, hR5, hB5⟩
      case measure => simp [intOf]; omega
    · obtain rfl : k = 4 := by omega
      rw [sumTo_four] at hR
      have hRq := hRs.below hBr (by omega)
      have hBq : Below w.heap.size w wr := hB.trans (hBr.mono (by omega))
      go_wp2_with (first
        | ((with_reducible change wpList _ _ _ (Oper.mk (some 26) _ _ _ _ _ :: _) _ _); refine kLoadRow _ _ _ _ _ _ rfl rfl rfl hR Tryd.underlying25 rfl (info_WideC _) ?_)
        | ((with_reducible change wpList _ _ _ (Oper.mk none _ _ _ _ _ :: _) _ _); refine kStoreRow _ _ _ _ _ _ _ rfl rfl rfl rfl hRq (info_WideC _) (by simp only [wcells_size]) (wcells_one _) ?_; intro w6 hR6 hW6))
      refine result_row_tmp Tryd.results38 rfl rfl hR6 Tryd.underlying25 rfl (info_WideC _) rfl ⟨?_, hBq.trans (hW6.below (by omega))⟩
      rw [brw_four a b ha hb]
      by_cases hm : a < b <;> simp [hm]
set_option maxRecDepth 100000 in
set_option maxHeartbeats 1000000 in
theorem wLess_any (a b : Nat) (ha : a < M256) (hb : b < M256) (w : World) :
    Calls Tryd.prog 44 #[WV a, WV b] w fun e w' => e = .returned (.bool (decide (a < b))) ∧ Below w.heap.size w w' := by
  unfold WV
  go_enter Tryd.func44, Tryd.ntmps44
  go_wp2_with (first
    | ((with_reducible change wpList _ _ _ (Oper.mk (some 2) _ _ _ _ _ :: _) _ _); refine kBoxL _ _ _ rfl rfl rfl ?_; intro w1 hR1 hl1 hB1)
    | ((with_reducible change wpList _ _ _ (Oper.mk (some 3) _ _ _ _ _ :: _) _ _); refine kBoxL _ _ _ rfl rfl rfl ?_; intro w2 hR2 hl2 hB2)
    | ((with_reducible change wpList _ _ _ (Oper.mk (some 8) _ _ _ _ _ :: _) _ _); refine kLoadRow _ _ _ _ _ _ rfl rfl rfl (hR1.below hB2 hR1.lt) Tryd.underlying25 rfl (info_WideC _) ?_)
    | ((with_reducible change wpList _ _ _ (Oper.mk (some 9) _ _ _ _ _ :: _) _ _); refine kLoadRow _ _ _ _ _ _ rfl rfl rfl hR2 Tryd.underlying25 rfl (info_WideC _) ?_)
    | (go_at_call 38; refine (wSub_any a b ha hb _).mono ?_; rintro e w3 ⟨rfl, hB3⟩; have hl3 := hB3.size; unfold WV)
    | ((with_reducible change wpList _ _ _ (Oper.mk (some 5) _ _ _ _ _ :: _) _ _); refine kAllocL _ _ rfl rfl zero_Wide ?_; intro w4 hR4 hl4 hB4)
    | ((with_reducible change wpList _ _ _ (Oper.mk none _ _ _ _ _ :: _) _ _); refine kStoreRow _ _ _ _ _ _ _ rfl rfl rfl rfl hR4 (info_WideC _) (by simp only [wcells_size]) (wcells_one _) ?_; intro w5 hR5 hW5))
  go_ret
  exact ⟨rfl, (((hB1.trans (hB2.mono (by omega))).trans (hB3.mono (by omega))).trans (hB4.mono (by omega))).trans (hW5.below (by omega))⟩

theorem of_cells (n : Nat) (h : n < 18446744073709551616) : wcells n = tab 4 fun j => .int .u64 ((if j = 0 then n else 0 : Nat) : Int) := tab_congr fun j hj => by
  have h1 : n < P64 1 := by simpa [P64] using h
  match j, hj with
  | 0, _ => unfold limb; rw [P64_zero, Nat.div_one, Nat.mod_eq_of_lt h, if_pos rfl]
  | j + 1, _ =>
    have h2 : P64 1 ≤ P64 (j + 1) := Nat.pow_le_pow_right (by decide) (by omega)
    unfold limb
    rw [Nat.div_eq_of_lt (by omega), if_neg (by omega)]
theorem of_lit (n : Nat) (h : n < 18446744073709551616) : wcells n = #[.int .u64 (n : Int), .int .u64 0, .int .u64 0, .int .u64 0] := by rw [of_cells n h]; rfl

set_option maxRecDepth 100000 in
set_option maxHeartbeats 1000000 in
theorem wOf_any (n : Nat) (h : n < 18446744073709551616) (w : World) :
    Calls Tryd.prog 16 #[.int .u64 (n : Int)] w fun e w' => e = .returned (WV n) ∧ Below w.heap.size w w' := by
  unfold WV
  go_enter Tryd.func16, Tryd.ntmps16
  go_wp2_with (first
    | ((with_reducible change wpList _ _ _ (Oper.mk (some 2) _ _ _ _ _ :: _) _ _); refine kAllocL _ _ rfl rfl zero_Wide ?_; intro w1 hR1 hl1 hB1)
    | ((with_reducible change wpList _ _ _ (Oper.mk none _ _ _ _ _ :: _) _ _); refine kStoreRow _ _ _ _ _ _ (wcells n) rfl rfl rfl (congrArg Value.agg (of_lit n h).symm) hR1 (info_WideC _) (by simp only [wcells_size]) (wcells_one _) ?_; intro w5 hR5 hW5))
  exact result_row Tryd.results16 rfl hR5 Tryd.underlying25 rfl (info_WideC _) rfl ⟨rfl, hB1.trans (hW5.below (by omega))⟩
end Go.Proofs.YtajpdmcbdekpbaaDoor
