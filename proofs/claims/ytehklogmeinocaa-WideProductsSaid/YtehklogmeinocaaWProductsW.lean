/-
  The walk of the statement WideProducts.
-/
import Derived.Test.YtehklogmeinocaaWRef5
namespace Go.Proofs.Ytehklogmeinocaa
open Go Go.RowKit

theorem prod_val {a b : Nat} (ma : a < M256) (mb : b < M256) : dval (digsOf (a * b) 32) = a * b := by
  rw [digsOf_val]
  refine Nat.mod_eq_of_lt ?_
  have h1 : a * b ≤ (M256 - 1) * (M256 - 1) := Nat.mul_le_mul (by omega) (by omega)
  exact Nat.lt_of_le_of_lt h1 (by decide +kernel)

set_option maxRecDepth 100000 in
set_option maxHeartbeats 16000000 in
theorem WideProducts_any (a : Nat) (ma : a < M256) (b : Nat) (mb : b < M256) (w : World) :
    Calls Try.prog 5 #[WV a, WV b] w fun e w' => e = .returned (.bool true) ∧ Below w.heap.size w w' := by
  have hM0 := mem_nil w
  have dx := digsOf_digs a 16
  have dy := digsOf_digs b 16
  unfold WV
  go_enter Try.func5, Try.ntmps5
  go_wp2_with (first
    | ((with_reducible change wpList _ _ _ (Oper.mk (some 2) _ _ _ _ _ :: _) _ _); refine mBox hM0 _ _ rfl rfl rfl ?_; intro w1 hM1; clear hM0; go_frame)
    | ((with_reducible change wpList _ _ _ (Oper.mk (some 3) _ _ _ _ _ :: _) _ _); refine mBox hM1 _ _ rfl rfl rfl ?_; intro w2 hM2; clear hM1; go_frame)
    | (go_at_call 14; refine (wideAlive_any _).mono ?_; rintro e w3 ⟨rfl, hB3⟩; have hM3 := hM2.on hB3; clear hB3 hM2; go_frame))
  refine region_mixP [(0, true), (2, true), (1, false), (3, false)] (fun w' => Mem w w' [(w1.heap.size, b), (w.heap.size, a)]) (by kernel_rfl) (by kernel_rfl) rfl ?_
  intro q0 hb0 _
  have hq0 := hM3.on hb0
  simp only [List.map_cons, List.map_nil, List.filterMap_cons, List.filterMap_nil, List.getElem?_cons_zero, List.getElem?_cons_succ, List.length_cons, List.length_nil, List.drop_succ_cons, List.drop_zero]
  refine mixLoadRow _ _ _ _ (wcells a) _ hq0 rfl rfl rfl (fun _ h => h.get 1 rfl) Try.underlying24 rfl (info_WideC _) ?_; go_frame
  refine mixLoadRow _ _ _ _ (wcells b) _ hq0 rfl rfl rfl (fun _ h => h.get 0 rfl) Try.underlying24 rfl (info_WideC _) ?_; go_frame
  refine mixLoud ?_
  refine kCall1 18 _ _ _ rfl rfl (by kernel_rfl) rfl ?_
  refine (dOf_any a _).mono ?_
  rintro e w4 ⟨vx, rfl, hx4, hB4⟩
  have hM4 := hq0.on hB4
  refine ⟨_, rfl, mixOn ⟨hM4, ?_⟩⟩
  go_frame
  refine mixLoud ?_
  refine kCall1 18 _ _ _ rfl rfl (by kernel_rfl) rfl ?_
  refine (dOf_any b _).mono ?_
  rintro e w5 ⟨vy, rfl, hy5, hB5⟩
  have hM5 := hM4.on hB5
  have hx5 := hx4.below hB5
  refine ⟨_, rfl, mixOn ⟨hM5, ?_⟩⟩
  go_frame
  refine mixEnd ?_
  clear hM3 hb0 hq0 hM4 hx4 hB4 hB5
  go_wp2_with (first
    | (go_at_call 26; refine (dMul_any _ _ vx vy _ dx dy hx5 hy5 (by rw [digsOf_len]; omega) (by rw [digsOf_len]; omega)).mono ?_; rintro e w6 ⟨vp, rfl, hvp0, hB6⟩; have hN0 := mem_nil w6; have hM6 := hM5.on hB6; have hx6 := hx5.below hB6; have hy6 := hy5.below hB6; rw [digsOf_16 a ma, digsOf_16 b mb, digsOf_len, digsOf_len] at hvp0; clear hM5 hB6 hx5 hy5; go_frame)
    | ((with_reducible change wpList _ _ _ (Oper.mk (some 24) _ _ _ _ _ :: _) _ _); refine kLoadRow _ _ _ _ _ _ rfl rfl rfl (hM6.get 1 rfl) Try.underlying24 rfl (info_WideC _) ?_; go_frame)
    | ((with_reducible change wpList _ _ _ (Oper.mk (some 25) _ _ _ _ _ :: _) _ _); refine kLoadRow _ _ _ _ _ _ rfl rfl rfl (hM6.get 0 rfl) Try.underlying24 rfl (info_WideC _) ?_; go_frame)
    | (go_at_call 13; refine (wMul_any a b ma mb _).mono ?_; rintro e n1 ⟨rfl, hBn⟩; have hN1 := hN0.on hBn; clear hBn; (try unfold WV); go_frame)
    | ((with_reducible change wpList _ _ _ (Oper.mk (some 8) _ _ _ _ _ :: _) _ _); refine mAlloc hN1 rfl rfl ?_; intro n2 hN2; clear hN1; go_frame)
    | ((with_reducible change wpList _ _ _ (Oper.mk (some 9) _ _ _ _ _ :: _) _ _); refine mAlloc hN2 rfl rfl ?_; intro n3 hN3; clear hN2; go_frame)
    | ((with_reducible change wpList _ _ _ (Oper.mk none (Op.store _ (Operand.tmp 8) _) _ _ _ _ :: _) _ _); refine mStore1 hN3 _ _ (a * b) rfl rfl rfl rfl ?_; intro n4 hN4; clear hN3; go_frame)
    | ((with_reducible change wpList _ _ _ (Oper.mk none (Op.store _ (Operand.tmp 9) _) _ _ _ _ :: _) _ _); refine mStore0 hN4 _ _ (a * b / M256) rfl rfl rfl rfl ?_; intro n5 hN5; clear hN4; go_frame))
  have hRlo := hN5.get 1 rfl
  have hRhi := hN5.get 0 rfl
  have hvp := hvp0.below hN5.below
  have hxn := hx6.below hN5.below
  have hyn := hy6.below hN5.below
  have hRan := (hM6.get 1 rfl).below hN5.below (hM6.get 1 rfl).lt
  have hRbn := (hM6.get 0 rfl).below hN5.below (hM6.get 0 rfl).lt
  have hBn : Below w.heap.size w n5 := hM6.below.trans (hN5.below.mono hM6.size)
  clear hM6 hN0 hN5 hvp0 hx6 hy6
  refine region_mixP [(0, true), (1, true), (2, false), (3, true), (4, true), (5, true), (6, true), (7, true), (8, false), (9, true)] (fun w' => Below n5.heap.size n5 w') (by kernel_rfl) (by kernel_rfl) rfl ?_
  intro q0 hq0 _
  simp only [List.map_cons, List.map_nil, List.filterMap_cons, List.filterMap_nil, List.getElem?_cons_zero, List.getElem?_cons_succ, List.length_cons, List.length_nil, List.drop_succ_cons, List.drop_zero]
  refine mixLoadRow _ _ _ _ (wcells (a * b)) _ hq0 rfl rfl rfl (fun _ h => hRlo.below h hRlo.lt) Try.underlying24 rfl (info_WideC _) ?_; go_frame
  refine mixMove _ vp hq0 rfl rfl rfl ?_; go_frame
  refine mixLoud ?_
  refine kCall1 23 _ _ vp rfl rfl (by kernel_rfl) rfl ?_
  refine (dWide_any _ vp _ (digsOf_digs _ _) (hvp.below hq0)).mono ?_
  rintro e r1 ⟨rfl, hcr1⟩
  have hqr1 := hq0.trans (hcr1.mono hq0.size)
  refine ⟨_, rfl, mixOn ⟨hqr1, ?_⟩⟩
  (try unfold WV); go_frame
  refine mixNeqW _ _ _ (a * b) (dval (digsOf (a * b) 32)) false hqr1 rfl rfl rfl rfl (by rw [prod_val ma mb]; simp) ?_; go_frame
  refine mixMove _ (.bool false) hqr1 rfl rfl rfl ?_; go_frame
  refine mixLoadRow _ _ _ _ (wcells (a * b / M256)) _ hqr1 rfl rfl rfl (fun _ h => hRhi.below h hRhi.lt) Try.underlying24 rfl (info_WideC _) ?_; go_frame
  refine mixMove _ vp hqr1 rfl rfl rfl ?_; go_frame
  refine mixSliceFrom _ _ _ _ vp ((digsOf (a * b) 32).map VU) _ _ 16 hqr1 rfl rfl rfl rfl Try.underlying34 info_w64 (fun _ h => hvp.below h) rfl (by rw [List.length_map, digsOf_len]; decide) ?_; go_frame
  refine mixLoud ?_
  refine kCall1 23 _ _ (fromV vp 16) rfl rfl (by kernel_rfl) rfl ?_
  refine (dWide_any ((digsOf (a * b) 32).drop 16) _ _ ((digsOf_digs _ _).drop 16) (by unfold Dig; rw [List.map_drop]; exact isVals_from (hvp.below hqr1) (by rw [List.length_map, digsOf_len]; decide))).mono ?_
  rintro e r2 ⟨rfl, hcr2⟩
  have hqr2 := hqr1.trans (hcr2.mono hqr1.size)
  refine ⟨_, rfl, mixOn ⟨hqr2, ?_⟩⟩
  (try unfold WV); go_frame
  refine mixNeqW _ _ _ (a * b / M256) (dval ((digsOf (a * b) 32).drop 16)) false hqr2 rfl rfl rfl rfl (by rw [← dval_div (digsOf_digs _ _), prod_val ma mb, show P16 16 = M256 by decide +kernel]; simp) ?_; go_frame
  refine mixEnd ?_
  have hx7 := hxn.below hqr2
  have hy7 := hyn.below hqr2
  have hRa7 := hRan.below hqr2 hRan.lt
  have hRb7 := hRbn.below hqr2 hRbn.lt
  have hB7 := hBn.trans (hqr2.mono hBn.size)
  have hK0 := mem_nil r2
  clear hRlo hRhi hvp hxn hyn hRan hRbn hBn hqr1 hqr2 hcr1 hcr2 hq0
  by_cases hb0 : b = 0
  · have D0 := Lib.hid (show decide (b % M256 = 0 % M256) = true by rw [hb0]; simp)
    have D1 := Lib.hid (show decide (a / b % M256 = 0 % M256) = true by rw [hb0, Nat.div_zero]; simp)
    have D2 := Lib.hid (show decide (a % b % M256 = a % M256) = true by rw [hb0, Nat.mod_zero]; simp)
    clear hb0
    go_wp2_with (first
      | ((with_reducible change wpList _ _ _ (Oper.mk (some 41) _ _ _ _ _ :: _) _ _); refine kLoadRow _ _ _ _ _ _ rfl rfl rfl (hRa7.below hK0.below hRa7.lt) Try.underlying24 rfl (info_WideC _) ?_; go_frame)
      | ((with_reducible change wpList _ _ _ (Oper.mk (some 42) _ _ _ _ _ :: _) _ _); refine kLoadRow _ _ _ _ _ _ rfl rfl rfl (hRb7.below hK0.below hRb7.lt) Try.underlying24 rfl (info_WideC _) ?_; go_frame)
      | (go_at_call 12; refine (wDiv_mod a b ma mb _).mono ?_; rintro e w8 ⟨rfl, hB8⟩; have hK1 := hK0.on hB8; clear hB8; (try unfold WV); go_frame)
      | ((with_reducible change wpList _ _ _ (Oper.mk (some 10) _ _ _ _ _ :: _) _ _); refine mAlloc hK1 rfl rfl ?_; intro w9 hK2; clear hK1; go_frame)
      | ((with_reducible change wpList _ _ _ (Oper.mk (some 11) _ _ _ _ _ :: _) _ _); refine mAlloc hK2 rfl rfl ?_; intro w10 hK3; clear hK2; go_frame)
      | ((with_reducible change wpList _ _ _ (Oper.mk none (Op.store _ (Operand.tmp 10) _) _ _ _ _ :: _) _ _); refine mStore1 hK3 _ _ (a / b) rfl rfl rfl rfl ?_; intro w11 hK4; clear hK3; go_frame)
      | ((with_reducible change wpList _ _ _ (Oper.mk none (Op.store _ (Operand.tmp 11) _) _ _ _ _ :: _) _ _); refine mStore0 hK4 _ _ (a % b) rfl rfl rfl rfl ?_; intro w12 hK5; clear hK4; go_frame)
      | ((with_reducible change wpList _ _ _ (Oper.mk (some 46) _ _ _ _ _ :: _) _ _); refine kLoadRow _ _ _ _ _ _ rfl rfl rfl (hRb7.below hK5.below hRb7.lt) Try.underlying24 rfl (info_WideC _) ?_; go_frame)
      | ((with_reducible change wpList _ _ _ (Oper.mk (some 48) _ _ _ _ _ :: _) _ _); refine kEqlW _ _ _ b 0 true rfl rfl rfl (by rw [lit_zero]; rfl) D0.out ?_; go_frame)
      | ((with_reducible change wpList _ _ _ (Oper.mk (some 49) _ _ _ _ _ :: _) _ _); refine mLoad hK5 1 _ _ _ rfl rfl rfl rfl ?_; go_frame)
      | ((with_reducible change wpList _ _ _ (Oper.mk (some 51) _ _ _ _ _ :: _) _ _); refine kEqlW _ _ _ (a / b) 0 true rfl rfl rfl (by rw [lit_zero]; rfl) D1.out ?_; go_frame)
      | ((with_reducible change wpList _ _ _ (Oper.mk (some 53) _ _ _ _ _ :: _) _ _); refine mLoad hK5 0 _ _ _ rfl rfl rfl rfl ?_; go_frame)
      | ((with_reducible change wpList _ _ _ (Oper.mk (some 54) _ _ _ _ _ :: _) _ _); refine kLoadRow _ _ _ _ _ _ rfl rfl rfl (hRa7.below hK5.below hRa7.lt) Try.underlying24 rfl (info_WideC _) ?_; go_frame)
      | ((with_reducible change wpList _ _ _ (Oper.mk (some 55) _ _ _ _ _ :: _) _ _); refine kEqlW _ _ _ (a % b) a true rfl rfl rfl rfl D2.out ?_; go_frame))
    have hB := hB7.trans (hK5.below.mono hB7.size)
    go_ret
    exact ⟨rfl, hB⟩
  · have D0 := Lib.hid (show decide (b % M256 = 0 % M256) = false by rw [Nat.mod_eq_of_lt mb, Nat.zero_mod]; exact decide_eq_false hb0)
    go_wp2_with (first
      | ((with_reducible change wpList _ _ _ (Oper.mk (some 41) _ _ _ _ _ :: _) _ _); refine kLoadRow _ _ _ _ _ _ rfl rfl rfl (hRa7.below hK0.below hRa7.lt) Try.underlying24 rfl (info_WideC _) ?_; go_frame)
      | ((with_reducible change wpList _ _ _ (Oper.mk (some 42) _ _ _ _ _ :: _) _ _); refine kLoadRow _ _ _ _ _ _ rfl rfl rfl (hRb7.below hK0.below hRb7.lt) Try.underlying24 rfl (info_WideC _) ?_; go_frame)
      | (go_at_call 12; refine (wDiv_mod a b ma mb _).mono ?_; rintro e w8 ⟨rfl, hB8⟩; have hK1 := hK0.on hB8; clear hB8; (try unfold WV); go_frame)
      | ((with_reducible change wpList _ _ _ (Oper.mk (some 10) _ _ _ _ _ :: _) _ _); refine mAlloc hK1 rfl rfl ?_; intro w9 hK2; clear hK1; go_frame)
      | ((with_reducible change wpList _ _ _ (Oper.mk (some 11) _ _ _ _ _ :: _) _ _); refine mAlloc hK2 rfl rfl ?_; intro w10 hK3; clear hK2; go_frame)
      | ((with_reducible change wpList _ _ _ (Oper.mk none (Op.store _ (Operand.tmp 10) _) _ _ _ _ :: _) _ _); refine mStore1 hK3 _ _ (a / b) rfl rfl rfl rfl ?_; intro w11 hK4; clear hK3; go_frame)
      | ((with_reducible change wpList _ _ _ (Oper.mk none (Op.store _ (Operand.tmp 11) _) _ _ _ _ :: _) _ _); refine mStore0 hK4 _ _ (a % b) rfl rfl rfl rfl ?_; intro w12 hK5; clear hK4; go_frame)
      | ((with_reducible change wpList _ _ _ (Oper.mk (some 46) _ _ _ _ _ :: _) _ _); refine kLoadRow _ _ _ _ _ _ rfl rfl rfl (hRb7.below hK5.below hRb7.lt) Try.underlying24 rfl (info_WideC _) ?_; go_frame)
      | ((with_reducible change wpList _ _ _ (Oper.mk (some 48) _ _ _ _ _ :: _) _ _); refine kEqlW _ _ _ b 0 false rfl rfl rfl (by rw [lit_zero]; rfl) D0.out ?_; go_frame)
      | (go_at_call 27; refine (dDiv_any _ _ vx vy _ dx dy (hx7.below hK5.below) (hy7.below hK5.below) (by rw [digsOf_len]; omega) (by rw [digsOf_len]; omega) (by rw [digsOf_16 b mb]; omega)).mono ?_; rintro e w13 ⟨vt, vs, ls, rfl, ht0, hs0, ds, es, hB13⟩; have hK6 := hK5.on hB13; rw [digsOf_16 a ma, digsOf_16 b mb, digsOf_len] at ht0; rw [digsOf_16 a ma, digsOf_16 b mb] at es; clear hB13 hK5; go_frame))
    have hRq := hK6.get 1 rfl
    have hRr := hK6.get 0 rfl
    have hB13 := hB7.trans (hK6.below.mono hB7.size)
    clear hK6 hK0 hx7 hy7 hRa7 hRb7 hB7
    refine region_mixP [(0, true), (1, true), (2, false), (3, true), (4, true), (5, true), (6, true), (7, false), (8, true), (9, true)] (fun w' => Below w13.heap.size w13 w') (by kernel_rfl) (by kernel_rfl) rfl ?_
    intro z0 hz0 _
    simp only [List.map_cons, List.map_nil, List.filterMap_cons, List.filterMap_nil, List.getElem?_cons_zero, List.getElem?_cons_succ, List.length_cons, List.length_nil, List.drop_succ_cons, List.drop_zero]
    refine mixLoadRow _ _ _ _ (wcells (a / b)) _ hz0 rfl rfl rfl (fun _ h => hRq.below h hRq.lt) Try.underlying24 rfl (info_WideC _) ?_; go_frame
    refine mixMove _ vt hz0 rfl rfl rfl ?_; go_frame
    refine mixLoud ?_
    refine kCall1 23 _ _ vt rfl rfl (by kernel_rfl) rfl ?_
    refine (dWide_any _ vt _ (digsOf_digs _ _) (ht0.below hz0)).mono ?_
    rintro e s1 ⟨rfl, hcs1⟩
    have hqs1 := hz0.trans (hcs1.mono hz0.size)
    refine ⟨_, rfl, mixOn ⟨hqs1, ?_⟩⟩
    (try unfold WV); go_frame
    refine mixEqlW _ _ _ (a / b) (dval (digsOf (a / b) 16)) true hqs1 rfl rfl rfl rfl (by rw [digsOf_16 _ (Nat.lt_of_le_of_lt (Nat.div_le_self _ _) ma)]; simp) ?_; go_frame
    refine mixMove _ (.bool true) hqs1 rfl rfl rfl ?_; go_frame
    refine mixLoadRow _ _ _ _ (wcells (a % b)) _ hqs1 rfl rfl rfl (fun _ h => hRr.below h hRr.lt) Try.underlying24 rfl (info_WideC _) ?_; go_frame
    refine mixMove _ vs hqs1 rfl rfl rfl ?_; go_frame
    refine mixLoud ?_
    refine kCall1 23 _ _ vs rfl rfl (by kernel_rfl) rfl ?_
    refine (dWide_any ls vs _ ds (hs0.below hqs1)).mono ?_
    rintro e s2 ⟨rfl, hcs2⟩
    have hqs2 := hqs1.trans (hcs2.mono hqs1.size)
    refine ⟨_, rfl, mixOn ⟨hqs2, ?_⟩⟩
    (try unfold WV); go_frame
    refine mixEqlW _ _ _ (a % b) (dval ls) true hqs2 rfl rfl rfl rfl (by rw [es]; simp) ?_; go_frame
    refine mixPick _ _ _ true (.bool true) hqs2 rfl rfl rfl rfl ?_; go_frame
    refine mixEnd ?_
    have hB := hB13.trans (hqs2.mono hB13.size)
    go_wp2
    go_ret
    exact ⟨rfl, hB⟩
end Go.Proofs.Ytehklogmeinocaa
