/-
  Layer 9: the walk of CoinBytes.
-/
import Derived.Test.YtgichipcmbnnhaaCoLaw2
namespace Go.Proofs.Ytgichipcmbnnhaa
open Go Go.RowKit

theorem pair_of {α : Type} {p : α × Nat} {k : Nat} (h : p.2 = k) : ∃ z, p = (z, k) := by subst h; exact ⟨p.1, rfl⟩
section
variable {ops : Array Oper} {o : Oper} {a : Act} {S : World → Prop}
theorem yBuildCoin0 (ho : o.op = .build 29 #[]) (hg : Region.wanted o (yielded ops a.tmps) = true) : YieldsIf Try.prog ops S o (.agg (coinV noCoin (.slice none 0 0))) a :=
  yOf hg fun w _ => by
    have h : (Instr.build 29 #[]).run Try.prog w = .ok (.agg (coinV noCoin (.slice none 0 0))) w := by kernel_rfl
    unfold execOp
    simp only [ho]
    simp [h]
end
set_option maxRecDepth 100000 in
set_option maxHeartbeats 8000000 in
theorem coinBytes_out {c : CoinP} {b : List UInt8} {u bv : Value} {cut : Int} (W0 : World) (hu : IsVals W0 u (c.lock.map VB)) (hbv : IsVals W0 bv (b.map VB)) (h : 2500 < b.length) : Calls Try.prog 6 #[.agg (coinV c u), bv, .int .i64 cut] W0 (AlivePost W0) := by
  obtain ⟨k, hk⟩ : ∃ k, b.length = k := ⟨_, rfl⟩
  have d1 : decide ((k : Int) > 2500) = true := by simp; omega
  clear h
  go_enter Try.func6, Try.ntmps6
  go_wp2_with (first
    | ((with_reducible change wpList _ _ _ (Oper.mk (some 3) _ _ _ _ _ :: _) _ _); refine kBoxL _ _ _ rfl rfl rfl ?_; intro w1 hRc hz1 hB0; clear hz1; have hu_1 := hu.below hB0; have hbv_2 := hbv.below hB0; clear hu hbv; go_frame)
    | (go_at_call 10; refine (coinAlive_any _).mono ?_; rintro e w2 ⟨rfl, hBB⟩; have hu_3 := hu_1.below hBB; have hbv_4 := hbv_2.below hBB; have hRc_5 := hRc.below hBB hRc.lt; have hB_6 := hB0.trans (hBB.mono hB0.size); clear hu_1 hbv_2 hRc hB0 hBB; go_frame)
    | ((with_reducible change wpList _ _ _ (Oper.mk (some 19) _ _ _ _ _ :: _) _ _); refine kLenN _ _ _ bv _ k rfl rfl rfl hbv_4 (by rw [List.length_map, hk]) Try.underlying25 ?_; go_frame)
    | ((with_reducible change wpList _ _ _ (Oper.mk (some 20) _ _ _ _ _ :: _) _ _); refine kGtrI _ _ _ _ .i64 (k : Int) 2500 true rfl rfl rfl rfl d1 ?_; go_frame))
  go_ret
  exact ⟨rfl, hB_6⟩
set_option maxRecDepth 100000 in
set_option maxHeartbeats 8000000 in
theorem coinBytes_no0 {c : CoinP} {b : List UInt8} {u bv : Value} {cut : Int} (W0 : World) (hu : IsVals W0 u (c.lock.map VB)) (hbv : IsVals W0 bv (b.map VB)) (hb : b.length ≤ 2500) {XC : CoinP} (hx : parseC b = (XC, 0)) (hcr : rightC c = false) : Calls Try.prog 6 #[.agg (coinV c u), bv, .int .i64 cut] W0 (AlivePost W0) := by
  obtain ⟨i, hi, hz, hs1, hby⟩ := b8Info
  obtain ⟨k, hk⟩ : ∃ k, b.length = k := ⟨_, rfl⟩
  have d1 : decide ((k : Int) > 2500) = false := by simp; omega
  have hps : ∀ (w : World) (v : Value), IsVals w v (b.map VB) → Calls Try.prog 9 #[v] w (ParsePost w (XC, 0)) := fun w v h => by rw [← hx]; exact coParse_any w h (by omega)
  obtain ⟨hxr, hxb⟩ := parse_right hx
  have hxl := (rightC_iff.1 hxr).2.1
  go_enter Try.func6, Try.ntmps6
  go_wp2_with (first
    | ((with_reducible change wpList _ _ _ (Oper.mk (some 3) _ _ _ _ _ :: _) _ _); refine kBoxL _ _ _ rfl rfl rfl ?_; intro w1 hRc hz1 hB0; clear hz1; have hu_1 := hu.below hB0; have hbv_2 := hbv.below hB0; clear hu hbv; go_frame)
    | (go_at_call 10; refine (coinAlive_any _).mono ?_; rintro e w2 ⟨rfl, hBB⟩; have hu_3 := hu_1.below hBB; have hbv_4 := hbv_2.below hBB; have hRc_5 := hRc.below hBB hRc.lt; have hB_6 := hB0.trans (hBB.mono hB0.size); clear hu_1 hbv_2 hRc hB0 hBB; go_frame)
    | ((with_reducible change wpList _ _ _ (Oper.mk (some 19) _ _ _ _ _ :: _) _ _); refine kLenN _ _ _ bv _ k rfl rfl rfl hbv_4 (by rw [List.length_map, hk]) Try.underlying25 ?_; go_frame)
    | ((with_reducible change wpList _ _ _ (Oper.mk (some 20) _ _ _ _ _ :: _) _ _); refine kGtrI _ _ _ _ .i64 (k : Int) 2500 false rfl rfl rfl rfl d1 ?_; go_frame)
    | (go_at_call 9; (with_reducible change Calls _ _ #[bv] _ _); refine (hps _ _ hbv_4).mono ?_; rintro e w3 ⟨ux, rfl, hO, hBB⟩; have hux := hO.vals; clear hO; have hu_7 := hu_3.below hBB; have hbv_8 := hbv_4.below hBB; have hRc_9 := hRc_5.below hBB hRc_5.lt; have hB_10 := hB_6.trans (hBB.mono hB_6.size); clear hu_3 hbv_4 hRc_5 hB_6 hBB; go_frame)
    | ((with_reducible change wpList _ _ _ (Oper.mk (some 7) _ _ _ _ _ :: _) _ _); refine kAllocL _ _ rfl rfl zero_CoinC ?_; intro a1 hX1 hz hBB; clear hz; have nehRc_1 := Nat.ne_of_lt hRc_9.lt; have le1 := hB_10.size; have hu_11 := hu_7.below hBB; have hbv_12 := hbv_8.below hBB; have hRc_13 := hRc_9.below hBB hRc_9.lt; have hux_14 := hux.below hBB; have hB_15 := hB_10.trans (hBB.mono hB_10.size); clear hu_7 hbv_8 hRc_9 hux hB_10 hBB; go_frame)
    | ((with_reducible change wpList _ _ _ (Oper.mk none _ _ _ _ _ :: _) _ _); refine kStoreCoin _ _ _ XC.value ux XC.height XC.base _ hX1 rfl hux_14 rfl rfl rfl rfl ?_; intro b1 hY1 hW1; have hn1 := coin_noByte 0 0 false (isVals_nil a1); have hu_16 := vals_wroteN hu_11 hX1 hn1 hW1; have hbv_17 := vals_wroteN hbv_12 hX1 hn1 hW1; have hRc_18 := hW1.row hRc_13 nehRc_1; have hux_19 := vals_wroteN hux_14 hX1 hn1 hW1; have hB_20 := hB_15.trans (hW1.below le1); have hR1 : Row b1 w3.heap.size 29 (coinV XC ux) := hY1; clear hX1 hY1 hW1 hn1 le1 hu_11 hbv_12 hRc_13 hux_14 hB_15; go_frame))
  refine region_mixD [(0, true), (1, true), (2, true), (3, true), (4, false), (5, true), (6, true), (7, true), (10, true), (11, true), (8, false), (9, true), (12, true), (13, true), (14, true), (15, true), (16, true), (17, true), (18, true), (19, true), (20, true), (21, true), (22, true), (23, true), (24, true), (25, true), (26, true), (27, true), (28, true), (29, true), (30, true), (31, true), (32, true)] (fun w => (IsVals w bv (b.map VB)) ∧ (Row w W0.heap.size 29 (coinV c u)) ∧ (Row w w3.heap.size 29 (coinV XC ux))) (by kernel_rfl) (by kernel_rfl) rfl ?_
  intro q0 hBd hsd
  clear hsd
  have hu_21 := hu_16.below hBd
  have hbv_22 := hbv_17.below hBd
  have hRc_23 := hRc_18.below hBd hRc_18.lt
  have hux_24 := hux_19.below hBd
  have hR1_25 := hR1.below hBd hR1.lt
  have hB_26 := hB_20.trans (hBd.mono hB_20.size)
  clear hu_16 hbv_17 hRc_18 hux_19 hR1 hB_20 hBd
  simp only [List.map_cons, List.map_nil]
  dsimp only [List.filterMap, List.getElem?_cons_zero, List.getElem?_cons_succ]
  have hS : (IsVals q0 bv (b.map VB)) ∧ (Row q0 W0.heap.size 29 (coinV c u)) ∧ (Row q0 w3.heap.size 29 (coinV XC ux)) := ⟨hbv_22, hRc_23, hR1_25⟩
  refine dY _ hS (yMove _ (.int .i64 ((0 : Nat) : Int)) rfl rfl rfl) ?_; go_frame
  refine dY _ hS (yEqlIC _ _ _ _ .i64 ((0 : Nat) : Int) 0 true rfl rfl rfl rfl (by decide)) ?_; go_frame
  refine dY _ hS (yMove _ (.bool true) rfl rfl rfl) ?_; go_frame
  refine dY _ hS (yLoadRowC Try.underlying29 rfl _ w3.heap.size (coinV XC ux) info_CoinC (fun _ h => h.2.2) rfl rfl rfl) ?_; go_frame
  refine dLoud ?_
  refine kCall1 29 _ _ _ rfl rfl (by kernel_rfl) rfl ?_
  refine (zRight_any _ hux_24).mono ?_
  rintro e q1 ⟨rfl, hBB⟩
  clear hS
  rw [hxr]
  have hu_27 := hu_21.below hBB
  have hbv_28 := hbv_22.below hBB
  have hRc_29 := hRc_23.below hBB hRc_23.lt
  have hux_30 := hux_24.below hBB
  have hR1_31 := hR1_25.below hBB hR1_25.lt
  have hB_32 := hB_26.trans (hBB.mono hB_26.size)
  clear hu_21 hbv_22 hRc_23 hux_24 hR1_25 hB_26 hBB
  have hS : (IsVals q1 bv (b.map VB)) ∧ (Row q1 W0.heap.size 29 (coinV c u)) ∧ (Row q1 w3.heap.size 29 (coinV XC ux)) := ⟨hbv_28, hRc_29, hR1_31⟩
  refine ⟨_, rfl, mixOn ⟨(fun w => (IsVals w bv (b.map VB)) ∧ (Row w W0.heap.size 29 (coinV c u)) ∧ (Row w w3.heap.size 29 (coinV XC ux))), (fun _ h => ⟨h.1, h.2.1, h.2.2⟩), hS, ?_⟩⟩
  go_frame
  refine dY _ hS (yNotC _ _ true rfl rfl rfl) ?_; go_frame
  refine dY _ hS (yMove _ (.bool false) rfl rfl rfl) ?_; go_frame
  refine dY _ hS (yLoadRowC Try.underlying29 rfl _ w3.heap.size (coinV XC ux) info_CoinC (fun _ h => h.2.2) rfl rfl rfl) ?_; go_frame
  refine dY _ hS (yMove _ (bv) rfl rfl rfl) ?_; go_frame
  refine dY _ hS (yStr _ _ _ _ bv (b) rfl rfl rfl (fun _ h => h.1) Try.underlying25 Try.underlying5 Try.underlying9) ?_; go_frame
  refine dLoud ?_
  refine kCall1 30 _ _ _ rfl rfl (by kernel_rfl) rfl ?_
  refine (zBytes_any _ hux_30 (by omega)).mono ?_
  rintro e q2 ⟨v34, rfl, hO, hBB⟩
  clear hS
  rw [hxb] at hO
  have hv34 := hO.vals
  clear hO
  have hu_33 := hu_27.below hBB
  have hbv_34 := hbv_28.below hBB
  have hRc_35 := hRc_29.below hBB hRc_29.lt
  have hux_36 := hux_30.below hBB
  have hR1_37 := hR1_31.below hBB hR1_31.lt
  have hB_38 := hB_32.trans (hBB.mono hB_32.size)
  clear hu_27 hbv_28 hRc_29 hux_30 hR1_31 hB_32 hBB
  have hS : (IsVals q2 bv (b.map VB)) ∧ (Row q2 W0.heap.size 29 (coinV c u)) ∧ (Row q2 w3.heap.size 29 (coinV XC ux)) ∧ (IsVals q2 v34 (b.map VB)) := ⟨hbv_34, hRc_35, hR1_37, hv34⟩
  refine ⟨_, rfl, mixOn ⟨(fun w => (IsVals w bv (b.map VB)) ∧ (Row w W0.heap.size 29 (coinV c u)) ∧ (Row w w3.heap.size 29 (coinV XC ux)) ∧ (IsVals w v34 (b.map VB))), (fun _ h => ⟨h.1, h.2.1, h.2.2.1⟩), hS, ?_⟩⟩
  go_frame
  refine dY _ hS (yStr _ _ _ _ v34 (b) rfl rfl rfl (fun _ h => h.2.2.2) Try.underlying25 Try.underlying5 Try.underlying9) ?_; go_frame
  refine dY _ hS (yNeqStr _ _ _ _ (b) (b) false rfl rfl rfl rfl (by simp)) ?_; go_frame
  refine dY _ hS (yPick _ _ _ false (.bool false) rfl rfl rfl rfl) ?_; go_frame
  refine dY _ hS (yPick _ _ _ true (.bool false) rfl rfl rfl rfl) ?_; go_frame
  refine dY _ hS (yMove _ (.bool false) rfl rfl rfl) ?_; go_frame
  refine dY _ hS (yMove _ (.int .i64 ((0 : Nat) : Int)) rfl rfl rfl) ?_; go_frame
  refine dY _ hS (yNeqI _ _ _ _ .i64 (((0 : Nat) : Int)) 0 false rfl rfl rfl rfl (by decide)) ?_; go_frame
  refine dY _ hS (yMove _ (.bool false) rfl rfl rfl) ?_; go_frame
  refine dY _ hS (ySkip rfl) ?_; go_frame
  refine dY _ hS (ySkip rfl) ?_; go_frame
  refine dY _ hS (ySkip rfl) ?_; go_frame
  refine dY _ hS (ySkip rfl) ?_; go_frame
  refine dY _ hS (ySkip rfl) ?_; go_frame
  refine dY _ hS (ySkip rfl) ?_; go_frame
  refine dY _ hS (ySkip rfl) ?_; go_frame
  refine dY _ hS (ySkip rfl) ?_; go_frame
  refine dY _ hS (ySkip rfl) ?_; go_frame
  refine dY _ hS (ySkip rfl) ?_; go_frame
  refine dY _ hS (ySkip rfl) ?_; go_frame
  refine dY _ hS (ySkip rfl) ?_; go_frame
  refine dY _ hS (yPick _ _ _ false (.bool false) rfl rfl rfl rfl) ?_; go_frame
  refine dY _ hS (yPick _ _ _ false (.bool false) rfl rfl rfl rfl) ?_; go_frame
  refine dDone ?_
  clear hS
  go_wp2_with (first
    | ((with_reducible change wpList _ _ _ (Oper.mk (some 59) _ _ _ _ _ :: _) _ _); refine kLoadCoin _ _ c.value u c.height c.base hRc_35 rfl rfl rfl ?_; go_frame)
    | (go_at_call 29; refine (zRight_any (c := c) _ hu_33).mono ?_; rintro e z1 ⟨rfl, hBB⟩; rw [hcr]; have hu_39 := hu_33.below hBB; have hRc_40 := hRc_35.below hBB hRc_35.lt; have hB_41 := hB_38.trans (hBB.mono hB_38.size); clear hu_33 hRc_35 hB_38 hBB; go_frame))
  go_ret
  exact ⟨rfl, hB_41⟩
set_option maxRecDepth 100000 in
set_option maxHeartbeats 8000000 in
theorem coinBytes_more0 {c : CoinP} {b : List UInt8} {u bv : Value} {cut : Int} (W0 : World) (hu : IsVals W0 u (c.lock.map VB)) (hbv : IsVals W0 bv (b.map VB)) (hb : b.length ≤ 2500) {XC : CoinP} (hx : parseC b = (XC, 0)) (hcr : rightC c = true) (hct : cut < 0 ∨ ((coinL c).length : Int) ≤ cut) : Calls Try.prog 6 #[.agg (coinV c u), bv, .int .i64 cut] W0 (AlivePost W0) := by
  obtain ⟨i, hi, hz, hs1, hby⟩ := b8Info
  obtain ⟨k, hk⟩ : ∃ k, b.length = k := ⟨_, rfl⟩
  have d1 : decide ((k : Int) > 2500) = false := by simp; omega
  have hps : ∀ (w : World) (v : Value), IsVals w v (b.map VB) → Calls Try.prog 9 #[v] w (ParsePost w (XC, 0)) := fun w v h => by rw [← hx]; exact coParse_any w h (by omega)
  obtain ⟨hxr, hxb⟩ := parse_right hx
  have hxl := (rightC_iff.1 hxr).2.1
  have hcl2 := (rightC_iff.1 hcr).2.1
  have hLl : (coinL c).length ≤ 3000 := by have h1 := countL_le (stampN c.height c.base); have h2 := outL_le (n := c.value) hcl2; unfold coinL; rw [List.length_append]; omega
  have hpc : ∀ (w : World) (v : Value), IsVals w v ((coinL c).map VB) → Calls Try.prog 9 #[v] w (ParsePost w (c, 0)) := fun w v h => by rw [← parse_back hcr]; exact coParse_any w h (by omega)
  have hpm : ∀ (w : World) (v : Value), IsVals w v ((coinL c ++ [0]).map VB) → Calls Try.prog 9 #[v] w (ParsePost w (noCoin, 62)) := fun w v h => by rw [← parse_more hcr]; exact coParse_any w h (by simp; omega)
  obtain ⟨M, hM⟩ : ∃ M, (coinL c).length = M := ⟨_, rfl⟩
  obtain ⟨b1, hl1⟩ : ∃ b, decide (cut < 0) = b := ⟨_, rfl⟩
  obtain ⟨b2, hl2⟩ : ∃ b, decide (cut ≥ (M : Int)) = b := ⟨_, rfl⟩
  by_cases g1 : cut < 0
  · obtain rfl : b1 = true := by rw [← hl1]; simp; exact g1
    clear g1 hct
    go_enter Try.func6, Try.ntmps6
    go_wp2_with (first
      | ((with_reducible change wpList _ _ _ (Oper.mk (some 3) _ _ _ _ _ :: _) _ _); refine kBoxL _ _ _ rfl rfl rfl ?_; intro w1 hRc hz1 hB0; clear hz1; have hu_1 := hu.below hB0; have hbv_2 := hbv.below hB0; clear hu hbv; go_frame)
      | (go_at_call 10; refine (coinAlive_any _).mono ?_; rintro e w2 ⟨rfl, hBB⟩; have hu_3 := hu_1.below hBB; have hbv_4 := hbv_2.below hBB; have hRc_5 := hRc.below hBB hRc.lt; have hB_6 := hB0.trans (hBB.mono hB0.size); clear hu_1 hbv_2 hRc hB0 hBB; go_frame)
      | ((with_reducible change wpList _ _ _ (Oper.mk (some 19) _ _ _ _ _ :: _) _ _); refine kLenN _ _ _ bv _ k rfl rfl rfl hbv_4 (by rw [List.length_map, hk]) Try.underlying25 ?_; go_frame)
      | ((with_reducible change wpList _ _ _ (Oper.mk (some 20) _ _ _ _ _ :: _) _ _); refine kGtrI _ _ _ _ .i64 (k : Int) 2500 false rfl rfl rfl rfl d1 ?_; go_frame)
      | (go_at_call 9; (with_reducible change Calls _ _ #[bv] _ _); refine (hps _ _ hbv_4).mono ?_; rintro e w3 ⟨ux, rfl, hO, hBB⟩; have hux := hO.vals; clear hO; have hu_7 := hu_3.below hBB; have hbv_8 := hbv_4.below hBB; have hRc_9 := hRc_5.below hBB hRc_5.lt; have hB_10 := hB_6.trans (hBB.mono hB_6.size); clear hu_3 hbv_4 hRc_5 hB_6 hBB; go_frame)
      | ((with_reducible change wpList _ _ _ (Oper.mk (some 7) _ _ _ _ _ :: _) _ _); refine kAllocL _ _ rfl rfl zero_CoinC ?_; intro a1 hX1 hz hBB; clear hz; have nehRc_1 := Nat.ne_of_lt hRc_9.lt; have le1 := hB_10.size; have hu_11 := hu_7.below hBB; have hbv_12 := hbv_8.below hBB; have hRc_13 := hRc_9.below hBB hRc_9.lt; have hux_14 := hux.below hBB; have hB_15 := hB_10.trans (hBB.mono hB_10.size); clear hu_7 hbv_8 hRc_9 hux hB_10 hBB; go_frame)
      | ((with_reducible change wpList _ _ _ (Oper.mk none _ _ _ _ _ :: _) _ _); refine kStoreCoin _ _ _ XC.value ux XC.height XC.base _ hX1 rfl hux_14 rfl rfl rfl rfl ?_; intro b1 hY1 hW1; have hn1 := coin_noByte 0 0 false (isVals_nil a1); have hu_16 := vals_wroteN hu_11 hX1 hn1 hW1; have hbv_17 := vals_wroteN hbv_12 hX1 hn1 hW1; have hRc_18 := hW1.row hRc_13 nehRc_1; have hux_19 := vals_wroteN hux_14 hX1 hn1 hW1; have hB_20 := hB_15.trans (hW1.below le1); have hR1 : Row b1 w3.heap.size 29 (coinV XC ux) := hY1; clear hX1 hY1 hW1 hn1 le1 hu_11 hbv_12 hRc_13 hux_14 hB_15; go_frame))
    refine region_mixD [(0, true), (1, true), (2, true), (3, true), (4, false), (5, true), (6, true), (7, true), (10, true), (11, true), (8, false), (9, true), (12, true), (13, true), (14, true), (15, true), (16, true), (17, true), (18, true), (19, true), (20, true), (21, true), (22, true), (23, true), (24, true), (25, true), (26, true), (27, true), (28, true), (29, true), (30, true), (31, true), (32, true)] (fun w => (IsVals w bv (b.map VB)) ∧ (Row w W0.heap.size 29 (coinV c u)) ∧ (Row w w3.heap.size 29 (coinV XC ux))) (by kernel_rfl) (by kernel_rfl) rfl ?_
    intro q0 hBd hsd
    clear hsd
    have hu_21 := hu_16.below hBd
    have hbv_22 := hbv_17.below hBd
    have hRc_23 := hRc_18.below hBd hRc_18.lt
    have hux_24 := hux_19.below hBd
    have hR1_25 := hR1.below hBd hR1.lt
    have hB_26 := hB_20.trans (hBd.mono hB_20.size)
    clear hu_16 hbv_17 hRc_18 hux_19 hR1 hB_20 hBd
    simp only [List.map_cons, List.map_nil]
    dsimp only [List.filterMap, List.getElem?_cons_zero, List.getElem?_cons_succ]
    have hS : (IsVals q0 bv (b.map VB)) ∧ (Row q0 W0.heap.size 29 (coinV c u)) ∧ (Row q0 w3.heap.size 29 (coinV XC ux)) := ⟨hbv_22, hRc_23, hR1_25⟩
    refine dY _ hS (yMove _ (.int .i64 ((0 : Nat) : Int)) rfl rfl rfl) ?_; go_frame
    refine dY _ hS (yEqlIC _ _ _ _ .i64 ((0 : Nat) : Int) 0 true rfl rfl rfl rfl (by decide)) ?_; go_frame
    refine dY _ hS (yMove _ (.bool true) rfl rfl rfl) ?_; go_frame
    refine dY _ hS (yLoadRowC Try.underlying29 rfl _ w3.heap.size (coinV XC ux) info_CoinC (fun _ h => h.2.2) rfl rfl rfl) ?_; go_frame
    refine dLoud ?_
    refine kCall1 29 _ _ _ rfl rfl (by kernel_rfl) rfl ?_
    refine (zRight_any _ hux_24).mono ?_
    rintro e q1 ⟨rfl, hBB⟩
    clear hS
    rw [hxr]
    have hu_27 := hu_21.below hBB
    have hbv_28 := hbv_22.below hBB
    have hRc_29 := hRc_23.below hBB hRc_23.lt
    have hux_30 := hux_24.below hBB
    have hR1_31 := hR1_25.below hBB hR1_25.lt
    have hB_32 := hB_26.trans (hBB.mono hB_26.size)
    clear hu_21 hbv_22 hRc_23 hux_24 hR1_25 hB_26 hBB
    have hS : (IsVals q1 bv (b.map VB)) ∧ (Row q1 W0.heap.size 29 (coinV c u)) ∧ (Row q1 w3.heap.size 29 (coinV XC ux)) := ⟨hbv_28, hRc_29, hR1_31⟩
    refine ⟨_, rfl, mixOn ⟨(fun w => (IsVals w bv (b.map VB)) ∧ (Row w W0.heap.size 29 (coinV c u)) ∧ (Row w w3.heap.size 29 (coinV XC ux))), (fun _ h => ⟨h.1, h.2.1, h.2.2⟩), hS, ?_⟩⟩
    go_frame
    refine dY _ hS (yNotC _ _ true rfl rfl rfl) ?_; go_frame
    refine dY _ hS (yMove _ (.bool false) rfl rfl rfl) ?_; go_frame
    refine dY _ hS (yLoadRowC Try.underlying29 rfl _ w3.heap.size (coinV XC ux) info_CoinC (fun _ h => h.2.2) rfl rfl rfl) ?_; go_frame
    refine dY _ hS (yMove _ (bv) rfl rfl rfl) ?_; go_frame
    refine dY _ hS (yStr _ _ _ _ bv (b) rfl rfl rfl (fun _ h => h.1) Try.underlying25 Try.underlying5 Try.underlying9) ?_; go_frame
    refine dLoud ?_
    refine kCall1 30 _ _ _ rfl rfl (by kernel_rfl) rfl ?_
    refine (zBytes_any _ hux_30 (by omega)).mono ?_
    rintro e q2 ⟨v34, rfl, hO, hBB⟩
    clear hS
    rw [hxb] at hO
    have hv34 := hO.vals
    clear hO
    have hu_33 := hu_27.below hBB
    have hbv_34 := hbv_28.below hBB
    have hRc_35 := hRc_29.below hBB hRc_29.lt
    have hux_36 := hux_30.below hBB
    have hR1_37 := hR1_31.below hBB hR1_31.lt
    have hB_38 := hB_32.trans (hBB.mono hB_32.size)
    clear hu_27 hbv_28 hRc_29 hux_30 hR1_31 hB_32 hBB
    have hS : (IsVals q2 bv (b.map VB)) ∧ (Row q2 W0.heap.size 29 (coinV c u)) ∧ (Row q2 w3.heap.size 29 (coinV XC ux)) ∧ (IsVals q2 v34 (b.map VB)) := ⟨hbv_34, hRc_35, hR1_37, hv34⟩
    refine ⟨_, rfl, mixOn ⟨(fun w => (IsVals w bv (b.map VB)) ∧ (Row w W0.heap.size 29 (coinV c u)) ∧ (Row w w3.heap.size 29 (coinV XC ux)) ∧ (IsVals w v34 (b.map VB))), (fun _ h => ⟨h.1, h.2.1, h.2.2.1⟩), hS, ?_⟩⟩
    go_frame
    refine dY _ hS (yStr _ _ _ _ v34 (b) rfl rfl rfl (fun _ h => h.2.2.2) Try.underlying25 Try.underlying5 Try.underlying9) ?_; go_frame
    refine dY _ hS (yNeqStr _ _ _ _ (b) (b) false rfl rfl rfl rfl (by simp)) ?_; go_frame
    refine dY _ hS (yPick _ _ _ false (.bool false) rfl rfl rfl rfl) ?_; go_frame
    refine dY _ hS (yPick _ _ _ true (.bool false) rfl rfl rfl rfl) ?_; go_frame
    refine dY _ hS (yMove _ (.bool false) rfl rfl rfl) ?_; go_frame
    refine dY _ hS (yMove _ (.int .i64 ((0 : Nat) : Int)) rfl rfl rfl) ?_; go_frame
    refine dY _ hS (yNeqI _ _ _ _ .i64 (((0 : Nat) : Int)) 0 false rfl rfl rfl rfl (by decide)) ?_; go_frame
    refine dY _ hS (yMove _ (.bool false) rfl rfl rfl) ?_; go_frame
    refine dY _ hS (ySkip rfl) ?_; go_frame
    refine dY _ hS (ySkip rfl) ?_; go_frame
    refine dY _ hS (ySkip rfl) ?_; go_frame
    refine dY _ hS (ySkip rfl) ?_; go_frame
    refine dY _ hS (ySkip rfl) ?_; go_frame
    refine dY _ hS (ySkip rfl) ?_; go_frame
    refine dY _ hS (ySkip rfl) ?_; go_frame
    refine dY _ hS (ySkip rfl) ?_; go_frame
    refine dY _ hS (ySkip rfl) ?_; go_frame
    refine dY _ hS (ySkip rfl) ?_; go_frame
    refine dY _ hS (ySkip rfl) ?_; go_frame
    refine dY _ hS (ySkip rfl) ?_; go_frame
    refine dY _ hS (yPick _ _ _ false (.bool false) rfl rfl rfl rfl) ?_; go_frame
    refine dY _ hS (yPick _ _ _ false (.bool false) rfl rfl rfl rfl) ?_; go_frame
    refine dDone ?_
    clear hS
    go_wp2_with (first
      | ((with_reducible change wpList _ _ _ (Oper.mk (some 59) _ _ _ _ _ :: _) _ _); refine kLoadCoin _ _ c.value u c.height c.base hRc_35 rfl rfl rfl ?_; go_frame)
      | (go_at_call 29; refine (zRight_any (c := c) _ hu_33).mono ?_; rintro e z1 ⟨rfl, hBB⟩; rw [hcr]; have hu_39 := hu_33.below hBB; have hRc_40 := hRc_35.below hBB hRc_35.lt; have hB_41 := hB_38.trans (hBB.mono hB_38.size); clear hu_33 hRc_35 hB_38 hBB; go_frame)
      | ((with_reducible change wpList _ _ _ (Oper.mk (some 62) _ _ _ _ _ :: _) _ _); refine kLoadCoin _ _ c.value u c.height c.base hRc_40 rfl rfl rfl ?_; go_frame)
      | (go_at_call 32; refine (coBytes_any (c := c) _ hu_39 (by omega)).mono ?_; rintro e z2 ⟨vp, rfl, hO, hBB⟩; have hp := own_less hB_41.size hO; clear hO; have hu_42 := hu_39.below hBB; have hRc_43 := hRc_40.below hBB hRc_40.lt; have hB_44 := hB_41.trans (hBB.mono hB_41.size); clear hu_39 hRc_40 hB_41 hBB; go_frame)
      | (go_at_call 9; (with_reducible change Calls _ _ #[vp] _ _); refine (hpc _ _ hp.vals).mono ?_; rintro e z3 ⟨uy, rfl, hO, hBB⟩; have huy := hO.vals; clear hO; have hu_45 := hu_42.below hBB; have hRc_46 := hRc_43.below hBB hRc_43.lt; have hp_47 := hp.below hBB; have hB_48 := hB_44.trans (hBB.mono hB_44.size); clear hu_42 hRc_43 hp hB_44 hBB; go_frame)
      | ((with_reducible change wpList _ _ _ (Oper.mk (some 10) _ _ _ _ _ :: _) _ _); refine kAllocL _ _ rfl rfl zero_CoinC ?_; intro a2 hX2 hz hBB; clear hz; have nehRc_2 := Nat.ne_of_lt hRc_46.lt; have le2 := hB_48.size; have hu_49 := hu_45.below hBB; have hRc_50 := hRc_46.below hBB hRc_46.lt; have hp_51 := hp_47.below hBB; have huy_52 := huy.below hBB; have hB_53 := hB_48.trans (hBB.mono hB_48.size); clear hu_45 hRc_46 hp_47 huy hB_48 hBB; go_frame)
      | ((with_reducible change wpList _ _ _ (Oper.mk none _ _ _ _ _ :: _) _ _); refine kStoreCoin _ _ _ c.value uy c.height c.base _ hX2 rfl huy_52 rfl rfl rfl rfl ?_; intro b2 hY2 hW2; have hn2 := coin_noByte 0 0 false (isVals_nil a2); have hu_54 := vals_wroteN hu_49 hX2 hn2 hW2; have hRc_55 := hW2.row hRc_50 nehRc_2; have hp_56 := own_wroteN hp_51 hX2 (by decide) hW2; have huy_57 := vals_wroteN huy_52 hX2 hn2 hW2; have hB_58 := hB_53.trans (hW2.below le2); have hR2 : Row b2 z3.heap.size 29 (coinV c uy) := hY2; clear hX2 hY2 hW2 hn2 le2 hu_49 hRc_50 hp_51 huy_52 hB_53; go_frame))
    have hpv := hp_56.vals
    refine region_mixD [(0, true), (1, true), (2, true), (3, false), (4, true), (5, true), (6, true), (7, true), (8, true), (9, true), (10, true), (11, true), (12, true), (13, false), (14, true), (15, true)] (fun w => (Row w W0.heap.size 29 (coinV c u)) ∧ (Row w z3.heap.size 29 (coinV c uy)) ∧ (IsVals w vp ((coinL c).map VB))) (by kernel_rfl) (by kernel_rfl) rfl ?_
    intro s0 hBd hsd
    clear hsd
    have hu_59 := hu_54.below hBd
    have hRc_60 := hRc_55.below hBd hRc_55.lt
    have hp_61 := hp_56.below hBd
    have huy_62 := huy_57.below hBd
    have hR2_63 := hR2.below hBd hR2.lt
    have hpv_64 := hpv.below hBd
    have hB_65 := hB_58.trans (hBd.mono hB_58.size)
    clear hu_54 hRc_55 hp_56 huy_57 hR2 hpv hB_58 hBd
    simp only [List.map_cons, List.map_nil]
    dsimp only [List.filterMap, List.getElem?_cons_zero, List.getElem?_cons_succ]
    have hS : (Row s0 W0.heap.size 29 (coinV c u)) ∧ (Row s0 z3.heap.size 29 (coinV c uy)) ∧ (IsVals s0 vp ((coinL c).map VB)) := ⟨hRc_60, hR2_63, hpv_64⟩
    refine dY _ hS (yMove _ (vp) rfl rfl rfl) ?_; go_frame
    refine dY _ hS (yStr _ _ _ _ vp (coinL c) rfl rfl rfl (fun _ h => h.2.2) Try.underlying25 Try.underlying5 Try.underlying9) ?_; go_frame
    refine dY _ hS (yLoadRowC Try.underlying29 rfl _ W0.heap.size (coinV c u) info_CoinC (fun _ h => h.1) rfl rfl rfl) ?_; go_frame
    refine dLoud ?_
    refine kCall1 30 _ _ _ rfl rfl (by kernel_rfl) rfl ?_
    refine (zBytes_any (c := c) _ hu_59 (by omega)).mono ?_
    rintro e s1 ⟨v72, rfl, hO, hBB⟩
    clear hS
    have hv72 := hO.vals
    clear hO
    have hu_66 := hu_59.below hBB
    have hRc_67 := hRc_60.below hBB hRc_60.lt
    have hp_68 := hp_61.below hBB
    have huy_69 := huy_62.below hBB
    have hR2_70 := hR2_63.below hBB hR2_63.lt
    have hpv_71 := hpv_64.below hBB
    have hB_72 := hB_65.trans (hBB.mono hB_65.size)
    clear hu_59 hRc_60 hp_61 huy_62 hR2_63 hpv_64 hB_65 hBB
    have hS : (Row s1 W0.heap.size 29 (coinV c u)) ∧ (Row s1 z3.heap.size 29 (coinV c uy)) ∧ (IsVals s1 vp ((coinL c).map VB)) ∧ (IsVals s1 v72 ((coinL c).map VB)) := ⟨hRc_67, hR2_70, hpv_71, hv72⟩
    refine ⟨_, rfl, mixOn ⟨(fun w => (Row w W0.heap.size 29 (coinV c u)) ∧ (Row w z3.heap.size 29 (coinV c uy)) ∧ (IsVals w vp ((coinL c).map VB)) ∧ (IsVals w v72 ((coinL c).map VB))), (fun _ h => ⟨h.1, h.2.1, h.2.2.1⟩), hS, ?_⟩⟩
    go_frame
    refine dY _ hS (yStr _ _ _ _ v72 (coinL c) rfl rfl rfl (fun _ h => h.2.2.2) Try.underlying25 Try.underlying5 Try.underlying9) ?_; go_frame
    refine dY _ hS (yNeqStr _ _ _ _ (coinL c) (coinL c) false rfl rfl rfl rfl (by simp)) ?_; go_frame
    refine dY _ hS (yMove _ (.bool false) rfl rfl rfl) ?_; go_frame
    refine dY _ hS (yMove _ (.int .i64 ((0 : Nat) : Int)) rfl rfl rfl) ?_; go_frame
    refine dY _ hS (yNeqI _ _ _ _ .i64 (((0 : Nat) : Int)) 0 false rfl rfl rfl rfl (by decide)) ?_; go_frame
    refine dY _ hS (yPick _ _ _ false (.bool false) rfl rfl rfl rfl) ?_; go_frame
    refine dY _ hS (yMove _ (.bool false) rfl rfl rfl) ?_; go_frame
    refine dY _ hS (yLoadRowC Try.underlying29 rfl _ z3.heap.size (coinV c uy) info_CoinC (fun _ h => h.2.1) rfl rfl rfl) ?_; go_frame
    refine dY _ hS (yLoadRowC Try.underlying29 rfl _ W0.heap.size (coinV c u) info_CoinC (fun _ h => h.1) rfl rfl rfl) ?_; go_frame
    refine dLoud ?_
    refine kCall2 31 _ _ _ _ _ rfl rfl (by kernel_rfl) rfl rfl ?_
    refine (zSameCoin_any (c := c) (d := c) _ huy_69 hu_66).mono ?_
    rintro e s2 ⟨rfl, hBB⟩
    clear hS
    rw [sameC_refl]
    have hu_73 := hu_66.below hBB
    have hRc_74 := hRc_67.below hBB hRc_67.lt
    have hp_75 := hp_68.below hBB
    have huy_76 := huy_69.below hBB
    have hR2_77 := hR2_70.below hBB hR2_70.lt
    have hpv_78 := hpv_71.below hBB
    have hv72_79 := hv72.below hBB
    have hB_80 := hB_72.trans (hBB.mono hB_72.size)
    clear hu_66 hRc_67 hp_68 huy_69 hR2_70 hpv_71 hv72 hB_72 hBB
    have hS : (Row s2 W0.heap.size 29 (coinV c u)) ∧ (Row s2 z3.heap.size 29 (coinV c uy)) ∧ (IsVals s2 vp ((coinL c).map VB)) ∧ (IsVals s2 v72 ((coinL c).map VB)) := ⟨hRc_74, hR2_77, hpv_78, hv72_79⟩
    refine ⟨_, rfl, mixOn ⟨(fun w => (Row w W0.heap.size 29 (coinV c u)) ∧ (Row w z3.heap.size 29 (coinV c uy)) ∧ (IsVals w vp ((coinL c).map VB)) ∧ (IsVals w v72 ((coinL c).map VB))), (fun _ h => ⟨h.1, h.2.1, h.2.2.1, h.2.2.2⟩), hS, ?_⟩⟩
    go_frame
    refine dY _ hS (yNotC _ _ true rfl rfl rfl) ?_; go_frame
    refine dY _ hS (yPick _ _ _ false (.bool false) rfl rfl rfl rfl) ?_; go_frame
    refine dDone ?_
    clear hS
    go_wp2_with (first
      | ((with_reducible change wpList _ _ _ (Oper.mk (some 86) _ _ _ _ _ :: _) _ _); refine kLssI _ _ _ _ .i64 cut 0 _ rfl rfl rfl rfl hl1 ?_; go_frame)
      | ((with_reducible change wpList _ _ _ (Oper.mk (some 90) _ _ _ _ _ :: _) _ _); refine kLenN _ _ _ vp _ M rfl rfl rfl hp_75.vals (by rw [List.length_map, hM]) Try.underlying25 ?_; go_frame)
      | ((with_reducible change wpList _ _ _ (Oper.mk (some 91) _ _ _ _ _ :: _) _ _); refine kGeqI _ _ _ _ .i64 cut (M : Int) _ rfl rfl rfl rfl hl2 ?_; go_frame)
      | ((with_reducible change wpList _ _ _ (Oper.mk (some 95) _ _ _ _ _ :: _) _ _); refine kBuildSlice1 _ _ _ (VB 0) rfl rfl Try.underlying25 i _ hi hz hs1 rfl rfl ?_; intro y1 hRr hzz hBB; have hV1 : IsVals y1 _ (([0] : List UInt8).map VB) := isVals_lit (l := [VB 0]) hRr; clear hzz hRr; have hp_81 := hp_75.below hBB; have hB_82 := hB_80.trans (hBB.mono hB_80.size); clear hp_75 hB_80 hBB; go_frame)
      | ((with_reducible change wpList _ _ _ (Oper.mk (some 96) _ _ _ _ _ :: _) _ _); refine kAppB _ _ rfl rfl W0.heap.size _ _ (coinL c) [0] hp_81 hV1 rfl rfl (by simp; omega) hB_82.size ?_; intro v96 y2 hO2 hC2; have hB9 := hB_82.trans hC2; have hV2 := hO2.vals; clear hO2 hC2 hV1; go_frame)
      | (go_at_call 9; refine (hpm _ _ hV2).mono ?_; rintro e y3 ⟨uz, rfl, hO, hBB⟩; have huz := hO.vals; clear hO; have hB_83 := hB9.trans (hBB.mono hB9.size); clear hB9 hBB; go_frame)
      | ((with_reducible change wpList _ _ _ (Oper.mk (some 12) _ _ _ _ _ :: _) _ _); refine kAllocL _ _ rfl rfl zero_CoinC ?_; intro a3 hX3 hz hBB; clear hz; have le3 := hB_83.size; have huz_84 := huz.below hBB; have hB_85 := hB_83.trans (hBB.mono hB_83.size); clear huz hB_83 hBB; go_frame)
      | ((with_reducible change wpList _ _ _ (Oper.mk none _ _ _ _ _ :: _) _ _); refine kStoreCoin _ _ _ noCoin.value uz noCoin.height noCoin.base _ hX3 rfl huz_84 rfl rfl rfl rfl ?_; intro b3 hY3 hW3; have hn3 := coin_noByte 0 0 false (isVals_nil a3); have huz_86 := vals_wroteN huz_84 hX3 hn3 hW3; have hB_87 := hB_85.trans (hW3.below le3); have hR3 : Row b3 y3.heap.size 29 (coinV noCoin uz) := hY3; clear hX3 hY3 hW3 hn3 le3 huz_84 hB_85; go_frame)
      | ((with_reducible change wpList _ _ _ (Oper.mk (some 101) _ _ _ _ _ :: _) _ _); refine kEqlI _ _ _ _ .i64 ((62 : Nat) : Int) 62 true rfl rfl rfl rfl (by decide) ?_; go_frame))
    go_ret
    exact ⟨rfl, hB_87⟩
  · obtain rfl : b1 = false := by rw [← hl1]; simp; omega
    obtain rfl : b2 = true := by rw [← hl2]; simp; omega
    clear g1 hct
    go_enter Try.func6, Try.ntmps6
    go_wp2_with (first
      | ((with_reducible change wpList _ _ _ (Oper.mk (some 3) _ _ _ _ _ :: _) _ _); refine kBoxL _ _ _ rfl rfl rfl ?_; intro w1 hRc hz1 hB0; clear hz1; have hu_1 := hu.below hB0; have hbv_2 := hbv.below hB0; clear hu hbv; go_frame)
      | (go_at_call 10; refine (coinAlive_any _).mono ?_; rintro e w2 ⟨rfl, hBB⟩; have hu_3 := hu_1.below hBB; have hbv_4 := hbv_2.below hBB; have hRc_5 := hRc.below hBB hRc.lt; have hB_6 := hB0.trans (hBB.mono hB0.size); clear hu_1 hbv_2 hRc hB0 hBB; go_frame)
      | ((with_reducible change wpList _ _ _ (Oper.mk (some 19) _ _ _ _ _ :: _) _ _); refine kLenN _ _ _ bv _ k rfl rfl rfl hbv_4 (by rw [List.length_map, hk]) Try.underlying25 ?_; go_frame)
      | ((with_reducible change wpList _ _ _ (Oper.mk (some 20) _ _ _ _ _ :: _) _ _); refine kGtrI _ _ _ _ .i64 (k : Int) 2500 false rfl rfl rfl rfl d1 ?_; go_frame)
      | (go_at_call 9; (with_reducible change Calls _ _ #[bv] _ _); refine (hps _ _ hbv_4).mono ?_; rintro e w3 ⟨ux, rfl, hO, hBB⟩; have hux := hO.vals; clear hO; have hu_7 := hu_3.below hBB; have hbv_8 := hbv_4.below hBB; have hRc_9 := hRc_5.below hBB hRc_5.lt; have hB_10 := hB_6.trans (hBB.mono hB_6.size); clear hu_3 hbv_4 hRc_5 hB_6 hBB; go_frame)
      | ((with_reducible change wpList _ _ _ (Oper.mk (some 7) _ _ _ _ _ :: _) _ _); refine kAllocL _ _ rfl rfl zero_CoinC ?_; intro a1 hX1 hz hBB; clear hz; have nehRc_1 := Nat.ne_of_lt hRc_9.lt; have le1 := hB_10.size; have hu_11 := hu_7.below hBB; have hbv_12 := hbv_8.below hBB; have hRc_13 := hRc_9.below hBB hRc_9.lt; have hux_14 := hux.below hBB; have hB_15 := hB_10.trans (hBB.mono hB_10.size); clear hu_7 hbv_8 hRc_9 hux hB_10 hBB; go_frame)
      | ((with_reducible change wpList _ _ _ (Oper.mk none _ _ _ _ _ :: _) _ _); refine kStoreCoin _ _ _ XC.value ux XC.height XC.base _ hX1 rfl hux_14 rfl rfl rfl rfl ?_; intro b1 hY1 hW1; have hn1 := coin_noByte 0 0 false (isVals_nil a1); have hu_16 := vals_wroteN hu_11 hX1 hn1 hW1; have hbv_17 := vals_wroteN hbv_12 hX1 hn1 hW1; have hRc_18 := hW1.row hRc_13 nehRc_1; have hux_19 := vals_wroteN hux_14 hX1 hn1 hW1; have hB_20 := hB_15.trans (hW1.below le1); have hR1 : Row b1 w3.heap.size 29 (coinV XC ux) := hY1; clear hX1 hY1 hW1 hn1 le1 hu_11 hbv_12 hRc_13 hux_14 hB_15; go_frame))
    refine region_mixD [(0, true), (1, true), (2, true), (3, true), (4, false), (5, true), (6, true), (7, true), (10, true), (11, true), (8, false), (9, true), (12, true), (13, true), (14, true), (15, true), (16, true), (17, true), (18, true), (19, true), (20, true), (21, true), (22, true), (23, true), (24, true), (25, true), (26, true), (27, true), (28, true), (29, true), (30, true), (31, true), (32, true)] (fun w => (IsVals w bv (b.map VB)) ∧ (Row w W0.heap.size 29 (coinV c u)) ∧ (Row w w3.heap.size 29 (coinV XC ux))) (by kernel_rfl) (by kernel_rfl) rfl ?_
    intro q0 hBd hsd
    clear hsd
    have hu_21 := hu_16.below hBd
    have hbv_22 := hbv_17.below hBd
    have hRc_23 := hRc_18.below hBd hRc_18.lt
    have hux_24 := hux_19.below hBd
    have hR1_25 := hR1.below hBd hR1.lt
    have hB_26 := hB_20.trans (hBd.mono hB_20.size)
    clear hu_16 hbv_17 hRc_18 hux_19 hR1 hB_20 hBd
    simp only [List.map_cons, List.map_nil]
    dsimp only [List.filterMap, List.getElem?_cons_zero, List.getElem?_cons_succ]
    have hS : (IsVals q0 bv (b.map VB)) ∧ (Row q0 W0.heap.size 29 (coinV c u)) ∧ (Row q0 w3.heap.size 29 (coinV XC ux)) := ⟨hbv_22, hRc_23, hR1_25⟩
    refine dY _ hS (yMove _ (.int .i64 ((0 : Nat) : Int)) rfl rfl rfl) ?_; go_frame
    refine dY _ hS (yEqlIC _ _ _ _ .i64 ((0 : Nat) : Int) 0 true rfl rfl rfl rfl (by decide)) ?_; go_frame
    refine dY _ hS (yMove _ (.bool true) rfl rfl rfl) ?_; go_frame
    refine dY _ hS (yLoadRowC Try.underlying29 rfl _ w3.heap.size (coinV XC ux) info_CoinC (fun _ h => h.2.2) rfl rfl rfl) ?_; go_frame
    refine dLoud ?_
    refine kCall1 29 _ _ _ rfl rfl (by kernel_rfl) rfl ?_
    refine (zRight_any _ hux_24).mono ?_
    rintro e q1 ⟨rfl, hBB⟩
    clear hS
    rw [hxr]
    have hu_27 := hu_21.below hBB
    have hbv_28 := hbv_22.below hBB
    have hRc_29 := hRc_23.below hBB hRc_23.lt
    have hux_30 := hux_24.below hBB
    have hR1_31 := hR1_25.below hBB hR1_25.lt
    have hB_32 := hB_26.trans (hBB.mono hB_26.size)
    clear hu_21 hbv_22 hRc_23 hux_24 hR1_25 hB_26 hBB
    have hS : (IsVals q1 bv (b.map VB)) ∧ (Row q1 W0.heap.size 29 (coinV c u)) ∧ (Row q1 w3.heap.size 29 (coinV XC ux)) := ⟨hbv_28, hRc_29, hR1_31⟩
    refine ⟨_, rfl, mixOn ⟨(fun w => (IsVals w bv (b.map VB)) ∧ (Row w W0.heap.size 29 (coinV c u)) ∧ (Row w w3.heap.size 29 (coinV XC ux))), (fun _ h => ⟨h.1, h.2.1, h.2.2⟩), hS, ?_⟩⟩
    go_frame
    refine dY _ hS (yNotC _ _ true rfl rfl rfl) ?_; go_frame
    refine dY _ hS (yMove _ (.bool false) rfl rfl rfl) ?_; go_frame
    refine dY _ hS (yLoadRowC Try.underlying29 rfl _ w3.heap.size (coinV XC ux) info_CoinC (fun _ h => h.2.2) rfl rfl rfl) ?_; go_frame
    refine dY _ hS (yMove _ (bv) rfl rfl rfl) ?_; go_frame
    refine dY _ hS (yStr _ _ _ _ bv (b) rfl rfl rfl (fun _ h => h.1) Try.underlying25 Try.underlying5 Try.underlying9) ?_; go_frame
    refine dLoud ?_
    refine kCall1 30 _ _ _ rfl rfl (by kernel_rfl) rfl ?_
    refine (zBytes_any _ hux_30 (by omega)).mono ?_
    rintro e q2 ⟨v34, rfl, hO, hBB⟩
    clear hS
    rw [hxb] at hO
    have hv34 := hO.vals
    clear hO
    have hu_33 := hu_27.below hBB
    have hbv_34 := hbv_28.below hBB
    have hRc_35 := hRc_29.below hBB hRc_29.lt
    have hux_36 := hux_30.below hBB
    have hR1_37 := hR1_31.below hBB hR1_31.lt
    have hB_38 := hB_32.trans (hBB.mono hB_32.size)
    clear hu_27 hbv_28 hRc_29 hux_30 hR1_31 hB_32 hBB
    have hS : (IsVals q2 bv (b.map VB)) ∧ (Row q2 W0.heap.size 29 (coinV c u)) ∧ (Row q2 w3.heap.size 29 (coinV XC ux)) ∧ (IsVals q2 v34 (b.map VB)) := ⟨hbv_34, hRc_35, hR1_37, hv34⟩
    refine ⟨_, rfl, mixOn ⟨(fun w => (IsVals w bv (b.map VB)) ∧ (Row w W0.heap.size 29 (coinV c u)) ∧ (Row w w3.heap.size 29 (coinV XC ux)) ∧ (IsVals w v34 (b.map VB))), (fun _ h => ⟨h.1, h.2.1, h.2.2.1⟩), hS, ?_⟩⟩
    go_frame
    refine dY _ hS (yStr _ _ _ _ v34 (b) rfl rfl rfl (fun _ h => h.2.2.2) Try.underlying25 Try.underlying5 Try.underlying9) ?_; go_frame
    refine dY _ hS (yNeqStr _ _ _ _ (b) (b) false rfl rfl rfl rfl (by simp)) ?_; go_frame
    refine dY _ hS (yPick _ _ _ false (.bool false) rfl rfl rfl rfl) ?_; go_frame
    refine dY _ hS (yPick _ _ _ true (.bool false) rfl rfl rfl rfl) ?_; go_frame
    refine dY _ hS (yMove _ (.bool false) rfl rfl rfl) ?_; go_frame
    refine dY _ hS (yMove _ (.int .i64 ((0 : Nat) : Int)) rfl rfl rfl) ?_; go_frame
    refine dY _ hS (yNeqI _ _ _ _ .i64 (((0 : Nat) : Int)) 0 false rfl rfl rfl rfl (by decide)) ?_; go_frame
    refine dY _ hS (yMove _ (.bool false) rfl rfl rfl) ?_; go_frame
    refine dY _ hS (ySkip rfl) ?_; go_frame
    refine dY _ hS (ySkip rfl) ?_; go_frame
    refine dY _ hS (ySkip rfl) ?_; go_frame
    refine dY _ hS (ySkip rfl) ?_; go_frame
    refine dY _ hS (ySkip rfl) ?_; go_frame
    refine dY _ hS (ySkip rfl) ?_; go_frame
    refine dY _ hS (ySkip rfl) ?_; go_frame
    refine dY _ hS (ySkip rfl) ?_; go_frame
    refine dY _ hS (ySkip rfl) ?_; go_frame
    refine dY _ hS (ySkip rfl) ?_; go_frame
    refine dY _ hS (ySkip rfl) ?_; go_frame
    refine dY _ hS (ySkip rfl) ?_; go_frame
    refine dY _ hS (yPick _ _ _ false (.bool false) rfl rfl rfl rfl) ?_; go_frame
    refine dY _ hS (yPick _ _ _ false (.bool false) rfl rfl rfl rfl) ?_; go_frame
    refine dDone ?_
    clear hS
    go_wp2_with (first
      | ((with_reducible change wpList _ _ _ (Oper.mk (some 59) _ _ _ _ _ :: _) _ _); refine kLoadCoin _ _ c.value u c.height c.base hRc_35 rfl rfl rfl ?_; go_frame)
      | (go_at_call 29; refine (zRight_any (c := c) _ hu_33).mono ?_; rintro e z1 ⟨rfl, hBB⟩; rw [hcr]; have hu_39 := hu_33.below hBB; have hRc_40 := hRc_35.below hBB hRc_35.lt; have hB_41 := hB_38.trans (hBB.mono hB_38.size); clear hu_33 hRc_35 hB_38 hBB; go_frame)
      | ((with_reducible change wpList _ _ _ (Oper.mk (some 62) _ _ _ _ _ :: _) _ _); refine kLoadCoin _ _ c.value u c.height c.base hRc_40 rfl rfl rfl ?_; go_frame)
      | (go_at_call 32; refine (coBytes_any (c := c) _ hu_39 (by omega)).mono ?_; rintro e z2 ⟨vp, rfl, hO, hBB⟩; have hp := own_less hB_41.size hO; clear hO; have hu_42 := hu_39.below hBB; have hRc_43 := hRc_40.below hBB hRc_40.lt; have hB_44 := hB_41.trans (hBB.mono hB_41.size); clear hu_39 hRc_40 hB_41 hBB; go_frame)
      | (go_at_call 9; (with_reducible change Calls _ _ #[vp] _ _); refine (hpc _ _ hp.vals).mono ?_; rintro e z3 ⟨uy, rfl, hO, hBB⟩; have huy := hO.vals; clear hO; have hu_45 := hu_42.below hBB; have hRc_46 := hRc_43.below hBB hRc_43.lt; have hp_47 := hp.below hBB; have hB_48 := hB_44.trans (hBB.mono hB_44.size); clear hu_42 hRc_43 hp hB_44 hBB; go_frame)
      | ((with_reducible change wpList _ _ _ (Oper.mk (some 10) _ _ _ _ _ :: _) _ _); refine kAllocL _ _ rfl rfl zero_CoinC ?_; intro a2 hX2 hz hBB; clear hz; have nehRc_2 := Nat.ne_of_lt hRc_46.lt; have le2 := hB_48.size; have hu_49 := hu_45.below hBB; have hRc_50 := hRc_46.below hBB hRc_46.lt; have hp_51 := hp_47.below hBB; have huy_52 := huy.below hBB; have hB_53 := hB_48.trans (hBB.mono hB_48.size); clear hu_45 hRc_46 hp_47 huy hB_48 hBB; go_frame)
      | ((with_reducible change wpList _ _ _ (Oper.mk none _ _ _ _ _ :: _) _ _); refine kStoreCoin _ _ _ c.value uy c.height c.base _ hX2 rfl huy_52 rfl rfl rfl rfl ?_; intro b2 hY2 hW2; have hn2 := coin_noByte 0 0 false (isVals_nil a2); have hu_54 := vals_wroteN hu_49 hX2 hn2 hW2; have hRc_55 := hW2.row hRc_50 nehRc_2; have hp_56 := own_wroteN hp_51 hX2 (by decide) hW2; have huy_57 := vals_wroteN huy_52 hX2 hn2 hW2; have hB_58 := hB_53.trans (hW2.below le2); have hR2 : Row b2 z3.heap.size 29 (coinV c uy) := hY2; clear hX2 hY2 hW2 hn2 le2 hu_49 hRc_50 hp_51 huy_52 hB_53; go_frame))
    have hpv := hp_56.vals
    refine region_mixD [(0, true), (1, true), (2, true), (3, false), (4, true), (5, true), (6, true), (7, true), (8, true), (9, true), (10, true), (11, true), (12, true), (13, false), (14, true), (15, true)] (fun w => (Row w W0.heap.size 29 (coinV c u)) ∧ (Row w z3.heap.size 29 (coinV c uy)) ∧ (IsVals w vp ((coinL c).map VB))) (by kernel_rfl) (by kernel_rfl) rfl ?_
    intro s0 hBd hsd
    clear hsd
    have hu_59 := hu_54.below hBd
    have hRc_60 := hRc_55.below hBd hRc_55.lt
    have hp_61 := hp_56.below hBd
    have huy_62 := huy_57.below hBd
    have hR2_63 := hR2.below hBd hR2.lt
    have hpv_64 := hpv.below hBd
    have hB_65 := hB_58.trans (hBd.mono hB_58.size)
    clear hu_54 hRc_55 hp_56 huy_57 hR2 hpv hB_58 hBd
    simp only [List.map_cons, List.map_nil]
    dsimp only [List.filterMap, List.getElem?_cons_zero, List.getElem?_cons_succ]
    have hS : (Row s0 W0.heap.size 29 (coinV c u)) ∧ (Row s0 z3.heap.size 29 (coinV c uy)) ∧ (IsVals s0 vp ((coinL c).map VB)) := ⟨hRc_60, hR2_63, hpv_64⟩
    refine dY _ hS (yMove _ (vp) rfl rfl rfl) ?_; go_frame
    refine dY _ hS (yStr _ _ _ _ vp (coinL c) rfl rfl rfl (fun _ h => h.2.2) Try.underlying25 Try.underlying5 Try.underlying9) ?_; go_frame
    refine dY _ hS (yLoadRowC Try.underlying29 rfl _ W0.heap.size (coinV c u) info_CoinC (fun _ h => h.1) rfl rfl rfl) ?_; go_frame
    refine dLoud ?_
    refine kCall1 30 _ _ _ rfl rfl (by kernel_rfl) rfl ?_
    refine (zBytes_any (c := c) _ hu_59 (by omega)).mono ?_
    rintro e s1 ⟨v72, rfl, hO, hBB⟩
    clear hS
    have hv72 := hO.vals
    clear hO
    have hu_66 := hu_59.below hBB
    have hRc_67 := hRc_60.below hBB hRc_60.lt
    have hp_68 := hp_61.below hBB
    have huy_69 := huy_62.below hBB
    have hR2_70 := hR2_63.below hBB hR2_63.lt
    have hpv_71 := hpv_64.below hBB
    have hB_72 := hB_65.trans (hBB.mono hB_65.size)
    clear hu_59 hRc_60 hp_61 huy_62 hR2_63 hpv_64 hB_65 hBB
    have hS : (Row s1 W0.heap.size 29 (coinV c u)) ∧ (Row s1 z3.heap.size 29 (coinV c uy)) ∧ (IsVals s1 vp ((coinL c).map VB)) ∧ (IsVals s1 v72 ((coinL c).map VB)) := ⟨hRc_67, hR2_70, hpv_71, hv72⟩
    refine ⟨_, rfl, mixOn ⟨(fun w => (Row w W0.heap.size 29 (coinV c u)) ∧ (Row w z3.heap.size 29 (coinV c uy)) ∧ (IsVals w vp ((coinL c).map VB)) ∧ (IsVals w v72 ((coinL c).map VB))), (fun _ h => ⟨h.1, h.2.1, h.2.2.1⟩), hS, ?_⟩⟩
    go_frame
    refine dY _ hS (yStr _ _ _ _ v72 (coinL c) rfl rfl rfl (fun _ h => h.2.2.2) Try.underlying25 Try.underlying5 Try.underlying9) ?_; go_frame
    refine dY _ hS (yNeqStr _ _ _ _ (coinL c) (coinL c) false rfl rfl rfl rfl (by simp)) ?_; go_frame
    refine dY _ hS (yMove _ (.bool false) rfl rfl rfl) ?_; go_frame
    refine dY _ hS (yMove _ (.int .i64 ((0 : Nat) : Int)) rfl rfl rfl) ?_; go_frame
    refine dY _ hS (yNeqI _ _ _ _ .i64 (((0 : Nat) : Int)) 0 false rfl rfl rfl rfl (by decide)) ?_; go_frame
    refine dY _ hS (yPick _ _ _ false (.bool false) rfl rfl rfl rfl) ?_; go_frame
    refine dY _ hS (yMove _ (.bool false) rfl rfl rfl) ?_; go_frame
    refine dY _ hS (yLoadRowC Try.underlying29 rfl _ z3.heap.size (coinV c uy) info_CoinC (fun _ h => h.2.1) rfl rfl rfl) ?_; go_frame
    refine dY _ hS (yLoadRowC Try.underlying29 rfl _ W0.heap.size (coinV c u) info_CoinC (fun _ h => h.1) rfl rfl rfl) ?_; go_frame
    refine dLoud ?_
    refine kCall2 31 _ _ _ _ _ rfl rfl (by kernel_rfl) rfl rfl ?_
    refine (zSameCoin_any (c := c) (d := c) _ huy_69 hu_66).mono ?_
    rintro e s2 ⟨rfl, hBB⟩
    clear hS
    rw [sameC_refl]
    have hu_73 := hu_66.below hBB
    have hRc_74 := hRc_67.below hBB hRc_67.lt
    have hp_75 := hp_68.below hBB
    have huy_76 := huy_69.below hBB
    have hR2_77 := hR2_70.below hBB hR2_70.lt
    have hpv_78 := hpv_71.below hBB
    have hv72_79 := hv72.below hBB
    have hB_80 := hB_72.trans (hBB.mono hB_72.size)
    clear hu_66 hRc_67 hp_68 huy_69 hR2_70 hpv_71 hv72 hB_72 hBB
    have hS : (Row s2 W0.heap.size 29 (coinV c u)) ∧ (Row s2 z3.heap.size 29 (coinV c uy)) ∧ (IsVals s2 vp ((coinL c).map VB)) ∧ (IsVals s2 v72 ((coinL c).map VB)) := ⟨hRc_74, hR2_77, hpv_78, hv72_79⟩
    refine ⟨_, rfl, mixOn ⟨(fun w => (Row w W0.heap.size 29 (coinV c u)) ∧ (Row w z3.heap.size 29 (coinV c uy)) ∧ (IsVals w vp ((coinL c).map VB)) ∧ (IsVals w v72 ((coinL c).map VB))), (fun _ h => ⟨h.1, h.2.1, h.2.2.1, h.2.2.2⟩), hS, ?_⟩⟩
    go_frame
    refine dY _ hS (yNotC _ _ true rfl rfl rfl) ?_; go_frame
    refine dY _ hS (yPick _ _ _ false (.bool false) rfl rfl rfl rfl) ?_; go_frame
    refine dDone ?_
    clear hS
    go_wp2_with (first
      | ((with_reducible change wpList _ _ _ (Oper.mk (some 86) _ _ _ _ _ :: _) _ _); refine kLssI _ _ _ _ .i64 cut 0 _ rfl rfl rfl rfl hl1 ?_; go_frame)
      | ((with_reducible change wpList _ _ _ (Oper.mk (some 90) _ _ _ _ _ :: _) _ _); refine kLenN _ _ _ vp _ M rfl rfl rfl hp_75.vals (by rw [List.length_map, hM]) Try.underlying25 ?_; go_frame)
      | ((with_reducible change wpList _ _ _ (Oper.mk (some 91) _ _ _ _ _ :: _) _ _); refine kGeqI _ _ _ _ .i64 cut (M : Int) _ rfl rfl rfl rfl hl2 ?_; go_frame)
      | ((with_reducible change wpList _ _ _ (Oper.mk (some 95) _ _ _ _ _ :: _) _ _); refine kBuildSlice1 _ _ _ (VB 0) rfl rfl Try.underlying25 i _ hi hz hs1 rfl rfl ?_; intro y1 hRr hzz hBB; have hV1 : IsVals y1 _ (([0] : List UInt8).map VB) := isVals_lit (l := [VB 0]) hRr; clear hzz hRr; have hp_81 := hp_75.below hBB; have hB_82 := hB_80.trans (hBB.mono hB_80.size); clear hp_75 hB_80 hBB; go_frame)
      | ((with_reducible change wpList _ _ _ (Oper.mk (some 96) _ _ _ _ _ :: _) _ _); refine kAppB _ _ rfl rfl W0.heap.size _ _ (coinL c) [0] hp_81 hV1 rfl rfl (by simp; omega) hB_82.size ?_; intro v96 y2 hO2 hC2; have hB9 := hB_82.trans hC2; have hV2 := hO2.vals; clear hO2 hC2 hV1; go_frame)
      | (go_at_call 9; refine (hpm _ _ hV2).mono ?_; rintro e y3 ⟨uz, rfl, hO, hBB⟩; have huz := hO.vals; clear hO; have hB_83 := hB9.trans (hBB.mono hB9.size); clear hB9 hBB; go_frame)
      | ((with_reducible change wpList _ _ _ (Oper.mk (some 12) _ _ _ _ _ :: _) _ _); refine kAllocL _ _ rfl rfl zero_CoinC ?_; intro a3 hX3 hz hBB; clear hz; have le3 := hB_83.size; have huz_84 := huz.below hBB; have hB_85 := hB_83.trans (hBB.mono hB_83.size); clear huz hB_83 hBB; go_frame)
      | ((with_reducible change wpList _ _ _ (Oper.mk none _ _ _ _ _ :: _) _ _); refine kStoreCoin _ _ _ noCoin.value uz noCoin.height noCoin.base _ hX3 rfl huz_84 rfl rfl rfl rfl ?_; intro b3 hY3 hW3; have hn3 := coin_noByte 0 0 false (isVals_nil a3); have huz_86 := vals_wroteN huz_84 hX3 hn3 hW3; have hB_87 := hB_85.trans (hW3.below le3); have hR3 : Row b3 y3.heap.size 29 (coinV noCoin uz) := hY3; clear hX3 hY3 hW3 hn3 le3 huz_84 hB_85; go_frame)
      | ((with_reducible change wpList _ _ _ (Oper.mk (some 101) _ _ _ _ _ :: _) _ _); refine kEqlI _ _ _ _ .i64 ((62 : Nat) : Int) 62 true rfl rfl rfl rfl (by decide) ?_; go_frame))
    go_ret
    exact ⟨rfl, hB_87⟩
set_option maxRecDepth 100000 in
set_option maxHeartbeats 8000000 in
theorem coinBytes_cut0 {c : CoinP} {b : List UInt8} {u bv : Value} {cut : Int} (W0 : World) (hu : IsVals W0 u (c.lock.map VB)) (hbv : IsVals W0 bv (b.map VB)) (hb : b.length ≤ 2500) {XC : CoinP} (hx : parseC b = (XC, 0)) (hcr : rightC c = true) (hct : 0 ≤ cut ∧ cut < ((coinL c).length : Int)) : Calls Try.prog 6 #[.agg (coinV c u), bv, .int .i64 cut] W0 (AlivePost W0) := by
  obtain ⟨i, hi, hz, hs1, hby⟩ := b8Info
  obtain ⟨k, hk⟩ : ∃ k, b.length = k := ⟨_, rfl⟩
  have d1 : decide ((k : Int) > 2500) = false := by simp; omega
  have hps : ∀ (w : World) (v : Value), IsVals w v (b.map VB) → Calls Try.prog 9 #[v] w (ParsePost w (XC, 0)) := fun w v h => by rw [← hx]; exact coParse_any w h (by omega)
  obtain ⟨hxr, hxb⟩ := parse_right hx
  have hxl := (rightC_iff.1 hxr).2.1
  have hcl2 := (rightC_iff.1 hcr).2.1
  have hLl : (coinL c).length ≤ 3000 := by have h1 := countL_le (stampN c.height c.base); have h2 := outL_le (n := c.value) hcl2; unfold coinL; rw [List.length_append]; omega
  have hpc : ∀ (w : World) (v : Value), IsVals w v ((coinL c).map VB) → Calls Try.prog 9 #[v] w (ParsePost w (c, 0)) := fun w v h => by rw [← parse_back hcr]; exact coParse_any w h (by omega)
  obtain ⟨M, hM⟩ : ∃ M, (coinL c).length = M := ⟨_, rfl⟩
  obtain ⟨n, rfl⟩ : ∃ n : Nat, cut = (n : Int) := ⟨cut.toNat, by omega⟩
  have hl1 : decide ((n : Int) < 0) = false := by simp
  have hl2 : decide ((n : Int) ≥ (M : Int)) = false := by simp; omega
  obtain ⟨ZC, hZC⟩ := pair_of (parse_cut hcr (cut := n) (by omega))
  have hpm : ∀ (w : World) (v : Value), IsVals w v (((coinL c).take n).map VB) → Calls Try.prog 9 #[v] w (ParsePost w (ZC, 61)) := fun w v h => by rw [← hZC]; exact coParse_any w h (by rw [List.length_take]; omega)
  go_enter Try.func6, Try.ntmps6
  go_wp2_with (first
    | ((with_reducible change wpList _ _ _ (Oper.mk (some 3) _ _ _ _ _ :: _) _ _); refine kBoxL _ _ _ rfl rfl rfl ?_; intro w1 hRc hz1 hB0; clear hz1; have hu_1 := hu.below hB0; have hbv_2 := hbv.below hB0; clear hu hbv; go_frame)
    | (go_at_call 10; refine (coinAlive_any _).mono ?_; rintro e w2 ⟨rfl, hBB⟩; have hu_3 := hu_1.below hBB; have hbv_4 := hbv_2.below hBB; have hRc_5 := hRc.below hBB hRc.lt; have hB_6 := hB0.trans (hBB.mono hB0.size); clear hu_1 hbv_2 hRc hB0 hBB; go_frame)
    | ((with_reducible change wpList _ _ _ (Oper.mk (some 19) _ _ _ _ _ :: _) _ _); refine kLenN _ _ _ bv _ k rfl rfl rfl hbv_4 (by rw [List.length_map, hk]) Try.underlying25 ?_; go_frame)
    | ((with_reducible change wpList _ _ _ (Oper.mk (some 20) _ _ _ _ _ :: _) _ _); refine kGtrI _ _ _ _ .i64 (k : Int) 2500 false rfl rfl rfl rfl d1 ?_; go_frame)
    | (go_at_call 9; (with_reducible change Calls _ _ #[bv] _ _); refine (hps _ _ hbv_4).mono ?_; rintro e w3 ⟨ux, rfl, hO, hBB⟩; have hux := hO.vals; clear hO; have hu_7 := hu_3.below hBB; have hbv_8 := hbv_4.below hBB; have hRc_9 := hRc_5.below hBB hRc_5.lt; have hB_10 := hB_6.trans (hBB.mono hB_6.size); clear hu_3 hbv_4 hRc_5 hB_6 hBB; go_frame)
    | ((with_reducible change wpList _ _ _ (Oper.mk (some 7) _ _ _ _ _ :: _) _ _); refine kAllocL _ _ rfl rfl zero_CoinC ?_; intro a1 hX1 hz hBB; clear hz; have nehRc_1 := Nat.ne_of_lt hRc_9.lt; have le1 := hB_10.size; have hu_11 := hu_7.below hBB; have hbv_12 := hbv_8.below hBB; have hRc_13 := hRc_9.below hBB hRc_9.lt; have hux_14 := hux.below hBB; have hB_15 := hB_10.trans (hBB.mono hB_10.size); clear hu_7 hbv_8 hRc_9 hux hB_10 hBB; go_frame)
    | ((with_reducible change wpList _ _ _ (Oper.mk none _ _ _ _ _ :: _) _ _); refine kStoreCoin _ _ _ XC.value ux XC.height XC.base _ hX1 rfl hux_14 rfl rfl rfl rfl ?_; intro b1 hY1 hW1; have hn1 := coin_noByte 0 0 false (isVals_nil a1); have hu_16 := vals_wroteN hu_11 hX1 hn1 hW1; have hbv_17 := vals_wroteN hbv_12 hX1 hn1 hW1; have hRc_18 := hW1.row hRc_13 nehRc_1; have hux_19 := vals_wroteN hux_14 hX1 hn1 hW1; have hB_20 := hB_15.trans (hW1.below le1); have hR1 : Row b1 w3.heap.size 29 (coinV XC ux) := hY1; clear hX1 hY1 hW1 hn1 le1 hu_11 hbv_12 hRc_13 hux_14 hB_15; go_frame))
  refine region_mixD [(0, true), (1, true), (2, true), (3, true), (4, false), (5, true), (6, true), (7, true), (10, true), (11, true), (8, false), (9, true), (12, true), (13, true), (14, true), (15, true), (16, true), (17, true), (18, true), (19, true), (20, true), (21, true), (22, true), (23, true), (24, true), (25, true), (26, true), (27, true), (28, true), (29, true), (30, true), (31, true), (32, true)] (fun w => (IsVals w bv (b.map VB)) ∧ (Row w W0.heap.size 29 (coinV c u)) ∧ (Row w w3.heap.size 29 (coinV XC ux))) (by kernel_rfl) (by kernel_rfl) rfl ?_
  intro q0 hBd hsd
  clear hsd
  have hu_21 := hu_16.below hBd
  have hbv_22 := hbv_17.below hBd
  have hRc_23 := hRc_18.below hBd hRc_18.lt
  have hux_24 := hux_19.below hBd
  have hR1_25 := hR1.below hBd hR1.lt
  have hB_26 := hB_20.trans (hBd.mono hB_20.size)
  clear hu_16 hbv_17 hRc_18 hux_19 hR1 hB_20 hBd
  simp only [List.map_cons, List.map_nil]
  dsimp only [List.filterMap, List.getElem?_cons_zero, List.getElem?_cons_succ]
  have hS : (IsVals q0 bv (b.map VB)) ∧ (Row q0 W0.heap.size 29 (coinV c u)) ∧ (Row q0 w3.heap.size 29 (coinV XC ux)) := ⟨hbv_22, hRc_23, hR1_25⟩
  refine dY _ hS (yMove _ (.int .i64 ((0 : Nat) : Int)) rfl rfl rfl) ?_; go_frame
  refine dY _ hS (yEqlIC _ _ _ _ .i64 ((0 : Nat) : Int) 0 true rfl rfl rfl rfl (by decide)) ?_; go_frame
  refine dY _ hS (yMove _ (.bool true) rfl rfl rfl) ?_; go_frame
  refine dY _ hS (yLoadRowC Try.underlying29 rfl _ w3.heap.size (coinV XC ux) info_CoinC (fun _ h => h.2.2) rfl rfl rfl) ?_; go_frame
  refine dLoud ?_
  refine kCall1 29 _ _ _ rfl rfl (by kernel_rfl) rfl ?_
  refine (zRight_any _ hux_24).mono ?_
  rintro e q1 ⟨rfl, hBB⟩
  clear hS
  rw [hxr]
  have hu_27 := hu_21.below hBB
  have hbv_28 := hbv_22.below hBB
  have hRc_29 := hRc_23.below hBB hRc_23.lt
  have hux_30 := hux_24.below hBB
  have hR1_31 := hR1_25.below hBB hR1_25.lt
  have hB_32 := hB_26.trans (hBB.mono hB_26.size)
  clear hu_21 hbv_22 hRc_23 hux_24 hR1_25 hB_26 hBB
  have hS : (IsVals q1 bv (b.map VB)) ∧ (Row q1 W0.heap.size 29 (coinV c u)) ∧ (Row q1 w3.heap.size 29 (coinV XC ux)) := ⟨hbv_28, hRc_29, hR1_31⟩
  refine ⟨_, rfl, mixOn ⟨(fun w => (IsVals w bv (b.map VB)) ∧ (Row w W0.heap.size 29 (coinV c u)) ∧ (Row w w3.heap.size 29 (coinV XC ux))), (fun _ h => ⟨h.1, h.2.1, h.2.2⟩), hS, ?_⟩⟩
  go_frame
  refine dY _ hS (yNotC _ _ true rfl rfl rfl) ?_; go_frame
  refine dY _ hS (yMove _ (.bool false) rfl rfl rfl) ?_; go_frame
  refine dY _ hS (yLoadRowC Try.underlying29 rfl _ w3.heap.size (coinV XC ux) info_CoinC (fun _ h => h.2.2) rfl rfl rfl) ?_; go_frame
  refine dY _ hS (yMove _ (bv) rfl rfl rfl) ?_; go_frame
  refine dY _ hS (yStr _ _ _ _ bv (b) rfl rfl rfl (fun _ h => h.1) Try.underlying25 Try.underlying5 Try.underlying9) ?_; go_frame
  refine dLoud ?_
  refine kCall1 30 _ _ _ rfl rfl (by kernel_rfl) rfl ?_
  refine (zBytes_any _ hux_30 (by omega)).mono ?_
  rintro e q2 ⟨v34, rfl, hO, hBB⟩
  clear hS
  rw [hxb] at hO
  have hv34 := hO.vals
  clear hO
  have hu_33 := hu_27.below hBB
  have hbv_34 := hbv_28.below hBB
  have hRc_35 := hRc_29.below hBB hRc_29.lt
  have hux_36 := hux_30.below hBB
  have hR1_37 := hR1_31.below hBB hR1_31.lt
  have hB_38 := hB_32.trans (hBB.mono hB_32.size)
  clear hu_27 hbv_28 hRc_29 hux_30 hR1_31 hB_32 hBB
  have hS : (IsVals q2 bv (b.map VB)) ∧ (Row q2 W0.heap.size 29 (coinV c u)) ∧ (Row q2 w3.heap.size 29 (coinV XC ux)) ∧ (IsVals q2 v34 (b.map VB)) := ⟨hbv_34, hRc_35, hR1_37, hv34⟩
  refine ⟨_, rfl, mixOn ⟨(fun w => (IsVals w bv (b.map VB)) ∧ (Row w W0.heap.size 29 (coinV c u)) ∧ (Row w w3.heap.size 29 (coinV XC ux)) ∧ (IsVals w v34 (b.map VB))), (fun _ h => ⟨h.1, h.2.1, h.2.2.1⟩), hS, ?_⟩⟩
  go_frame
  refine dY _ hS (yStr _ _ _ _ v34 (b) rfl rfl rfl (fun _ h => h.2.2.2) Try.underlying25 Try.underlying5 Try.underlying9) ?_; go_frame
  refine dY _ hS (yNeqStr _ _ _ _ (b) (b) false rfl rfl rfl rfl (by simp)) ?_; go_frame
  refine dY _ hS (yPick _ _ _ false (.bool false) rfl rfl rfl rfl) ?_; go_frame
  refine dY _ hS (yPick _ _ _ true (.bool false) rfl rfl rfl rfl) ?_; go_frame
  refine dY _ hS (yMove _ (.bool false) rfl rfl rfl) ?_; go_frame
  refine dY _ hS (yMove _ (.int .i64 ((0 : Nat) : Int)) rfl rfl rfl) ?_; go_frame
  refine dY _ hS (yNeqI _ _ _ _ .i64 (((0 : Nat) : Int)) 0 false rfl rfl rfl rfl (by decide)) ?_; go_frame
  refine dY _ hS (yMove _ (.bool false) rfl rfl rfl) ?_; go_frame
  refine dY _ hS (ySkip rfl) ?_; go_frame
  refine dY _ hS (ySkip rfl) ?_; go_frame
  refine dY _ hS (ySkip rfl) ?_; go_frame
  refine dY _ hS (ySkip rfl) ?_; go_frame
  refine dY _ hS (ySkip rfl) ?_; go_frame
  refine dY _ hS (ySkip rfl) ?_; go_frame
  refine dY _ hS (ySkip rfl) ?_; go_frame
  refine dY _ hS (ySkip rfl) ?_; go_frame
  refine dY _ hS (ySkip rfl) ?_; go_frame
  refine dY _ hS (ySkip rfl) ?_; go_frame
  refine dY _ hS (ySkip rfl) ?_; go_frame
  refine dY _ hS (ySkip rfl) ?_; go_frame
  refine dY _ hS (yPick _ _ _ false (.bool false) rfl rfl rfl rfl) ?_; go_frame
  refine dY _ hS (yPick _ _ _ false (.bool false) rfl rfl rfl rfl) ?_; go_frame
  refine dDone ?_
  clear hS
  go_wp2_with (first
    | ((with_reducible change wpList _ _ _ (Oper.mk (some 59) _ _ _ _ _ :: _) _ _); refine kLoadCoin _ _ c.value u c.height c.base hRc_35 rfl rfl rfl ?_; go_frame)
    | (go_at_call 29; refine (zRight_any (c := c) _ hu_33).mono ?_; rintro e z1 ⟨rfl, hBB⟩; rw [hcr]; have hu_39 := hu_33.below hBB; have hRc_40 := hRc_35.below hBB hRc_35.lt; have hB_41 := hB_38.trans (hBB.mono hB_38.size); clear hu_33 hRc_35 hB_38 hBB; go_frame)
    | ((with_reducible change wpList _ _ _ (Oper.mk (some 62) _ _ _ _ _ :: _) _ _); refine kLoadCoin _ _ c.value u c.height c.base hRc_40 rfl rfl rfl ?_; go_frame)
    | (go_at_call 32; refine (coBytes_any (c := c) _ hu_39 (by omega)).mono ?_; rintro e z2 ⟨vp, rfl, hO, hBB⟩; have hp := own_less hB_41.size hO; clear hO; have hu_42 := hu_39.below hBB; have hRc_43 := hRc_40.below hBB hRc_40.lt; have hB_44 := hB_41.trans (hBB.mono hB_41.size); clear hu_39 hRc_40 hB_41 hBB; go_frame)
    | (go_at_call 9; (with_reducible change Calls _ _ #[vp] _ _); refine (hpc _ _ hp.vals).mono ?_; rintro e z3 ⟨uy, rfl, hO, hBB⟩; have huy := hO.vals; clear hO; have hu_45 := hu_42.below hBB; have hRc_46 := hRc_43.below hBB hRc_43.lt; have hp_47 := hp.below hBB; have hB_48 := hB_44.trans (hBB.mono hB_44.size); clear hu_42 hRc_43 hp hB_44 hBB; go_frame)
    | ((with_reducible change wpList _ _ _ (Oper.mk (some 10) _ _ _ _ _ :: _) _ _); refine kAllocL _ _ rfl rfl zero_CoinC ?_; intro a2 hX2 hz hBB; clear hz; have nehRc_2 := Nat.ne_of_lt hRc_46.lt; have le2 := hB_48.size; have hu_49 := hu_45.below hBB; have hRc_50 := hRc_46.below hBB hRc_46.lt; have hp_51 := hp_47.below hBB; have huy_52 := huy.below hBB; have hB_53 := hB_48.trans (hBB.mono hB_48.size); clear hu_45 hRc_46 hp_47 huy hB_48 hBB; go_frame)
    | ((with_reducible change wpList _ _ _ (Oper.mk none _ _ _ _ _ :: _) _ _); refine kStoreCoin _ _ _ c.value uy c.height c.base _ hX2 rfl huy_52 rfl rfl rfl rfl ?_; intro b2 hY2 hW2; have hn2 := coin_noByte 0 0 false (isVals_nil a2); have hu_54 := vals_wroteN hu_49 hX2 hn2 hW2; have hRc_55 := hW2.row hRc_50 nehRc_2; have hp_56 := own_wroteN hp_51 hX2 (by decide) hW2; have huy_57 := vals_wroteN huy_52 hX2 hn2 hW2; have hB_58 := hB_53.trans (hW2.below le2); have hR2 : Row b2 z3.heap.size 29 (coinV c uy) := hY2; clear hX2 hY2 hW2 hn2 le2 hu_49 hRc_50 hp_51 huy_52 hB_53; go_frame))
  have hpv := hp_56.vals
  refine region_mixD [(0, true), (1, true), (2, true), (3, false), (4, true), (5, true), (6, true), (7, true), (8, true), (9, true), (10, true), (11, true), (12, true), (13, false), (14, true), (15, true)] (fun w => (Row w W0.heap.size 29 (coinV c u)) ∧ (Row w z3.heap.size 29 (coinV c uy)) ∧ (IsVals w vp ((coinL c).map VB))) (by kernel_rfl) (by kernel_rfl) rfl ?_
  intro s0 hBd hsd
  clear hsd
  have hu_59 := hu_54.below hBd
  have hRc_60 := hRc_55.below hBd hRc_55.lt
  have hp_61 := hp_56.below hBd
  have huy_62 := huy_57.below hBd
  have hR2_63 := hR2.below hBd hR2.lt
  have hpv_64 := hpv.below hBd
  have hB_65 := hB_58.trans (hBd.mono hB_58.size)
  clear hu_54 hRc_55 hp_56 huy_57 hR2 hpv hB_58 hBd
  simp only [List.map_cons, List.map_nil]
  dsimp only [List.filterMap, List.getElem?_cons_zero, List.getElem?_cons_succ]
  have hS : (Row s0 W0.heap.size 29 (coinV c u)) ∧ (Row s0 z3.heap.size 29 (coinV c uy)) ∧ (IsVals s0 vp ((coinL c).map VB)) := ⟨hRc_60, hR2_63, hpv_64⟩
  refine dY _ hS (yMove _ (vp) rfl rfl rfl) ?_; go_frame
  refine dY _ hS (yStr _ _ _ _ vp (coinL c) rfl rfl rfl (fun _ h => h.2.2) Try.underlying25 Try.underlying5 Try.underlying9) ?_; go_frame
  refine dY _ hS (yLoadRowC Try.underlying29 rfl _ W0.heap.size (coinV c u) info_CoinC (fun _ h => h.1) rfl rfl rfl) ?_; go_frame
  refine dLoud ?_
  refine kCall1 30 _ _ _ rfl rfl (by kernel_rfl) rfl ?_
  refine (zBytes_any (c := c) _ hu_59 (by omega)).mono ?_
  rintro e s1 ⟨v72, rfl, hO, hBB⟩
  clear hS
  have hv72 := hO.vals
  clear hO
  have hu_66 := hu_59.below hBB
  have hRc_67 := hRc_60.below hBB hRc_60.lt
  have hp_68 := hp_61.below hBB
  have huy_69 := huy_62.below hBB
  have hR2_70 := hR2_63.below hBB hR2_63.lt
  have hpv_71 := hpv_64.below hBB
  have hB_72 := hB_65.trans (hBB.mono hB_65.size)
  clear hu_59 hRc_60 hp_61 huy_62 hR2_63 hpv_64 hB_65 hBB
  have hS : (Row s1 W0.heap.size 29 (coinV c u)) ∧ (Row s1 z3.heap.size 29 (coinV c uy)) ∧ (IsVals s1 vp ((coinL c).map VB)) ∧ (IsVals s1 v72 ((coinL c).map VB)) := ⟨hRc_67, hR2_70, hpv_71, hv72⟩
  refine ⟨_, rfl, mixOn ⟨(fun w => (Row w W0.heap.size 29 (coinV c u)) ∧ (Row w z3.heap.size 29 (coinV c uy)) ∧ (IsVals w vp ((coinL c).map VB)) ∧ (IsVals w v72 ((coinL c).map VB))), (fun _ h => ⟨h.1, h.2.1, h.2.2.1⟩), hS, ?_⟩⟩
  go_frame
  refine dY _ hS (yStr _ _ _ _ v72 (coinL c) rfl rfl rfl (fun _ h => h.2.2.2) Try.underlying25 Try.underlying5 Try.underlying9) ?_; go_frame
  refine dY _ hS (yNeqStr _ _ _ _ (coinL c) (coinL c) false rfl rfl rfl rfl (by simp)) ?_; go_frame
  refine dY _ hS (yMove _ (.bool false) rfl rfl rfl) ?_; go_frame
  refine dY _ hS (yMove _ (.int .i64 ((0 : Nat) : Int)) rfl rfl rfl) ?_; go_frame
  refine dY _ hS (yNeqI _ _ _ _ .i64 (((0 : Nat) : Int)) 0 false rfl rfl rfl rfl (by decide)) ?_; go_frame
  refine dY _ hS (yPick _ _ _ false (.bool false) rfl rfl rfl rfl) ?_; go_frame
  refine dY _ hS (yMove _ (.bool false) rfl rfl rfl) ?_; go_frame
  refine dY _ hS (yLoadRowC Try.underlying29 rfl _ z3.heap.size (coinV c uy) info_CoinC (fun _ h => h.2.1) rfl rfl rfl) ?_; go_frame
  refine dY _ hS (yLoadRowC Try.underlying29 rfl _ W0.heap.size (coinV c u) info_CoinC (fun _ h => h.1) rfl rfl rfl) ?_; go_frame
  refine dLoud ?_
  refine kCall2 31 _ _ _ _ _ rfl rfl (by kernel_rfl) rfl rfl ?_
  refine (zSameCoin_any (c := c) (d := c) _ huy_69 hu_66).mono ?_
  rintro e s2 ⟨rfl, hBB⟩
  clear hS
  rw [sameC_refl]
  have hu_73 := hu_66.below hBB
  have hRc_74 := hRc_67.below hBB hRc_67.lt
  have hp_75 := hp_68.below hBB
  have huy_76 := huy_69.below hBB
  have hR2_77 := hR2_70.below hBB hR2_70.lt
  have hpv_78 := hpv_71.below hBB
  have hv72_79 := hv72.below hBB
  have hB_80 := hB_72.trans (hBB.mono hB_72.size)
  clear hu_66 hRc_67 hp_68 huy_69 hR2_70 hpv_71 hv72 hB_72 hBB
  have hS : (Row s2 W0.heap.size 29 (coinV c u)) ∧ (Row s2 z3.heap.size 29 (coinV c uy)) ∧ (IsVals s2 vp ((coinL c).map VB)) ∧ (IsVals s2 v72 ((coinL c).map VB)) := ⟨hRc_74, hR2_77, hpv_78, hv72_79⟩
  refine ⟨_, rfl, mixOn ⟨(fun w => (Row w W0.heap.size 29 (coinV c u)) ∧ (Row w z3.heap.size 29 (coinV c uy)) ∧ (IsVals w vp ((coinL c).map VB)) ∧ (IsVals w v72 ((coinL c).map VB))), (fun _ h => ⟨h.1, h.2.1, h.2.2.1, h.2.2.2⟩), hS, ?_⟩⟩
  go_frame
  refine dY _ hS (yNotC _ _ true rfl rfl rfl) ?_; go_frame
  refine dY _ hS (yPick _ _ _ false (.bool false) rfl rfl rfl rfl) ?_; go_frame
  refine dDone ?_
  clear hS
  go_wp2_with (first
    | ((with_reducible change wpList _ _ _ (Oper.mk (some 86) _ _ _ _ _ :: _) _ _); refine kLssI _ _ _ _ .i64 (n : Int) 0 false rfl rfl rfl rfl hl1 ?_; go_frame)
    | ((with_reducible change wpList _ _ _ (Oper.mk (some 90) _ _ _ _ _ :: _) _ _); refine kLenN _ _ _ vp _ M rfl rfl rfl hp_75.vals (by rw [List.length_map, hM]) Try.underlying25 ?_; go_frame)
    | ((with_reducible change wpList _ _ _ (Oper.mk (some 91) _ _ _ _ _ :: _) _ _); refine kGeqI _ _ _ _ .i64 (n : Int) (M : Int) false rfl rfl rfl rfl hl2 ?_; go_frame)
    | ((with_reducible change wpList _ _ _ (Oper.mk (some 105) _ _ _ _ _ :: _) _ _); refine kSliceTo _ _ vp (coinL c) n hp_75.vals (by omega) rfl rfl rfl rfl ?_; intro hV2; go_frame)
    | (go_at_call 9; refine (hpm _ _ hV2).mono ?_; rintro e y3 ⟨uz, rfl, hO, hBB⟩; have huz := hO.vals; clear hO hV2; have hp_81 := hp_75.below hBB; have hB_82 := hB_80.trans (hBB.mono hB_80.size); clear hp_75 hB_80 hBB; go_frame)
    | ((with_reducible change wpList _ _ _ (Oper.mk (some 14) _ _ _ _ _ :: _) _ _); refine kAllocL _ _ rfl rfl zero_CoinC ?_; intro a3 hX3 hz hBB; clear hz; have le3 := hB_82.size; have hp_83 := hp_81.below hBB; have huz_84 := huz.below hBB; have hB_85 := hB_82.trans (hBB.mono hB_82.size); clear hp_81 huz hB_82 hBB; go_frame)
    | ((with_reducible change wpList _ _ _ (Oper.mk none _ _ _ _ _ :: _) _ _); refine kStoreCoin _ _ _ ZC.value uz ZC.height ZC.base _ hX3 rfl huz_84 rfl rfl rfl rfl ?_; intro b3 hY3 hW3; have hn3 := coin_noByte 0 0 false (isVals_nil a3); have hp_86 := own_wroteN hp_83 hX3 (by decide) hW3; have huz_87 := vals_wroteN huz_84 hX3 hn3 hW3; have hB_88 := hB_85.trans (hW3.below le3); have hR3 : Row b3 y3.heap.size 29 (coinV ZC uz) := hY3; clear hX3 hY3 hW3 hn3 le3 hp_83 huz_84 hB_85; go_frame)
    | ((with_reducible change wpList _ _ _ (Oper.mk (some 110) _ _ _ _ _ :: _) _ _); refine kEqlI _ _ _ _ .i64 ((61 : Nat) : Int) 61 true rfl rfl rfl rfl (by decide) ?_; go_frame))
  go_ret
  exact ⟨rfl, hB_88⟩
set_option maxRecDepth 100000 in
set_option maxHeartbeats 8000000 in
theorem coinBytes_no61 {c : CoinP} {b : List UInt8} {u bv : Value} {cut : Int} (W0 : World) (hu : IsVals W0 u (c.lock.map VB)) (hbv : IsVals W0 bv (b.map VB)) (hb : b.length ≤ 2500) {XC : CoinP} (hx : parseC b = (XC, 61)) (hcr : rightC c = false) : Calls Try.prog 6 #[.agg (coinV c u), bv, .int .i64 cut] W0 (AlivePost W0) := by
  obtain ⟨i, hi, hz, hs1, hby⟩ := b8Info
  obtain ⟨k, hk⟩ : ∃ k, b.length = k := ⟨_, rfl⟩
  have d1 : decide ((k : Int) > 2500) = false := by simp; omega
  have hps : ∀ (w : World) (v : Value), IsVals w v (b.map VB) → Calls Try.prog 9 #[v] w (ParsePost w (XC, 61)) := fun w v h => by rw [← hx]; exact coParse_any w h (by omega)
  have hxn : Hid (XC = noCoin) := Lib.hid (by have := (parse_wrong (b := b) (by rw [hx]; simp)).1; rw [hx] at this; exact this)
  have hsm : sameC XC noCoin = true := by rw [hxn.out]; exact sameC_refl _
  clear hxn
  go_enter Try.func6, Try.ntmps6
  go_wp2_with (first
    | ((with_reducible change wpList _ _ _ (Oper.mk (some 3) _ _ _ _ _ :: _) _ _); refine kBoxL _ _ _ rfl rfl rfl ?_; intro w1 hRc hz1 hB0; clear hz1; have hu_1 := hu.below hB0; have hbv_2 := hbv.below hB0; clear hu hbv; go_frame)
    | (go_at_call 10; refine (coinAlive_any _).mono ?_; rintro e w2 ⟨rfl, hBB⟩; have hu_3 := hu_1.below hBB; have hbv_4 := hbv_2.below hBB; have hRc_5 := hRc.below hBB hRc.lt; have hB_6 := hB0.trans (hBB.mono hB0.size); clear hu_1 hbv_2 hRc hB0 hBB; go_frame)
    | ((with_reducible change wpList _ _ _ (Oper.mk (some 19) _ _ _ _ _ :: _) _ _); refine kLenN _ _ _ bv _ k rfl rfl rfl hbv_4 (by rw [List.length_map, hk]) Try.underlying25 ?_; go_frame)
    | ((with_reducible change wpList _ _ _ (Oper.mk (some 20) _ _ _ _ _ :: _) _ _); refine kGtrI _ _ _ _ .i64 (k : Int) 2500 false rfl rfl rfl rfl d1 ?_; go_frame)
    | (go_at_call 9; (with_reducible change Calls _ _ #[bv] _ _); refine (hps _ _ hbv_4).mono ?_; rintro e w3 ⟨ux, rfl, hO, hBB⟩; have hux := hO.vals; clear hO; have hu_7 := hu_3.below hBB; have hbv_8 := hbv_4.below hBB; have hRc_9 := hRc_5.below hBB hRc_5.lt; have hB_10 := hB_6.trans (hBB.mono hB_6.size); clear hu_3 hbv_4 hRc_5 hB_6 hBB; go_frame)
    | ((with_reducible change wpList _ _ _ (Oper.mk (some 7) _ _ _ _ _ :: _) _ _); refine kAllocL _ _ rfl rfl zero_CoinC ?_; intro a1 hX1 hz hBB; clear hz; have nehRc_1 := Nat.ne_of_lt hRc_9.lt; have le1 := hB_10.size; have hu_11 := hu_7.below hBB; have hbv_12 := hbv_8.below hBB; have hRc_13 := hRc_9.below hBB hRc_9.lt; have hux_14 := hux.below hBB; have hB_15 := hB_10.trans (hBB.mono hB_10.size); clear hu_7 hbv_8 hRc_9 hux hB_10 hBB; go_frame)
    | ((with_reducible change wpList _ _ _ (Oper.mk none _ _ _ _ _ :: _) _ _); refine kStoreCoin _ _ _ XC.value ux XC.height XC.base _ hX1 rfl hux_14 rfl rfl rfl rfl ?_; intro b1 hY1 hW1; have hn1 := coin_noByte 0 0 false (isVals_nil a1); have hu_16 := vals_wroteN hu_11 hX1 hn1 hW1; have hbv_17 := vals_wroteN hbv_12 hX1 hn1 hW1; have hRc_18 := hW1.row hRc_13 nehRc_1; have hux_19 := vals_wroteN hux_14 hX1 hn1 hW1; have hB_20 := hB_15.trans (hW1.below le1); have hR1 : Row b1 w3.heap.size 29 (coinV XC ux) := hY1; clear hX1 hY1 hW1 hn1 le1 hu_11 hbv_12 hRc_13 hux_14 hB_15; go_frame))
  refine region_mixD [(0, true), (1, true), (2, true), (3, true), (4, true), (5, true), (6, true), (7, true), (8, true), (9, true), (10, true), (11, true), (12, true), (13, true), (14, true), (15, true), (16, true), (17, true), (18, true), (19, true), (20, true), (21, false), (22, true), (23, true), (24, true), (25, true), (26, true), (27, true), (28, true), (29, true), (30, true), (31, true), (32, true)] (fun w => (IsVals w bv (b.map VB)) ∧ (Row w W0.heap.size 29 (coinV c u)) ∧ (Row w w3.heap.size 29 (coinV XC ux))) (by kernel_rfl) (by kernel_rfl) rfl ?_
  intro q0 hBd hsd
  clear hsd
  have hu_21 := hu_16.below hBd
  have hbv_22 := hbv_17.below hBd
  have hRc_23 := hRc_18.below hBd hRc_18.lt
  have hux_24 := hux_19.below hBd
  have hR1_25 := hR1.below hBd hR1.lt
  have hB_26 := hB_20.trans (hBd.mono hB_20.size)
  clear hu_16 hbv_17 hRc_18 hux_19 hR1 hB_20 hBd
  simp only [List.map_cons, List.map_nil]
  dsimp only [List.filterMap, List.getElem?_cons_zero, List.getElem?_cons_succ]
  have hS : (IsVals q0 bv (b.map VB)) ∧ (Row q0 W0.heap.size 29 (coinV c u)) ∧ (Row q0 w3.heap.size 29 (coinV XC ux)) := ⟨hbv_22, hRc_23, hR1_25⟩
  refine dY _ hS (yMove _ (.int .i64 ((61 : Nat) : Int)) rfl rfl rfl) ?_; go_frame
  refine dY _ hS (yEqlIC _ _ _ _ .i64 ((61 : Nat) : Int) 0 false rfl rfl rfl rfl (by decide)) ?_; go_frame
  refine dY _ hS (yMove _ (.bool false) rfl rfl rfl) ?_; go_frame
  refine dY _ hS (ySkip rfl) ?_; go_frame
  refine dY _ hS (ySkip rfl) ?_; go_frame
  refine dY _ hS (ySkip rfl) ?_; go_frame
  refine dY _ hS (ySkip rfl) ?_; go_frame
  refine dY _ hS (ySkip rfl) ?_; go_frame
  refine dY _ hS (ySkip rfl) ?_; go_frame
  refine dY _ hS (ySkip rfl) ?_; go_frame
  refine dY _ hS (ySkip rfl) ?_; go_frame
  refine dY _ hS (ySkip rfl) ?_; go_frame
  refine dY _ hS (ySkip rfl) ?_; go_frame
  refine dY _ hS (ySkip rfl) ?_; go_frame
  refine dY _ hS (yPick _ _ _ false (.bool false) rfl rfl rfl rfl) ?_; go_frame
  refine dY _ hS (yMove _ (.bool false) rfl rfl rfl) ?_; go_frame
  refine dY _ hS (yMove _ (.int .i64 ((61 : Nat) : Int)) rfl rfl rfl) ?_; go_frame
  refine dY _ hS (yNeqI _ _ _ _ .i64 (((61 : Nat) : Int)) 0 true rfl rfl rfl rfl (by decide)) ?_; go_frame
  refine dY _ hS (yMove _ (.bool true) rfl rfl rfl) ?_; go_frame
  refine dY _ hS (yLoadRowC Try.underlying29 rfl _ w3.heap.size (coinV XC ux) info_CoinC (fun _ h => h.2.2) rfl rfl rfl) ?_; go_frame
  refine dY _ hS (yBuildCoin0 rfl rfl) ?_; go_frame
  refine dLoud ?_
  refine kCall2 31 _ _ _ _ _ rfl rfl (by kernel_rfl) rfl rfl ?_
  refine (zSameCoin_any (c := XC) (d := noCoin) _ hux_24 (isVals_nil _)).mono ?_
  rintro e q1 ⟨rfl, hBB⟩
  clear hS
  rw [hsm]
  have hu_27 := hu_21.below hBB
  have hbv_28 := hbv_22.below hBB
  have hRc_29 := hRc_23.below hBB hRc_23.lt
  have hux_30 := hux_24.below hBB
  have hR1_31 := hR1_25.below hBB hR1_25.lt
  have hB_32 := hB_26.trans (hBB.mono hB_26.size)
  clear hu_21 hbv_22 hRc_23 hux_24 hR1_25 hB_26 hBB
  have hS : (IsVals q1 bv (b.map VB)) ∧ (Row q1 W0.heap.size 29 (coinV c u)) ∧ (Row q1 w3.heap.size 29 (coinV XC ux)) := ⟨hbv_28, hRc_29, hR1_31⟩
  refine ⟨_, rfl, mixOn ⟨(fun w => (IsVals w bv (b.map VB)) ∧ (Row w W0.heap.size 29 (coinV c u)) ∧ (Row w w3.heap.size 29 (coinV XC ux))), (fun _ h => ⟨h.1, h.2.1, h.2.2⟩), hS, ?_⟩⟩
  go_frame
  refine dY _ hS (yNotC _ _ true rfl rfl rfl) ?_; go_frame
  refine dY _ hS (yMove _ (.bool false) rfl rfl rfl) ?_; go_frame
  refine dY _ hS (yMove _ (.int .i64 ((61 : Nat) : Int)) rfl rfl rfl) ?_; go_frame
  refine dY _ hS (yNeqI _ _ _ _ .i64 (((61 : Nat) : Int)) 61 false rfl rfl rfl rfl (by decide)) ?_; go_frame
  refine dY _ hS (yMove _ (.bool false) rfl rfl rfl) ?_; go_frame
  refine dY _ hS (ySkip rfl) ?_; go_frame
  refine dY _ hS (ySkip rfl) ?_; go_frame
  refine dY _ hS (yPick _ _ _ false (.bool false) rfl rfl rfl rfl) ?_; go_frame
  refine dY _ hS (yPick _ _ _ false (.bool false) rfl rfl rfl rfl) ?_; go_frame
  refine dY _ hS (yPick _ _ _ true (.bool false) rfl rfl rfl rfl) ?_; go_frame
  refine dY _ hS (yPick _ _ _ false (.bool false) rfl rfl rfl rfl) ?_; go_frame
  refine dDone ?_
  clear hS
  go_wp2_with (first
    | ((with_reducible change wpList _ _ _ (Oper.mk (some 59) _ _ _ _ _ :: _) _ _); refine kLoadCoin _ _ c.value u c.height c.base hRc_29 rfl rfl rfl ?_; go_frame)
    | (go_at_call 29; refine (zRight_any (c := c) _ hu_27).mono ?_; rintro e z1 ⟨rfl, hBB⟩; rw [hcr]; have hu_33 := hu_27.below hBB; have hRc_34 := hRc_29.below hBB hRc_29.lt; have hB_35 := hB_32.trans (hBB.mono hB_32.size); clear hu_27 hRc_29 hB_32 hBB; go_frame))
  go_ret
  exact ⟨rfl, hB_35⟩
set_option maxRecDepth 100000 in
set_option maxHeartbeats 8000000 in
theorem coinBytes_more61 {c : CoinP} {b : List UInt8} {u bv : Value} {cut : Int} (W0 : World) (hu : IsVals W0 u (c.lock.map VB)) (hbv : IsVals W0 bv (b.map VB)) (hb : b.length ≤ 2500) {XC : CoinP} (hx : parseC b = (XC, 61)) (hcr : rightC c = true) (hct : cut < 0 ∨ ((coinL c).length : Int) ≤ cut) : Calls Try.prog 6 #[.agg (coinV c u), bv, .int .i64 cut] W0 (AlivePost W0) := by
  obtain ⟨i, hi, hz, hs1, hby⟩ := b8Info
  obtain ⟨k, hk⟩ : ∃ k, b.length = k := ⟨_, rfl⟩
  have d1 : decide ((k : Int) > 2500) = false := by simp; omega
  have hps : ∀ (w : World) (v : Value), IsVals w v (b.map VB) → Calls Try.prog 9 #[v] w (ParsePost w (XC, 61)) := fun w v h => by rw [← hx]; exact coParse_any w h (by omega)
  have hxn : Hid (XC = noCoin) := Lib.hid (by have := (parse_wrong (b := b) (by rw [hx]; simp)).1; rw [hx] at this; exact this)
  have hsm : sameC XC noCoin = true := by rw [hxn.out]; exact sameC_refl _
  clear hxn
  have hcl2 := (rightC_iff.1 hcr).2.1
  have hLl : (coinL c).length ≤ 3000 := by have h1 := countL_le (stampN c.height c.base); have h2 := outL_le (n := c.value) hcl2; unfold coinL; rw [List.length_append]; omega
  have hpc : ∀ (w : World) (v : Value), IsVals w v ((coinL c).map VB) → Calls Try.prog 9 #[v] w (ParsePost w (c, 0)) := fun w v h => by rw [← parse_back hcr]; exact coParse_any w h (by omega)
  have hpm : ∀ (w : World) (v : Value), IsVals w v ((coinL c ++ [0]).map VB) → Calls Try.prog 9 #[v] w (ParsePost w (noCoin, 62)) := fun w v h => by rw [← parse_more hcr]; exact coParse_any w h (by simp; omega)
  obtain ⟨M, hM⟩ : ∃ M, (coinL c).length = M := ⟨_, rfl⟩
  obtain ⟨b1, hl1⟩ : ∃ b, decide (cut < 0) = b := ⟨_, rfl⟩
  obtain ⟨b2, hl2⟩ : ∃ b, decide (cut ≥ (M : Int)) = b := ⟨_, rfl⟩
  by_cases g1 : cut < 0
  · obtain rfl : b1 = true := by rw [← hl1]; simp; exact g1
    clear g1 hct
    go_enter Try.func6, Try.ntmps6
    go_wp2_with (first
      | ((with_reducible change wpList _ _ _ (Oper.mk (some 3) _ _ _ _ _ :: _) _ _); refine kBoxL _ _ _ rfl rfl rfl ?_; intro w1 hRc hz1 hB0; clear hz1; have hu_1 := hu.below hB0; have hbv_2 := hbv.below hB0; clear hu hbv; go_frame)
      | (go_at_call 10; refine (coinAlive_any _).mono ?_; rintro e w2 ⟨rfl, hBB⟩; have hu_3 := hu_1.below hBB; have hbv_4 := hbv_2.below hBB; have hRc_5 := hRc.below hBB hRc.lt; have hB_6 := hB0.trans (hBB.mono hB0.size); clear hu_1 hbv_2 hRc hB0 hBB; go_frame)
      | ((with_reducible change wpList _ _ _ (Oper.mk (some 19) _ _ _ _ _ :: _) _ _); refine kLenN _ _ _ bv _ k rfl rfl rfl hbv_4 (by rw [List.length_map, hk]) Try.underlying25 ?_; go_frame)
      | ((with_reducible change wpList _ _ _ (Oper.mk (some 20) _ _ _ _ _ :: _) _ _); refine kGtrI _ _ _ _ .i64 (k : Int) 2500 false rfl rfl rfl rfl d1 ?_; go_frame)
      | (go_at_call 9; (with_reducible change Calls _ _ #[bv] _ _); refine (hps _ _ hbv_4).mono ?_; rintro e w3 ⟨ux, rfl, hO, hBB⟩; have hux := hO.vals; clear hO; have hu_7 := hu_3.below hBB; have hbv_8 := hbv_4.below hBB; have hRc_9 := hRc_5.below hBB hRc_5.lt; have hB_10 := hB_6.trans (hBB.mono hB_6.size); clear hu_3 hbv_4 hRc_5 hB_6 hBB; go_frame)
      | ((with_reducible change wpList _ _ _ (Oper.mk (some 7) _ _ _ _ _ :: _) _ _); refine kAllocL _ _ rfl rfl zero_CoinC ?_; intro a1 hX1 hz hBB; clear hz; have nehRc_1 := Nat.ne_of_lt hRc_9.lt; have le1 := hB_10.size; have hu_11 := hu_7.below hBB; have hbv_12 := hbv_8.below hBB; have hRc_13 := hRc_9.below hBB hRc_9.lt; have hux_14 := hux.below hBB; have hB_15 := hB_10.trans (hBB.mono hB_10.size); clear hu_7 hbv_8 hRc_9 hux hB_10 hBB; go_frame)
      | ((with_reducible change wpList _ _ _ (Oper.mk none _ _ _ _ _ :: _) _ _); refine kStoreCoin _ _ _ XC.value ux XC.height XC.base _ hX1 rfl hux_14 rfl rfl rfl rfl ?_; intro b1 hY1 hW1; have hn1 := coin_noByte 0 0 false (isVals_nil a1); have hu_16 := vals_wroteN hu_11 hX1 hn1 hW1; have hbv_17 := vals_wroteN hbv_12 hX1 hn1 hW1; have hRc_18 := hW1.row hRc_13 nehRc_1; have hux_19 := vals_wroteN hux_14 hX1 hn1 hW1; have hB_20 := hB_15.trans (hW1.below le1); have hR1 : Row b1 w3.heap.size 29 (coinV XC ux) := hY1; clear hX1 hY1 hW1 hn1 le1 hu_11 hbv_12 hRc_13 hux_14 hB_15; go_frame))
    refine region_mixD [(0, true), (1, true), (2, true), (3, true), (4, true), (5, true), (6, true), (7, true), (8, true), (9, true), (10, true), (11, true), (12, true), (13, true), (14, true), (15, true), (16, true), (17, true), (18, true), (19, true), (20, true), (21, false), (22, true), (23, true), (24, true), (25, true), (26, true), (27, true), (28, true), (29, true), (30, true), (31, true), (32, true)] (fun w => (IsVals w bv (b.map VB)) ∧ (Row w W0.heap.size 29 (coinV c u)) ∧ (Row w w3.heap.size 29 (coinV XC ux))) (by kernel_rfl) (by kernel_rfl) rfl ?_
    intro q0 hBd hsd
    clear hsd
    have hu_21 := hu_16.below hBd
    have hbv_22 := hbv_17.below hBd
    have hRc_23 := hRc_18.below hBd hRc_18.lt
    have hux_24 := hux_19.below hBd
    have hR1_25 := hR1.below hBd hR1.lt
    have hB_26 := hB_20.trans (hBd.mono hB_20.size)
    clear hu_16 hbv_17 hRc_18 hux_19 hR1 hB_20 hBd
    simp only [List.map_cons, List.map_nil]
    dsimp only [List.filterMap, List.getElem?_cons_zero, List.getElem?_cons_succ]
    have hS : (IsVals q0 bv (b.map VB)) ∧ (Row q0 W0.heap.size 29 (coinV c u)) ∧ (Row q0 w3.heap.size 29 (coinV XC ux)) := ⟨hbv_22, hRc_23, hR1_25⟩
    refine dY _ hS (yMove _ (.int .i64 ((61 : Nat) : Int)) rfl rfl rfl) ?_; go_frame
    refine dY _ hS (yEqlIC _ _ _ _ .i64 ((61 : Nat) : Int) 0 false rfl rfl rfl rfl (by decide)) ?_; go_frame
    refine dY _ hS (yMove _ (.bool false) rfl rfl rfl) ?_; go_frame
    refine dY _ hS (ySkip rfl) ?_; go_frame
    refine dY _ hS (ySkip rfl) ?_; go_frame
    refine dY _ hS (ySkip rfl) ?_; go_frame
    refine dY _ hS (ySkip rfl) ?_; go_frame
    refine dY _ hS (ySkip rfl) ?_; go_frame
    refine dY _ hS (ySkip rfl) ?_; go_frame
    refine dY _ hS (ySkip rfl) ?_; go_frame
    refine dY _ hS (ySkip rfl) ?_; go_frame
    refine dY _ hS (ySkip rfl) ?_; go_frame
    refine dY _ hS (ySkip rfl) ?_; go_frame
    refine dY _ hS (ySkip rfl) ?_; go_frame
    refine dY _ hS (yPick _ _ _ false (.bool false) rfl rfl rfl rfl) ?_; go_frame
    refine dY _ hS (yMove _ (.bool false) rfl rfl rfl) ?_; go_frame
    refine dY _ hS (yMove _ (.int .i64 ((61 : Nat) : Int)) rfl rfl rfl) ?_; go_frame
    refine dY _ hS (yNeqI _ _ _ _ .i64 (((61 : Nat) : Int)) 0 true rfl rfl rfl rfl (by decide)) ?_; go_frame
    refine dY _ hS (yMove _ (.bool true) rfl rfl rfl) ?_; go_frame
    refine dY _ hS (yLoadRowC Try.underlying29 rfl _ w3.heap.size (coinV XC ux) info_CoinC (fun _ h => h.2.2) rfl rfl rfl) ?_; go_frame
    refine dY _ hS (yBuildCoin0 rfl rfl) ?_; go_frame
    refine dLoud ?_
    refine kCall2 31 _ _ _ _ _ rfl rfl (by kernel_rfl) rfl rfl ?_
    refine (zSameCoin_any (c := XC) (d := noCoin) _ hux_24 (isVals_nil _)).mono ?_
    rintro e q1 ⟨rfl, hBB⟩
    clear hS
    rw [hsm]
    have hu_27 := hu_21.below hBB
    have hbv_28 := hbv_22.below hBB
    have hRc_29 := hRc_23.below hBB hRc_23.lt
    have hux_30 := hux_24.below hBB
    have hR1_31 := hR1_25.below hBB hR1_25.lt
    have hB_32 := hB_26.trans (hBB.mono hB_26.size)
    clear hu_21 hbv_22 hRc_23 hux_24 hR1_25 hB_26 hBB
    have hS : (IsVals q1 bv (b.map VB)) ∧ (Row q1 W0.heap.size 29 (coinV c u)) ∧ (Row q1 w3.heap.size 29 (coinV XC ux)) := ⟨hbv_28, hRc_29, hR1_31⟩
    refine ⟨_, rfl, mixOn ⟨(fun w => (IsVals w bv (b.map VB)) ∧ (Row w W0.heap.size 29 (coinV c u)) ∧ (Row w w3.heap.size 29 (coinV XC ux))), (fun _ h => ⟨h.1, h.2.1, h.2.2⟩), hS, ?_⟩⟩
    go_frame
    refine dY _ hS (yNotC _ _ true rfl rfl rfl) ?_; go_frame
    refine dY _ hS (yMove _ (.bool false) rfl rfl rfl) ?_; go_frame
    refine dY _ hS (yMove _ (.int .i64 ((61 : Nat) : Int)) rfl rfl rfl) ?_; go_frame
    refine dY _ hS (yNeqI _ _ _ _ .i64 (((61 : Nat) : Int)) 61 false rfl rfl rfl rfl (by decide)) ?_; go_frame
    refine dY _ hS (yMove _ (.bool false) rfl rfl rfl) ?_; go_frame
    refine dY _ hS (ySkip rfl) ?_; go_frame
    refine dY _ hS (ySkip rfl) ?_; go_frame
    refine dY _ hS (yPick _ _ _ false (.bool false) rfl rfl rfl rfl) ?_; go_frame
    refine dY _ hS (yPick _ _ _ false (.bool false) rfl rfl rfl rfl) ?_; go_frame
    refine dY _ hS (yPick _ _ _ true (.bool false) rfl rfl rfl rfl) ?_; go_frame
    refine dY _ hS (yPick _ _ _ false (.bool false) rfl rfl rfl rfl) ?_; go_frame
    refine dDone ?_
    clear hS
    go_wp2_with (first
      | ((with_reducible change wpList _ _ _ (Oper.mk (some 59) _ _ _ _ _ :: _) _ _); refine kLoadCoin _ _ c.value u c.height c.base hRc_29 rfl rfl rfl ?_; go_frame)
      | (go_at_call 29; refine (zRight_any (c := c) _ hu_27).mono ?_; rintro e z1 ⟨rfl, hBB⟩; rw [hcr]; have hu_33 := hu_27.below hBB; have hRc_34 := hRc_29.below hBB hRc_29.lt; have hB_35 := hB_32.trans (hBB.mono hB_32.size); clear hu_27 hRc_29 hB_32 hBB; go_frame)
      | ((with_reducible change wpList _ _ _ (Oper.mk (some 62) _ _ _ _ _ :: _) _ _); refine kLoadCoin _ _ c.value u c.height c.base hRc_34 rfl rfl rfl ?_; go_frame)
      | (go_at_call 32; refine (coBytes_any (c := c) _ hu_33 (by omega)).mono ?_; rintro e z2 ⟨vp, rfl, hO, hBB⟩; have hp := own_less hB_35.size hO; clear hO; have hu_36 := hu_33.below hBB; have hRc_37 := hRc_34.below hBB hRc_34.lt; have hB_38 := hB_35.trans (hBB.mono hB_35.size); clear hu_33 hRc_34 hB_35 hBB; go_frame)
      | (go_at_call 9; (with_reducible change Calls _ _ #[vp] _ _); refine (hpc _ _ hp.vals).mono ?_; rintro e z3 ⟨uy, rfl, hO, hBB⟩; have huy := hO.vals; clear hO; have hu_39 := hu_36.below hBB; have hRc_40 := hRc_37.below hBB hRc_37.lt; have hp_41 := hp.below hBB; have hB_42 := hB_38.trans (hBB.mono hB_38.size); clear hu_36 hRc_37 hp hB_38 hBB; go_frame)
      | ((with_reducible change wpList _ _ _ (Oper.mk (some 10) _ _ _ _ _ :: _) _ _); refine kAllocL _ _ rfl rfl zero_CoinC ?_; intro a2 hX2 hz hBB; clear hz; have nehRc_2 := Nat.ne_of_lt hRc_40.lt; have le2 := hB_42.size; have hu_43 := hu_39.below hBB; have hRc_44 := hRc_40.below hBB hRc_40.lt; have hp_45 := hp_41.below hBB; have huy_46 := huy.below hBB; have hB_47 := hB_42.trans (hBB.mono hB_42.size); clear hu_39 hRc_40 hp_41 huy hB_42 hBB; go_frame)
      | ((with_reducible change wpList _ _ _ (Oper.mk none _ _ _ _ _ :: _) _ _); refine kStoreCoin _ _ _ c.value uy c.height c.base _ hX2 rfl huy_46 rfl rfl rfl rfl ?_; intro b2 hY2 hW2; have hn2 := coin_noByte 0 0 false (isVals_nil a2); have hu_48 := vals_wroteN hu_43 hX2 hn2 hW2; have hRc_49 := hW2.row hRc_44 nehRc_2; have hp_50 := own_wroteN hp_45 hX2 (by decide) hW2; have huy_51 := vals_wroteN huy_46 hX2 hn2 hW2; have hB_52 := hB_47.trans (hW2.below le2); have hR2 : Row b2 z3.heap.size 29 (coinV c uy) := hY2; clear hX2 hY2 hW2 hn2 le2 hu_43 hRc_44 hp_45 huy_46 hB_47; go_frame))
    have hpv := hp_50.vals
    refine region_mixD [(0, true), (1, true), (2, true), (3, false), (4, true), (5, true), (6, true), (7, true), (8, true), (9, true), (10, true), (11, true), (12, true), (13, false), (14, true), (15, true)] (fun w => (Row w W0.heap.size 29 (coinV c u)) ∧ (Row w z3.heap.size 29 (coinV c uy)) ∧ (IsVals w vp ((coinL c).map VB))) (by kernel_rfl) (by kernel_rfl) rfl ?_
    intro s0 hBd hsd
    clear hsd
    have hu_53 := hu_48.below hBd
    have hRc_54 := hRc_49.below hBd hRc_49.lt
    have hp_55 := hp_50.below hBd
    have huy_56 := huy_51.below hBd
    have hR2_57 := hR2.below hBd hR2.lt
    have hpv_58 := hpv.below hBd
    have hB_59 := hB_52.trans (hBd.mono hB_52.size)
    clear hu_48 hRc_49 hp_50 huy_51 hR2 hpv hB_52 hBd
    simp only [List.map_cons, List.map_nil]
    dsimp only [List.filterMap, List.getElem?_cons_zero, List.getElem?_cons_succ]
    have hS : (Row s0 W0.heap.size 29 (coinV c u)) ∧ (Row s0 z3.heap.size 29 (coinV c uy)) ∧ (IsVals s0 vp ((coinL c).map VB)) := ⟨hRc_54, hR2_57, hpv_58⟩
    refine dY _ hS (yMove _ (vp) rfl rfl rfl) ?_; go_frame
    refine dY _ hS (yStr _ _ _ _ vp (coinL c) rfl rfl rfl (fun _ h => h.2.2) Try.underlying25 Try.underlying5 Try.underlying9) ?_; go_frame
    refine dY _ hS (yLoadRowC Try.underlying29 rfl _ W0.heap.size (coinV c u) info_CoinC (fun _ h => h.1) rfl rfl rfl) ?_; go_frame
    refine dLoud ?_
    refine kCall1 30 _ _ _ rfl rfl (by kernel_rfl) rfl ?_
    refine (zBytes_any (c := c) _ hu_53 (by omega)).mono ?_
    rintro e s1 ⟨v72, rfl, hO, hBB⟩
    clear hS
    have hv72 := hO.vals
    clear hO
    have hu_60 := hu_53.below hBB
    have hRc_61 := hRc_54.below hBB hRc_54.lt
    have hp_62 := hp_55.below hBB
    have huy_63 := huy_56.below hBB
    have hR2_64 := hR2_57.below hBB hR2_57.lt
    have hpv_65 := hpv_58.below hBB
    have hB_66 := hB_59.trans (hBB.mono hB_59.size)
    clear hu_53 hRc_54 hp_55 huy_56 hR2_57 hpv_58 hB_59 hBB
    have hS : (Row s1 W0.heap.size 29 (coinV c u)) ∧ (Row s1 z3.heap.size 29 (coinV c uy)) ∧ (IsVals s1 vp ((coinL c).map VB)) ∧ (IsVals s1 v72 ((coinL c).map VB)) := ⟨hRc_61, hR2_64, hpv_65, hv72⟩
    refine ⟨_, rfl, mixOn ⟨(fun w => (Row w W0.heap.size 29 (coinV c u)) ∧ (Row w z3.heap.size 29 (coinV c uy)) ∧ (IsVals w vp ((coinL c).map VB)) ∧ (IsVals w v72 ((coinL c).map VB))), (fun _ h => ⟨h.1, h.2.1, h.2.2.1⟩), hS, ?_⟩⟩
    go_frame
    refine dY _ hS (yStr _ _ _ _ v72 (coinL c) rfl rfl rfl (fun _ h => h.2.2.2) Try.underlying25 Try.underlying5 Try.underlying9) ?_; go_frame
    refine dY _ hS (yNeqStr _ _ _ _ (coinL c) (coinL c) false rfl rfl rfl rfl (by simp)) ?_; go_frame
    refine dY _ hS (yMove _ (.bool false) rfl rfl rfl) ?_; go_frame
    refine dY _ hS (yMove _ (.int .i64 ((0 : Nat) : Int)) rfl rfl rfl) ?_; go_frame
    refine dY _ hS (yNeqI _ _ _ _ .i64 (((0 : Nat) : Int)) 0 false rfl rfl rfl rfl (by decide)) ?_; go_frame
    refine dY _ hS (yPick _ _ _ false (.bool false) rfl rfl rfl rfl) ?_; go_frame
    refine dY _ hS (yMove _ (.bool false) rfl rfl rfl) ?_; go_frame
    refine dY _ hS (yLoadRowC Try.underlying29 rfl _ z3.heap.size (coinV c uy) info_CoinC (fun _ h => h.2.1) rfl rfl rfl) ?_; go_frame
    refine dY _ hS (yLoadRowC Try.underlying29 rfl _ W0.heap.size (coinV c u) info_CoinC (fun _ h => h.1) rfl rfl rfl) ?_; go_frame
    refine dLoud ?_
    refine kCall2 31 _ _ _ _ _ rfl rfl (by kernel_rfl) rfl rfl ?_
    refine (zSameCoin_any (c := c) (d := c) _ huy_63 hu_60).mono ?_
    rintro e s2 ⟨rfl, hBB⟩
    clear hS
    rw [sameC_refl]
    have hu_67 := hu_60.below hBB
    have hRc_68 := hRc_61.below hBB hRc_61.lt
    have hp_69 := hp_62.below hBB
    have huy_70 := huy_63.below hBB
    have hR2_71 := hR2_64.below hBB hR2_64.lt
    have hpv_72 := hpv_65.below hBB
    have hv72_73 := hv72.below hBB
    have hB_74 := hB_66.trans (hBB.mono hB_66.size)
    clear hu_60 hRc_61 hp_62 huy_63 hR2_64 hpv_65 hv72 hB_66 hBB
    have hS : (Row s2 W0.heap.size 29 (coinV c u)) ∧ (Row s2 z3.heap.size 29 (coinV c uy)) ∧ (IsVals s2 vp ((coinL c).map VB)) ∧ (IsVals s2 v72 ((coinL c).map VB)) := ⟨hRc_68, hR2_71, hpv_72, hv72_73⟩
    refine ⟨_, rfl, mixOn ⟨(fun w => (Row w W0.heap.size 29 (coinV c u)) ∧ (Row w z3.heap.size 29 (coinV c uy)) ∧ (IsVals w vp ((coinL c).map VB)) ∧ (IsVals w v72 ((coinL c).map VB))), (fun _ h => ⟨h.1, h.2.1, h.2.2.1, h.2.2.2⟩), hS, ?_⟩⟩
    go_frame
    refine dY _ hS (yNotC _ _ true rfl rfl rfl) ?_; go_frame
    refine dY _ hS (yPick _ _ _ false (.bool false) rfl rfl rfl rfl) ?_; go_frame
    refine dDone ?_
    clear hS
    go_wp2_with (first
      | ((with_reducible change wpList _ _ _ (Oper.mk (some 86) _ _ _ _ _ :: _) _ _); refine kLssI _ _ _ _ .i64 cut 0 _ rfl rfl rfl rfl hl1 ?_; go_frame)
      | ((with_reducible change wpList _ _ _ (Oper.mk (some 90) _ _ _ _ _ :: _) _ _); refine kLenN _ _ _ vp _ M rfl rfl rfl hp_69.vals (by rw [List.length_map, hM]) Try.underlying25 ?_; go_frame)
      | ((with_reducible change wpList _ _ _ (Oper.mk (some 91) _ _ _ _ _ :: _) _ _); refine kGeqI _ _ _ _ .i64 cut (M : Int) _ rfl rfl rfl rfl hl2 ?_; go_frame)
      | ((with_reducible change wpList _ _ _ (Oper.mk (some 95) _ _ _ _ _ :: _) _ _); refine kBuildSlice1 _ _ _ (VB 0) rfl rfl Try.underlying25 i _ hi hz hs1 rfl rfl ?_; intro y1 hRr hzz hBB; have hV1 : IsVals y1 _ (([0] : List UInt8).map VB) := isVals_lit (l := [VB 0]) hRr; clear hzz hRr; have hp_75 := hp_69.below hBB; have hB_76 := hB_74.trans (hBB.mono hB_74.size); clear hp_69 hB_74 hBB; go_frame)
      | ((with_reducible change wpList _ _ _ (Oper.mk (some 96) _ _ _ _ _ :: _) _ _); refine kAppB _ _ rfl rfl W0.heap.size _ _ (coinL c) [0] hp_75 hV1 rfl rfl (by simp; omega) hB_76.size ?_; intro v96 y2 hO2 hC2; have hB9 := hB_76.trans hC2; have hV2 := hO2.vals; clear hO2 hC2 hV1; go_frame)
      | (go_at_call 9; refine (hpm _ _ hV2).mono ?_; rintro e y3 ⟨uz, rfl, hO, hBB⟩; have huz := hO.vals; clear hO; have hB_77 := hB9.trans (hBB.mono hB9.size); clear hB9 hBB; go_frame)
      | ((with_reducible change wpList _ _ _ (Oper.mk (some 12) _ _ _ _ _ :: _) _ _); refine kAllocL _ _ rfl rfl zero_CoinC ?_; intro a3 hX3 hz hBB; clear hz; have le3 := hB_77.size; have huz_78 := huz.below hBB; have hB_79 := hB_77.trans (hBB.mono hB_77.size); clear huz hB_77 hBB; go_frame)
      | ((with_reducible change wpList _ _ _ (Oper.mk none _ _ _ _ _ :: _) _ _); refine kStoreCoin _ _ _ noCoin.value uz noCoin.height noCoin.base _ hX3 rfl huz_78 rfl rfl rfl rfl ?_; intro b3 hY3 hW3; have hn3 := coin_noByte 0 0 false (isVals_nil a3); have huz_80 := vals_wroteN huz_78 hX3 hn3 hW3; have hB_81 := hB_79.trans (hW3.below le3); have hR3 : Row b3 y3.heap.size 29 (coinV noCoin uz) := hY3; clear hX3 hY3 hW3 hn3 le3 huz_78 hB_79; go_frame)
      | ((with_reducible change wpList _ _ _ (Oper.mk (some 101) _ _ _ _ _ :: _) _ _); refine kEqlI _ _ _ _ .i64 ((62 : Nat) : Int) 62 true rfl rfl rfl rfl (by decide) ?_; go_frame))
    go_ret
    exact ⟨rfl, hB_81⟩
  · obtain rfl : b1 = false := by rw [← hl1]; simp; omega
    obtain rfl : b2 = true := by rw [← hl2]; simp; omega
    clear g1 hct
    go_enter Try.func6, Try.ntmps6
    go_wp2_with (first
      | ((with_reducible change wpList _ _ _ (Oper.mk (some 3) _ _ _ _ _ :: _) _ _); refine kBoxL _ _ _ rfl rfl rfl ?_; intro w1 hRc hz1 hB0; clear hz1; have hu_1 := hu.below hB0; have hbv_2 := hbv.below hB0; clear hu hbv; go_frame)
      | (go_at_call 10; refine (coinAlive_any _).mono ?_; rintro e w2 ⟨rfl, hBB⟩; have hu_3 := hu_1.below hBB; have hbv_4 := hbv_2.below hBB; have hRc_5 := hRc.below hBB hRc.lt; have hB_6 := hB0.trans (hBB.mono hB0.size); clear hu_1 hbv_2 hRc hB0 hBB; go_frame)
      | ((with_reducible change wpList _ _ _ (Oper.mk (some 19) _ _ _ _ _ :: _) _ _); refine kLenN _ _ _ bv _ k rfl rfl rfl hbv_4 (by rw [List.length_map, hk]) Try.underlying25 ?_; go_frame)
      | ((with_reducible change wpList _ _ _ (Oper.mk (some 20) _ _ _ _ _ :: _) _ _); refine kGtrI _ _ _ _ .i64 (k : Int) 2500 false rfl rfl rfl rfl d1 ?_; go_frame)
      | (go_at_call 9; (with_reducible change Calls _ _ #[bv] _ _); refine (hps _ _ hbv_4).mono ?_; rintro e w3 ⟨ux, rfl, hO, hBB⟩; have hux := hO.vals; clear hO; have hu_7 := hu_3.below hBB; have hbv_8 := hbv_4.below hBB; have hRc_9 := hRc_5.below hBB hRc_5.lt; have hB_10 := hB_6.trans (hBB.mono hB_6.size); clear hu_3 hbv_4 hRc_5 hB_6 hBB; go_frame)
      | ((with_reducible change wpList _ _ _ (Oper.mk (some 7) _ _ _ _ _ :: _) _ _); refine kAllocL _ _ rfl rfl zero_CoinC ?_; intro a1 hX1 hz hBB; clear hz; have nehRc_1 := Nat.ne_of_lt hRc_9.lt; have le1 := hB_10.size; have hu_11 := hu_7.below hBB; have hbv_12 := hbv_8.below hBB; have hRc_13 := hRc_9.below hBB hRc_9.lt; have hux_14 := hux.below hBB; have hB_15 := hB_10.trans (hBB.mono hB_10.size); clear hu_7 hbv_8 hRc_9 hux hB_10 hBB; go_frame)
      | ((with_reducible change wpList _ _ _ (Oper.mk none _ _ _ _ _ :: _) _ _); refine kStoreCoin _ _ _ XC.value ux XC.height XC.base _ hX1 rfl hux_14 rfl rfl rfl rfl ?_; intro b1 hY1 hW1; have hn1 := coin_noByte 0 0 false (isVals_nil a1); have hu_16 := vals_wroteN hu_11 hX1 hn1 hW1; have hbv_17 := vals_wroteN hbv_12 hX1 hn1 hW1; have hRc_18 := hW1.row hRc_13 nehRc_1; have hux_19 := vals_wroteN hux_14 hX1 hn1 hW1; have hB_20 := hB_15.trans (hW1.below le1); have hR1 : Row b1 w3.heap.size 29 (coinV XC ux) := hY1; clear hX1 hY1 hW1 hn1 le1 hu_11 hbv_12 hRc_13 hux_14 hB_15; go_frame))
    refine region_mixD [(0, true), (1, true), (2, true), (3, true), (4, true), (5, true), (6, true), (7, true), (8, true), (9, true), (10, true), (11, true), (12, true), (13, true), (14, true), (15, true), (16, true), (17, true), (18, true), (19, true), (20, true), (21, false), (22, true), (23, true), (24, true), (25, true), (26, true), (27, true), (28, true), (29, true), (30, true), (31, true), (32, true)] (fun w => (IsVals w bv (b.map VB)) ∧ (Row w W0.heap.size 29 (coinV c u)) ∧ (Row w w3.heap.size 29 (coinV XC ux))) (by kernel_rfl) (by kernel_rfl) rfl ?_
    intro q0 hBd hsd
    clear hsd
    have hu_21 := hu_16.below hBd
    have hbv_22 := hbv_17.below hBd
    have hRc_23 := hRc_18.below hBd hRc_18.lt
    have hux_24 := hux_19.below hBd
    have hR1_25 := hR1.below hBd hR1.lt
    have hB_26 := hB_20.trans (hBd.mono hB_20.size)
    clear hu_16 hbv_17 hRc_18 hux_19 hR1 hB_20 hBd
    simp only [List.map_cons, List.map_nil]
    dsimp only [List.filterMap, List.getElem?_cons_zero, List.getElem?_cons_succ]
    have hS : (IsVals q0 bv (b.map VB)) ∧ (Row q0 W0.heap.size 29 (coinV c u)) ∧ (Row q0 w3.heap.size 29 (coinV XC ux)) := ⟨hbv_22, hRc_23, hR1_25⟩
    refine dY _ hS (yMove _ (.int .i64 ((61 : Nat) : Int)) rfl rfl rfl) ?_; go_frame
    refine dY _ hS (yEqlIC _ _ _ _ .i64 ((61 : Nat) : Int) 0 false rfl rfl rfl rfl (by decide)) ?_; go_frame
    refine dY _ hS (yMove _ (.bool false) rfl rfl rfl) ?_; go_frame
    refine dY _ hS (ySkip rfl) ?_; go_frame
    refine dY _ hS (ySkip rfl) ?_; go_frame
    refine dY _ hS (ySkip rfl) ?_; go_frame
    refine dY _ hS (ySkip rfl) ?_; go_frame
    refine dY _ hS (ySkip rfl) ?_; go_frame
    refine dY _ hS (ySkip rfl) ?_; go_frame
    refine dY _ hS (ySkip rfl) ?_; go_frame
    refine dY _ hS (ySkip rfl) ?_; go_frame
    refine dY _ hS (ySkip rfl) ?_; go_frame
    refine dY _ hS (ySkip rfl) ?_; go_frame
    refine dY _ hS (ySkip rfl) ?_; go_frame
    refine dY _ hS (yPick _ _ _ false (.bool false) rfl rfl rfl rfl) ?_; go_frame
    refine dY _ hS (yMove _ (.bool false) rfl rfl rfl) ?_; go_frame
    refine dY _ hS (yMove _ (.int .i64 ((61 : Nat) : Int)) rfl rfl rfl) ?_; go_frame
    refine dY _ hS (yNeqI _ _ _ _ .i64 (((61 : Nat) : Int)) 0 true rfl rfl rfl rfl (by decide)) ?_; go_frame
    refine dY _ hS (yMove _ (.bool true) rfl rfl rfl) ?_; go_frame
    refine dY _ hS (yLoadRowC Try.underlying29 rfl _ w3.heap.size (coinV XC ux) info_CoinC (fun _ h => h.2.2) rfl rfl rfl) ?_; go_frame
    refine dY _ hS (yBuildCoin0 rfl rfl) ?_; go_frame
    refine dLoud ?_
    refine kCall2 31 _ _ _ _ _ rfl rfl (by kernel_rfl) rfl rfl ?_
    refine (zSameCoin_any (c := XC) (d := noCoin) _ hux_24 (isVals_nil _)).mono ?_
    rintro e q1 ⟨rfl, hBB⟩
    clear hS
    rw [hsm]
    have hu_27 := hu_21.below hBB
    have hbv_28 := hbv_22.below hBB
    have hRc_29 := hRc_23.below hBB hRc_23.lt
    have hux_30 := hux_24.below hBB
    have hR1_31 := hR1_25.below hBB hR1_25.lt
    have hB_32 := hB_26.trans (hBB.mono hB_26.size)
    clear hu_21 hbv_22 hRc_23 hux_24 hR1_25 hB_26 hBB
    have hS : (IsVals q1 bv (b.map VB)) ∧ (Row q1 W0.heap.size 29 (coinV c u)) ∧ (Row q1 w3.heap.size 29 (coinV XC ux)) := ⟨hbv_28, hRc_29, hR1_31⟩
    refine ⟨_, rfl, mixOn ⟨(fun w => (IsVals w bv (b.map VB)) ∧ (Row w W0.heap.size 29 (coinV c u)) ∧ (Row w w3.heap.size 29 (coinV XC ux))), (fun _ h => ⟨h.1, h.2.1, h.2.2⟩), hS, ?_⟩⟩
    go_frame
    refine dY _ hS (yNotC _ _ true rfl rfl rfl) ?_; go_frame
    refine dY _ hS (yMove _ (.bool false) rfl rfl rfl) ?_; go_frame
    refine dY _ hS (yMove _ (.int .i64 ((61 : Nat) : Int)) rfl rfl rfl) ?_; go_frame
    refine dY _ hS (yNeqI _ _ _ _ .i64 (((61 : Nat) : Int)) 61 false rfl rfl rfl rfl (by decide)) ?_; go_frame
    refine dY _ hS (yMove _ (.bool false) rfl rfl rfl) ?_; go_frame
    refine dY _ hS (ySkip rfl) ?_; go_frame
    refine dY _ hS (ySkip rfl) ?_; go_frame
    refine dY _ hS (yPick _ _ _ false (.bool false) rfl rfl rfl rfl) ?_; go_frame
    refine dY _ hS (yPick _ _ _ false (.bool false) rfl rfl rfl rfl) ?_; go_frame
    refine dY _ hS (yPick _ _ _ true (.bool false) rfl rfl rfl rfl) ?_; go_frame
    refine dY _ hS (yPick _ _ _ false (.bool false) rfl rfl rfl rfl) ?_; go_frame
    refine dDone ?_
    clear hS
    go_wp2_with (first
      | ((with_reducible change wpList _ _ _ (Oper.mk (some 59) _ _ _ _ _ :: _) _ _); refine kLoadCoin _ _ c.value u c.height c.base hRc_29 rfl rfl rfl ?_; go_frame)
      | (go_at_call 29; refine (zRight_any (c := c) _ hu_27).mono ?_; rintro e z1 ⟨rfl, hBB⟩; rw [hcr]; have hu_33 := hu_27.below hBB; have hRc_34 := hRc_29.below hBB hRc_29.lt; have hB_35 := hB_32.trans (hBB.mono hB_32.size); clear hu_27 hRc_29 hB_32 hBB; go_frame)
      | ((with_reducible change wpList _ _ _ (Oper.mk (some 62) _ _ _ _ _ :: _) _ _); refine kLoadCoin _ _ c.value u c.height c.base hRc_34 rfl rfl rfl ?_; go_frame)
      | (go_at_call 32; refine (coBytes_any (c := c) _ hu_33 (by omega)).mono ?_; rintro e z2 ⟨vp, rfl, hO, hBB⟩; have hp := own_less hB_35.size hO; clear hO; have hu_36 := hu_33.below hBB; have hRc_37 := hRc_34.below hBB hRc_34.lt; have hB_38 := hB_35.trans (hBB.mono hB_35.size); clear hu_33 hRc_34 hB_35 hBB; go_frame)
      | (go_at_call 9; (with_reducible change Calls _ _ #[vp] _ _); refine (hpc _ _ hp.vals).mono ?_; rintro e z3 ⟨uy, rfl, hO, hBB⟩; have huy := hO.vals; clear hO; have hu_39 := hu_36.below hBB; have hRc_40 := hRc_37.below hBB hRc_37.lt; have hp_41 := hp.below hBB; have hB_42 := hB_38.trans (hBB.mono hB_38.size); clear hu_36 hRc_37 hp hB_38 hBB; go_frame)
      | ((with_reducible change wpList _ _ _ (Oper.mk (some 10) _ _ _ _ _ :: _) _ _); refine kAllocL _ _ rfl rfl zero_CoinC ?_; intro a2 hX2 hz hBB; clear hz; have nehRc_2 := Nat.ne_of_lt hRc_40.lt; have le2 := hB_42.size; have hu_43 := hu_39.below hBB; have hRc_44 := hRc_40.below hBB hRc_40.lt; have hp_45 := hp_41.below hBB; have huy_46 := huy.below hBB; have hB_47 := hB_42.trans (hBB.mono hB_42.size); clear hu_39 hRc_40 hp_41 huy hB_42 hBB; go_frame)
      | ((with_reducible change wpList _ _ _ (Oper.mk none _ _ _ _ _ :: _) _ _); refine kStoreCoin _ _ _ c.value uy c.height c.base _ hX2 rfl huy_46 rfl rfl rfl rfl ?_; intro b2 hY2 hW2; have hn2 := coin_noByte 0 0 false (isVals_nil a2); have hu_48 := vals_wroteN hu_43 hX2 hn2 hW2; have hRc_49 := hW2.row hRc_44 nehRc_2; have hp_50 := own_wroteN hp_45 hX2 (by decide) hW2; have huy_51 := vals_wroteN huy_46 hX2 hn2 hW2; have hB_52 := hB_47.trans (hW2.below le2); have hR2 : Row b2 z3.heap.size 29 (coinV c uy) := hY2; clear hX2 hY2 hW2 hn2 le2 hu_43 hRc_44 hp_45 huy_46 hB_47; go_frame))
    have hpv := hp_50.vals
    refine region_mixD [(0, true), (1, true), (2, true), (3, false), (4, true), (5, true), (6, true), (7, true), (8, true), (9, true), (10, true), (11, true), (12, true), (13, false), (14, true), (15, true)] (fun w => (Row w W0.heap.size 29 (coinV c u)) ∧ (Row w z3.heap.size 29 (coinV c uy)) ∧ (IsVals w vp ((coinL c).map VB))) (by kernel_rfl) (by kernel_rfl) rfl ?_
    intro s0 hBd hsd
    clear hsd
    have hu_53 := hu_48.below hBd
    have hRc_54 := hRc_49.below hBd hRc_49.lt
    have hp_55 := hp_50.below hBd
    have huy_56 := huy_51.below hBd
    have hR2_57 := hR2.below hBd hR2.lt
    have hpv_58 := hpv.below hBd
    have hB_59 := hB_52.trans (hBd.mono hB_52.size)
    clear hu_48 hRc_49 hp_50 huy_51 hR2 hpv hB_52 hBd
    simp only [List.map_cons, List.map_nil]
    dsimp only [List.filterMap, List.getElem?_cons_zero, List.getElem?_cons_succ]
    have hS : (Row s0 W0.heap.size 29 (coinV c u)) ∧ (Row s0 z3.heap.size 29 (coinV c uy)) ∧ (IsVals s0 vp ((coinL c).map VB)) := ⟨hRc_54, hR2_57, hpv_58⟩
    refine dY _ hS (yMove _ (vp) rfl rfl rfl) ?_; go_frame
    refine dY _ hS (yStr _ _ _ _ vp (coinL c) rfl rfl rfl (fun _ h => h.2.2) Try.underlying25 Try.underlying5 Try.underlying9) ?_; go_frame
    refine dY _ hS (yLoadRowC Try.underlying29 rfl _ W0.heap.size (coinV c u) info_CoinC (fun _ h => h.1) rfl rfl rfl) ?_; go_frame
    refine dLoud ?_
    refine kCall1 30 _ _ _ rfl rfl (by kernel_rfl) rfl ?_
    refine (zBytes_any (c := c) _ hu_53 (by omega)).mono ?_
    rintro e s1 ⟨v72, rfl, hO, hBB⟩
    clear hS
    have hv72 := hO.vals
    clear hO
    have hu_60 := hu_53.below hBB
    have hRc_61 := hRc_54.below hBB hRc_54.lt
    have hp_62 := hp_55.below hBB
    have huy_63 := huy_56.below hBB
    have hR2_64 := hR2_57.below hBB hR2_57.lt
    have hpv_65 := hpv_58.below hBB
    have hB_66 := hB_59.trans (hBB.mono hB_59.size)
    clear hu_53 hRc_54 hp_55 huy_56 hR2_57 hpv_58 hB_59 hBB
    have hS : (Row s1 W0.heap.size 29 (coinV c u)) ∧ (Row s1 z3.heap.size 29 (coinV c uy)) ∧ (IsVals s1 vp ((coinL c).map VB)) ∧ (IsVals s1 v72 ((coinL c).map VB)) := ⟨hRc_61, hR2_64, hpv_65, hv72⟩
    refine ⟨_, rfl, mixOn ⟨(fun w => (Row w W0.heap.size 29 (coinV c u)) ∧ (Row w z3.heap.size 29 (coinV c uy)) ∧ (IsVals w vp ((coinL c).map VB)) ∧ (IsVals w v72 ((coinL c).map VB))), (fun _ h => ⟨h.1, h.2.1, h.2.2.1⟩), hS, ?_⟩⟩
    go_frame
    refine dY _ hS (yStr _ _ _ _ v72 (coinL c) rfl rfl rfl (fun _ h => h.2.2.2) Try.underlying25 Try.underlying5 Try.underlying9) ?_; go_frame
    refine dY _ hS (yNeqStr _ _ _ _ (coinL c) (coinL c) false rfl rfl rfl rfl (by simp)) ?_; go_frame
    refine dY _ hS (yMove _ (.bool false) rfl rfl rfl) ?_; go_frame
    refine dY _ hS (yMove _ (.int .i64 ((0 : Nat) : Int)) rfl rfl rfl) ?_; go_frame
    refine dY _ hS (yNeqI _ _ _ _ .i64 (((0 : Nat) : Int)) 0 false rfl rfl rfl rfl (by decide)) ?_; go_frame
    refine dY _ hS (yPick _ _ _ false (.bool false) rfl rfl rfl rfl) ?_; go_frame
    refine dY _ hS (yMove _ (.bool false) rfl rfl rfl) ?_; go_frame
    refine dY _ hS (yLoadRowC Try.underlying29 rfl _ z3.heap.size (coinV c uy) info_CoinC (fun _ h => h.2.1) rfl rfl rfl) ?_; go_frame
    refine dY _ hS (yLoadRowC Try.underlying29 rfl _ W0.heap.size (coinV c u) info_CoinC (fun _ h => h.1) rfl rfl rfl) ?_; go_frame
    refine dLoud ?_
    refine kCall2 31 _ _ _ _ _ rfl rfl (by kernel_rfl) rfl rfl ?_
    refine (zSameCoin_any (c := c) (d := c) _ huy_63 hu_60).mono ?_
    rintro e s2 ⟨rfl, hBB⟩
    clear hS
    rw [sameC_refl]
    have hu_67 := hu_60.below hBB
    have hRc_68 := hRc_61.below hBB hRc_61.lt
    have hp_69 := hp_62.below hBB
    have huy_70 := huy_63.below hBB
    have hR2_71 := hR2_64.below hBB hR2_64.lt
    have hpv_72 := hpv_65.below hBB
    have hv72_73 := hv72.below hBB
    have hB_74 := hB_66.trans (hBB.mono hB_66.size)
    clear hu_60 hRc_61 hp_62 huy_63 hR2_64 hpv_65 hv72 hB_66 hBB
    have hS : (Row s2 W0.heap.size 29 (coinV c u)) ∧ (Row s2 z3.heap.size 29 (coinV c uy)) ∧ (IsVals s2 vp ((coinL c).map VB)) ∧ (IsVals s2 v72 ((coinL c).map VB)) := ⟨hRc_68, hR2_71, hpv_72, hv72_73⟩
    refine ⟨_, rfl, mixOn ⟨(fun w => (Row w W0.heap.size 29 (coinV c u)) ∧ (Row w z3.heap.size 29 (coinV c uy)) ∧ (IsVals w vp ((coinL c).map VB)) ∧ (IsVals w v72 ((coinL c).map VB))), (fun _ h => ⟨h.1, h.2.1, h.2.2.1, h.2.2.2⟩), hS, ?_⟩⟩
    go_frame
    refine dY _ hS (yNotC _ _ true rfl rfl rfl) ?_; go_frame
    refine dY _ hS (yPick _ _ _ false (.bool false) rfl rfl rfl rfl) ?_; go_frame
    refine dDone ?_
    clear hS
    go_wp2_with (first
      | ((with_reducible change wpList _ _ _ (Oper.mk (some 86) _ _ _ _ _ :: _) _ _); refine kLssI _ _ _ _ .i64 cut 0 _ rfl rfl rfl rfl hl1 ?_; go_frame)
      | ((with_reducible change wpList _ _ _ (Oper.mk (some 90) _ _ _ _ _ :: _) _ _); refine kLenN _ _ _ vp _ M rfl rfl rfl hp_69.vals (by rw [List.length_map, hM]) Try.underlying25 ?_; go_frame)
      | ((with_reducible change wpList _ _ _ (Oper.mk (some 91) _ _ _ _ _ :: _) _ _); refine kGeqI _ _ _ _ .i64 cut (M : Int) _ rfl rfl rfl rfl hl2 ?_; go_frame)
      | ((with_reducible change wpList _ _ _ (Oper.mk (some 95) _ _ _ _ _ :: _) _ _); refine kBuildSlice1 _ _ _ (VB 0) rfl rfl Try.underlying25 i _ hi hz hs1 rfl rfl ?_; intro y1 hRr hzz hBB; have hV1 : IsVals y1 _ (([0] : List UInt8).map VB) := isVals_lit (l := [VB 0]) hRr; clear hzz hRr; have hp_75 := hp_69.below hBB; have hB_76 := hB_74.trans (hBB.mono hB_74.size); clear hp_69 hB_74 hBB; go_frame)
      | ((with_reducible change wpList _ _ _ (Oper.mk (some 96) _ _ _ _ _ :: _) _ _); refine kAppB _ _ rfl rfl W0.heap.size _ _ (coinL c) [0] hp_75 hV1 rfl rfl (by simp; omega) hB_76.size ?_; intro v96 y2 hO2 hC2; have hB9 := hB_76.trans hC2; have hV2 := hO2.vals; clear hO2 hC2 hV1; go_frame)
      | (go_at_call 9; refine (hpm _ _ hV2).mono ?_; rintro e y3 ⟨uz, rfl, hO, hBB⟩; have huz := hO.vals; clear hO; have hB_77 := hB9.trans (hBB.mono hB9.size); clear hB9 hBB; go_frame)
      | ((with_reducible change wpList _ _ _ (Oper.mk (some 12) _ _ _ _ _ :: _) _ _); refine kAllocL _ _ rfl rfl zero_CoinC ?_; intro a3 hX3 hz hBB; clear hz; have le3 := hB_77.size; have huz_78 := huz.below hBB; have hB_79 := hB_77.trans (hBB.mono hB_77.size); clear huz hB_77 hBB; go_frame)
      | ((with_reducible change wpList _ _ _ (Oper.mk none _ _ _ _ _ :: _) _ _); refine kStoreCoin _ _ _ noCoin.value uz noCoin.height noCoin.base _ hX3 rfl huz_78 rfl rfl rfl rfl ?_; intro b3 hY3 hW3; have hn3 := coin_noByte 0 0 false (isVals_nil a3); have huz_80 := vals_wroteN huz_78 hX3 hn3 hW3; have hB_81 := hB_79.trans (hW3.below le3); have hR3 : Row b3 y3.heap.size 29 (coinV noCoin uz) := hY3; clear hX3 hY3 hW3 hn3 le3 huz_78 hB_79; go_frame)
      | ((with_reducible change wpList _ _ _ (Oper.mk (some 101) _ _ _ _ _ :: _) _ _); refine kEqlI _ _ _ _ .i64 ((62 : Nat) : Int) 62 true rfl rfl rfl rfl (by decide) ?_; go_frame))
    go_ret
    exact ⟨rfl, hB_81⟩
set_option maxRecDepth 100000 in
set_option maxHeartbeats 8000000 in
theorem coinBytes_cut61 {c : CoinP} {b : List UInt8} {u bv : Value} {cut : Int} (W0 : World) (hu : IsVals W0 u (c.lock.map VB)) (hbv : IsVals W0 bv (b.map VB)) (hb : b.length ≤ 2500) {XC : CoinP} (hx : parseC b = (XC, 61)) (hcr : rightC c = true) (hct : 0 ≤ cut ∧ cut < ((coinL c).length : Int)) : Calls Try.prog 6 #[.agg (coinV c u), bv, .int .i64 cut] W0 (AlivePost W0) := by
  obtain ⟨i, hi, hz, hs1, hby⟩ := b8Info
  obtain ⟨k, hk⟩ : ∃ k, b.length = k := ⟨_, rfl⟩
  have d1 : decide ((k : Int) > 2500) = false := by simp; omega
  have hps : ∀ (w : World) (v : Value), IsVals w v (b.map VB) → Calls Try.prog 9 #[v] w (ParsePost w (XC, 61)) := fun w v h => by rw [← hx]; exact coParse_any w h (by omega)
  have hxn : Hid (XC = noCoin) := Lib.hid (by have := (parse_wrong (b := b) (by rw [hx]; simp)).1; rw [hx] at this; exact this)
  have hsm : sameC XC noCoin = true := by rw [hxn.out]; exact sameC_refl _
  clear hxn
  have hcl2 := (rightC_iff.1 hcr).2.1
  have hLl : (coinL c).length ≤ 3000 := by have h1 := countL_le (stampN c.height c.base); have h2 := outL_le (n := c.value) hcl2; unfold coinL; rw [List.length_append]; omega
  have hpc : ∀ (w : World) (v : Value), IsVals w v ((coinL c).map VB) → Calls Try.prog 9 #[v] w (ParsePost w (c, 0)) := fun w v h => by rw [← parse_back hcr]; exact coParse_any w h (by omega)
  obtain ⟨M, hM⟩ : ∃ M, (coinL c).length = M := ⟨_, rfl⟩
  obtain ⟨n, rfl⟩ : ∃ n : Nat, cut = (n : Int) := ⟨cut.toNat, by omega⟩
  have hl1 : decide ((n : Int) < 0) = false := by simp
  have hl2 : decide ((n : Int) ≥ (M : Int)) = false := by simp; omega
  obtain ⟨ZC, hZC⟩ := pair_of (parse_cut hcr (cut := n) (by omega))
  have hpm : ∀ (w : World) (v : Value), IsVals w v (((coinL c).take n).map VB) → Calls Try.prog 9 #[v] w (ParsePost w (ZC, 61)) := fun w v h => by rw [← hZC]; exact coParse_any w h (by rw [List.length_take]; omega)
  go_enter Try.func6, Try.ntmps6
  go_wp2_with (first
    | ((with_reducible change wpList _ _ _ (Oper.mk (some 3) _ _ _ _ _ :: _) _ _); refine kBoxL _ _ _ rfl rfl rfl ?_; intro w1 hRc hz1 hB0; clear hz1; have hu_1 := hu.below hB0; have hbv_2 := hbv.below hB0; clear hu hbv; go_frame)
    | (go_at_call 10; refine (coinAlive_any _).mono ?_; rintro e w2 ⟨rfl, hBB⟩; have hu_3 := hu_1.below hBB; have hbv_4 := hbv_2.below hBB; have hRc_5 := hRc.below hBB hRc.lt; have hB_6 := hB0.trans (hBB.mono hB0.size); clear hu_1 hbv_2 hRc hB0 hBB; go_frame)
    | ((with_reducible change wpList _ _ _ (Oper.mk (some 19) _ _ _ _ _ :: _) _ _); refine kLenN _ _ _ bv _ k rfl rfl rfl hbv_4 (by rw [List.length_map, hk]) Try.underlying25 ?_; go_frame)
    | ((with_reducible change wpList _ _ _ (Oper.mk (some 20) _ _ _ _ _ :: _) _ _); refine kGtrI _ _ _ _ .i64 (k : Int) 2500 false rfl rfl rfl rfl d1 ?_; go_frame)
    | (go_at_call 9; (with_reducible change Calls _ _ #[bv] _ _); refine (hps _ _ hbv_4).mono ?_; rintro e w3 ⟨ux, rfl, hO, hBB⟩; have hux := hO.vals; clear hO; have hu_7 := hu_3.below hBB; have hbv_8 := hbv_4.below hBB; have hRc_9 := hRc_5.below hBB hRc_5.lt; have hB_10 := hB_6.trans (hBB.mono hB_6.size); clear hu_3 hbv_4 hRc_5 hB_6 hBB; go_frame)
    | ((with_reducible change wpList _ _ _ (Oper.mk (some 7) _ _ _ _ _ :: _) _ _); refine kAllocL _ _ rfl rfl zero_CoinC ?_; intro a1 hX1 hz hBB; clear hz; have nehRc_1 := Nat.ne_of_lt hRc_9.lt; have le1 := hB_10.size; have hu_11 := hu_7.below hBB; have hbv_12 := hbv_8.below hBB; have hRc_13 := hRc_9.below hBB hRc_9.lt; have hux_14 := hux.below hBB; have hB_15 := hB_10.trans (hBB.mono hB_10.size); clear hu_7 hbv_8 hRc_9 hux hB_10 hBB; go_frame)
    | ((with_reducible change wpList _ _ _ (Oper.mk none _ _ _ _ _ :: _) _ _); refine kStoreCoin _ _ _ XC.value ux XC.height XC.base _ hX1 rfl hux_14 rfl rfl rfl rfl ?_; intro b1 hY1 hW1; have hn1 := coin_noByte 0 0 false (isVals_nil a1); have hu_16 := vals_wroteN hu_11 hX1 hn1 hW1; have hbv_17 := vals_wroteN hbv_12 hX1 hn1 hW1; have hRc_18 := hW1.row hRc_13 nehRc_1; have hux_19 := vals_wroteN hux_14 hX1 hn1 hW1; have hB_20 := hB_15.trans (hW1.below le1); have hR1 : Row b1 w3.heap.size 29 (coinV XC ux) := hY1; clear hX1 hY1 hW1 hn1 le1 hu_11 hbv_12 hRc_13 hux_14 hB_15; go_frame))
  refine region_mixD [(0, true), (1, true), (2, true), (3, true), (4, true), (5, true), (6, true), (7, true), (8, true), (9, true), (10, true), (11, true), (12, true), (13, true), (14, true), (15, true), (16, true), (17, true), (18, true), (19, true), (20, true), (21, false), (22, true), (23, true), (24, true), (25, true), (26, true), (27, true), (28, true), (29, true), (30, true), (31, true), (32, true)] (fun w => (IsVals w bv (b.map VB)) ∧ (Row w W0.heap.size 29 (coinV c u)) ∧ (Row w w3.heap.size 29 (coinV XC ux))) (by kernel_rfl) (by kernel_rfl) rfl ?_
  intro q0 hBd hsd
  clear hsd
  have hu_21 := hu_16.below hBd
  have hbv_22 := hbv_17.below hBd
  have hRc_23 := hRc_18.below hBd hRc_18.lt
  have hux_24 := hux_19.below hBd
  have hR1_25 := hR1.below hBd hR1.lt
  have hB_26 := hB_20.trans (hBd.mono hB_20.size)
  clear hu_16 hbv_17 hRc_18 hux_19 hR1 hB_20 hBd
  simp only [List.map_cons, List.map_nil]
  dsimp only [List.filterMap, List.getElem?_cons_zero, List.getElem?_cons_succ]
  have hS : (IsVals q0 bv (b.map VB)) ∧ (Row q0 W0.heap.size 29 (coinV c u)) ∧ (Row q0 w3.heap.size 29 (coinV XC ux)) := ⟨hbv_22, hRc_23, hR1_25⟩
  refine dY _ hS (yMove _ (.int .i64 ((61 : Nat) : Int)) rfl rfl rfl) ?_; go_frame
  refine dY _ hS (yEqlIC _ _ _ _ .i64 ((61 : Nat) : Int) 0 false rfl rfl rfl rfl (by decide)) ?_; go_frame
  refine dY _ hS (yMove _ (.bool false) rfl rfl rfl) ?_; go_frame
  refine dY _ hS (ySkip rfl) ?_; go_frame
  refine dY _ hS (ySkip rfl) ?_; go_frame
  refine dY _ hS (ySkip rfl) ?_; go_frame
  refine dY _ hS (ySkip rfl) ?_; go_frame
  refine dY _ hS (ySkip rfl) ?_; go_frame
  refine dY _ hS (ySkip rfl) ?_; go_frame
  refine dY _ hS (ySkip rfl) ?_; go_frame
  refine dY _ hS (ySkip rfl) ?_; go_frame
  refine dY _ hS (ySkip rfl) ?_; go_frame
  refine dY _ hS (ySkip rfl) ?_; go_frame
  refine dY _ hS (ySkip rfl) ?_; go_frame
  refine dY _ hS (yPick _ _ _ false (.bool false) rfl rfl rfl rfl) ?_; go_frame
  refine dY _ hS (yMove _ (.bool false) rfl rfl rfl) ?_; go_frame
  refine dY _ hS (yMove _ (.int .i64 ((61 : Nat) : Int)) rfl rfl rfl) ?_; go_frame
  refine dY _ hS (yNeqI _ _ _ _ .i64 (((61 : Nat) : Int)) 0 true rfl rfl rfl rfl (by decide)) ?_; go_frame
  refine dY _ hS (yMove _ (.bool true) rfl rfl rfl) ?_; go_frame
  refine dY _ hS (yLoadRowC Try.underlying29 rfl _ w3.heap.size (coinV XC ux) info_CoinC (fun _ h => h.2.2) rfl rfl rfl) ?_; go_frame
  refine dY _ hS (yBuildCoin0 rfl rfl) ?_; go_frame
  refine dLoud ?_
  refine kCall2 31 _ _ _ _ _ rfl rfl (by kernel_rfl) rfl rfl ?_
  refine (zSameCoin_any (c := XC) (d := noCoin) _ hux_24 (isVals_nil _)).mono ?_
  rintro e q1 ⟨rfl, hBB⟩
  clear hS
  rw [hsm]
  have hu_27 := hu_21.below hBB
  have hbv_28 := hbv_22.below hBB
  have hRc_29 := hRc_23.below hBB hRc_23.lt
  have hux_30 := hux_24.below hBB
  have hR1_31 := hR1_25.below hBB hR1_25.lt
  have hB_32 := hB_26.trans (hBB.mono hB_26.size)
  clear hu_21 hbv_22 hRc_23 hux_24 hR1_25 hB_26 hBB
  have hS : (IsVals q1 bv (b.map VB)) ∧ (Row q1 W0.heap.size 29 (coinV c u)) ∧ (Row q1 w3.heap.size 29 (coinV XC ux)) := ⟨hbv_28, hRc_29, hR1_31⟩
  refine ⟨_, rfl, mixOn ⟨(fun w => (IsVals w bv (b.map VB)) ∧ (Row w W0.heap.size 29 (coinV c u)) ∧ (Row w w3.heap.size 29 (coinV XC ux))), (fun _ h => ⟨h.1, h.2.1, h.2.2⟩), hS, ?_⟩⟩
  go_frame
  refine dY _ hS (yNotC _ _ true rfl rfl rfl) ?_; go_frame
  refine dY _ hS (yMove _ (.bool false) rfl rfl rfl) ?_; go_frame
  refine dY _ hS (yMove _ (.int .i64 ((61 : Nat) : Int)) rfl rfl rfl) ?_; go_frame
  refine dY _ hS (yNeqI _ _ _ _ .i64 (((61 : Nat) : Int)) 61 false rfl rfl rfl rfl (by decide)) ?_; go_frame
  refine dY _ hS (yMove _ (.bool false) rfl rfl rfl) ?_; go_frame
  refine dY _ hS (ySkip rfl) ?_; go_frame
  refine dY _ hS (ySkip rfl) ?_; go_frame
  refine dY _ hS (yPick _ _ _ false (.bool false) rfl rfl rfl rfl) ?_; go_frame
  refine dY _ hS (yPick _ _ _ false (.bool false) rfl rfl rfl rfl) ?_; go_frame
  refine dY _ hS (yPick _ _ _ true (.bool false) rfl rfl rfl rfl) ?_; go_frame
  refine dY _ hS (yPick _ _ _ false (.bool false) rfl rfl rfl rfl) ?_; go_frame
  refine dDone ?_
  clear hS
  go_wp2_with (first
    | ((with_reducible change wpList _ _ _ (Oper.mk (some 59) _ _ _ _ _ :: _) _ _); refine kLoadCoin _ _ c.value u c.height c.base hRc_29 rfl rfl rfl ?_; go_frame)
    | (go_at_call 29; refine (zRight_any (c := c) _ hu_27).mono ?_; rintro e z1 ⟨rfl, hBB⟩; rw [hcr]; have hu_33 := hu_27.below hBB; have hRc_34 := hRc_29.below hBB hRc_29.lt; have hB_35 := hB_32.trans (hBB.mono hB_32.size); clear hu_27 hRc_29 hB_32 hBB; go_frame)
    | ((with_reducible change wpList _ _ _ (Oper.mk (some 62) _ _ _ _ _ :: _) _ _); refine kLoadCoin _ _ c.value u c.height c.base hRc_34 rfl rfl rfl ?_; go_frame)
    | (go_at_call 32; refine (coBytes_any (c := c) _ hu_33 (by omega)).mono ?_; rintro e z2 ⟨vp, rfl, hO, hBB⟩; have hp := own_less hB_35.size hO; clear hO; have hu_36 := hu_33.below hBB; have hRc_37 := hRc_34.below hBB hRc_34.lt; have hB_38 := hB_35.trans (hBB.mono hB_35.size); clear hu_33 hRc_34 hB_35 hBB; go_frame)
    | (go_at_call 9; (with_reducible change Calls _ _ #[vp] _ _); refine (hpc _ _ hp.vals).mono ?_; rintro e z3 ⟨uy, rfl, hO, hBB⟩; have huy := hO.vals; clear hO; have hu_39 := hu_36.below hBB; have hRc_40 := hRc_37.below hBB hRc_37.lt; have hp_41 := hp.below hBB; have hB_42 := hB_38.trans (hBB.mono hB_38.size); clear hu_36 hRc_37 hp hB_38 hBB; go_frame)
    | ((with_reducible change wpList _ _ _ (Oper.mk (some 10) _ _ _ _ _ :: _) _ _); refine kAllocL _ _ rfl rfl zero_CoinC ?_; intro a2 hX2 hz hBB; clear hz; have nehRc_2 := Nat.ne_of_lt hRc_40.lt; have le2 := hB_42.size; have hu_43 := hu_39.below hBB; have hRc_44 := hRc_40.below hBB hRc_40.lt; have hp_45 := hp_41.below hBB; have huy_46 := huy.below hBB; have hB_47 := hB_42.trans (hBB.mono hB_42.size); clear hu_39 hRc_40 hp_41 huy hB_42 hBB; go_frame)
    | ((with_reducible change wpList _ _ _ (Oper.mk none _ _ _ _ _ :: _) _ _); refine kStoreCoin _ _ _ c.value uy c.height c.base _ hX2 rfl huy_46 rfl rfl rfl rfl ?_; intro b2 hY2 hW2; have hn2 := coin_noByte 0 0 false (isVals_nil a2); have hu_48 := vals_wroteN hu_43 hX2 hn2 hW2; have hRc_49 := hW2.row hRc_44 nehRc_2; have hp_50 := own_wroteN hp_45 hX2 (by decide) hW2; have huy_51 := vals_wroteN huy_46 hX2 hn2 hW2; have hB_52 := hB_47.trans (hW2.below le2); have hR2 : Row b2 z3.heap.size 29 (coinV c uy) := hY2; clear hX2 hY2 hW2 hn2 le2 hu_43 hRc_44 hp_45 huy_46 hB_47; go_frame))
  have hpv := hp_50.vals
  refine region_mixD [(0, true), (1, true), (2, true), (3, false), (4, true), (5, true), (6, true), (7, true), (8, true), (9, true), (10, true), (11, true), (12, true), (13, false), (14, true), (15, true)] (fun w => (Row w W0.heap.size 29 (coinV c u)) ∧ (Row w z3.heap.size 29 (coinV c uy)) ∧ (IsVals w vp ((coinL c).map VB))) (by kernel_rfl) (by kernel_rfl) rfl ?_
  intro s0 hBd hsd
  clear hsd
  have hu_53 := hu_48.below hBd
  have hRc_54 := hRc_49.below hBd hRc_49.lt
  have hp_55 := hp_50.below hBd
  have huy_56 := huy_51.below hBd
  have hR2_57 := hR2.below hBd hR2.lt
  have hpv_58 := hpv.below hBd
  have hB_59 := hB_52.trans (hBd.mono hB_52.size)
  clear hu_48 hRc_49 hp_50 huy_51 hR2 hpv hB_52 hBd
  simp only [List.map_cons, List.map_nil]
  dsimp only [List.filterMap, List.getElem?_cons_zero, List.getElem?_cons_succ]
  have hS : (Row s0 W0.heap.size 29 (coinV c u)) ∧ (Row s0 z3.heap.size 29 (coinV c uy)) ∧ (IsVals s0 vp ((coinL c).map VB)) := ⟨hRc_54, hR2_57, hpv_58⟩
  refine dY _ hS (yMove _ (vp) rfl rfl rfl) ?_; go_frame
  refine dY _ hS (yStr _ _ _ _ vp (coinL c) rfl rfl rfl (fun _ h => h.2.2) Try.underlying25 Try.underlying5 Try.underlying9) ?_; go_frame
  refine dY _ hS (yLoadRowC Try.underlying29 rfl _ W0.heap.size (coinV c u) info_CoinC (fun _ h => h.1) rfl rfl rfl) ?_; go_frame
  refine dLoud ?_
  refine kCall1 30 _ _ _ rfl rfl (by kernel_rfl) rfl ?_
  refine (zBytes_any (c := c) _ hu_53 (by omega)).mono ?_
  rintro e s1 ⟨v72, rfl, hO, hBB⟩
  clear hS
  have hv72 := hO.vals
  clear hO
  have hu_60 := hu_53.below hBB
  have hRc_61 := hRc_54.below hBB hRc_54.lt
  have hp_62 := hp_55.below hBB
  have huy_63 := huy_56.below hBB
  have hR2_64 := hR2_57.below hBB hR2_57.lt
  have hpv_65 := hpv_58.below hBB
  have hB_66 := hB_59.trans (hBB.mono hB_59.size)
  clear hu_53 hRc_54 hp_55 huy_56 hR2_57 hpv_58 hB_59 hBB
  have hS : (Row s1 W0.heap.size 29 (coinV c u)) ∧ (Row s1 z3.heap.size 29 (coinV c uy)) ∧ (IsVals s1 vp ((coinL c).map VB)) ∧ (IsVals s1 v72 ((coinL c).map VB)) := ⟨hRc_61, hR2_64, hpv_65, hv72⟩
  refine ⟨_, rfl, mixOn ⟨(fun w => (Row w W0.heap.size 29 (coinV c u)) ∧ (Row w z3.heap.size 29 (coinV c uy)) ∧ (IsVals w vp ((coinL c).map VB)) ∧ (IsVals w v72 ((coinL c).map VB))), (fun _ h => ⟨h.1, h.2.1, h.2.2.1⟩), hS, ?_⟩⟩
  go_frame
  refine dY _ hS (yStr _ _ _ _ v72 (coinL c) rfl rfl rfl (fun _ h => h.2.2.2) Try.underlying25 Try.underlying5 Try.underlying9) ?_; go_frame
  refine dY _ hS (yNeqStr _ _ _ _ (coinL c) (coinL c) false rfl rfl rfl rfl (by simp)) ?_; go_frame
  refine dY _ hS (yMove _ (.bool false) rfl rfl rfl) ?_; go_frame
  refine dY _ hS (yMove _ (.int .i64 ((0 : Nat) : Int)) rfl rfl rfl) ?_; go_frame
  refine dY _ hS (yNeqI _ _ _ _ .i64 (((0 : Nat) : Int)) 0 false rfl rfl rfl rfl (by decide)) ?_; go_frame
  refine dY _ hS (yPick _ _ _ false (.bool false) rfl rfl rfl rfl) ?_; go_frame
  refine dY _ hS (yMove _ (.bool false) rfl rfl rfl) ?_; go_frame
  refine dY _ hS (yLoadRowC Try.underlying29 rfl _ z3.heap.size (coinV c uy) info_CoinC (fun _ h => h.2.1) rfl rfl rfl) ?_; go_frame
  refine dY _ hS (yLoadRowC Try.underlying29 rfl _ W0.heap.size (coinV c u) info_CoinC (fun _ h => h.1) rfl rfl rfl) ?_; go_frame
  refine dLoud ?_
  refine kCall2 31 _ _ _ _ _ rfl rfl (by kernel_rfl) rfl rfl ?_
  refine (zSameCoin_any (c := c) (d := c) _ huy_63 hu_60).mono ?_
  rintro e s2 ⟨rfl, hBB⟩
  clear hS
  rw [sameC_refl]
  have hu_67 := hu_60.below hBB
  have hRc_68 := hRc_61.below hBB hRc_61.lt
  have hp_69 := hp_62.below hBB
  have huy_70 := huy_63.below hBB
  have hR2_71 := hR2_64.below hBB hR2_64.lt
  have hpv_72 := hpv_65.below hBB
  have hv72_73 := hv72.below hBB
  have hB_74 := hB_66.trans (hBB.mono hB_66.size)
  clear hu_60 hRc_61 hp_62 huy_63 hR2_64 hpv_65 hv72 hB_66 hBB
  have hS : (Row s2 W0.heap.size 29 (coinV c u)) ∧ (Row s2 z3.heap.size 29 (coinV c uy)) ∧ (IsVals s2 vp ((coinL c).map VB)) ∧ (IsVals s2 v72 ((coinL c).map VB)) := ⟨hRc_68, hR2_71, hpv_72, hv72_73⟩
  refine ⟨_, rfl, mixOn ⟨(fun w => (Row w W0.heap.size 29 (coinV c u)) ∧ (Row w z3.heap.size 29 (coinV c uy)) ∧ (IsVals w vp ((coinL c).map VB)) ∧ (IsVals w v72 ((coinL c).map VB))), (fun _ h => ⟨h.1, h.2.1, h.2.2.1, h.2.2.2⟩), hS, ?_⟩⟩
  go_frame
  refine dY _ hS (yNotC _ _ true rfl rfl rfl) ?_; go_frame
  refine dY _ hS (yPick _ _ _ false (.bool false) rfl rfl rfl rfl) ?_; go_frame
  refine dDone ?_
  clear hS
  go_wp2_with (first
    | ((with_reducible change wpList _ _ _ (Oper.mk (some 86) _ _ _ _ _ :: _) _ _); refine kLssI _ _ _ _ .i64 (n : Int) 0 false rfl rfl rfl rfl hl1 ?_; go_frame)
    | ((with_reducible change wpList _ _ _ (Oper.mk (some 90) _ _ _ _ _ :: _) _ _); refine kLenN _ _ _ vp _ M rfl rfl rfl hp_69.vals (by rw [List.length_map, hM]) Try.underlying25 ?_; go_frame)
    | ((with_reducible change wpList _ _ _ (Oper.mk (some 91) _ _ _ _ _ :: _) _ _); refine kGeqI _ _ _ _ .i64 (n : Int) (M : Int) false rfl rfl rfl rfl hl2 ?_; go_frame)
    | ((with_reducible change wpList _ _ _ (Oper.mk (some 105) _ _ _ _ _ :: _) _ _); refine kSliceTo _ _ vp (coinL c) n hp_69.vals (by omega) rfl rfl rfl rfl ?_; intro hV2; go_frame)
    | (go_at_call 9; refine (hpm _ _ hV2).mono ?_; rintro e y3 ⟨uz, rfl, hO, hBB⟩; have huz := hO.vals; clear hO hV2; have hp_75 := hp_69.below hBB; have hB_76 := hB_74.trans (hBB.mono hB_74.size); clear hp_69 hB_74 hBB; go_frame)
    | ((with_reducible change wpList _ _ _ (Oper.mk (some 14) _ _ _ _ _ :: _) _ _); refine kAllocL _ _ rfl rfl zero_CoinC ?_; intro a3 hX3 hz hBB; clear hz; have le3 := hB_76.size; have hp_77 := hp_75.below hBB; have huz_78 := huz.below hBB; have hB_79 := hB_76.trans (hBB.mono hB_76.size); clear hp_75 huz hB_76 hBB; go_frame)
    | ((with_reducible change wpList _ _ _ (Oper.mk none _ _ _ _ _ :: _) _ _); refine kStoreCoin _ _ _ ZC.value uz ZC.height ZC.base _ hX3 rfl huz_78 rfl rfl rfl rfl ?_; intro b3 hY3 hW3; have hn3 := coin_noByte 0 0 false (isVals_nil a3); have hp_80 := own_wroteN hp_77 hX3 (by decide) hW3; have huz_81 := vals_wroteN huz_78 hX3 hn3 hW3; have hB_82 := hB_79.trans (hW3.below le3); have hR3 : Row b3 y3.heap.size 29 (coinV ZC uz) := hY3; clear hX3 hY3 hW3 hn3 le3 hp_77 huz_78 hB_79; go_frame)
    | ((with_reducible change wpList _ _ _ (Oper.mk (some 110) _ _ _ _ _ :: _) _ _); refine kEqlI _ _ _ _ .i64 ((61 : Nat) : Int) 61 true rfl rfl rfl rfl (by decide) ?_; go_frame))
  go_ret
  exact ⟨rfl, hB_82⟩
set_option maxRecDepth 100000 in
set_option maxHeartbeats 8000000 in
theorem coinBytes_no62 {c : CoinP} {b : List UInt8} {u bv : Value} {cut : Int} (W0 : World) (hu : IsVals W0 u (c.lock.map VB)) (hbv : IsVals W0 bv (b.map VB)) (hb : b.length ≤ 2500) {XC : CoinP} (hx : parseC b = (XC, 62)) (hcr : rightC c = false) : Calls Try.prog 6 #[.agg (coinV c u), bv, .int .i64 cut] W0 (AlivePost W0) := by
  obtain ⟨i, hi, hz, hs1, hby⟩ := b8Info
  obtain ⟨k, hk⟩ : ∃ k, b.length = k := ⟨_, rfl⟩
  have d1 : decide ((k : Int) > 2500) = false := by simp; omega
  have hps : ∀ (w : World) (v : Value), IsVals w v (b.map VB) → Calls Try.prog 9 #[v] w (ParsePost w (XC, 62)) := fun w v h => by rw [← hx]; exact coParse_any w h (by omega)
  have hxn : Hid (XC = noCoin) := Lib.hid (by have := (parse_wrong (b := b) (by rw [hx]; simp)).1; rw [hx] at this; exact this)
  have hsm : sameC XC noCoin = true := by rw [hxn.out]; exact sameC_refl _
  clear hxn
  go_enter Try.func6, Try.ntmps6
  go_wp2_with (first
    | ((with_reducible change wpList _ _ _ (Oper.mk (some 3) _ _ _ _ _ :: _) _ _); refine kBoxL _ _ _ rfl rfl rfl ?_; intro w1 hRc hz1 hB0; clear hz1; have hu_1 := hu.below hB0; have hbv_2 := hbv.below hB0; clear hu hbv; go_frame)
    | (go_at_call 10; refine (coinAlive_any _).mono ?_; rintro e w2 ⟨rfl, hBB⟩; have hu_3 := hu_1.below hBB; have hbv_4 := hbv_2.below hBB; have hRc_5 := hRc.below hBB hRc.lt; have hB_6 := hB0.trans (hBB.mono hB0.size); clear hu_1 hbv_2 hRc hB0 hBB; go_frame)
    | ((with_reducible change wpList _ _ _ (Oper.mk (some 19) _ _ _ _ _ :: _) _ _); refine kLenN _ _ _ bv _ k rfl rfl rfl hbv_4 (by rw [List.length_map, hk]) Try.underlying25 ?_; go_frame)
    | ((with_reducible change wpList _ _ _ (Oper.mk (some 20) _ _ _ _ _ :: _) _ _); refine kGtrI _ _ _ _ .i64 (k : Int) 2500 false rfl rfl rfl rfl d1 ?_; go_frame)
    | (go_at_call 9; (with_reducible change Calls _ _ #[bv] _ _); refine (hps _ _ hbv_4).mono ?_; rintro e w3 ⟨ux, rfl, hO, hBB⟩; have hux := hO.vals; clear hO; have hu_7 := hu_3.below hBB; have hbv_8 := hbv_4.below hBB; have hRc_9 := hRc_5.below hBB hRc_5.lt; have hB_10 := hB_6.trans (hBB.mono hB_6.size); clear hu_3 hbv_4 hRc_5 hB_6 hBB; go_frame)
    | ((with_reducible change wpList _ _ _ (Oper.mk (some 7) _ _ _ _ _ :: _) _ _); refine kAllocL _ _ rfl rfl zero_CoinC ?_; intro a1 hX1 hz hBB; clear hz; have nehRc_1 := Nat.ne_of_lt hRc_9.lt; have le1 := hB_10.size; have hu_11 := hu_7.below hBB; have hbv_12 := hbv_8.below hBB; have hRc_13 := hRc_9.below hBB hRc_9.lt; have hux_14 := hux.below hBB; have hB_15 := hB_10.trans (hBB.mono hB_10.size); clear hu_7 hbv_8 hRc_9 hux hB_10 hBB; go_frame)
    | ((with_reducible change wpList _ _ _ (Oper.mk none _ _ _ _ _ :: _) _ _); refine kStoreCoin _ _ _ XC.value ux XC.height XC.base _ hX1 rfl hux_14 rfl rfl rfl rfl ?_; intro b1 hY1 hW1; have hn1 := coin_noByte 0 0 false (isVals_nil a1); have hu_16 := vals_wroteN hu_11 hX1 hn1 hW1; have hbv_17 := vals_wroteN hbv_12 hX1 hn1 hW1; have hRc_18 := hW1.row hRc_13 nehRc_1; have hux_19 := vals_wroteN hux_14 hX1 hn1 hW1; have hB_20 := hB_15.trans (hW1.below le1); have hR1 : Row b1 w3.heap.size 29 (coinV XC ux) := hY1; clear hX1 hY1 hW1 hn1 le1 hu_11 hbv_12 hRc_13 hux_14 hB_15; go_frame))
  refine region_mixD [(0, true), (1, true), (2, true), (3, true), (4, true), (5, true), (6, true), (7, true), (8, true), (9, true), (10, true), (11, true), (12, true), (13, true), (14, true), (15, true), (16, true), (17, true), (18, true), (19, true), (20, true), (21, false), (22, true), (23, true), (24, true), (25, true), (26, true), (27, true), (28, true), (29, true), (30, true), (31, true), (32, true)] (fun w => (IsVals w bv (b.map VB)) ∧ (Row w W0.heap.size 29 (coinV c u)) ∧ (Row w w3.heap.size 29 (coinV XC ux))) (by kernel_rfl) (by kernel_rfl) rfl ?_
  intro q0 hBd hsd
  clear hsd
  have hu_21 := hu_16.below hBd
  have hbv_22 := hbv_17.below hBd
  have hRc_23 := hRc_18.below hBd hRc_18.lt
  have hux_24 := hux_19.below hBd
  have hR1_25 := hR1.below hBd hR1.lt
  have hB_26 := hB_20.trans (hBd.mono hB_20.size)
  clear hu_16 hbv_17 hRc_18 hux_19 hR1 hB_20 hBd
  simp only [List.map_cons, List.map_nil]
  dsimp only [List.filterMap, List.getElem?_cons_zero, List.getElem?_cons_succ]
  have hS : (IsVals q0 bv (b.map VB)) ∧ (Row q0 W0.heap.size 29 (coinV c u)) ∧ (Row q0 w3.heap.size 29 (coinV XC ux)) := ⟨hbv_22, hRc_23, hR1_25⟩
  refine dY _ hS (yMove _ (.int .i64 ((62 : Nat) : Int)) rfl rfl rfl) ?_; go_frame
  refine dY _ hS (yEqlIC _ _ _ _ .i64 ((62 : Nat) : Int) 0 false rfl rfl rfl rfl (by decide)) ?_; go_frame
  refine dY _ hS (yMove _ (.bool false) rfl rfl rfl) ?_; go_frame
  refine dY _ hS (ySkip rfl) ?_; go_frame
  refine dY _ hS (ySkip rfl) ?_; go_frame
  refine dY _ hS (ySkip rfl) ?_; go_frame
  refine dY _ hS (ySkip rfl) ?_; go_frame
  refine dY _ hS (ySkip rfl) ?_; go_frame
  refine dY _ hS (ySkip rfl) ?_; go_frame
  refine dY _ hS (ySkip rfl) ?_; go_frame
  refine dY _ hS (ySkip rfl) ?_; go_frame
  refine dY _ hS (ySkip rfl) ?_; go_frame
  refine dY _ hS (ySkip rfl) ?_; go_frame
  refine dY _ hS (ySkip rfl) ?_; go_frame
  refine dY _ hS (yPick _ _ _ false (.bool false) rfl rfl rfl rfl) ?_; go_frame
  refine dY _ hS (yMove _ (.bool false) rfl rfl rfl) ?_; go_frame
  refine dY _ hS (yMove _ (.int .i64 ((62 : Nat) : Int)) rfl rfl rfl) ?_; go_frame
  refine dY _ hS (yNeqI _ _ _ _ .i64 (((62 : Nat) : Int)) 0 true rfl rfl rfl rfl (by decide)) ?_; go_frame
  refine dY _ hS (yMove _ (.bool true) rfl rfl rfl) ?_; go_frame
  refine dY _ hS (yLoadRowC Try.underlying29 rfl _ w3.heap.size (coinV XC ux) info_CoinC (fun _ h => h.2.2) rfl rfl rfl) ?_; go_frame
  refine dY _ hS (yBuildCoin0 rfl rfl) ?_; go_frame
  refine dLoud ?_
  refine kCall2 31 _ _ _ _ _ rfl rfl (by kernel_rfl) rfl rfl ?_
  refine (zSameCoin_any (c := XC) (d := noCoin) _ hux_24 (isVals_nil _)).mono ?_
  rintro e q1 ⟨rfl, hBB⟩
  clear hS
  rw [hsm]
  have hu_27 := hu_21.below hBB
  have hbv_28 := hbv_22.below hBB
  have hRc_29 := hRc_23.below hBB hRc_23.lt
  have hux_30 := hux_24.below hBB
  have hR1_31 := hR1_25.below hBB hR1_25.lt
  have hB_32 := hB_26.trans (hBB.mono hB_26.size)
  clear hu_21 hbv_22 hRc_23 hux_24 hR1_25 hB_26 hBB
  have hS : (IsVals q1 bv (b.map VB)) ∧ (Row q1 W0.heap.size 29 (coinV c u)) ∧ (Row q1 w3.heap.size 29 (coinV XC ux)) := ⟨hbv_28, hRc_29, hR1_31⟩
  refine ⟨_, rfl, mixOn ⟨(fun w => (IsVals w bv (b.map VB)) ∧ (Row w W0.heap.size 29 (coinV c u)) ∧ (Row w w3.heap.size 29 (coinV XC ux))), (fun _ h => ⟨h.1, h.2.1, h.2.2⟩), hS, ?_⟩⟩
  go_frame
  refine dY _ hS (yNotC _ _ true rfl rfl rfl) ?_; go_frame
  refine dY _ hS (yMove _ (.bool false) rfl rfl rfl) ?_; go_frame
  refine dY _ hS (yMove _ (.int .i64 ((62 : Nat) : Int)) rfl rfl rfl) ?_; go_frame
  refine dY _ hS (yNeqI _ _ _ _ .i64 (((62 : Nat) : Int)) 61 true rfl rfl rfl rfl (by decide)) ?_; go_frame
  refine dY _ hS (yMove _ (.bool true) rfl rfl rfl) ?_; go_frame
  refine dY _ hS (yMove _ (.int .i64 ((62 : Nat) : Int)) rfl rfl rfl) ?_; go_frame
  refine dY _ hS (yNeqI _ _ _ _ .i64 (((62 : Nat) : Int)) 62 false rfl rfl rfl rfl (by decide)) ?_; go_frame
  refine dY _ hS (yPick _ _ _ true (.bool false) rfl rfl rfl rfl) ?_; go_frame
  refine dY _ hS (yPick _ _ _ false (.bool false) rfl rfl rfl rfl) ?_; go_frame
  refine dY _ hS (yPick _ _ _ true (.bool false) rfl rfl rfl rfl) ?_; go_frame
  refine dY _ hS (yPick _ _ _ false (.bool false) rfl rfl rfl rfl) ?_; go_frame
  refine dDone ?_
  clear hS
  go_wp2_with (first
    | ((with_reducible change wpList _ _ _ (Oper.mk (some 59) _ _ _ _ _ :: _) _ _); refine kLoadCoin _ _ c.value u c.height c.base hRc_29 rfl rfl rfl ?_; go_frame)
    | (go_at_call 29; refine (zRight_any (c := c) _ hu_27).mono ?_; rintro e z1 ⟨rfl, hBB⟩; rw [hcr]; have hu_33 := hu_27.below hBB; have hRc_34 := hRc_29.below hBB hRc_29.lt; have hB_35 := hB_32.trans (hBB.mono hB_32.size); clear hu_27 hRc_29 hB_32 hBB; go_frame))
  go_ret
  exact ⟨rfl, hB_35⟩
set_option maxRecDepth 100000 in
set_option maxHeartbeats 8000000 in
theorem coinBytes_more62 {c : CoinP} {b : List UInt8} {u bv : Value} {cut : Int} (W0 : World) (hu : IsVals W0 u (c.lock.map VB)) (hbv : IsVals W0 bv (b.map VB)) (hb : b.length ≤ 2500) {XC : CoinP} (hx : parseC b = (XC, 62)) (hcr : rightC c = true) (hct : cut < 0 ∨ ((coinL c).length : Int) ≤ cut) : Calls Try.prog 6 #[.agg (coinV c u), bv, .int .i64 cut] W0 (AlivePost W0) := by
  obtain ⟨i, hi, hz, hs1, hby⟩ := b8Info
  obtain ⟨k, hk⟩ : ∃ k, b.length = k := ⟨_, rfl⟩
  have d1 : decide ((k : Int) > 2500) = false := by simp; omega
  have hps : ∀ (w : World) (v : Value), IsVals w v (b.map VB) → Calls Try.prog 9 #[v] w (ParsePost w (XC, 62)) := fun w v h => by rw [← hx]; exact coParse_any w h (by omega)
  have hxn : Hid (XC = noCoin) := Lib.hid (by have := (parse_wrong (b := b) (by rw [hx]; simp)).1; rw [hx] at this; exact this)
  have hsm : sameC XC noCoin = true := by rw [hxn.out]; exact sameC_refl _
  clear hxn
  have hcl2 := (rightC_iff.1 hcr).2.1
  have hLl : (coinL c).length ≤ 3000 := by have h1 := countL_le (stampN c.height c.base); have h2 := outL_le (n := c.value) hcl2; unfold coinL; rw [List.length_append]; omega
  have hpc : ∀ (w : World) (v : Value), IsVals w v ((coinL c).map VB) → Calls Try.prog 9 #[v] w (ParsePost w (c, 0)) := fun w v h => by rw [← parse_back hcr]; exact coParse_any w h (by omega)
  have hpm : ∀ (w : World) (v : Value), IsVals w v ((coinL c ++ [0]).map VB) → Calls Try.prog 9 #[v] w (ParsePost w (noCoin, 62)) := fun w v h => by rw [← parse_more hcr]; exact coParse_any w h (by simp; omega)
  obtain ⟨M, hM⟩ : ∃ M, (coinL c).length = M := ⟨_, rfl⟩
  obtain ⟨b1, hl1⟩ : ∃ b, decide (cut < 0) = b := ⟨_, rfl⟩
  obtain ⟨b2, hl2⟩ : ∃ b, decide (cut ≥ (M : Int)) = b := ⟨_, rfl⟩
  by_cases g1 : cut < 0
  · obtain rfl : b1 = true := by rw [← hl1]; simp; exact g1
    clear g1 hct
    go_enter Try.func6, Try.ntmps6
    go_wp2_with (first
      | ((with_reducible change wpList _ _ _ (Oper.mk (some 3) _ _ _ _ _ :: _) _ _); refine kBoxL _ _ _ rfl rfl rfl ?_; intro w1 hRc hz1 hB0; clear hz1; have hu_1 := hu.below hB0; have hbv_2 := hbv.below hB0; clear hu hbv; go_frame)
      | (go_at_call 10; refine (coinAlive_any _).mono ?_; rintro e w2 ⟨rfl, hBB⟩; have hu_3 := hu_1.below hBB; have hbv_4 := hbv_2.below hBB; have hRc_5 := hRc.below hBB hRc.lt; have hB_6 := hB0.trans (hBB.mono hB0.size); clear hu_1 hbv_2 hRc hB0 hBB; go_frame)
      | ((with_reducible change wpList _ _ _ (Oper.mk (some 19) _ _ _ _ _ :: _) _ _); refine kLenN _ _ _ bv _ k rfl rfl rfl hbv_4 (by rw [List.length_map, hk]) Try.underlying25 ?_; go_frame)
      | ((with_reducible change wpList _ _ _ (Oper.mk (some 20) _ _ _ _ _ :: _) _ _); refine kGtrI _ _ _ _ .i64 (k : Int) 2500 false rfl rfl rfl rfl d1 ?_; go_frame)
      | (go_at_call 9; (with_reducible change Calls _ _ #[bv] _ _); refine (hps _ _ hbv_4).mono ?_; rintro e w3 ⟨ux, rfl, hO, hBB⟩; have hux := hO.vals; clear hO; have hu_7 := hu_3.below hBB; have hbv_8 := hbv_4.below hBB; have hRc_9 := hRc_5.below hBB hRc_5.lt; have hB_10 := hB_6.trans (hBB.mono hB_6.size); clear hu_3 hbv_4 hRc_5 hB_6 hBB; go_frame)
      | ((with_reducible change wpList _ _ _ (Oper.mk (some 7) _ _ _ _ _ :: _) _ _); refine kAllocL _ _ rfl rfl zero_CoinC ?_; intro a1 hX1 hz hBB; clear hz; have nehRc_1 := Nat.ne_of_lt hRc_9.lt; have le1 := hB_10.size; have hu_11 := hu_7.below hBB; have hbv_12 := hbv_8.below hBB; have hRc_13 := hRc_9.below hBB hRc_9.lt; have hux_14 := hux.below hBB; have hB_15 := hB_10.trans (hBB.mono hB_10.size); clear hu_7 hbv_8 hRc_9 hux hB_10 hBB; go_frame)
      | ((with_reducible change wpList _ _ _ (Oper.mk none _ _ _ _ _ :: _) _ _); refine kStoreCoin _ _ _ XC.value ux XC.height XC.base _ hX1 rfl hux_14 rfl rfl rfl rfl ?_; intro b1 hY1 hW1; have hn1 := coin_noByte 0 0 false (isVals_nil a1); have hu_16 := vals_wroteN hu_11 hX1 hn1 hW1; have hbv_17 := vals_wroteN hbv_12 hX1 hn1 hW1; have hRc_18 := hW1.row hRc_13 nehRc_1; have hux_19 := vals_wroteN hux_14 hX1 hn1 hW1; have hB_20 := hB_15.trans (hW1.below le1); have hR1 : Row b1 w3.heap.size 29 (coinV XC ux) := hY1; clear hX1 hY1 hW1 hn1 le1 hu_11 hbv_12 hRc_13 hux_14 hB_15; go_frame))
    refine region_mixD [(0, true), (1, true), (2, true), (3, true), (4, true), (5, true), (6, true), (7, true), (8, true), (9, true), (10, true), (11, true), (12, true), (13, true), (14, true), (15, true), (16, true), (17, true), (18, true), (19, true), (20, true), (21, false), (22, true), (23, true), (24, true), (25, true), (26, true), (27, true), (28, true), (29, true), (30, true), (31, true), (32, true)] (fun w => (IsVals w bv (b.map VB)) ∧ (Row w W0.heap.size 29 (coinV c u)) ∧ (Row w w3.heap.size 29 (coinV XC ux))) (by kernel_rfl) (by kernel_rfl) rfl ?_
    intro q0 hBd hsd
    clear hsd
    have hu_21 := hu_16.below hBd
    have hbv_22 := hbv_17.below hBd
    have hRc_23 := hRc_18.below hBd hRc_18.lt
    have hux_24 := hux_19.below hBd
    have hR1_25 := hR1.below hBd hR1.lt
    have hB_26 := hB_20.trans (hBd.mono hB_20.size)
    clear hu_16 hbv_17 hRc_18 hux_19 hR1 hB_20 hBd
    simp only [List.map_cons, List.map_nil]
    dsimp only [List.filterMap, List.getElem?_cons_zero, List.getElem?_cons_succ]
    have hS : (IsVals q0 bv (b.map VB)) ∧ (Row q0 W0.heap.size 29 (coinV c u)) ∧ (Row q0 w3.heap.size 29 (coinV XC ux)) := ⟨hbv_22, hRc_23, hR1_25⟩
    refine dY _ hS (yMove _ (.int .i64 ((62 : Nat) : Int)) rfl rfl rfl) ?_; go_frame
    refine dY _ hS (yEqlIC _ _ _ _ .i64 ((62 : Nat) : Int) 0 false rfl rfl rfl rfl (by decide)) ?_; go_frame
    refine dY _ hS (yMove _ (.bool false) rfl rfl rfl) ?_; go_frame
    refine dY _ hS (ySkip rfl) ?_; go_frame
    refine dY _ hS (ySkip rfl) ?_; go_frame
    refine dY _ hS (ySkip rfl) ?_; go_frame
    refine dY _ hS (ySkip rfl) ?_; go_frame
    refine dY _ hS (ySkip rfl) ?_; go_frame
    refine dY _ hS (ySkip rfl) ?_; go_frame
    refine dY _ hS (ySkip rfl) ?_; go_frame
    refine dY _ hS (ySkip rfl) ?_; go_frame
    refine dY _ hS (ySkip rfl) ?_; go_frame
    refine dY _ hS (ySkip rfl) ?_; go_frame
    refine dY _ hS (ySkip rfl) ?_; go_frame
    refine dY _ hS (yPick _ _ _ false (.bool false) rfl rfl rfl rfl) ?_; go_frame
    refine dY _ hS (yMove _ (.bool false) rfl rfl rfl) ?_; go_frame
    refine dY _ hS (yMove _ (.int .i64 ((62 : Nat) : Int)) rfl rfl rfl) ?_; go_frame
    refine dY _ hS (yNeqI _ _ _ _ .i64 (((62 : Nat) : Int)) 0 true rfl rfl rfl rfl (by decide)) ?_; go_frame
    refine dY _ hS (yMove _ (.bool true) rfl rfl rfl) ?_; go_frame
    refine dY _ hS (yLoadRowC Try.underlying29 rfl _ w3.heap.size (coinV XC ux) info_CoinC (fun _ h => h.2.2) rfl rfl rfl) ?_; go_frame
    refine dY _ hS (yBuildCoin0 rfl rfl) ?_; go_frame
    refine dLoud ?_
    refine kCall2 31 _ _ _ _ _ rfl rfl (by kernel_rfl) rfl rfl ?_
    refine (zSameCoin_any (c := XC) (d := noCoin) _ hux_24 (isVals_nil _)).mono ?_
    rintro e q1 ⟨rfl, hBB⟩
    clear hS
    rw [hsm]
    have hu_27 := hu_21.below hBB
    have hbv_28 := hbv_22.below hBB
    have hRc_29 := hRc_23.below hBB hRc_23.lt
    have hux_30 := hux_24.below hBB
    have hR1_31 := hR1_25.below hBB hR1_25.lt
    have hB_32 := hB_26.trans (hBB.mono hB_26.size)
    clear hu_21 hbv_22 hRc_23 hux_24 hR1_25 hB_26 hBB
    have hS : (IsVals q1 bv (b.map VB)) ∧ (Row q1 W0.heap.size 29 (coinV c u)) ∧ (Row q1 w3.heap.size 29 (coinV XC ux)) := ⟨hbv_28, hRc_29, hR1_31⟩
    refine ⟨_, rfl, mixOn ⟨(fun w => (IsVals w bv (b.map VB)) ∧ (Row w W0.heap.size 29 (coinV c u)) ∧ (Row w w3.heap.size 29 (coinV XC ux))), (fun _ h => ⟨h.1, h.2.1, h.2.2⟩), hS, ?_⟩⟩
    go_frame
    refine dY _ hS (yNotC _ _ true rfl rfl rfl) ?_; go_frame
    refine dY _ hS (yMove _ (.bool false) rfl rfl rfl) ?_; go_frame
    refine dY _ hS (yMove _ (.int .i64 ((62 : Nat) : Int)) rfl rfl rfl) ?_; go_frame
    refine dY _ hS (yNeqI _ _ _ _ .i64 (((62 : Nat) : Int)) 61 true rfl rfl rfl rfl (by decide)) ?_; go_frame
    refine dY _ hS (yMove _ (.bool true) rfl rfl rfl) ?_; go_frame
    refine dY _ hS (yMove _ (.int .i64 ((62 : Nat) : Int)) rfl rfl rfl) ?_; go_frame
    refine dY _ hS (yNeqI _ _ _ _ .i64 (((62 : Nat) : Int)) 62 false rfl rfl rfl rfl (by decide)) ?_; go_frame
    refine dY _ hS (yPick _ _ _ true (.bool false) rfl rfl rfl rfl) ?_; go_frame
    refine dY _ hS (yPick _ _ _ false (.bool false) rfl rfl rfl rfl) ?_; go_frame
    refine dY _ hS (yPick _ _ _ true (.bool false) rfl rfl rfl rfl) ?_; go_frame
    refine dY _ hS (yPick _ _ _ false (.bool false) rfl rfl rfl rfl) ?_; go_frame
    refine dDone ?_
    clear hS
    go_wp2_with (first
      | ((with_reducible change wpList _ _ _ (Oper.mk (some 59) _ _ _ _ _ :: _) _ _); refine kLoadCoin _ _ c.value u c.height c.base hRc_29 rfl rfl rfl ?_; go_frame)
      | (go_at_call 29; refine (zRight_any (c := c) _ hu_27).mono ?_; rintro e z1 ⟨rfl, hBB⟩; rw [hcr]; have hu_33 := hu_27.below hBB; have hRc_34 := hRc_29.below hBB hRc_29.lt; have hB_35 := hB_32.trans (hBB.mono hB_32.size); clear hu_27 hRc_29 hB_32 hBB; go_frame)
      | ((with_reducible change wpList _ _ _ (Oper.mk (some 62) _ _ _ _ _ :: _) _ _); refine kLoadCoin _ _ c.value u c.height c.base hRc_34 rfl rfl rfl ?_; go_frame)
      | (go_at_call 32; refine (coBytes_any (c := c) _ hu_33 (by omega)).mono ?_; rintro e z2 ⟨vp, rfl, hO, hBB⟩; have hp := own_less hB_35.size hO; clear hO; have hu_36 := hu_33.below hBB; have hRc_37 := hRc_34.below hBB hRc_34.lt; have hB_38 := hB_35.trans (hBB.mono hB_35.size); clear hu_33 hRc_34 hB_35 hBB; go_frame)
      | (go_at_call 9; (with_reducible change Calls _ _ #[vp] _ _); refine (hpc _ _ hp.vals).mono ?_; rintro e z3 ⟨uy, rfl, hO, hBB⟩; have huy := hO.vals; clear hO; have hu_39 := hu_36.below hBB; have hRc_40 := hRc_37.below hBB hRc_37.lt; have hp_41 := hp.below hBB; have hB_42 := hB_38.trans (hBB.mono hB_38.size); clear hu_36 hRc_37 hp hB_38 hBB; go_frame)
      | ((with_reducible change wpList _ _ _ (Oper.mk (some 10) _ _ _ _ _ :: _) _ _); refine kAllocL _ _ rfl rfl zero_CoinC ?_; intro a2 hX2 hz hBB; clear hz; have nehRc_2 := Nat.ne_of_lt hRc_40.lt; have le2 := hB_42.size; have hu_43 := hu_39.below hBB; have hRc_44 := hRc_40.below hBB hRc_40.lt; have hp_45 := hp_41.below hBB; have huy_46 := huy.below hBB; have hB_47 := hB_42.trans (hBB.mono hB_42.size); clear hu_39 hRc_40 hp_41 huy hB_42 hBB; go_frame)
      | ((with_reducible change wpList _ _ _ (Oper.mk none _ _ _ _ _ :: _) _ _); refine kStoreCoin _ _ _ c.value uy c.height c.base _ hX2 rfl huy_46 rfl rfl rfl rfl ?_; intro b2 hY2 hW2; have hn2 := coin_noByte 0 0 false (isVals_nil a2); have hu_48 := vals_wroteN hu_43 hX2 hn2 hW2; have hRc_49 := hW2.row hRc_44 nehRc_2; have hp_50 := own_wroteN hp_45 hX2 (by decide) hW2; have huy_51 := vals_wroteN huy_46 hX2 hn2 hW2; have hB_52 := hB_47.trans (hW2.below le2); have hR2 : Row b2 z3.heap.size 29 (coinV c uy) := hY2; clear hX2 hY2 hW2 hn2 le2 hu_43 hRc_44 hp_45 huy_46 hB_47; go_frame))
    have hpv := hp_50.vals
    refine region_mixD [(0, true), (1, true), (2, true), (3, false), (4, true), (5, true), (6, true), (7, true), (8, true), (9, true), (10, true), (11, true), (12, true), (13, false), (14, true), (15, true)] (fun w => (Row w W0.heap.size 29 (coinV c u)) ∧ (Row w z3.heap.size 29 (coinV c uy)) ∧ (IsVals w vp ((coinL c).map VB))) (by kernel_rfl) (by kernel_rfl) rfl ?_
    intro s0 hBd hsd
    clear hsd
    have hu_53 := hu_48.below hBd
    have hRc_54 := hRc_49.below hBd hRc_49.lt
    have hp_55 := hp_50.below hBd
    have huy_56 := huy_51.below hBd
    have hR2_57 := hR2.below hBd hR2.lt
    have hpv_58 := hpv.below hBd
    have hB_59 := hB_52.trans (hBd.mono hB_52.size)
    clear hu_48 hRc_49 hp_50 huy_51 hR2 hpv hB_52 hBd
    simp only [List.map_cons, List.map_nil]
    dsimp only [List.filterMap, List.getElem?_cons_zero, List.getElem?_cons_succ]
    have hS : (Row s0 W0.heap.size 29 (coinV c u)) ∧ (Row s0 z3.heap.size 29 (coinV c uy)) ∧ (IsVals s0 vp ((coinL c).map VB)) := ⟨hRc_54, hR2_57, hpv_58⟩
    refine dY _ hS (yMove _ (vp) rfl rfl rfl) ?_; go_frame
    refine dY _ hS (yStr _ _ _ _ vp (coinL c) rfl rfl rfl (fun _ h => h.2.2) Try.underlying25 Try.underlying5 Try.underlying9) ?_; go_frame
    refine dY _ hS (yLoadRowC Try.underlying29 rfl _ W0.heap.size (coinV c u) info_CoinC (fun _ h => h.1) rfl rfl rfl) ?_; go_frame
    refine dLoud ?_
    refine kCall1 30 _ _ _ rfl rfl (by kernel_rfl) rfl ?_
    refine (zBytes_any (c := c) _ hu_53 (by omega)).mono ?_
    rintro e s1 ⟨v72, rfl, hO, hBB⟩
    clear hS
    have hv72 := hO.vals
    clear hO
    have hu_60 := hu_53.below hBB
    have hRc_61 := hRc_54.below hBB hRc_54.lt
    have hp_62 := hp_55.below hBB
    have huy_63 := huy_56.below hBB
    have hR2_64 := hR2_57.below hBB hR2_57.lt
    have hpv_65 := hpv_58.below hBB
    have hB_66 := hB_59.trans (hBB.mono hB_59.size)
    clear hu_53 hRc_54 hp_55 huy_56 hR2_57 hpv_58 hB_59 hBB
    have hS : (Row s1 W0.heap.size 29 (coinV c u)) ∧ (Row s1 z3.heap.size 29 (coinV c uy)) ∧ (IsVals s1 vp ((coinL c).map VB)) ∧ (IsVals s1 v72 ((coinL c).map VB)) := ⟨hRc_61, hR2_64, hpv_65, hv72⟩
    refine ⟨_, rfl, mixOn ⟨(fun w => (Row w W0.heap.size 29 (coinV c u)) ∧ (Row w z3.heap.size 29 (coinV c uy)) ∧ (IsVals w vp ((coinL c).map VB)) ∧ (IsVals w v72 ((coinL c).map VB))), (fun _ h => ⟨h.1, h.2.1, h.2.2.1⟩), hS, ?_⟩⟩
    go_frame
    refine dY _ hS (yStr _ _ _ _ v72 (coinL c) rfl rfl rfl (fun _ h => h.2.2.2) Try.underlying25 Try.underlying5 Try.underlying9) ?_; go_frame
    refine dY _ hS (yNeqStr _ _ _ _ (coinL c) (coinL c) false rfl rfl rfl rfl (by simp)) ?_; go_frame
    refine dY _ hS (yMove _ (.bool false) rfl rfl rfl) ?_; go_frame
    refine dY _ hS (yMove _ (.int .i64 ((0 : Nat) : Int)) rfl rfl rfl) ?_; go_frame
    refine dY _ hS (yNeqI _ _ _ _ .i64 (((0 : Nat) : Int)) 0 false rfl rfl rfl rfl (by decide)) ?_; go_frame
    refine dY _ hS (yPick _ _ _ false (.bool false) rfl rfl rfl rfl) ?_; go_frame
    refine dY _ hS (yMove _ (.bool false) rfl rfl rfl) ?_; go_frame
    refine dY _ hS (yLoadRowC Try.underlying29 rfl _ z3.heap.size (coinV c uy) info_CoinC (fun _ h => h.2.1) rfl rfl rfl) ?_; go_frame
    refine dY _ hS (yLoadRowC Try.underlying29 rfl _ W0.heap.size (coinV c u) info_CoinC (fun _ h => h.1) rfl rfl rfl) ?_; go_frame
    refine dLoud ?_
    refine kCall2 31 _ _ _ _ _ rfl rfl (by kernel_rfl) rfl rfl ?_
    refine (zSameCoin_any (c := c) (d := c) _ huy_63 hu_60).mono ?_
    rintro e s2 ⟨rfl, hBB⟩
    clear hS
    rw [sameC_refl]
    have hu_67 := hu_60.below hBB
    have hRc_68 := hRc_61.below hBB hRc_61.lt
    have hp_69 := hp_62.below hBB
    have huy_70 := huy_63.below hBB
    have hR2_71 := hR2_64.below hBB hR2_64.lt
    have hpv_72 := hpv_65.below hBB
    have hv72_73 := hv72.below hBB
    have hB_74 := hB_66.trans (hBB.mono hB_66.size)
    clear hu_60 hRc_61 hp_62 huy_63 hR2_64 hpv_65 hv72 hB_66 hBB
    have hS : (Row s2 W0.heap.size 29 (coinV c u)) ∧ (Row s2 z3.heap.size 29 (coinV c uy)) ∧ (IsVals s2 vp ((coinL c).map VB)) ∧ (IsVals s2 v72 ((coinL c).map VB)) := ⟨hRc_68, hR2_71, hpv_72, hv72_73⟩
    refine ⟨_, rfl, mixOn ⟨(fun w => (Row w W0.heap.size 29 (coinV c u)) ∧ (Row w z3.heap.size 29 (coinV c uy)) ∧ (IsVals w vp ((coinL c).map VB)) ∧ (IsVals w v72 ((coinL c).map VB))), (fun _ h => ⟨h.1, h.2.1, h.2.2.1, h.2.2.2⟩), hS, ?_⟩⟩
    go_frame
    refine dY _ hS (yNotC _ _ true rfl rfl rfl) ?_; go_frame
    refine dY _ hS (yPick _ _ _ false (.bool false) rfl rfl rfl rfl) ?_; go_frame
    refine dDone ?_
    clear hS
    go_wp2_with (first
      | ((with_reducible change wpList _ _ _ (Oper.mk (some 86) _ _ _ _ _ :: _) _ _); refine kLssI _ _ _ _ .i64 cut 0 _ rfl rfl rfl rfl hl1 ?_; go_frame)
      | ((with_reducible change wpList _ _ _ (Oper.mk (some 90) _ _ _ _ _ :: _) _ _); refine kLenN _ _ _ vp _ M rfl rfl rfl hp_69.vals (by rw [List.length_map, hM]) Try.underlying25 ?_; go_frame)
      | ((with_reducible change wpList _ _ _ (Oper.mk (some 91) _ _ _ _ _ :: _) _ _); refine kGeqI _ _ _ _ .i64 cut (M : Int) _ rfl rfl rfl rfl hl2 ?_; go_frame)
      | ((with_reducible change wpList _ _ _ (Oper.mk (some 95) _ _ _ _ _ :: _) _ _); refine kBuildSlice1 _ _ _ (VB 0) rfl rfl Try.underlying25 i _ hi hz hs1 rfl rfl ?_; intro y1 hRr hzz hBB; have hV1 : IsVals y1 _ (([0] : List UInt8).map VB) := isVals_lit (l := [VB 0]) hRr; clear hzz hRr; have hp_75 := hp_69.below hBB; have hB_76 := hB_74.trans (hBB.mono hB_74.size); clear hp_69 hB_74 hBB; go_frame)
      | ((with_reducible change wpList _ _ _ (Oper.mk (some 96) _ _ _ _ _ :: _) _ _); refine kAppB _ _ rfl rfl W0.heap.size _ _ (coinL c) [0] hp_75 hV1 rfl rfl (by simp; omega) hB_76.size ?_; intro v96 y2 hO2 hC2; have hB9 := hB_76.trans hC2; have hV2 := hO2.vals; clear hO2 hC2 hV1; go_frame)
      | (go_at_call 9; refine (hpm _ _ hV2).mono ?_; rintro e y3 ⟨uz, rfl, hO, hBB⟩; have huz := hO.vals; clear hO; have hB_77 := hB9.trans (hBB.mono hB9.size); clear hB9 hBB; go_frame)
      | ((with_reducible change wpList _ _ _ (Oper.mk (some 12) _ _ _ _ _ :: _) _ _); refine kAllocL _ _ rfl rfl zero_CoinC ?_; intro a3 hX3 hz hBB; clear hz; have le3 := hB_77.size; have huz_78 := huz.below hBB; have hB_79 := hB_77.trans (hBB.mono hB_77.size); clear huz hB_77 hBB; go_frame)
      | ((with_reducible change wpList _ _ _ (Oper.mk none _ _ _ _ _ :: _) _ _); refine kStoreCoin _ _ _ noCoin.value uz noCoin.height noCoin.base _ hX3 rfl huz_78 rfl rfl rfl rfl ?_; intro b3 hY3 hW3; have hn3 := coin_noByte 0 0 false (isVals_nil a3); have huz_80 := vals_wroteN huz_78 hX3 hn3 hW3; have hB_81 := hB_79.trans (hW3.below le3); have hR3 : Row b3 y3.heap.size 29 (coinV noCoin uz) := hY3; clear hX3 hY3 hW3 hn3 le3 huz_78 hB_79; go_frame)
      | ((with_reducible change wpList _ _ _ (Oper.mk (some 101) _ _ _ _ _ :: _) _ _); refine kEqlI _ _ _ _ .i64 ((62 : Nat) : Int) 62 true rfl rfl rfl rfl (by decide) ?_; go_frame))
    go_ret
    exact ⟨rfl, hB_81⟩
  · obtain rfl : b1 = false := by rw [← hl1]; simp; omega
    obtain rfl : b2 = true := by rw [← hl2]; simp; omega
    clear g1 hct
    go_enter Try.func6, Try.ntmps6
    go_wp2_with (first
      | ((with_reducible change wpList _ _ _ (Oper.mk (some 3) _ _ _ _ _ :: _) _ _); refine kBoxL _ _ _ rfl rfl rfl ?_; intro w1 hRc hz1 hB0; clear hz1; have hu_1 := hu.below hB0; have hbv_2 := hbv.below hB0; clear hu hbv; go_frame)
      | (go_at_call 10; refine (coinAlive_any _).mono ?_; rintro e w2 ⟨rfl, hBB⟩; have hu_3 := hu_1.below hBB; have hbv_4 := hbv_2.below hBB; have hRc_5 := hRc.below hBB hRc.lt; have hB_6 := hB0.trans (hBB.mono hB0.size); clear hu_1 hbv_2 hRc hB0 hBB; go_frame)
      | ((with_reducible change wpList _ _ _ (Oper.mk (some 19) _ _ _ _ _ :: _) _ _); refine kLenN _ _ _ bv _ k rfl rfl rfl hbv_4 (by rw [List.length_map, hk]) Try.underlying25 ?_; go_frame)
      | ((with_reducible change wpList _ _ _ (Oper.mk (some 20) _ _ _ _ _ :: _) _ _); refine kGtrI _ _ _ _ .i64 (k : Int) 2500 false rfl rfl rfl rfl d1 ?_; go_frame)
      | (go_at_call 9; (with_reducible change Calls _ _ #[bv] _ _); refine (hps _ _ hbv_4).mono ?_; rintro e w3 ⟨ux, rfl, hO, hBB⟩; have hux := hO.vals; clear hO; have hu_7 := hu_3.below hBB; have hbv_8 := hbv_4.below hBB; have hRc_9 := hRc_5.below hBB hRc_5.lt; have hB_10 := hB_6.trans (hBB.mono hB_6.size); clear hu_3 hbv_4 hRc_5 hB_6 hBB; go_frame)
      | ((with_reducible change wpList _ _ _ (Oper.mk (some 7) _ _ _ _ _ :: _) _ _); refine kAllocL _ _ rfl rfl zero_CoinC ?_; intro a1 hX1 hz hBB; clear hz; have nehRc_1 := Nat.ne_of_lt hRc_9.lt; have le1 := hB_10.size; have hu_11 := hu_7.below hBB; have hbv_12 := hbv_8.below hBB; have hRc_13 := hRc_9.below hBB hRc_9.lt; have hux_14 := hux.below hBB; have hB_15 := hB_10.trans (hBB.mono hB_10.size); clear hu_7 hbv_8 hRc_9 hux hB_10 hBB; go_frame)
      | ((with_reducible change wpList _ _ _ (Oper.mk none _ _ _ _ _ :: _) _ _); refine kStoreCoin _ _ _ XC.value ux XC.height XC.base _ hX1 rfl hux_14 rfl rfl rfl rfl ?_; intro b1 hY1 hW1; have hn1 := coin_noByte 0 0 false (isVals_nil a1); have hu_16 := vals_wroteN hu_11 hX1 hn1 hW1; have hbv_17 := vals_wroteN hbv_12 hX1 hn1 hW1; have hRc_18 := hW1.row hRc_13 nehRc_1; have hux_19 := vals_wroteN hux_14 hX1 hn1 hW1; have hB_20 := hB_15.trans (hW1.below le1); have hR1 : Row b1 w3.heap.size 29 (coinV XC ux) := hY1; clear hX1 hY1 hW1 hn1 le1 hu_11 hbv_12 hRc_13 hux_14 hB_15; go_frame))
    refine region_mixD [(0, true), (1, true), (2, true), (3, true), (4, true), (5, true), (6, true), (7, true), (8, true), (9, true), (10, true), (11, true), (12, true), (13, true), (14, true), (15, true), (16, true), (17, true), (18, true), (19, true), (20, true), (21, false), (22, true), (23, true), (24, true), (25, true), (26, true), (27, true), (28, true), (29, true), (30, true), (31, true), (32, true)] (fun w => (IsVals w bv (b.map VB)) ∧ (Row w W0.heap.size 29 (coinV c u)) ∧ (Row w w3.heap.size 29 (coinV XC ux))) (by kernel_rfl) (by kernel_rfl) rfl ?_
    intro q0 hBd hsd
    clear hsd
    have hu_21 := hu_16.below hBd
    have hbv_22 := hbv_17.below hBd
    have hRc_23 := hRc_18.below hBd hRc_18.lt
    have hux_24 := hux_19.below hBd
    have hR1_25 := hR1.below hBd hR1.lt
    have hB_26 := hB_20.trans (hBd.mono hB_20.size)
    clear hu_16 hbv_17 hRc_18 hux_19 hR1 hB_20 hBd
    simp only [List.map_cons, List.map_nil]
    dsimp only [List.filterMap, List.getElem?_cons_zero, List.getElem?_cons_succ]
    have hS : (IsVals q0 bv (b.map VB)) ∧ (Row q0 W0.heap.size 29 (coinV c u)) ∧ (Row q0 w3.heap.size 29 (coinV XC ux)) := ⟨hbv_22, hRc_23, hR1_25⟩
    refine dY _ hS (yMove _ (.int .i64 ((62 : Nat) : Int)) rfl rfl rfl) ?_; go_frame
    refine dY _ hS (yEqlIC _ _ _ _ .i64 ((62 : Nat) : Int) 0 false rfl rfl rfl rfl (by decide)) ?_; go_frame
    refine dY _ hS (yMove _ (.bool false) rfl rfl rfl) ?_; go_frame
    refine dY _ hS (ySkip rfl) ?_; go_frame
    refine dY _ hS (ySkip rfl) ?_; go_frame
    refine dY _ hS (ySkip rfl) ?_; go_frame
    refine dY _ hS (ySkip rfl) ?_; go_frame
    refine dY _ hS (ySkip rfl) ?_; go_frame
    refine dY _ hS (ySkip rfl) ?_; go_frame
    refine dY _ hS (ySkip rfl) ?_; go_frame
    refine dY _ hS (ySkip rfl) ?_; go_frame
    refine dY _ hS (ySkip rfl) ?_; go_frame
    refine dY _ hS (ySkip rfl) ?_; go_frame
    refine dY _ hS (ySkip rfl) ?_; go_frame
    refine dY _ hS (yPick _ _ _ false (.bool false) rfl rfl rfl rfl) ?_; go_frame
    refine dY _ hS (yMove _ (.bool false) rfl rfl rfl) ?_; go_frame
    refine dY _ hS (yMove _ (.int .i64 ((62 : Nat) : Int)) rfl rfl rfl) ?_; go_frame
    refine dY _ hS (yNeqI _ _ _ _ .i64 (((62 : Nat) : Int)) 0 true rfl rfl rfl rfl (by decide)) ?_; go_frame
    refine dY _ hS (yMove _ (.bool true) rfl rfl rfl) ?_; go_frame
    refine dY _ hS (yLoadRowC Try.underlying29 rfl _ w3.heap.size (coinV XC ux) info_CoinC (fun _ h => h.2.2) rfl rfl rfl) ?_; go_frame
    refine dY _ hS (yBuildCoin0 rfl rfl) ?_; go_frame
    refine dLoud ?_
    refine kCall2 31 _ _ _ _ _ rfl rfl (by kernel_rfl) rfl rfl ?_
    refine (zSameCoin_any (c := XC) (d := noCoin) _ hux_24 (isVals_nil _)).mono ?_
    rintro e q1 ⟨rfl, hBB⟩
    clear hS
    rw [hsm]
    have hu_27 := hu_21.below hBB
    have hbv_28 := hbv_22.below hBB
    have hRc_29 := hRc_23.below hBB hRc_23.lt
    have hux_30 := hux_24.below hBB
    have hR1_31 := hR1_25.below hBB hR1_25.lt
    have hB_32 := hB_26.trans (hBB.mono hB_26.size)
    clear hu_21 hbv_22 hRc_23 hux_24 hR1_25 hB_26 hBB
    have hS : (IsVals q1 bv (b.map VB)) ∧ (Row q1 W0.heap.size 29 (coinV c u)) ∧ (Row q1 w3.heap.size 29 (coinV XC ux)) := ⟨hbv_28, hRc_29, hR1_31⟩
    refine ⟨_, rfl, mixOn ⟨(fun w => (IsVals w bv (b.map VB)) ∧ (Row w W0.heap.size 29 (coinV c u)) ∧ (Row w w3.heap.size 29 (coinV XC ux))), (fun _ h => ⟨h.1, h.2.1, h.2.2⟩), hS, ?_⟩⟩
    go_frame
    refine dY _ hS (yNotC _ _ true rfl rfl rfl) ?_; go_frame
    refine dY _ hS (yMove _ (.bool false) rfl rfl rfl) ?_; go_frame
    refine dY _ hS (yMove _ (.int .i64 ((62 : Nat) : Int)) rfl rfl rfl) ?_; go_frame
    refine dY _ hS (yNeqI _ _ _ _ .i64 (((62 : Nat) : Int)) 61 true rfl rfl rfl rfl (by decide)) ?_; go_frame
    refine dY _ hS (yMove _ (.bool true) rfl rfl rfl) ?_; go_frame
    refine dY _ hS (yMove _ (.int .i64 ((62 : Nat) : Int)) rfl rfl rfl) ?_; go_frame
    refine dY _ hS (yNeqI _ _ _ _ .i64 (((62 : Nat) : Int)) 62 false rfl rfl rfl rfl (by decide)) ?_; go_frame
    refine dY _ hS (yPick _ _ _ true (.bool false) rfl rfl rfl rfl) ?_; go_frame
    refine dY _ hS (yPick _ _ _ false (.bool false) rfl rfl rfl rfl) ?_; go_frame
    refine dY _ hS (yPick _ _ _ true (.bool false) rfl rfl rfl rfl) ?_; go_frame
    refine dY _ hS (yPick _ _ _ false (.bool false) rfl rfl rfl rfl) ?_; go_frame
    refine dDone ?_
    clear hS
    go_wp2_with (first
      | ((with_reducible change wpList _ _ _ (Oper.mk (some 59) _ _ _ _ _ :: _) _ _); refine kLoadCoin _ _ c.value u c.height c.base hRc_29 rfl rfl rfl ?_; go_frame)
      | (go_at_call 29; refine (zRight_any (c := c) _ hu_27).mono ?_; rintro e z1 ⟨rfl, hBB⟩; rw [hcr]; have hu_33 := hu_27.below hBB; have hRc_34 := hRc_29.below hBB hRc_29.lt; have hB_35 := hB_32.trans (hBB.mono hB_32.size); clear hu_27 hRc_29 hB_32 hBB; go_frame)
      | ((with_reducible change wpList _ _ _ (Oper.mk (some 62) _ _ _ _ _ :: _) _ _); refine kLoadCoin _ _ c.value u c.height c.base hRc_34 rfl rfl rfl ?_; go_frame)
      | (go_at_call 32; refine (coBytes_any (c := c) _ hu_33 (by omega)).mono ?_; rintro e z2 ⟨vp, rfl, hO, hBB⟩; have hp := own_less hB_35.size hO; clear hO; have hu_36 := hu_33.below hBB; have hRc_37 := hRc_34.below hBB hRc_34.lt; have hB_38 := hB_35.trans (hBB.mono hB_35.size); clear hu_33 hRc_34 hB_35 hBB; go_frame)
      | (go_at_call 9; (with_reducible change Calls _ _ #[vp] _ _); refine (hpc _ _ hp.vals).mono ?_; rintro e z3 ⟨uy, rfl, hO, hBB⟩; have huy := hO.vals; clear hO; have hu_39 := hu_36.below hBB; have hRc_40 := hRc_37.below hBB hRc_37.lt; have hp_41 := hp.below hBB; have hB_42 := hB_38.trans (hBB.mono hB_38.size); clear hu_36 hRc_37 hp hB_38 hBB; go_frame)
      | ((with_reducible change wpList _ _ _ (Oper.mk (some 10) _ _ _ _ _ :: _) _ _); refine kAllocL _ _ rfl rfl zero_CoinC ?_; intro a2 hX2 hz hBB; clear hz; have nehRc_2 := Nat.ne_of_lt hRc_40.lt; have le2 := hB_42.size; have hu_43 := hu_39.below hBB; have hRc_44 := hRc_40.below hBB hRc_40.lt; have hp_45 := hp_41.below hBB; have huy_46 := huy.below hBB; have hB_47 := hB_42.trans (hBB.mono hB_42.size); clear hu_39 hRc_40 hp_41 huy hB_42 hBB; go_frame)
      | ((with_reducible change wpList _ _ _ (Oper.mk none _ _ _ _ _ :: _) _ _); refine kStoreCoin _ _ _ c.value uy c.height c.base _ hX2 rfl huy_46 rfl rfl rfl rfl ?_; intro b2 hY2 hW2; have hn2 := coin_noByte 0 0 false (isVals_nil a2); have hu_48 := vals_wroteN hu_43 hX2 hn2 hW2; have hRc_49 := hW2.row hRc_44 nehRc_2; have hp_50 := own_wroteN hp_45 hX2 (by decide) hW2; have huy_51 := vals_wroteN huy_46 hX2 hn2 hW2; have hB_52 := hB_47.trans (hW2.below le2); have hR2 : Row b2 z3.heap.size 29 (coinV c uy) := hY2; clear hX2 hY2 hW2 hn2 le2 hu_43 hRc_44 hp_45 huy_46 hB_47; go_frame))
    have hpv := hp_50.vals
    refine region_mixD [(0, true), (1, true), (2, true), (3, false), (4, true), (5, true), (6, true), (7, true), (8, true), (9, true), (10, true), (11, true), (12, true), (13, false), (14, true), (15, true)] (fun w => (Row w W0.heap.size 29 (coinV c u)) ∧ (Row w z3.heap.size 29 (coinV c uy)) ∧ (IsVals w vp ((coinL c).map VB))) (by kernel_rfl) (by kernel_rfl) rfl ?_
    intro s0 hBd hsd
    clear hsd
    have hu_53 := hu_48.below hBd
    have hRc_54 := hRc_49.below hBd hRc_49.lt
    have hp_55 := hp_50.below hBd
    have huy_56 := huy_51.below hBd
    have hR2_57 := hR2.below hBd hR2.lt
    have hpv_58 := hpv.below hBd
    have hB_59 := hB_52.trans (hBd.mono hB_52.size)
    clear hu_48 hRc_49 hp_50 huy_51 hR2 hpv hB_52 hBd
    simp only [List.map_cons, List.map_nil]
    dsimp only [List.filterMap, List.getElem?_cons_zero, List.getElem?_cons_succ]
    have hS : (Row s0 W0.heap.size 29 (coinV c u)) ∧ (Row s0 z3.heap.size 29 (coinV c uy)) ∧ (IsVals s0 vp ((coinL c).map VB)) := ⟨hRc_54, hR2_57, hpv_58⟩
    refine dY _ hS (yMove _ (vp) rfl rfl rfl) ?_; go_frame
    refine dY _ hS (yStr _ _ _ _ vp (coinL c) rfl rfl rfl (fun _ h => h.2.2) Try.underlying25 Try.underlying5 Try.underlying9) ?_; go_frame
    refine dY _ hS (yLoadRowC Try.underlying29 rfl _ W0.heap.size (coinV c u) info_CoinC (fun _ h => h.1) rfl rfl rfl) ?_; go_frame
    refine dLoud ?_
    refine kCall1 30 _ _ _ rfl rfl (by kernel_rfl) rfl ?_
    refine (zBytes_any (c := c) _ hu_53 (by omega)).mono ?_
    rintro e s1 ⟨v72, rfl, hO, hBB⟩
    clear hS
    have hv72 := hO.vals
    clear hO
    have hu_60 := hu_53.below hBB
    have hRc_61 := hRc_54.below hBB hRc_54.lt
    have hp_62 := hp_55.below hBB
    have huy_63 := huy_56.below hBB
    have hR2_64 := hR2_57.below hBB hR2_57.lt
    have hpv_65 := hpv_58.below hBB
    have hB_66 := hB_59.trans (hBB.mono hB_59.size)
    clear hu_53 hRc_54 hp_55 huy_56 hR2_57 hpv_58 hB_59 hBB
    have hS : (Row s1 W0.heap.size 29 (coinV c u)) ∧ (Row s1 z3.heap.size 29 (coinV c uy)) ∧ (IsVals s1 vp ((coinL c).map VB)) ∧ (IsVals s1 v72 ((coinL c).map VB)) := ⟨hRc_61, hR2_64, hpv_65, hv72⟩
    refine ⟨_, rfl, mixOn ⟨(fun w => (Row w W0.heap.size 29 (coinV c u)) ∧ (Row w z3.heap.size 29 (coinV c uy)) ∧ (IsVals w vp ((coinL c).map VB)) ∧ (IsVals w v72 ((coinL c).map VB))), (fun _ h => ⟨h.1, h.2.1, h.2.2.1⟩), hS, ?_⟩⟩
    go_frame
    refine dY _ hS (yStr _ _ _ _ v72 (coinL c) rfl rfl rfl (fun _ h => h.2.2.2) Try.underlying25 Try.underlying5 Try.underlying9) ?_; go_frame
    refine dY _ hS (yNeqStr _ _ _ _ (coinL c) (coinL c) false rfl rfl rfl rfl (by simp)) ?_; go_frame
    refine dY _ hS (yMove _ (.bool false) rfl rfl rfl) ?_; go_frame
    refine dY _ hS (yMove _ (.int .i64 ((0 : Nat) : Int)) rfl rfl rfl) ?_; go_frame
    refine dY _ hS (yNeqI _ _ _ _ .i64 (((0 : Nat) : Int)) 0 false rfl rfl rfl rfl (by decide)) ?_; go_frame
    refine dY _ hS (yPick _ _ _ false (.bool false) rfl rfl rfl rfl) ?_; go_frame
    refine dY _ hS (yMove _ (.bool false) rfl rfl rfl) ?_; go_frame
    refine dY _ hS (yLoadRowC Try.underlying29 rfl _ z3.heap.size (coinV c uy) info_CoinC (fun _ h => h.2.1) rfl rfl rfl) ?_; go_frame
    refine dY _ hS (yLoadRowC Try.underlying29 rfl _ W0.heap.size (coinV c u) info_CoinC (fun _ h => h.1) rfl rfl rfl) ?_; go_frame
    refine dLoud ?_
    refine kCall2 31 _ _ _ _ _ rfl rfl (by kernel_rfl) rfl rfl ?_
    refine (zSameCoin_any (c := c) (d := c) _ huy_63 hu_60).mono ?_
    rintro e s2 ⟨rfl, hBB⟩
    clear hS
    rw [sameC_refl]
    have hu_67 := hu_60.below hBB
    have hRc_68 := hRc_61.below hBB hRc_61.lt
    have hp_69 := hp_62.below hBB
    have huy_70 := huy_63.below hBB
    have hR2_71 := hR2_64.below hBB hR2_64.lt
    have hpv_72 := hpv_65.below hBB
    have hv72_73 := hv72.below hBB
    have hB_74 := hB_66.trans (hBB.mono hB_66.size)
    clear hu_60 hRc_61 hp_62 huy_63 hR2_64 hpv_65 hv72 hB_66 hBB
    have hS : (Row s2 W0.heap.size 29 (coinV c u)) ∧ (Row s2 z3.heap.size 29 (coinV c uy)) ∧ (IsVals s2 vp ((coinL c).map VB)) ∧ (IsVals s2 v72 ((coinL c).map VB)) := ⟨hRc_68, hR2_71, hpv_72, hv72_73⟩
    refine ⟨_, rfl, mixOn ⟨(fun w => (Row w W0.heap.size 29 (coinV c u)) ∧ (Row w z3.heap.size 29 (coinV c uy)) ∧ (IsVals w vp ((coinL c).map VB)) ∧ (IsVals w v72 ((coinL c).map VB))), (fun _ h => ⟨h.1, h.2.1, h.2.2.1, h.2.2.2⟩), hS, ?_⟩⟩
    go_frame
    refine dY _ hS (yNotC _ _ true rfl rfl rfl) ?_; go_frame
    refine dY _ hS (yPick _ _ _ false (.bool false) rfl rfl rfl rfl) ?_; go_frame
    refine dDone ?_
    clear hS
    go_wp2_with (first
      | ((with_reducible change wpList _ _ _ (Oper.mk (some 86) _ _ _ _ _ :: _) _ _); refine kLssI _ _ _ _ .i64 cut 0 _ rfl rfl rfl rfl hl1 ?_; go_frame)
      | ((with_reducible change wpList _ _ _ (Oper.mk (some 90) _ _ _ _ _ :: _) _ _); refine kLenN _ _ _ vp _ M rfl rfl rfl hp_69.vals (by rw [List.length_map, hM]) Try.underlying25 ?_; go_frame)
      | ((with_reducible change wpList _ _ _ (Oper.mk (some 91) _ _ _ _ _ :: _) _ _); refine kGeqI _ _ _ _ .i64 cut (M : Int) _ rfl rfl rfl rfl hl2 ?_; go_frame)
      | ((with_reducible change wpList _ _ _ (Oper.mk (some 95) _ _ _ _ _ :: _) _ _); refine kBuildSlice1 _ _ _ (VB 0) rfl rfl Try.underlying25 i _ hi hz hs1 rfl rfl ?_; intro y1 hRr hzz hBB; have hV1 : IsVals y1 _ (([0] : List UInt8).map VB) := isVals_lit (l := [VB 0]) hRr; clear hzz hRr; have hp_75 := hp_69.below hBB; have hB_76 := hB_74.trans (hBB.mono hB_74.size); clear hp_69 hB_74 hBB; go_frame)
      | ((with_reducible change wpList _ _ _ (Oper.mk (some 96) _ _ _ _ _ :: _) _ _); refine kAppB _ _ rfl rfl W0.heap.size _ _ (coinL c) [0] hp_75 hV1 rfl rfl (by simp; omega) hB_76.size ?_; intro v96 y2 hO2 hC2; have hB9 := hB_76.trans hC2; have hV2 := hO2.vals; clear hO2 hC2 hV1; go_frame)
      | (go_at_call 9; refine (hpm _ _ hV2).mono ?_; rintro e y3 ⟨uz, rfl, hO, hBB⟩; have huz := hO.vals; clear hO; have hB_77 := hB9.trans (hBB.mono hB9.size); clear hB9 hBB; go_frame)
      | ((with_reducible change wpList _ _ _ (Oper.mk (some 12) _ _ _ _ _ :: _) _ _); refine kAllocL _ _ rfl rfl zero_CoinC ?_; intro a3 hX3 hz hBB; clear hz; have le3 := hB_77.size; have huz_78 := huz.below hBB; have hB_79 := hB_77.trans (hBB.mono hB_77.size); clear huz hB_77 hBB; go_frame)
      | ((with_reducible change wpList _ _ _ (Oper.mk none _ _ _ _ _ :: _) _ _); refine kStoreCoin _ _ _ noCoin.value uz noCoin.height noCoin.base _ hX3 rfl huz_78 rfl rfl rfl rfl ?_; intro b3 hY3 hW3; have hn3 := coin_noByte 0 0 false (isVals_nil a3); have huz_80 := vals_wroteN huz_78 hX3 hn3 hW3; have hB_81 := hB_79.trans (hW3.below le3); have hR3 : Row b3 y3.heap.size 29 (coinV noCoin uz) := hY3; clear hX3 hY3 hW3 hn3 le3 huz_78 hB_79; go_frame)
      | ((with_reducible change wpList _ _ _ (Oper.mk (some 101) _ _ _ _ _ :: _) _ _); refine kEqlI _ _ _ _ .i64 ((62 : Nat) : Int) 62 true rfl rfl rfl rfl (by decide) ?_; go_frame))
    go_ret
    exact ⟨rfl, hB_81⟩
set_option maxRecDepth 100000 in
set_option maxHeartbeats 8000000 in
theorem coinBytes_cut62 {c : CoinP} {b : List UInt8} {u bv : Value} {cut : Int} (W0 : World) (hu : IsVals W0 u (c.lock.map VB)) (hbv : IsVals W0 bv (b.map VB)) (hb : b.length ≤ 2500) {XC : CoinP} (hx : parseC b = (XC, 62)) (hcr : rightC c = true) (hct : 0 ≤ cut ∧ cut < ((coinL c).length : Int)) : Calls Try.prog 6 #[.agg (coinV c u), bv, .int .i64 cut] W0 (AlivePost W0) := by
  obtain ⟨i, hi, hz, hs1, hby⟩ := b8Info
  obtain ⟨k, hk⟩ : ∃ k, b.length = k := ⟨_, rfl⟩
  have d1 : decide ((k : Int) > 2500) = false := by simp; omega
  have hps : ∀ (w : World) (v : Value), IsVals w v (b.map VB) → Calls Try.prog 9 #[v] w (ParsePost w (XC, 62)) := fun w v h => by rw [← hx]; exact coParse_any w h (by omega)
  have hxn : Hid (XC = noCoin) := Lib.hid (by have := (parse_wrong (b := b) (by rw [hx]; simp)).1; rw [hx] at this; exact this)
  have hsm : sameC XC noCoin = true := by rw [hxn.out]; exact sameC_refl _
  clear hxn
  have hcl2 := (rightC_iff.1 hcr).2.1
  have hLl : (coinL c).length ≤ 3000 := by have h1 := countL_le (stampN c.height c.base); have h2 := outL_le (n := c.value) hcl2; unfold coinL; rw [List.length_append]; omega
  have hpc : ∀ (w : World) (v : Value), IsVals w v ((coinL c).map VB) → Calls Try.prog 9 #[v] w (ParsePost w (c, 0)) := fun w v h => by rw [← parse_back hcr]; exact coParse_any w h (by omega)
  obtain ⟨M, hM⟩ : ∃ M, (coinL c).length = M := ⟨_, rfl⟩
  obtain ⟨n, rfl⟩ : ∃ n : Nat, cut = (n : Int) := ⟨cut.toNat, by omega⟩
  have hl1 : decide ((n : Int) < 0) = false := by simp
  have hl2 : decide ((n : Int) ≥ (M : Int)) = false := by simp; omega
  obtain ⟨ZC, hZC⟩ := pair_of (parse_cut hcr (cut := n) (by omega))
  have hpm : ∀ (w : World) (v : Value), IsVals w v (((coinL c).take n).map VB) → Calls Try.prog 9 #[v] w (ParsePost w (ZC, 61)) := fun w v h => by rw [← hZC]; exact coParse_any w h (by rw [List.length_take]; omega)
  go_enter Try.func6, Try.ntmps6
  go_wp2_with (first
    | ((with_reducible change wpList _ _ _ (Oper.mk (some 3) _ _ _ _ _ :: _) _ _); refine kBoxL _ _ _ rfl rfl rfl ?_; intro w1 hRc hz1 hB0; clear hz1; have hu_1 := hu.below hB0; have hbv_2 := hbv.below hB0; clear hu hbv; go_frame)
    | (go_at_call 10; refine (coinAlive_any _).mono ?_; rintro e w2 ⟨rfl, hBB⟩; have hu_3 := hu_1.below hBB; have hbv_4 := hbv_2.below hBB; have hRc_5 := hRc.below hBB hRc.lt; have hB_6 := hB0.trans (hBB.mono hB0.size); clear hu_1 hbv_2 hRc hB0 hBB; go_frame)
    | ((with_reducible change wpList _ _ _ (Oper.mk (some 19) _ _ _ _ _ :: _) _ _); refine kLenN _ _ _ bv _ k rfl rfl rfl hbv_4 (by rw [List.length_map, hk]) Try.underlying25 ?_; go_frame)
    | ((with_reducible change wpList _ _ _ (Oper.mk (some 20) _ _ _ _ _ :: _) _ _); refine kGtrI _ _ _ _ .i64 (k : Int) 2500 false rfl rfl rfl rfl d1 ?_; go_frame)
    | (go_at_call 9; (with_reducible change Calls _ _ #[bv] _ _); refine (hps _ _ hbv_4).mono ?_; rintro e w3 ⟨ux, rfl, hO, hBB⟩; have hux := hO.vals; clear hO; have hu_7 := hu_3.below hBB; have hbv_8 := hbv_4.below hBB; have hRc_9 := hRc_5.below hBB hRc_5.lt; have hB_10 := hB_6.trans (hBB.mono hB_6.size); clear hu_3 hbv_4 hRc_5 hB_6 hBB; go_frame)
    | ((with_reducible change wpList _ _ _ (Oper.mk (some 7) _ _ _ _ _ :: _) _ _); refine kAllocL _ _ rfl rfl zero_CoinC ?_; intro a1 hX1 hz hBB; clear hz; have nehRc_1 := Nat.ne_of_lt hRc_9.lt; have le1 := hB_10.size; have hu_11 := hu_7.below hBB; have hbv_12 := hbv_8.below hBB; have hRc_13 := hRc_9.below hBB hRc_9.lt; have hux_14 := hux.below hBB; have hB_15 := hB_10.trans (hBB.mono hB_10.size); clear hu_7 hbv_8 hRc_9 hux hB_10 hBB; go_frame)
    | ((with_reducible change wpList _ _ _ (Oper.mk none _ _ _ _ _ :: _) _ _); refine kStoreCoin _ _ _ XC.value ux XC.height XC.base _ hX1 rfl hux_14 rfl rfl rfl rfl ?_; intro b1 hY1 hW1; have hn1 := coin_noByte 0 0 false (isVals_nil a1); have hu_16 := vals_wroteN hu_11 hX1 hn1 hW1; have hbv_17 := vals_wroteN hbv_12 hX1 hn1 hW1; have hRc_18 := hW1.row hRc_13 nehRc_1; have hux_19 := vals_wroteN hux_14 hX1 hn1 hW1; have hB_20 := hB_15.trans (hW1.below le1); have hR1 : Row b1 w3.heap.size 29 (coinV XC ux) := hY1; clear hX1 hY1 hW1 hn1 le1 hu_11 hbv_12 hRc_13 hux_14 hB_15; go_frame))
  refine region_mixD [(0, true), (1, true), (2, true), (3, true), (4, true), (5, true), (6, true), (7, true), (8, true), (9, true), (10, true), (11, true), (12, true), (13, true), (14, true), (15, true), (16, true), (17, true), (18, true), (19, true), (20, true), (21, false), (22, true), (23, true), (24, true), (25, true), (26, true), (27, true), (28, true), (29, true), (30, true), (31, true), (32, true)] (fun w => (IsVals w bv (b.map VB)) ∧ (Row w W0.heap.size 29 (coinV c u)) ∧ (Row w w3.heap.size 29 (coinV XC ux))) (by kernel_rfl) (by kernel_rfl) rfl ?_
  intro q0 hBd hsd
  clear hsd
  have hu_21 := hu_16.below hBd
  have hbv_22 := hbv_17.below hBd
  have hRc_23 := hRc_18.below hBd hRc_18.lt
  have hux_24 := hux_19.below hBd
  have hR1_25 := hR1.below hBd hR1.lt
  have hB_26 := hB_20.trans (hBd.mono hB_20.size)
  clear hu_16 hbv_17 hRc_18 hux_19 hR1 hB_20 hBd
  simp only [List.map_cons, List.map_nil]
  dsimp only [List.filterMap, List.getElem?_cons_zero, List.getElem?_cons_succ]
  have hS : (IsVals q0 bv (b.map VB)) ∧ (Row q0 W0.heap.size 29 (coinV c u)) ∧ (Row q0 w3.heap.size 29 (coinV XC ux)) := ⟨hbv_22, hRc_23, hR1_25⟩
  refine dY _ hS (yMove _ (.int .i64 ((62 : Nat) : Int)) rfl rfl rfl) ?_; go_frame
  refine dY _ hS (yEqlIC _ _ _ _ .i64 ((62 : Nat) : Int) 0 false rfl rfl rfl rfl (by decide)) ?_; go_frame
  refine dY _ hS (yMove _ (.bool false) rfl rfl rfl) ?_; go_frame
  refine dY _ hS (ySkip rfl) ?_; go_frame
  refine dY _ hS (ySkip rfl) ?_; go_frame
  refine dY _ hS (ySkip rfl) ?_; go_frame
  refine dY _ hS (ySkip rfl) ?_; go_frame
  refine dY _ hS (ySkip rfl) ?_; go_frame
  refine dY _ hS (ySkip rfl) ?_; go_frame
  refine dY _ hS (ySkip rfl) ?_; go_frame
  refine dY _ hS (ySkip rfl) ?_; go_frame
  refine dY _ hS (ySkip rfl) ?_; go_frame
  refine dY _ hS (ySkip rfl) ?_; go_frame
  refine dY _ hS (ySkip rfl) ?_; go_frame
  refine dY _ hS (yPick _ _ _ false (.bool false) rfl rfl rfl rfl) ?_; go_frame
  refine dY _ hS (yMove _ (.bool false) rfl rfl rfl) ?_; go_frame
  refine dY _ hS (yMove _ (.int .i64 ((62 : Nat) : Int)) rfl rfl rfl) ?_; go_frame
  refine dY _ hS (yNeqI _ _ _ _ .i64 (((62 : Nat) : Int)) 0 true rfl rfl rfl rfl (by decide)) ?_; go_frame
  refine dY _ hS (yMove _ (.bool true) rfl rfl rfl) ?_; go_frame
  refine dY _ hS (yLoadRowC Try.underlying29 rfl _ w3.heap.size (coinV XC ux) info_CoinC (fun _ h => h.2.2) rfl rfl rfl) ?_; go_frame
  refine dY _ hS (yBuildCoin0 rfl rfl) ?_; go_frame
  refine dLoud ?_
  refine kCall2 31 _ _ _ _ _ rfl rfl (by kernel_rfl) rfl rfl ?_
  refine (zSameCoin_any (c := XC) (d := noCoin) _ hux_24 (isVals_nil _)).mono ?_
  rintro e q1 ⟨rfl, hBB⟩
  clear hS
  rw [hsm]
  have hu_27 := hu_21.below hBB
  have hbv_28 := hbv_22.below hBB
  have hRc_29 := hRc_23.below hBB hRc_23.lt
  have hux_30 := hux_24.below hBB
  have hR1_31 := hR1_25.below hBB hR1_25.lt
  have hB_32 := hB_26.trans (hBB.mono hB_26.size)
  clear hu_21 hbv_22 hRc_23 hux_24 hR1_25 hB_26 hBB
  have hS : (IsVals q1 bv (b.map VB)) ∧ (Row q1 W0.heap.size 29 (coinV c u)) ∧ (Row q1 w3.heap.size 29 (coinV XC ux)) := ⟨hbv_28, hRc_29, hR1_31⟩
  refine ⟨_, rfl, mixOn ⟨(fun w => (IsVals w bv (b.map VB)) ∧ (Row w W0.heap.size 29 (coinV c u)) ∧ (Row w w3.heap.size 29 (coinV XC ux))), (fun _ h => ⟨h.1, h.2.1, h.2.2⟩), hS, ?_⟩⟩
  go_frame
  refine dY _ hS (yNotC _ _ true rfl rfl rfl) ?_; go_frame
  refine dY _ hS (yMove _ (.bool false) rfl rfl rfl) ?_; go_frame
  refine dY _ hS (yMove _ (.int .i64 ((62 : Nat) : Int)) rfl rfl rfl) ?_; go_frame
  refine dY _ hS (yNeqI _ _ _ _ .i64 (((62 : Nat) : Int)) 61 true rfl rfl rfl rfl (by decide)) ?_; go_frame
  refine dY _ hS (yMove _ (.bool true) rfl rfl rfl) ?_; go_frame
  refine dY _ hS (yMove _ (.int .i64 ((62 : Nat) : Int)) rfl rfl rfl) ?_; go_frame
  refine dY _ hS (yNeqI _ _ _ _ .i64 (((62 : Nat) : Int)) 62 false rfl rfl rfl rfl (by decide)) ?_; go_frame
  refine dY _ hS (yPick _ _ _ true (.bool false) rfl rfl rfl rfl) ?_; go_frame
  refine dY _ hS (yPick _ _ _ false (.bool false) rfl rfl rfl rfl) ?_; go_frame
  refine dY _ hS (yPick _ _ _ true (.bool false) rfl rfl rfl rfl) ?_; go_frame
  refine dY _ hS (yPick _ _ _ false (.bool false) rfl rfl rfl rfl) ?_; go_frame
  refine dDone ?_
  clear hS
  go_wp2_with (first
    | ((with_reducible change wpList _ _ _ (Oper.mk (some 59) _ _ _ _ _ :: _) _ _); refine kLoadCoin _ _ c.value u c.height c.base hRc_29 rfl rfl rfl ?_; go_frame)
    | (go_at_call 29; refine (zRight_any (c := c) _ hu_27).mono ?_; rintro e z1 ⟨rfl, hBB⟩; rw [hcr]; have hu_33 := hu_27.below hBB; have hRc_34 := hRc_29.below hBB hRc_29.lt; have hB_35 := hB_32.trans (hBB.mono hB_32.size); clear hu_27 hRc_29 hB_32 hBB; go_frame)
    | ((with_reducible change wpList _ _ _ (Oper.mk (some 62) _ _ _ _ _ :: _) _ _); refine kLoadCoin _ _ c.value u c.height c.base hRc_34 rfl rfl rfl ?_; go_frame)
    | (go_at_call 32; refine (coBytes_any (c := c) _ hu_33 (by omega)).mono ?_; rintro e z2 ⟨vp, rfl, hO, hBB⟩; have hp := own_less hB_35.size hO; clear hO; have hu_36 := hu_33.below hBB; have hRc_37 := hRc_34.below hBB hRc_34.lt; have hB_38 := hB_35.trans (hBB.mono hB_35.size); clear hu_33 hRc_34 hB_35 hBB; go_frame)
    | (go_at_call 9; (with_reducible change Calls _ _ #[vp] _ _); refine (hpc _ _ hp.vals).mono ?_; rintro e z3 ⟨uy, rfl, hO, hBB⟩; have huy := hO.vals; clear hO; have hu_39 := hu_36.below hBB; have hRc_40 := hRc_37.below hBB hRc_37.lt; have hp_41 := hp.below hBB; have hB_42 := hB_38.trans (hBB.mono hB_38.size); clear hu_36 hRc_37 hp hB_38 hBB; go_frame)
    | ((with_reducible change wpList _ _ _ (Oper.mk (some 10) _ _ _ _ _ :: _) _ _); refine kAllocL _ _ rfl rfl zero_CoinC ?_; intro a2 hX2 hz hBB; clear hz; have nehRc_2 := Nat.ne_of_lt hRc_40.lt; have le2 := hB_42.size; have hu_43 := hu_39.below hBB; have hRc_44 := hRc_40.below hBB hRc_40.lt; have hp_45 := hp_41.below hBB; have huy_46 := huy.below hBB; have hB_47 := hB_42.trans (hBB.mono hB_42.size); clear hu_39 hRc_40 hp_41 huy hB_42 hBB; go_frame)
    | ((with_reducible change wpList _ _ _ (Oper.mk none _ _ _ _ _ :: _) _ _); refine kStoreCoin _ _ _ c.value uy c.height c.base _ hX2 rfl huy_46 rfl rfl rfl rfl ?_; intro b2 hY2 hW2; have hn2 := coin_noByte 0 0 false (isVals_nil a2); have hu_48 := vals_wroteN hu_43 hX2 hn2 hW2; have hRc_49 := hW2.row hRc_44 nehRc_2; have hp_50 := own_wroteN hp_45 hX2 (by decide) hW2; have huy_51 := vals_wroteN huy_46 hX2 hn2 hW2; have hB_52 := hB_47.trans (hW2.below le2); have hR2 : Row b2 z3.heap.size 29 (coinV c uy) := hY2; clear hX2 hY2 hW2 hn2 le2 hu_43 hRc_44 hp_45 huy_46 hB_47; go_frame))
  have hpv := hp_50.vals
  refine region_mixD [(0, true), (1, true), (2, true), (3, false), (4, true), (5, true), (6, true), (7, true), (8, true), (9, true), (10, true), (11, true), (12, true), (13, false), (14, true), (15, true)] (fun w => (Row w W0.heap.size 29 (coinV c u)) ∧ (Row w z3.heap.size 29 (coinV c uy)) ∧ (IsVals w vp ((coinL c).map VB))) (by kernel_rfl) (by kernel_rfl) rfl ?_
  intro s0 hBd hsd
  clear hsd
  have hu_53 := hu_48.below hBd
  have hRc_54 := hRc_49.below hBd hRc_49.lt
  have hp_55 := hp_50.below hBd
  have huy_56 := huy_51.below hBd
  have hR2_57 := hR2.below hBd hR2.lt
  have hpv_58 := hpv.below hBd
  have hB_59 := hB_52.trans (hBd.mono hB_52.size)
  clear hu_48 hRc_49 hp_50 huy_51 hR2 hpv hB_52 hBd
  simp only [List.map_cons, List.map_nil]
  dsimp only [List.filterMap, List.getElem?_cons_zero, List.getElem?_cons_succ]
  have hS : (Row s0 W0.heap.size 29 (coinV c u)) ∧ (Row s0 z3.heap.size 29 (coinV c uy)) ∧ (IsVals s0 vp ((coinL c).map VB)) := ⟨hRc_54, hR2_57, hpv_58⟩
  refine dY _ hS (yMove _ (vp) rfl rfl rfl) ?_; go_frame
  refine dY _ hS (yStr _ _ _ _ vp (coinL c) rfl rfl rfl (fun _ h => h.2.2) Try.underlying25 Try.underlying5 Try.underlying9) ?_; go_frame
  refine dY _ hS (yLoadRowC Try.underlying29 rfl _ W0.heap.size (coinV c u) info_CoinC (fun _ h => h.1) rfl rfl rfl) ?_; go_frame
  refine dLoud ?_
  refine kCall1 30 _ _ _ rfl rfl (by kernel_rfl) rfl ?_
  refine (zBytes_any (c := c) _ hu_53 (by omega)).mono ?_
  rintro e s1 ⟨v72, rfl, hO, hBB⟩
  clear hS
  have hv72 := hO.vals
  clear hO
  have hu_60 := hu_53.below hBB
  have hRc_61 := hRc_54.below hBB hRc_54.lt
  have hp_62 := hp_55.below hBB
  have huy_63 := huy_56.below hBB
  have hR2_64 := hR2_57.below hBB hR2_57.lt
  have hpv_65 := hpv_58.below hBB
  have hB_66 := hB_59.trans (hBB.mono hB_59.size)
  clear hu_53 hRc_54 hp_55 huy_56 hR2_57 hpv_58 hB_59 hBB
  have hS : (Row s1 W0.heap.size 29 (coinV c u)) ∧ (Row s1 z3.heap.size 29 (coinV c uy)) ∧ (IsVals s1 vp ((coinL c).map VB)) ∧ (IsVals s1 v72 ((coinL c).map VB)) := ⟨hRc_61, hR2_64, hpv_65, hv72⟩
  refine ⟨_, rfl, mixOn ⟨(fun w => (Row w W0.heap.size 29 (coinV c u)) ∧ (Row w z3.heap.size 29 (coinV c uy)) ∧ (IsVals w vp ((coinL c).map VB)) ∧ (IsVals w v72 ((coinL c).map VB))), (fun _ h => ⟨h.1, h.2.1, h.2.2.1⟩), hS, ?_⟩⟩
  go_frame
  refine dY _ hS (yStr _ _ _ _ v72 (coinL c) rfl rfl rfl (fun _ h => h.2.2.2) Try.underlying25 Try.underlying5 Try.underlying9) ?_; go_frame
  refine dY _ hS (yNeqStr _ _ _ _ (coinL c) (coinL c) false rfl rfl rfl rfl (by simp)) ?_; go_frame
  refine dY _ hS (yMove _ (.bool false) rfl rfl rfl) ?_; go_frame
  refine dY _ hS (yMove _ (.int .i64 ((0 : Nat) : Int)) rfl rfl rfl) ?_; go_frame
  refine dY _ hS (yNeqI _ _ _ _ .i64 (((0 : Nat) : Int)) 0 false rfl rfl rfl rfl (by decide)) ?_; go_frame
  refine dY _ hS (yPick _ _ _ false (.bool false) rfl rfl rfl rfl) ?_; go_frame
  refine dY _ hS (yMove _ (.bool false) rfl rfl rfl) ?_; go_frame
  refine dY _ hS (yLoadRowC Try.underlying29 rfl _ z3.heap.size (coinV c uy) info_CoinC (fun _ h => h.2.1) rfl rfl rfl) ?_; go_frame
  refine dY _ hS (yLoadRowC Try.underlying29 rfl _ W0.heap.size (coinV c u) info_CoinC (fun _ h => h.1) rfl rfl rfl) ?_; go_frame
  refine dLoud ?_
  refine kCall2 31 _ _ _ _ _ rfl rfl (by kernel_rfl) rfl rfl ?_
  refine (zSameCoin_any (c := c) (d := c) _ huy_63 hu_60).mono ?_
  rintro e s2 ⟨rfl, hBB⟩
  clear hS
  rw [sameC_refl]
  have hu_67 := hu_60.below hBB
  have hRc_68 := hRc_61.below hBB hRc_61.lt
  have hp_69 := hp_62.below hBB
  have huy_70 := huy_63.below hBB
  have hR2_71 := hR2_64.below hBB hR2_64.lt
  have hpv_72 := hpv_65.below hBB
  have hv72_73 := hv72.below hBB
  have hB_74 := hB_66.trans (hBB.mono hB_66.size)
  clear hu_60 hRc_61 hp_62 huy_63 hR2_64 hpv_65 hv72 hB_66 hBB
  have hS : (Row s2 W0.heap.size 29 (coinV c u)) ∧ (Row s2 z3.heap.size 29 (coinV c uy)) ∧ (IsVals s2 vp ((coinL c).map VB)) ∧ (IsVals s2 v72 ((coinL c).map VB)) := ⟨hRc_68, hR2_71, hpv_72, hv72_73⟩
  refine ⟨_, rfl, mixOn ⟨(fun w => (Row w W0.heap.size 29 (coinV c u)) ∧ (Row w z3.heap.size 29 (coinV c uy)) ∧ (IsVals w vp ((coinL c).map VB)) ∧ (IsVals w v72 ((coinL c).map VB))), (fun _ h => ⟨h.1, h.2.1, h.2.2.1, h.2.2.2⟩), hS, ?_⟩⟩
  go_frame
  refine dY _ hS (yNotC _ _ true rfl rfl rfl) ?_; go_frame
  refine dY _ hS (yPick _ _ _ false (.bool false) rfl rfl rfl rfl) ?_; go_frame
  refine dDone ?_
  clear hS
  go_wp2_with (first
    | ((with_reducible change wpList _ _ _ (Oper.mk (some 86) _ _ _ _ _ :: _) _ _); refine kLssI _ _ _ _ .i64 (n : Int) 0 false rfl rfl rfl rfl hl1 ?_; go_frame)
    | ((with_reducible change wpList _ _ _ (Oper.mk (some 90) _ _ _ _ _ :: _) _ _); refine kLenN _ _ _ vp _ M rfl rfl rfl hp_69.vals (by rw [List.length_map, hM]) Try.underlying25 ?_; go_frame)
    | ((with_reducible change wpList _ _ _ (Oper.mk (some 91) _ _ _ _ _ :: _) _ _); refine kGeqI _ _ _ _ .i64 (n : Int) (M : Int) false rfl rfl rfl rfl hl2 ?_; go_frame)
    | ((with_reducible change wpList _ _ _ (Oper.mk (some 105) _ _ _ _ _ :: _) _ _); refine kSliceTo _ _ vp (coinL c) n hp_69.vals (by omega) rfl rfl rfl rfl ?_; intro hV2; go_frame)
    | (go_at_call 9; refine (hpm _ _ hV2).mono ?_; rintro e y3 ⟨uz, rfl, hO, hBB⟩; have huz := hO.vals; clear hO hV2; have hp_75 := hp_69.below hBB; have hB_76 := hB_74.trans (hBB.mono hB_74.size); clear hp_69 hB_74 hBB; go_frame)
    | ((with_reducible change wpList _ _ _ (Oper.mk (some 14) _ _ _ _ _ :: _) _ _); refine kAllocL _ _ rfl rfl zero_CoinC ?_; intro a3 hX3 hz hBB; clear hz; have le3 := hB_76.size; have hp_77 := hp_75.below hBB; have huz_78 := huz.below hBB; have hB_79 := hB_76.trans (hBB.mono hB_76.size); clear hp_75 huz hB_76 hBB; go_frame)
    | ((with_reducible change wpList _ _ _ (Oper.mk none _ _ _ _ _ :: _) _ _); refine kStoreCoin _ _ _ ZC.value uz ZC.height ZC.base _ hX3 rfl huz_78 rfl rfl rfl rfl ?_; intro b3 hY3 hW3; have hn3 := coin_noByte 0 0 false (isVals_nil a3); have hp_80 := own_wroteN hp_77 hX3 (by decide) hW3; have huz_81 := vals_wroteN huz_78 hX3 hn3 hW3; have hB_82 := hB_79.trans (hW3.below le3); have hR3 : Row b3 y3.heap.size 29 (coinV ZC uz) := hY3; clear hX3 hY3 hW3 hn3 le3 hp_77 huz_78 hB_79; go_frame)
    | ((with_reducible change wpList _ _ _ (Oper.mk (some 110) _ _ _ _ _ :: _) _ _); refine kEqlI _ _ _ _ .i64 ((61 : Nat) : Int) 61 true rfl rfl rfl rfl (by decide) ?_; go_frame))
  go_ret
  exact ⟨rfl, hB_82⟩
theorem coinBytes_walk {c : CoinP} {b : List UInt8} {u bv : Value} {cut : Int} (W0 : World) (hu : IsVals W0 u (c.lock.map VB)) (hbv : IsVals W0 bv (b.map VB)) : Calls Try.prog 6 #[.agg (coinV c u), bv, .int .i64 cut] W0 (AlivePost W0) := by
  by_cases hb : 2500 < b.length
  · exact coinBytes_out W0 hu hbv hb
  obtain ⟨⟨XC, XE⟩, hx⟩ : ∃ p, parseC b = p := ⟨_, rfl⟩
  by_cases h0 : XE = 0
  · subst h0
    by_cases hcr : rightC c = true
    · by_cases hct : 0 ≤ cut ∧ cut < ((coinL c).length : Int)
      · exact coinBytes_cut0 W0 hu hbv (by omega) hx hcr hct
      · exact coinBytes_more0 W0 hu hbv (by omega) hx hcr (by omega)
    · exact coinBytes_no0 W0 hu hbv (by omega) hx (by simpa using hcr)
  have hw := (parse_wrong (b := b) (by rw [hx]; exact h0)).2
  rw [hx] at hw
  rcases hw with hw | hw
  · obtain rfl : XE = 61 := hw
    by_cases hcr : rightC c = true
    · by_cases hct : 0 ≤ cut ∧ cut < ((coinL c).length : Int)
      · exact coinBytes_cut61 W0 hu hbv (by omega) hx hcr hct
      · exact coinBytes_more61 W0 hu hbv (by omega) hx hcr (by omega)
    · exact coinBytes_no61 W0 hu hbv (by omega) hx (by simpa using hcr)
  · obtain rfl : XE = 62 := hw
    by_cases hcr : rightC c = true
    · by_cases hct : 0 ≤ cut ∧ cut < ((coinL c).length : Int)
      · exact coinBytes_cut62 W0 hu hbv (by omega) hx hcr hct
      · exact coinBytes_more62 W0 hu hbv (by omega) hx hcr (by omega)
    · exact coinBytes_no62 W0 hu hbv (by omega) hx (by simpa using hcr)
end Go.Proofs.Ytgichipcmbnnhaa
