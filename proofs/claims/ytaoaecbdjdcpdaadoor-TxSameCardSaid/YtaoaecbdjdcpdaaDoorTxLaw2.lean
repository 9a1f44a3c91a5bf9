/-
  Layer 10: the walk of TxSame.
-/
import Derived.Test.YtaoaecbdjdcpdaaDoorTxGreat
namespace Go.Proofs.YtaoaecbdjdcpdaaDoor
open Go Go.RowKit

theorem sameT_bytes {t u : TxP} (ht : t.Is) (hf : t.Fits) (hu : u.Is) (hg : u.Fits) : sameT t u = (txL t == txL u) := by
  rw [Bool.eq_iff_iff, sameT_iff, beq_iff_eq]
  exact ⟨fun h => by rw [h], fun h => tx_inj ht hf hu hg h⟩
set_option maxRecDepth 100000 in
set_option maxHeartbeats 8000000 in
theorem txSame_walk {t u : TxP} {a b x y : Value} (W0 : World) (hK : Keys W0) (ht : t.Is) (hu : u.Is) (ha : InsOf W0 a t.ins) (hb : OutsOf W0 b t.outs) (hx : InsOf W0 x u.ins) (hy : OutsOf W0 y u.outs) : Calls Tryd.prog 6 #[.agg (txC t.version a b t.end'), .agg (txC u.version x y u.end')] W0 (BoolPost W0 true) := by
  obtain ⟨g1, hg1⟩ : ∃ g, greatB t = g := ⟨_, rfl⟩
  obtain ⟨g2, hg2⟩ : ∃ g, greatB u = g := ⟨_, rfl⟩
  cases g1
  case true =>
    have hB00 := Below.refl W0.heap.size W0
    go_enter Tryd.func6, Tryd.ntmps6
    go_wp2_with (first
      | ((with_reducible change wpList _ _ _ (Oper.mk (some 2) _ _ _ _ _ :: _) _ _); refine kBoxL _ _ _ rfl rfl rfl ?_; intro y1 hV2 hzq hBq; clear hzq; have hB_1 := hB00.trans (hBq.mono hB00.size); clear hB00 hBq; go_frame)
      | ((with_reducible change wpList _ _ _ (Oper.mk (some 3) _ _ _ _ _ :: _) _ _); refine kBoxL _ _ _ rfl rfl rfl ?_; intro y2 hV3 hzq hBq; clear hzq; have hV2_2 := hV2.below hBq hV2.lt; have hB_3 := hB_1.trans (hBq.mono hB_1.size); clear hV2 hB_1 hBq; go_frame)
      | (go_at_call 12; refine (txAlive_any _ (hK.below hB_3)).mono ?_; rintro e y3 ⟨rfl, hBq⟩; have hV2_4 := hV2_2.below hBq hV2_2.lt; have hV3_5 := hV3.below hBq hV3.lt; have hB_6 := hB_3.trans (hBq.mono hB_3.size); clear hV2_2 hV3 hB_3 hBq; go_frame)
      | ((with_reducible change wpList _ _ _ (Oper.mk (some 7) _ _ _ _ _ :: _) _ _); refine kNot _ _ true rfl rfl rfl ?_; go_frame)
      | ((with_reducible change wpList _ _ _ (Oper.mk (some 8) _ _ _ _ _ :: _) _ _); refine kLoadRow _ _ _ _ (txC t.version a b t.end') _ rfl rfl rfl hV2_4 Tryd.underlying26 rfl info_TxC ?_; go_frame)
      | (go_at_call 15; refine (great_any (t := t) _ (ha.below hB_6) (hb.below hB_6)).mono ?_; rintro e y4 ⟨rfl, hBq⟩; have hV2_7 := hV2_4.below hBq hV2_4.lt; have hV3_8 := hV3_5.below hBq hV3_5.lt; have hB_9 := hB_6.trans (hBq.mono hB_6.size); clear hV2_4 hV3_5 hB_6 hBq; rw [hg1]; go_frame))
    (try simp only [Exit.inBlock, Exit.then])
    refine retBT rfl rfl ?_
    exact ⟨rfl, hB_9⟩
  cases g2
  case true =>
    have hB00 := Below.refl W0.heap.size W0
    go_enter Tryd.func6, Tryd.ntmps6
    go_wp2_with (first
      | ((with_reducible change wpList _ _ _ (Oper.mk (some 2) _ _ _ _ _ :: _) _ _); refine kBoxL _ _ _ rfl rfl rfl ?_; intro y1 hV2 hzq hBq; clear hzq; have hB_1 := hB00.trans (hBq.mono hB00.size); clear hB00 hBq; go_frame)
      | ((with_reducible change wpList _ _ _ (Oper.mk (some 3) _ _ _ _ _ :: _) _ _); refine kBoxL _ _ _ rfl rfl rfl ?_; intro y2 hV3 hzq hBq; clear hzq; have hV2_2 := hV2.below hBq hV2.lt; have hB_3 := hB_1.trans (hBq.mono hB_1.size); clear hV2 hB_1 hBq; go_frame)
      | (go_at_call 12; refine (txAlive_any _ (hK.below hB_3)).mono ?_; rintro e y3 ⟨rfl, hBq⟩; have hV2_4 := hV2_2.below hBq hV2_2.lt; have hV3_5 := hV3.below hBq hV3.lt; have hB_6 := hB_3.trans (hBq.mono hB_3.size); clear hV2_2 hV3 hB_3 hBq; go_frame)
      | ((with_reducible change wpList _ _ _ (Oper.mk (some 7) _ _ _ _ _ :: _) _ _); refine kNot _ _ true rfl rfl rfl ?_; go_frame)
      | ((with_reducible change wpList _ _ _ (Oper.mk (some 8) _ _ _ _ _ :: _) _ _); refine kLoadRow _ _ _ _ (txC t.version a b t.end') _ rfl rfl rfl hV2_4 Tryd.underlying26 rfl info_TxC ?_; go_frame)
      | (go_at_call 15; refine (great_any (t := t) _ (ha.below hB_6) (hb.below hB_6)).mono ?_; rintro e y4 ⟨rfl, hBq⟩; have hV2_7 := hV2_4.below hBq hV2_4.lt; have hV3_8 := hV3_5.below hBq hV3_5.lt; have hB_9 := hB_6.trans (hBq.mono hB_6.size); clear hV2_4 hV3_5 hB_6 hBq; rw [hg1]; go_frame)
      | ((with_reducible change wpList _ _ _ (Oper.mk (some 11) _ _ _ _ _ :: _) _ _); refine kLoadRow _ _ _ _ (txC u.version x y u.end') _ rfl rfl rfl hV3_8 Tryd.underlying26 rfl info_TxC ?_; go_frame)
      | (go_at_call 15; refine (great_any (t := u) _ (hx.below hB_9) (hy.below hB_9)).mono ?_; rintro e y5 ⟨rfl, hBq⟩; have hV2_10 := hV2_7.below hBq hV2_7.lt; have hV3_11 := hV3_8.below hBq hV3_8.lt; have hB_12 := hB_9.trans (hBq.mono hB_9.size); clear hV2_7 hV3_8 hB_9 hBq; rw [hg2]; go_frame))
    (try simp only [Exit.inBlock, Exit.then])
    refine retBT rfl rfl ?_
    exact ⟨rfl, hB_12⟩
  have hf := great_not hg1
  have hg := great_not hg2
  obtain ⟨c, hc⟩ : ∃ c, (txL t == txL u) = c := ⟨_, rfl⟩
  obtain ⟨d, hd⟩ : ∃ d, decide (idL t = idL u) = d := ⟨_, rfl⟩
  have hsame : sameT t u = c := by rw [sameT_bytes ht hf hu hg, hc]
  have hB00 := Below.refl W0.heap.size W0
  go_enter Tryd.func6, Tryd.ntmps6
  go_wp2_with (first
    | ((with_reducible change wpList _ _ _ (Oper.mk (some 2) _ _ _ _ _ :: _) _ _); refine kBoxL _ _ _ rfl rfl rfl ?_; intro y1 hV2 hzq hBq; clear hzq; have hB_1 := hB00.trans (hBq.mono hB00.size); clear hB00 hBq; go_frame)
    | ((with_reducible change wpList _ _ _ (Oper.mk (some 3) _ _ _ _ _ :: _) _ _); refine kBoxL _ _ _ rfl rfl rfl ?_; intro y2 hV3 hzq hBq; clear hzq; have hV2_2 := hV2.below hBq hV2.lt; have hB_3 := hB_1.trans (hBq.mono hB_1.size); clear hV2 hB_1 hBq; go_frame)
    | (go_at_call 12; refine (txAlive_any _ (hK.below hB_3)).mono ?_; rintro e y3 ⟨rfl, hBq⟩; have hV2_4 := hV2_2.below hBq hV2_2.lt; have hV3_5 := hV3.below hBq hV3.lt; have hB_6 := hB_3.trans (hBq.mono hB_3.size); clear hV2_2 hV3 hB_3 hBq; go_frame)
    | ((with_reducible change wpList _ _ _ (Oper.mk (some 7) _ _ _ _ _ :: _) _ _); refine kNot _ _ true rfl rfl rfl ?_; go_frame)
    | ((with_reducible change wpList _ _ _ (Oper.mk (some 8) _ _ _ _ _ :: _) _ _); refine kLoadRow _ _ _ _ (txC t.version a b t.end') _ rfl rfl rfl hV2_4 Tryd.underlying26 rfl info_TxC ?_; go_frame)
    | (go_at_call 15; refine (great_any (t := t) _ (ha.below hB_6) (hb.below hB_6)).mono ?_; rintro e y4 ⟨rfl, hBq⟩; have hV2_7 := hV2_4.below hBq hV2_4.lt; have hV3_8 := hV3_5.below hBq hV3_5.lt; have hB_9 := hB_6.trans (hBq.mono hB_6.size); clear hV2_4 hV3_5 hB_6 hBq; rw [hg1]; go_frame)
    | ((with_reducible change wpList _ _ _ (Oper.mk (some 11) _ _ _ _ _ :: _) _ _); refine kLoadRow _ _ _ _ (txC u.version x y u.end') _ rfl rfl rfl hV3_8 Tryd.underlying26 rfl info_TxC ?_; go_frame)
    | (go_at_call 15; refine (great_any (t := u) _ (hx.below hB_9) (hy.below hB_9)).mono ?_; rintro e y5 ⟨rfl, hBq⟩; have hV2_10 := hV2_7.below hBq hV2_7.lt; have hV3_11 := hV3_8.below hBq hV3_8.lt; have hB_12 := hB_9.trans (hBq.mono hB_9.size); clear hV2_7 hV3_8 hB_9 hBq; rw [hg2]; go_frame))
  refine region_mixD [(0, true), (3, true), (1, false), (2, true), (4, false), (5, true), (6, true), (7, true)] (fun w => (Row w W0.heap.size 26 (txC t.version a b t.end')) ∧ (Row w y1.heap.size 26 (txC u.version x y u.end'))) (by kernel_rfl) (by kernel_rfl) rfl ?_
  intro z0 hBd hsd
  clear hsd
  have hV2_13 := hV2_10.below hBd hV2_10.lt
  have hV3_14 := hV3_11.below hBd hV3_11.lt
  have hB_15 := hB_12.trans (hBd.mono hB_12.size)
  clear hV2_10 hV3_11 hB_12 hBd
  simp only [List.map_cons, List.map_nil]
  dsimp only [List.filterMap, List.getElem?_cons_zero, List.getElem?_cons_succ]
  have hS : (Row z0 W0.heap.size 26 (txC t.version a b t.end')) ∧ (Row z0 y1.heap.size 26 (txC u.version x y u.end')) := ⟨hV2_13, hV3_14⟩
  refine dY _ hS (yLoadRowC Tryd.underlying26 rfl _ _ (txC t.version a b t.end') info_TxC (fun _ h => h.1) rfl rfl rfl) ?_; go_frame
  refine dY _ hS (yLoadRowC Tryd.underlying26 rfl _ _ (txC u.version x y u.end') info_TxC (fun _ h => h.2) rfl rfl rfl) ?_; go_frame
  refine dLoud ?_
  refine kCall1 16 _ _ _ rfl rfl (by kernel_rfl) rfl ?_
  refine (yBytes_any (t := t) _ ht hf (ha.below hB_15) (hb.below hB_15)).mono ?_
  rintro e y6 ⟨v4, rfl, hX4o, hBq⟩
  clear hS
  have hV2_16 := hV2_13.below hBq hV2_13.lt
  have hV3_17 := hV3_14.below hBq hV3_14.lt
  have hB_18 := hB_15.trans (hBq.mono hB_15.size)
  clear hV2_13 hV3_14 hB_15 hBq
  have hX4 := hX4o.vals
  clear hX4o
  have hS : (Row y6 W0.heap.size 26 (txC t.version a b t.end')) ∧ (Row y6 y1.heap.size 26 (txC u.version x y u.end')) ∧ (IsVals y6 v4 ((txL t).map VB)) := ⟨hV2_16, hV3_17, hX4⟩
  refine ⟨_, rfl, mixOn ⟨(fun w => (Row w W0.heap.size 26 (txC t.version a b t.end')) ∧ (Row w y1.heap.size 26 (txC u.version x y u.end')) ∧ (IsVals w v4 ((txL t).map VB))), (fun _ h => ⟨h.1, h.2.1⟩), hS, ?_⟩⟩
  go_frame
  refine dY _ hS (yStr _ _ _ _ v4 (txL t) rfl rfl rfl (fun _ h => h.2.2) Tryd.underlying28 Tryd.underlying5 Tryd.underlying9) ?_; go_frame
  refine dLoud ?_
  refine kCall1 16 _ _ _ rfl rfl (by kernel_rfl) rfl ?_
  refine (yBytes_any (t := u) _ hu hg (hx.below hB_18) (hy.below hB_18)).mono ?_
  rintro e y7 ⟨v5, rfl, hX5o, hBq⟩
  clear hS
  have hV2_19 := hV2_16.below hBq hV2_16.lt
  have hV3_20 := hV3_17.below hBq hV3_17.lt
  have hX4_21 := hX4.below hBq
  have hB_22 := hB_18.trans (hBq.mono hB_18.size)
  clear hV2_16 hV3_17 hX4 hB_18 hBq
  have hX5 := hX5o.vals
  clear hX5o
  have hS : (Row y7 W0.heap.size 26 (txC t.version a b t.end')) ∧ (Row y7 y1.heap.size 26 (txC u.version x y u.end')) ∧ (IsVals y7 v4 ((txL t).map VB)) ∧ (IsVals y7 v5 ((txL u).map VB)) := ⟨hV2_19, hV3_20, hX4_21, hX5⟩
  refine ⟨_, rfl, mixOn ⟨(fun w => (Row w W0.heap.size 26 (txC t.version a b t.end')) ∧ (Row w y1.heap.size 26 (txC u.version x y u.end')) ∧ (IsVals w v4 ((txL t).map VB)) ∧ (IsVals w v5 ((txL u).map VB))), (fun _ h => ⟨h.1, h.2.1, h.2.2.1⟩), hS, ?_⟩⟩
  go_frame
  refine dY _ hS (yStr _ _ _ _ v5 (txL u) rfl rfl rfl (fun _ h => h.2.2.2) Tryd.underlying28 Tryd.underlying5 Tryd.underlying9) ?_; go_frame
  refine dY _ hS (yEqlStr _ _ _ _ (txL t) (txL u) c rfl rfl rfl rfl hc) ?_; go_frame
  refine dY _ hS (yAssign _ (.bool c) rfl rfl rfl) ?_; go_frame
  refine dDone ?_
  go_wp2
  go_wp2
  refine region_mixD [(0, true), (1, true), (3, true), (2, false), (4, true), (5, true), (6, true), (8, true), (11, true), (13, true), (7, false), (9, false), (10, true), (12, false), (14, false), (15, true), (16, true), (17, true), (18, true)] (fun w => (Row w W0.heap.size 26 (txC t.version a b t.end')) ∧ (Row w y1.heap.size 26 (txC u.version x y u.end')) ∧ (IsVals w v4 ((txL t).map VB)) ∧ (IsVals w v5 ((txL u).map VB))) (by kernel_rfl) (by kernel_rfl) rfl ?_
  intro z0 hBd hsd
  clear hsd
  have hV2_23 := hV2_19.below hBd hV2_19.lt
  have hV3_24 := hV3_20.below hBd hV3_20.lt
  have hX4_25 := hX4_21.below hBd
  have hX5_26 := hX5.below hBd
  have hB_27 := hB_22.trans (hBd.mono hB_22.size)
  clear hV2_19 hV3_20 hX4_21 hX5 hB_22 hBd
  simp only [List.map_cons, List.map_nil]
  dsimp only [List.filterMap, List.getElem?_cons_zero, List.getElem?_cons_succ]
  have hS : (Row z0 W0.heap.size 26 (txC t.version a b t.end')) ∧ (Row z0 y1.heap.size 26 (txC u.version x y u.end')) ∧ (IsVals z0 v4 ((txL t).map VB)) ∧ (IsVals z0 v5 ((txL u).map VB)) := ⟨hV2_23, hV3_24, hX4_25, hX5_26⟩
  refine dY _ hS (yLoadRowC Tryd.underlying26 rfl _ _ (txC t.version a b t.end') info_TxC (fun _ h => h.1) rfl rfl rfl) ?_; go_frame
  refine dY _ hS (yLoadRowC Tryd.underlying26 rfl _ _ (txC u.version x y u.end') info_TxC (fun _ h => h.2.1) rfl rfl rfl) ?_; go_frame
  refine dY _ hS (yMove _ (.bool c) rfl rfl rfl) ?_; go_frame
  refine dLoud ?_
  refine kCall2 17 _ _ _ _ _ rfl rfl (by kernel_rfl) rfl rfl ?_
  refine (tSame_any (t := t) (u := u) _ ht hu ⟨Nat.le_trans (hf).1 (by decide), Nat.le_trans (hf).2.1 (by decide)⟩ (ha.below hB_27) (hb.below hB_27) (hx.below hB_27) (hy.below hB_27)).mono ?_
  rintro e y8 ⟨rfl, hBq⟩
  clear hS
  have hV2_28 := hV2_23.below hBq hV2_23.lt
  have hV3_29 := hV3_24.below hBq hV3_24.lt
  have hX4_30 := hX4_25.below hBq
  have hX5_31 := hX5_26.below hBq
  have hB_32 := hB_27.trans (hBq.mono hB_27.size)
  clear hV2_23 hV3_24 hX4_25 hX5_26 hB_27 hBq
  rw [hsame]
  have hS : (Row y8 W0.heap.size 26 (txC t.version a b t.end')) ∧ (Row y8 y1.heap.size 26 (txC u.version x y u.end')) ∧ (IsVals y8 v4 ((txL t).map VB)) ∧ (IsVals y8 v5 ((txL u).map VB)) := ⟨hV2_28, hV3_29, hX4_30, hX5_31⟩
  refine ⟨_, rfl, mixOn ⟨(fun w => (Row w W0.heap.size 26 (txC t.version a b t.end')) ∧ (Row w y1.heap.size 26 (txC u.version x y u.end')) ∧ (IsVals w v4 ((txL t).map VB)) ∧ (IsVals w v5 ((txL u).map VB))), (fun _ h => ⟨h.1, h.2.1, h.2.2.1, h.2.2.2⟩), hS, ?_⟩⟩
  go_frame
  refine dY _ hS (yEqlBoolT _ _ _ _ c c true rfl rfl rfl rfl Tryd.underlying4 (by simp)) ?_; go_frame
  refine dY _ hS (yMove _ (.bool true) rfl rfl rfl) ?_; go_frame
  refine dY _ hS (yLoadRowC Tryd.underlying26 rfl _ _ (txC t.version a b t.end') info_TxC (fun _ h => h.1) rfl rfl rfl) ?_; go_frame
  refine dY _ hS (yLoadRowC Tryd.underlying26 rfl _ _ (txC u.version x y u.end') info_TxC (fun _ h => h.2.1) rfl rfl rfl) ?_; go_frame
  refine dY _ hS (yLoadRowC Tryd.underlying26 rfl _ _ (txC t.version a b t.end') info_TxC (fun _ h => h.1) rfl rfl rfl) ?_; go_frame
  refine dY _ hS (yLoadRowC Tryd.underlying26 rfl _ _ (txC u.version x y u.end') info_TxC (fun _ h => h.2.1) rfl rfl rfl) ?_; go_frame
  refine dLoud ?_
  refine kCall1 19 _ _ _ rfl rfl (by kernel_rfl) rfl ?_
  refine (tId_any (t := t) _ ht hf (ha.below hB_32) (hb.below hB_32) (hK.below hB_32)).mono ?_
  rintro e y9 ⟨rfl, hBq⟩
  clear hS
  have hV2_33 := hV2_28.below hBq hV2_28.lt
  have hV3_34 := hV3_29.below hBq hV3_29.lt
  have hX4_35 := hX4_30.below hBq
  have hX5_36 := hX5_31.below hBq
  have hB_37 := hB_32.trans (hBq.mono hB_32.size)
  clear hV2_28 hV3_29 hX4_30 hX5_31 hB_32 hBq
  have hS : (Row y9 W0.heap.size 26 (txC t.version a b t.end')) ∧ (Row y9 y1.heap.size 26 (txC u.version x y u.end')) ∧ (IsVals y9 v4 ((txL t).map VB)) ∧ (IsVals y9 v5 ((txL u).map VB)) := ⟨hV2_33, hV3_34, hX4_35, hX5_36⟩
  refine ⟨_, rfl, mixOn ⟨(fun w => (Row w W0.heap.size 26 (txC t.version a b t.end')) ∧ (Row w y1.heap.size 26 (txC u.version x y u.end')) ∧ (IsVals w v4 ((txL t).map VB)) ∧ (IsVals w v5 ((txL u).map VB))), (fun _ h => ⟨h.1, h.2.1, h.2.2.1, h.2.2.2⟩), hS, ?_⟩⟩
  go_frame
  refine dLoud ?_
  refine kCall1 19 _ _ _ rfl rfl (by kernel_rfl) rfl ?_
  refine (tId_any (t := u) _ hu hg (hx.below hB_37) (hy.below hB_37) (hK.below hB_37)).mono ?_
  rintro e y10 ⟨rfl, hBq⟩
  clear hS
  have hV2_38 := hV2_33.below hBq hV2_33.lt
  have hV3_39 := hV3_34.below hBq hV3_34.lt
  have hX4_40 := hX4_35.below hBq
  have hX5_41 := hX5_36.below hBq
  have hB_42 := hB_37.trans (hBq.mono hB_37.size)
  clear hV2_33 hV3_34 hX4_35 hX5_36 hB_37 hBq
  have hS : (Row y10 W0.heap.size 26 (txC t.version a b t.end')) ∧ (Row y10 y1.heap.size 26 (txC u.version x y u.end')) ∧ (IsVals y10 v4 ((txL t).map VB)) ∧ (IsVals y10 v5 ((txL u).map VB)) := ⟨hV2_38, hV3_39, hX4_40, hX5_41⟩
  refine ⟨_, rfl, mixOn ⟨(fun w => (Row w W0.heap.size 26 (txC t.version a b t.end')) ∧ (Row w y1.heap.size 26 (txC u.version x y u.end')) ∧ (IsVals w v4 ((txL t).map VB)) ∧ (IsVals w v5 ((txL u).map VB))), (fun _ h => ⟨h.1, h.2.1, h.2.2.1, h.2.2.2⟩), hS, ?_⟩⟩
  go_frame
  refine dY _ hS (yEqlHash _ _ _ (idL t) (idL u) d (idL_len t) (idL_len u) rfl rfl rfl rfl hd) ?_; go_frame
  refine dLoud ?_
  refine kCall1 20 _ _ _ rfl rfl (by kernel_rfl) rfl ?_
  refine (yId_any (t := t) _ ht hf (ha.below hB_42) (hb.below hB_42)).mono ?_
  rintro e y11 ⟨rfl, hBq⟩
  clear hS
  have hV2_43 := hV2_38.below hBq hV2_38.lt
  have hV3_44 := hV3_39.below hBq hV3_39.lt
  have hX4_45 := hX4_40.below hBq
  have hX5_46 := hX5_41.below hBq
  have hB_47 := hB_42.trans (hBq.mono hB_42.size)
  clear hV2_38 hV3_39 hX4_40 hX5_41 hB_42 hBq
  have hS : (Row y11 W0.heap.size 26 (txC t.version a b t.end')) ∧ (Row y11 y1.heap.size 26 (txC u.version x y u.end')) ∧ (IsVals y11 v4 ((txL t).map VB)) ∧ (IsVals y11 v5 ((txL u).map VB)) := ⟨hV2_43, hV3_44, hX4_45, hX5_46⟩
  refine ⟨_, rfl, mixOn ⟨(fun w => (Row w W0.heap.size 26 (txC t.version a b t.end')) ∧ (Row w y1.heap.size 26 (txC u.version x y u.end')) ∧ (IsVals w v4 ((txL t).map VB)) ∧ (IsVals w v5 ((txL u).map VB))), (fun _ h => ⟨h.1, h.2.1, h.2.2.1, h.2.2.2⟩), hS, ?_⟩⟩
  go_frame
  refine dLoud ?_
  refine kCall1 20 _ _ _ rfl rfl (by kernel_rfl) rfl ?_
  refine (yId_any (t := u) _ hu hg (hx.below hB_47) (hy.below hB_47)).mono ?_
  rintro e y12 ⟨rfl, hBq⟩
  clear hS
  have hV2_48 := hV2_43.below hBq hV2_43.lt
  have hV3_49 := hV3_44.below hBq hV3_44.lt
  have hX4_50 := hX4_45.below hBq
  have hX5_51 := hX5_46.below hBq
  have hB_52 := hB_47.trans (hBq.mono hB_47.size)
  clear hV2_43 hV3_44 hX4_45 hX5_46 hB_47 hBq
  have hS : (Row y12 W0.heap.size 26 (txC t.version a b t.end')) ∧ (Row y12 y1.heap.size 26 (txC u.version x y u.end')) ∧ (IsVals y12 v4 ((txL t).map VB)) ∧ (IsVals y12 v5 ((txL u).map VB)) := ⟨hV2_48, hV3_49, hX4_50, hX5_51⟩
  refine ⟨_, rfl, mixOn ⟨(fun w => (Row w W0.heap.size 26 (txC t.version a b t.end')) ∧ (Row w y1.heap.size 26 (txC u.version x y u.end')) ∧ (IsVals w v4 ((txL t).map VB)) ∧ (IsVals w v5 ((txL u).map VB))), (fun _ h => ⟨h.1, h.2.1, h.2.2.1, h.2.2.2⟩), hS, ?_⟩⟩
  go_frame
  refine dY _ hS (yEqlHash _ _ _ (idL t) (idL u) d (idL_len t) (idL_len u) rfl rfl rfl rfl hd) ?_; go_frame
  refine dY _ hS (yEqlBoolT _ _ _ _ d d true rfl rfl rfl rfl Tryd.underlying4 (by simp)) ?_; go_frame
  refine dY _ hS (yPick _ _ _ true (.bool true) rfl rfl rfl rfl) ?_; go_frame
  refine dY _ hS (yAssign _ (.bool true) rfl rfl rfl) ?_; go_frame
  refine dDone ?_
  go_wp2
  go_ret
  exact ⟨rfl, hB_52⟩
end Go.Proofs.YtaoaecbdjdcpdaaDoor
