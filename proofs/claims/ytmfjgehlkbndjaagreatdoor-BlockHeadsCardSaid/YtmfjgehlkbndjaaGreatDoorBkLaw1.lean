/-
  Layer 11: the walk of BlockHeads.
-/
import Derived.Test.YtmfjgehlkbndjaaGreatDoorBkC
namespace Go.Proofs.YtmfjgehlkbndjaaGreatDoor
open Go Go.RowKit Go.Shelf

theorem head_len1 {h : HeadP} (hh : h.Is) : (headL h).length ≤ 1000000 := by rw [headL_len hh]; decide
set_option maxRecDepth 100000 in
set_option maxHeartbeats 8000000 in
theorem blockHeads_walk {h : HeadP} (W0 : World) (hK : Keys W0) (hh : h.Is) : Calls Tryz.prog 4 #[.agg (headC h)] W0 (BoolPost W0 true) := by
  have hB00 := Below.refl W0.heap.size W0
  go_enter Tryz.func4, Tryz.ntmps4
  go_wp2_with (first
    | ((with_reducible change wpList _ _ _ (Oper.mk (some 1) _ _ _ _ _ :: _) _ _); refine kBoxL _ _ _ rfl rfl rfl ?_; intro y1 hV1 hzq hBq; clear hzq; have hB_1 := hB00.trans (hBq.mono hB00.size); clear hB00 hBq; go_frame)
    | (go_at_call 12; refine (blockAlive_any _ (hK.below hB_1)).mono ?_; rintro e y2 ⟨rfl, hBq⟩; have hV1_2 := hV1.below hBq hV1.lt; have hB_3 := hB_1.trans (hBq.mono hB_1.size); clear hV1 hB_1 hBq; go_frame)
    | ((with_reducible change wpList _ _ _ (Oper.mk (some 7) _ _ _ _ _ :: _) _ _); refine kY (yNotC _ _ true rfl rfl rfl) ?_; go_frame)
    | ((with_reducible change wpList _ _ _ (Oper.mk (some 8) _ _ _ _ _ :: _) _ _); refine kY (yLoadRowC Tryz.underlying26 rfl _ _ (headC h) (info_HeadS _) (fun _ e => by cases e; exact hV1_2) rfl rfl rfl) ?_; go_frame)
    | (go_at_call 14; refine (blHeadBytes_any (h := h) _ hh).mono ?_; rintro e y3 ⟨v2, rfl, hX2o, hBq⟩; have hV1_4 := hV1_2.below hBq hV1_2.lt; have hB_5 := hB_3.trans (hBq.mono hB_3.size); clear hV1_2 hB_3 hBq; have hX2 := hX2o.vals; clear hX2o; go_frame)
    | (go_at_call 10; refine (blHeadParse_any (l := (headL h)) _ hX2 (head_len1 hh)).mono ?_; rintro e y4 ⟨rfl, hBq⟩; have hV1_6 := hV1_4.below hBq hV1_4.lt; have hX2_7 := hX2.below hBq; have hB_8 := hB_5.trans (hBq.mono hB_5.size); clear hV1_4 hX2 hB_5 hBq; rw [headParse_back hh]; go_frame)
    | ((with_reducible change wpList _ _ _ (Oper.mk (some 4) _ _ _ _ _ :: _) _ _); refine kAllocL _ _ rfl rfl zero_HeadC ?_; intro y5 hV4 hzq hBq; clear hzq; have hP := hBq; clear hBq; go_frame)
    | ((with_reducible change wpList _ _ _ (Oper.mk none (Op.store _ (Operand.tmp 4) _) _ _ _ _ :: _) _ _); refine kStoreHead _ _ _ h _ hV4 (headC_size _) rfl rfl rfl rfl ?_; intro y6 hT4 hWq; have hPn := hP.trans (hWq.below (Nat.le_refl _)); clear hP; have hP := hPn; clear hPn; clear hWq hV4; have hV1_9 := hV1_6.below hP hV1_6.lt; have hX2_10 := hX2_7.below hP; have hB_11 := hB_8.trans (hP.mono hB_8.size); clear hV1_6 hX2_7 hB_8 hP; go_frame))
  refine region_mixD [(0, true), (1, true), (2, true), (3, false), (4, true), (5, true), (6, true), (7, true), (8, true), (9, true), (10, true), (11, true), (12, true), (13, true), (14, true), (15, true), (16, true), (17, true), (18, true), (19, true), (20, true), (21, true), (23, true), (22, false), (24, false), (25, true), (26, true), (27, true)] (fun w => (Row w W0.heap.size 26 (headC h)) ∧ (IsVals w v2 ((headL h).map VB)) ∧ (Row w y4.heap.size 26 (headC h))) (by kernel_rfl) (by kernel_rfl) rfl ?_
  intro z0 hBd hsd
  clear hsd
  have hV1_12 := hV1_9.below hBd hV1_9.lt
  have hX2_13 := hX2_10.below hBd
  have hT4_14 := hT4.below hBd hT4.lt
  have hB_15 := hB_11.trans (hBd.mono hB_11.size)
  clear hV1_9 hX2_10 hT4 hB_11 hBd
  simp only [List.map_cons, List.map_nil]
  dsimp only [List.filterMap, List.getElem?_cons_zero, List.getElem?_cons_succ]
  have hS : (Row z0 W0.heap.size 26 (headC h)) ∧ (IsVals z0 v2 ((headL h).map VB)) ∧ (Row z0 y4.heap.size 26 (headC h)) := ⟨hV1_12, hX2_13, hT4_14⟩
  refine dY _ hS (yMove _ v2 rfl rfl rfl) ?_; go_frame
  refine dY _ hS (yStr _ _ _ _ v2 (headL h) rfl rfl rfl (fun _ h => h.2.1) Tryz.underlying38 Tryz.underlying5 Tryz.underlying9) ?_; go_frame
  refine dY _ hS (yLoadRowC Tryz.underlying26 rfl _ _ (headC h) (info_HeadS _) (fun _ h => h.1) rfl rfl rfl) ?_; go_frame
  refine dLoud ?_
  refine kCall1 15 _ _ _ rfl rfl (by kernel_rfl) rfl ?_
  refine (xHeadBytes_any (h := h) _ hh).mono ?_
  rintro e y7 ⟨v4, rfl, hX4o, hBq⟩
  clear hS
  have hV1_16 := hV1_12.below hBq hV1_12.lt
  have hX2_17 := hX2_13.below hBq
  have hT4_18 := hT4_14.below hBq hT4_14.lt
  have hB_19 := hB_15.trans (hBq.mono hB_15.size)
  clear hV1_12 hX2_13 hT4_14 hB_15 hBq
  have hX4 := hX4o.vals
  clear hX4o
  have hS : (Row y7 W0.heap.size 26 (headC h)) ∧ (IsVals y7 v2 ((headL h).map VB)) ∧ (Row y7 y4.heap.size 26 (headC h)) ∧ (IsVals y7 v4 ((headL h).map VB)) := ⟨hV1_16, hX2_17, hT4_18, hX4⟩
  refine ⟨_, rfl, mixOn ⟨(fun w => (Row w W0.heap.size 26 (headC h)) ∧ (IsVals w v2 ((headL h).map VB)) ∧ (Row w y4.heap.size 26 (headC h)) ∧ (IsVals w v4 ((headL h).map VB))), (fun _ h => ⟨h.1, h.2.1, h.2.2.1⟩), hS, ?_⟩⟩
  go_frame
  refine dY _ hS (yStr _ _ _ _ v4 (headL h) rfl rfl rfl (fun _ h => h.2.2.2) Tryz.underlying38 Tryz.underlying5 Tryz.underlying9) ?_; go_frame
  refine dY _ hS (yEqlStr _ _ _ _ (headL h) (headL h) true rfl rfl rfl rfl (by simp)) ?_; go_frame
  refine dY _ hS (yMove _ (.bool true) rfl rfl rfl) ?_; go_frame
  refine dY _ hS (yMove _ v2 rfl rfl rfl) ?_; go_frame
  refine dY _ hS (yLen _ _ _ v2 _ 80 rfl rfl rfl (fun _ h => h.2.1) (by rw [List.length_map, headL_len hh]) Tryz.underlying38) ?_; go_frame
  refine dY _ hS (yEqlIC _ _ _ _ .i64 (80 : Int) 80 true rfl rfl rfl rfl (by decide)) ?_; go_frame
  refine dY _ hS (yPick _ _ _ true (.bool true) rfl rfl rfl rfl) ?_; go_frame
  refine dY _ hS (yMove _ (.bool true) rfl rfl rfl) ?_; go_frame
  refine dY _ hS (yMove _ (.int .i64 0) rfl rfl rfl) ?_; go_frame
  refine dY _ hS (yEqlIC _ _ _ _ .i64 0 0 true rfl rfl rfl rfl (by simp)) ?_; go_frame
  refine dY _ hS (yPick _ _ _ true (.bool true) rfl rfl rfl rfl) ?_; go_frame
  refine dY _ hS (yMove _ (.bool true) rfl rfl rfl) ?_; go_frame
  refine dY _ hS (yLoadRowC Tryz.underlying26 rfl _ _ (headC h) (info_HeadS _) (fun _ h => h.2.2.1) rfl rfl rfl) ?_; go_frame
  refine dY _ hS (yLoadRowC Tryz.underlying26 rfl _ _ (headC h) (info_HeadS _) (fun _ h => h.1) rfl rfl rfl) ?_; go_frame
  refine dY _ hS (yEqlHead _ _ _ hh hh true rfl rfl rfl rfl (by simp)) ?_; go_frame
  refine dY _ hS (yPick _ _ _ true (.bool true) rfl rfl rfl rfl) ?_; go_frame
  refine dY _ hS (yMove _ (.bool true) rfl rfl rfl) ?_; go_frame
  refine dY _ hS (yLoadRowC Tryz.underlying26 rfl _ _ (headC h) (info_HeadS _) (fun _ h => h.1) rfl rfl rfl) ?_; go_frame
  refine dY _ hS (yLoadRowC Tryz.underlying26 rfl _ _ (headC h) (info_HeadS _) (fun _ h => h.1) rfl rfl rfl) ?_; go_frame
  refine dLoud ?_
  refine kCall1 16 _ _ _ rfl rfl (by kernel_rfl) rfl ?_
  refine (blId_any (h := h) _ hh (hK.below hB_19)).mono ?_
  rintro e y8 ⟨rfl, hBq⟩
  clear hS
  have hV1_20 := hV1_16.below hBq hV1_16.lt
  have hX2_21 := hX2_17.below hBq
  have hT4_22 := hT4_18.below hBq hT4_18.lt
  have hX4_23 := hX4.below hBq
  have hB_24 := hB_19.trans (hBq.mono hB_19.size)
  clear hV1_16 hX2_17 hT4_18 hX4 hB_19 hBq
  have hS : (Row y8 W0.heap.size 26 (headC h)) ∧ (IsVals y8 v2 ((headL h).map VB)) ∧ (Row y8 y4.heap.size 26 (headC h)) ∧ (IsVals y8 v4 ((headL h).map VB)) := ⟨hV1_20, hX2_21, hT4_22, hX4_23⟩
  refine ⟨_, rfl, mixOn ⟨(fun w => (Row w W0.heap.size 26 (headC h)) ∧ (IsVals w v2 ((headL h).map VB)) ∧ (Row w y4.heap.size 26 (headC h)) ∧ (IsVals w v4 ((headL h).map VB))), (fun _ h => ⟨h.1, h.2.1, h.2.2.1, h.2.2.2⟩), hS, ?_⟩⟩
  go_frame
  refine dLoud ?_
  refine kCall1 17 _ _ _ rfl rfl (by kernel_rfl) rfl ?_
  refine (xId_any (h := h) _ hh).mono ?_
  rintro e y9 ⟨rfl, hBq⟩
  clear hS
  have hV1_25 := hV1_20.below hBq hV1_20.lt
  have hX2_26 := hX2_21.below hBq
  have hT4_27 := hT4_22.below hBq hT4_22.lt
  have hX4_28 := hX4_23.below hBq
  have hB_29 := hB_24.trans (hBq.mono hB_24.size)
  clear hV1_20 hX2_21 hT4_22 hX4_23 hB_24 hBq
  have hS : (Row y9 W0.heap.size 26 (headC h)) ∧ (IsVals y9 v2 ((headL h).map VB)) ∧ (Row y9 y4.heap.size 26 (headC h)) ∧ (IsVals y9 v4 ((headL h).map VB)) := ⟨hV1_25, hX2_26, hT4_27, hX4_28⟩
  refine ⟨_, rfl, mixOn ⟨(fun w => (Row w W0.heap.size 26 (headC h)) ∧ (IsVals w v2 ((headL h).map VB)) ∧ (Row w y4.heap.size 26 (headC h)) ∧ (IsVals w v4 ((headL h).map VB))), (fun _ h => ⟨h.1, h.2.1, h.2.2.1, h.2.2.2⟩), hS, ?_⟩⟩
  go_frame
  refine dY _ hS (yEqlHash _ _ _ (hidL h) (hidL h) true (hidL_len _) (hidL_len _) rfl rfl rfl rfl (by simp)) ?_; go_frame
  refine dY _ hS (yPick _ _ _ true (.bool true) rfl rfl rfl rfl) ?_; go_frame
  refine dY _ hS (yAssign _ (.bool true) rfl rfl rfl) ?_; go_frame
  refine dDone ?_
  go_wp2
  go_ret
  exact ⟨rfl, hB_29⟩
end Go.Proofs.YtmfjgehlkbndjaaGreatDoor
