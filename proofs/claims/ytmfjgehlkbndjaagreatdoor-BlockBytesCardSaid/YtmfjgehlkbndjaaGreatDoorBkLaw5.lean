/-
  Layer 11: the walk of BlockBytes.
-/
import Derived.Test.YtmfjgehlkbndjaaGreatDoorBkGreat
import Derived.Test.YtmfjgehlkbndjaaGreatDoorBkB
namespace Go.Proofs.YtmfjgehlkbndjaaGreatDoor
open Go Go.RowKit Go.Shelf

set_option maxRecDepth 100000 in
set_option maxHeartbeats 8000000 in
theorem blockBytes_walk {a b : BlockP} {u v : Value} (W0 : World) (hK : Keys W0) (ia : a.Is) (ib : b.Is) (ha : TxsOf W0 u a.txs) (hb : TxsOf W0 v b.txs) : Calls Tryz.prog 6 #[.agg (blkC a.head u), .agg (blkC b.head v)] W0 (BoolPost W0 true) := by
  obtain ⟨ga, hga⟩ : ∃ g, great11B a = g := ⟨_, rfl⟩
  cases ga
  case true =>
    have hB00 := Below.refl W0.heap.size W0
    go_enter Tryz.func6, Tryz.ntmps6
    go_wp2_with (first
      | ((with_reducible change wpList _ _ _ (Oper.mk (some 2) _ _ _ _ _ :: _) _ _); refine kBoxL _ _ _ rfl rfl rfl ?_; intro y1 hV2 hzq hBq; clear hzq; have ha_1 := ha.below hBq; have hb_2 := hb.below hBq; have hB_3 := hB00.trans (hBq.mono hB00.size); clear ha hb hB00 hBq; go_frame)
      | ((with_reducible change wpList _ _ _ (Oper.mk (some 3) _ _ _ _ _ :: _) _ _); refine kBoxL _ _ _ rfl rfl rfl ?_; intro y2 hV3 hzq hBq; clear hzq; have ha_4 := ha_1.below hBq; have hb_5 := hb_2.below hBq; have hV2_6 := hV2.below hBq hV2.lt; have hB_7 := hB_3.trans (hBq.mono hB_3.size); clear ha_1 hb_2 hV2 hB_3 hBq; go_frame)
      | (go_at_call 12; refine (blockAlive_any _ (hK.below hB_7)).mono ?_; rintro e y3 ⟨rfl, hBq⟩; have ha_8 := ha_4.below hBq; have hb_9 := hb_5.below hBq; have hV2_10 := hV2_6.below hBq hV2_6.lt; have hV3_11 := hV3.below hBq hV3.lt; have hB_12 := hB_7.trans (hBq.mono hB_7.size); clear ha_4 hb_5 hV2_6 hV3 hB_7 hBq; go_frame)
      | ((with_reducible change wpList _ _ _ (Oper.mk (some 12) _ _ _ _ _ :: _) _ _); refine kY (yNotC _ _ true rfl rfl rfl) ?_; go_frame)
      | ((with_reducible change wpList _ _ _ (Oper.mk (some 13) _ _ _ _ _ :: _) _ _); refine kY (yLoadRowC Tryz.underlying29 rfl _ _ (blkC a.head u) (info_BlkS _ _) (fun _ e => by cases e; exact hV2_10) rfl rfl rfl) ?_; go_frame)
      | (go_at_call 19; refine (great11_any (b := a) _ ha_8).mono ?_; rintro e y4 ⟨rfl, hBq⟩; have ha_13 := ha_8.below hBq; have hb_14 := hb_9.below hBq; have hV2_15 := hV2_10.below hBq hV2_10.lt; have hV3_16 := hV3_11.below hBq hV3_11.lt; have hB_17 := hB_12.trans (hBq.mono hB_12.size); clear ha_8 hb_9 hV2_10 hV3_11 hB_12 hBq; rw [hga]; go_frame))
    (try simp only [Exit.inBlock, Exit.then])
    refine retBT rfl rfl ?_
    exact ⟨rfl, hB_17⟩
  obtain ⟨gb, hgb⟩ : ∃ g, great11B b = g := ⟨_, rfl⟩
  cases gb
  case true =>
    have hB00 := Below.refl W0.heap.size W0
    go_enter Tryz.func6, Tryz.ntmps6
    go_wp2_with (first
      | ((with_reducible change wpList _ _ _ (Oper.mk (some 2) _ _ _ _ _ :: _) _ _); refine kBoxL _ _ _ rfl rfl rfl ?_; intro y1 hV2 hzq hBq; clear hzq; have ha_1 := ha.below hBq; have hb_2 := hb.below hBq; have hB_3 := hB00.trans (hBq.mono hB00.size); clear ha hb hB00 hBq; go_frame)
      | ((with_reducible change wpList _ _ _ (Oper.mk (some 3) _ _ _ _ _ :: _) _ _); refine kBoxL _ _ _ rfl rfl rfl ?_; intro y2 hV3 hzq hBq; clear hzq; have ha_4 := ha_1.below hBq; have hb_5 := hb_2.below hBq; have hV2_6 := hV2.below hBq hV2.lt; have hB_7 := hB_3.trans (hBq.mono hB_3.size); clear ha_1 hb_2 hV2 hB_3 hBq; go_frame)
      | (go_at_call 12; refine (blockAlive_any _ (hK.below hB_7)).mono ?_; rintro e y3 ⟨rfl, hBq⟩; have ha_8 := ha_4.below hBq; have hb_9 := hb_5.below hBq; have hV2_10 := hV2_6.below hBq hV2_6.lt; have hV3_11 := hV3.below hBq hV3.lt; have hB_12 := hB_7.trans (hBq.mono hB_7.size); clear ha_4 hb_5 hV2_6 hV3 hB_7 hBq; go_frame)
      | ((with_reducible change wpList _ _ _ (Oper.mk (some 12) _ _ _ _ _ :: _) _ _); refine kY (yNotC _ _ true rfl rfl rfl) ?_; go_frame)
      | ((with_reducible change wpList _ _ _ (Oper.mk (some 13) _ _ _ _ _ :: _) _ _); refine kY (yLoadRowC Tryz.underlying29 rfl _ _ (blkC a.head u) (info_BlkS _ _) (fun _ e => by cases e; exact hV2_10) rfl rfl rfl) ?_; go_frame)
      | (go_at_call 19; refine (great11_any (b := a) _ ha_8).mono ?_; rintro e y4 ⟨rfl, hBq⟩; have ha_13 := ha_8.below hBq; have hb_14 := hb_9.below hBq; have hV2_15 := hV2_10.below hBq hV2_10.lt; have hV3_16 := hV3_11.below hBq hV3_11.lt; have hB_17 := hB_12.trans (hBq.mono hB_12.size); clear ha_8 hb_9 hV2_10 hV3_11 hB_12 hBq; rw [hga]; go_frame)
      | ((with_reducible change wpList _ _ _ (Oper.mk (some 16) _ _ _ _ _ :: _) _ _); refine kY (yLoadRowC Tryz.underlying29 rfl _ _ (blkC b.head v) (info_BlkS _ _) (fun _ e => by cases e; exact hV3_16) rfl rfl rfl) ?_; go_frame)
      | (go_at_call 19; refine (great11_any (b := b) _ hb_14).mono ?_; rintro e y5 ⟨rfl, hBq⟩; have ha_18 := ha_13.below hBq; have hb_19 := hb_14.below hBq; have hV2_20 := hV2_15.below hBq hV2_15.lt; have hV3_21 := hV3_16.below hBq hV3_16.lt; have hB_22 := hB_17.trans (hBq.mono hB_17.size); clear ha_13 hb_14 hV2_15 hV3_16 hB_17 hBq; rw [hgb]; go_frame))
    (try simp only [Exit.inBlock, Exit.then])
    refine retBT rfl rfl ?_
    exact ⟨rfl, hB_22⟩
  have fa := (great11_not ia hga).1
  have fb := (great11_not ib hgb).1
  have hla := (great11_not ia hga).2
  obtain ⟨n, hn⟩ : ∃ n, (idsL a.txs).length = n := ⟨_, rfl⟩
  have hn2 : n ≤ 100 := by rw [← hn]; unfold idsL; rw [List.length_map]; exact fa.1
  have hB00 := Below.refl W0.heap.size W0
  go_enter Tryz.func6, Tryz.ntmps6
  go_wp2_with (first
    | ((with_reducible change wpList _ _ _ (Oper.mk (some 2) _ _ _ _ _ :: _) _ _); refine kBoxL _ _ _ rfl rfl rfl ?_; intro y1 hV2 hzq hBq; clear hzq; have ha_1 := ha.below hBq; have hb_2 := hb.below hBq; have hB_3 := hB00.trans (hBq.mono hB00.size); clear ha hb hB00 hBq; go_frame)
    | ((with_reducible change wpList _ _ _ (Oper.mk (some 3) _ _ _ _ _ :: _) _ _); refine kBoxL _ _ _ rfl rfl rfl ?_; intro y2 hV3 hzq hBq; clear hzq; have ha_4 := ha_1.below hBq; have hb_5 := hb_2.below hBq; have hV2_6 := hV2.below hBq hV2.lt; have hB_7 := hB_3.trans (hBq.mono hB_3.size); clear ha_1 hb_2 hV2 hB_3 hBq; go_frame)
    | (go_at_call 12; refine (blockAlive_any _ (hK.below hB_7)).mono ?_; rintro e y3 ⟨rfl, hBq⟩; have ha_8 := ha_4.below hBq; have hb_9 := hb_5.below hBq; have hV2_10 := hV2_6.below hBq hV2_6.lt; have hV3_11 := hV3.below hBq hV3.lt; have hB_12 := hB_7.trans (hBq.mono hB_7.size); clear ha_4 hb_5 hV2_6 hV3 hB_7 hBq; go_frame)
    | ((with_reducible change wpList _ _ _ (Oper.mk (some 12) _ _ _ _ _ :: _) _ _); refine kY (yNotC _ _ true rfl rfl rfl) ?_; go_frame)
    | ((with_reducible change wpList _ _ _ (Oper.mk (some 13) _ _ _ _ _ :: _) _ _); refine kY (yLoadRowC Tryz.underlying29 rfl _ _ (blkC a.head u) (info_BlkS _ _) (fun _ e => by cases e; exact hV2_10) rfl rfl rfl) ?_; go_frame)
    | (go_at_call 19; refine (great11_any (b := a) _ ha_8).mono ?_; rintro e y4 ⟨rfl, hBq⟩; have ha_13 := ha_8.below hBq; have hb_14 := hb_9.below hBq; have hV2_15 := hV2_10.below hBq hV2_10.lt; have hV3_16 := hV3_11.below hBq hV3_11.lt; have hB_17 := hB_12.trans (hBq.mono hB_12.size); clear ha_8 hb_9 hV2_10 hV3_11 hB_12 hBq; rw [hga]; go_frame)
    | ((with_reducible change wpList _ _ _ (Oper.mk (some 16) _ _ _ _ _ :: _) _ _); refine kY (yLoadRowC Tryz.underlying29 rfl _ _ (blkC b.head v) (info_BlkS _ _) (fun _ e => by cases e; exact hV3_16) rfl rfl rfl) ?_; go_frame)
    | (go_at_call 19; refine (great11_any (b := b) _ hb_14).mono ?_; rintro e y5 ⟨rfl, hBq⟩; have ha_18 := ha_13.below hBq; have hb_19 := hb_14.below hBq; have hV2_20 := hV2_15.below hBq hV2_15.lt; have hV3_21 := hV3_16.below hBq hV3_16.lt; have hB_22 := hB_17.trans (hBq.mono hB_17.size); clear ha_13 hb_14 hV2_15 hV3_16 hB_17 hBq; rw [hgb]; go_frame)
    | ((with_reducible change wpList _ _ _ (Oper.mk (some 19) _ _ _ _ _ :: _) _ _); refine kY (yLoadRowC Tryz.underlying29 rfl _ _ (blkC a.head u) (info_BlkS _ _) (fun _ e => by cases e; exact hV2_20) rfl rfl rfl) ?_; go_frame)
    | (go_at_call 20; refine (blBytes_any (b := a) _ ia fa ha_18).mono ?_; rintro e y6 ⟨v4, rfl, hX4o, hBq⟩; have ha_23 := ha_18.below hBq; have hb_24 := hb_19.below hBq; have hV2_25 := hV2_20.below hBq hV2_20.lt; have hV3_26 := hV3_21.below hBq hV3_21.lt; have hB_27 := hB_22.trans (hBq.mono hB_22.size); clear ha_18 hb_19 hV2_20 hV3_21 hB_22 hBq; have hX4 := hX4o.vals; clear hX4o; go_frame)
    | (go_at_call 21; refine (blParse_any (l := (blockL a)) _ hX4 hla).mono ?_; rintro e y7 ⟨tv5, rfl, hX5o, hBq⟩; have ha_28 := ha_23.below hBq; have hb_29 := hb_24.below hBq; have hV2_30 := hV2_25.below hBq hV2_25.lt; have hV3_31 := hV3_26.below hBq hV3_26.lt; have hX4_32 := hX4.below hBq; have hB_33 := hB_27.trans (hBq.mono hB_27.size); clear ha_23 hb_24 hV2_25 hV3_26 hX4 hB_27 hBq; have hX5 := hX5o.of; clear hX5o; rw [(parse_blockL ia fa)] at hX5 ⊢; go_frame)
    | ((with_reducible change wpList _ _ _ (Oper.mk (some 6) _ _ _ _ _ :: _) _ _); refine kAllocL _ _ rfl rfl zero_BlkC ?_; intro y8 hV6 hzq hBq; clear hzq; have hP := hBq; clear hBq; go_frame)
    | ((with_reducible change wpList _ _ _ (Oper.mk none (Op.store _ (Operand.tmp 6) _) _ _ _ _ :: _) _ _); refine kStoreBlk _ _ _ a.head tv5 _ hV6 (blkC_size _ _) (hX5).sl.one rfl rfl rfl rfl ?_; intro y9 hT6 hWq; have hPn := hP.trans (hWq.below (Nat.le_refl _)); clear hP; have hP := hPn; clear hPn; clear hWq hV6; have ha_34 := ha_28.below hP; have hb_35 := hb_29.below hP; have hV2_36 := hV2_30.below hP hV2_30.lt; have hV3_37 := hV3_31.below hP hV3_31.lt; have hX4_38 := hX4_32.below hP; have hX5_39 := hX5.below hP; have hB_40 := hB_33.trans (hP.mono hB_33.size); clear ha_28 hb_29 hV2_30 hV3_31 hX4_32 hX5 hB_33 hP; go_frame))
  refine region_mixD [(0, true), (1, true), (2, true), (3, false), (4, true), (5, true), (6, true), (7, true), (8, true), (9, true), (10, true), (11, true), (12, true), (13, false), (14, true), (15, true), (16, true), (17, true), (18, true), (20, true), (21, true), (19, false), (22, false), (23, true), (24, true), (25, true), (26, true), (28, true), (27, false), (29, false), (30, true), (31, true)] (fun w => (TxsOf w u a.txs) ∧ (TxsOf w v b.txs) ∧ (Row w W0.heap.size 29 (blkC a.head u)) ∧ (Row w y1.heap.size 29 (blkC b.head v)) ∧ (IsVals w v4 ((blockL a).map VB)) ∧ (TxsOf w tv5 a.txs) ∧ (Row w y7.heap.size 29 (blkC a.head tv5))) (by kernel_rfl) (by kernel_rfl) rfl ?_
  intro z0 hBd hsd
  clear hsd
  have ha_41 := ha_34.below hBd
  have hb_42 := hb_35.below hBd
  have hV2_43 := hV2_36.below hBd hV2_36.lt
  have hV3_44 := hV3_37.below hBd hV3_37.lt
  have hX4_45 := hX4_38.below hBd
  have hX5_46 := hX5_39.below hBd
  have hT6_47 := hT6.below hBd hT6.lt
  have hB_48 := hB_40.trans (hBd.mono hB_40.size)
  clear ha_34 hb_35 hV2_36 hV3_37 hX4_38 hX5_39 hT6 hB_40 hBd
  simp only [List.map_cons, List.map_nil]
  dsimp only [List.filterMap, List.getElem?_cons_zero, List.getElem?_cons_succ]
  have hS : (TxsOf z0 u a.txs) ∧ (TxsOf z0 v b.txs) ∧ (Row z0 W0.heap.size 29 (blkC a.head u)) ∧ (Row z0 y1.heap.size 29 (blkC b.head v)) ∧ (IsVals z0 v4 ((blockL a).map VB)) ∧ (TxsOf z0 tv5 a.txs) ∧ (Row z0 y7.heap.size 29 (blkC a.head tv5)) := ⟨ha_41, hb_42, hV2_43, hV3_44, hX4_45, hX5_46, hT6_47⟩
  refine dY _ hS (yMove _ v4 rfl rfl rfl) ?_; go_frame
  refine dY _ hS (yStr _ _ _ _ v4 (blockL a) rfl rfl rfl (fun _ h => h.2.2.2.2.1) Tryz.underlying38 Tryz.underlying5 Tryz.underlying9) ?_; go_frame
  refine dY _ hS (yLoadRowC Tryz.underlying29 rfl _ _ (blkC a.head u) (info_BlkS _ _) (fun _ h => h.2.2.1) rfl rfl rfl) ?_; go_frame
  refine dLoud ?_
  refine kCall1 22 _ _ _ rfl rfl (by kernel_rfl) rfl ?_
  refine (xBytes_any (b := a) _ ia fa ha_41).mono ?_
  rintro e y10 ⟨v6, rfl, hX6o, hBq⟩
  clear hS
  have ha_49 := ha_41.below hBq
  have hb_50 := hb_42.below hBq
  have hV2_51 := hV2_43.below hBq hV2_43.lt
  have hV3_52 := hV3_44.below hBq hV3_44.lt
  have hX4_53 := hX4_45.below hBq
  have hX5_54 := hX5_46.below hBq
  have hT6_55 := hT6_47.below hBq hT6_47.lt
  have hB_56 := hB_48.trans (hBq.mono hB_48.size)
  clear ha_41 hb_42 hV2_43 hV3_44 hX4_45 hX5_46 hT6_47 hB_48 hBq
  have hX6 := hX6o.vals
  clear hX6o
  have hS : (TxsOf y10 u a.txs) ∧ (TxsOf y10 v b.txs) ∧ (Row y10 W0.heap.size 29 (blkC a.head u)) ∧ (Row y10 y1.heap.size 29 (blkC b.head v)) ∧ (IsVals y10 v4 ((blockL a).map VB)) ∧ (TxsOf y10 tv5 a.txs) ∧ (Row y10 y7.heap.size 29 (blkC a.head tv5)) ∧ (IsVals y10 v6 ((blockL a).map VB)) := ⟨ha_49, hb_50, hV2_51, hV3_52, hX4_53, hX5_54, hT6_55, hX6⟩
  refine ⟨_, rfl, mixOn ⟨(fun w => (TxsOf w u a.txs) ∧ (TxsOf w v b.txs) ∧ (Row w W0.heap.size 29 (blkC a.head u)) ∧ (Row w y1.heap.size 29 (blkC b.head v)) ∧ (IsVals w v4 ((blockL a).map VB)) ∧ (TxsOf w tv5 a.txs) ∧ (Row w y7.heap.size 29 (blkC a.head tv5)) ∧ (IsVals w v6 ((blockL a).map VB))), (fun _ h => ⟨h.1, h.2.1, h.2.2.1, h.2.2.2.1, h.2.2.2.2.1, h.2.2.2.2.2.1, h.2.2.2.2.2.2.1⟩), hS, ?_⟩⟩
  go_frame
  refine dY _ hS (yStr _ _ _ _ v6 (blockL a) rfl rfl rfl (fun _ h => h.2.2.2.2.2.2.2) Tryz.underlying38 Tryz.underlying5 Tryz.underlying9) ?_; go_frame
  refine dY _ hS (yNeqStr _ _ _ _ (blockL a) (blockL a) false rfl rfl rfl rfl (by simp)) ?_; go_frame
  refine dY _ hS (yMove _ (.bool false) rfl rfl rfl) ?_; go_frame
  refine dY _ hS (yMove _ (.int .i64 0) rfl rfl rfl) ?_; go_frame
  refine dY _ hS (yNeqI _ _ _ _ .i64 0 0 false rfl rfl rfl rfl (by simp)) ?_; go_frame
  refine dY _ hS (yPick _ _ _ false (.bool false) rfl rfl rfl rfl) ?_; go_frame
  refine dY _ hS (yMove _ (.bool false) rfl rfl rfl) ?_; go_frame
  refine dY _ hS (yLoadRowC Tryz.underlying29 rfl _ _ (blkC a.head tv5) (info_BlkS _ _) (fun _ h => h.2.2.2.2.2.2.1) rfl rfl rfl) ?_; go_frame
  refine dY _ hS (yLoadRowC Tryz.underlying29 rfl _ _ (blkC a.head u) (info_BlkS _ _) (fun _ h => h.2.2.1) rfl rfl rfl) ?_; go_frame
  refine dLoud ?_
  refine kCall2 23 _ _ _ _ _ rfl rfl (by kernel_rfl) rfl rfl ?_
  refine (blSame_any (b := a) (c := a) _ ia fa ia fa hX5_54 ha_49).mono ?_
  rintro e y11 ⟨rfl, hBq⟩
  clear hS
  have ha_57 := ha_49.below hBq
  have hb_58 := hb_50.below hBq
  have hV2_59 := hV2_51.below hBq hV2_51.lt
  have hV3_60 := hV3_52.below hBq hV3_52.lt
  have hX4_61 := hX4_53.below hBq
  have hX5_62 := hX5_54.below hBq
  have hT6_63 := hT6_55.below hBq hT6_55.lt
  have hX6_64 := hX6.below hBq
  have hB_65 := hB_56.trans (hBq.mono hB_56.size)
  clear ha_49 hb_50 hV2_51 hV3_52 hX4_53 hX5_54 hT6_55 hX6 hB_56 hBq
  rw [sameB_refl]
  have hS : (TxsOf y11 u a.txs) ∧ (TxsOf y11 v b.txs) ∧ (Row y11 W0.heap.size 29 (blkC a.head u)) ∧ (Row y11 y1.heap.size 29 (blkC b.head v)) ∧ (IsVals y11 v4 ((blockL a).map VB)) ∧ (TxsOf y11 tv5 a.txs) ∧ (Row y11 y7.heap.size 29 (blkC a.head tv5)) ∧ (IsVals y11 v6 ((blockL a).map VB)) := ⟨ha_57, hb_58, hV2_59, hV3_60, hX4_61, hX5_62, hT6_63, hX6_64⟩
  refine ⟨_, rfl, mixOn ⟨(fun w => (TxsOf w u a.txs) ∧ (TxsOf w v b.txs) ∧ (Row w W0.heap.size 29 (blkC a.head u)) ∧ (Row w y1.heap.size 29 (blkC b.head v)) ∧ (IsVals w v4 ((blockL a).map VB)) ∧ (TxsOf w tv5 a.txs) ∧ (Row w y7.heap.size 29 (blkC a.head tv5)) ∧ (IsVals w v6 ((blockL a).map VB))), (fun _ h => ⟨h.1, h.2.1, h.2.2.1, h.2.2.2.1, h.2.2.2.2.1, h.2.2.2.2.2.1, h.2.2.2.2.2.2.1, h.2.2.2.2.2.2.2⟩), hS, ?_⟩⟩
  go_frame
  refine dY _ hS (yNotC _ _ true rfl rfl rfl) ?_; go_frame
  refine dY _ hS (yPick _ _ _ false (.bool false) rfl rfl rfl rfl) ?_; go_frame
  refine dY _ hS (yMove _ (.bool false) rfl rfl rfl) ?_; go_frame
  refine dY _ hS (yLoadRowC Tryz.underlying29 rfl _ _ (blkC a.head u) (info_BlkS _ _) (fun _ h => h.2.2.1) rfl rfl rfl) ?_; go_frame
  refine dY _ hS (yLoadRowC Tryz.underlying29 rfl _ _ (blkC b.head v) (info_BlkS _ _) (fun _ h => h.2.2.2.1) rfl rfl rfl) ?_; go_frame
  refine dY _ hS (yLoadRowC Tryz.underlying29 rfl _ _ (blkC a.head u) (info_BlkS _ _) (fun _ h => h.2.2.1) rfl rfl rfl) ?_; go_frame
  refine dY _ hS (yLoadRowC Tryz.underlying29 rfl _ _ (blkC b.head v) (info_BlkS _ _) (fun _ h => h.2.2.2.1) rfl rfl rfl) ?_; go_frame
  refine dLoud ?_
  refine kCall2 23 _ _ _ _ _ rfl rfl (by kernel_rfl) rfl rfl ?_
  refine (blSame_any (b := a) (c := b) _ ia fa ib fb ha_57 hb_58).mono ?_
  rintro e y12 ⟨rfl, hBq⟩
  clear hS
  have ha_66 := ha_57.below hBq
  have hb_67 := hb_58.below hBq
  have hV2_68 := hV2_59.below hBq hV2_59.lt
  have hV3_69 := hV3_60.below hBq hV3_60.lt
  have hX4_70 := hX4_61.below hBq
  have hX5_71 := hX5_62.below hBq
  have hT6_72 := hT6_63.below hBq hT6_63.lt
  have hX6_73 := hX6_64.below hBq
  have hB_74 := hB_65.trans (hBq.mono hB_65.size)
  clear ha_57 hb_58 hV2_59 hV3_60 hX4_61 hX5_62 hT6_63 hX6_64 hB_65 hBq
  have hS : (TxsOf y12 u a.txs) ∧ (TxsOf y12 v b.txs) ∧ (Row y12 W0.heap.size 29 (blkC a.head u)) ∧ (Row y12 y1.heap.size 29 (blkC b.head v)) ∧ (IsVals y12 v4 ((blockL a).map VB)) ∧ (TxsOf y12 tv5 a.txs) ∧ (Row y12 y7.heap.size 29 (blkC a.head tv5)) ∧ (IsVals y12 v6 ((blockL a).map VB)) := ⟨ha_66, hb_67, hV2_68, hV3_69, hX4_70, hX5_71, hT6_72, hX6_73⟩
  refine ⟨_, rfl, mixOn ⟨(fun w => (TxsOf w u a.txs) ∧ (TxsOf w v b.txs) ∧ (Row w W0.heap.size 29 (blkC a.head u)) ∧ (Row w y1.heap.size 29 (blkC b.head v)) ∧ (IsVals w v4 ((blockL a).map VB)) ∧ (TxsOf w tv5 a.txs) ∧ (Row w y7.heap.size 29 (blkC a.head tv5)) ∧ (IsVals w v6 ((blockL a).map VB))), (fun _ h => ⟨h.1, h.2.1, h.2.2.1, h.2.2.2.1, h.2.2.2.2.1, h.2.2.2.2.2.1, h.2.2.2.2.2.2.1, h.2.2.2.2.2.2.2⟩), hS, ?_⟩⟩
  go_frame
  refine dLoud ?_
  refine kCall2 24 _ _ _ _ _ rfl rfl (by kernel_rfl) rfl rfl ?_
  refine (xSame_any (b := a) (c := b) _ ia fa ib fb ha_66 hb_67).mono ?_
  rintro e y13 ⟨rfl, hBq⟩
  clear hS
  have ha_75 := ha_66.below hBq
  have hb_76 := hb_67.below hBq
  have hV2_77 := hV2_68.below hBq hV2_68.lt
  have hV3_78 := hV3_69.below hBq hV3_69.lt
  have hX4_79 := hX4_70.below hBq
  have hX5_80 := hX5_71.below hBq
  have hT6_81 := hT6_72.below hBq hT6_72.lt
  have hX6_82 := hX6_73.below hBq
  have hB_83 := hB_74.trans (hBq.mono hB_74.size)
  clear ha_66 hb_67 hV2_68 hV3_69 hX4_70 hX5_71 hT6_72 hX6_73 hB_74 hBq
  have hS : (TxsOf y13 u a.txs) ∧ (TxsOf y13 v b.txs) ∧ (Row y13 W0.heap.size 29 (blkC a.head u)) ∧ (Row y13 y1.heap.size 29 (blkC b.head v)) ∧ (IsVals y13 v4 ((blockL a).map VB)) ∧ (TxsOf y13 tv5 a.txs) ∧ (Row y13 y7.heap.size 29 (blkC a.head tv5)) ∧ (IsVals y13 v6 ((blockL a).map VB)) := ⟨ha_75, hb_76, hV2_77, hV3_78, hX4_79, hX5_80, hT6_81, hX6_82⟩
  refine ⟨_, rfl, mixOn ⟨(fun w => (TxsOf w u a.txs) ∧ (TxsOf w v b.txs) ∧ (Row w W0.heap.size 29 (blkC a.head u)) ∧ (Row w y1.heap.size 29 (blkC b.head v)) ∧ (IsVals w v4 ((blockL a).map VB)) ∧ (TxsOf w tv5 a.txs) ∧ (Row w y7.heap.size 29 (blkC a.head tv5)) ∧ (IsVals w v6 ((blockL a).map VB))), (fun _ h => ⟨h.1, h.2.1, h.2.2.1, h.2.2.2.1, h.2.2.2.2.1, h.2.2.2.2.2.1, h.2.2.2.2.2.2.1, h.2.2.2.2.2.2.2⟩), hS, ?_⟩⟩
  go_frame
  refine dY _ hS (yNeqBoolT _ _ _ _ (blockL a == blockL b) (blockL a == blockL b) false rfl rfl rfl rfl Tryz.underlying4 (by simp)) ?_; go_frame
  refine dY _ hS (yPick _ _ _ false (.bool false) rfl rfl rfl rfl) ?_; go_frame
  refine dY _ hS (yMove _ (.bool false) rfl rfl rfl) ?_; go_frame
  refine dY _ hS (yLoadRowC Tryz.underlying29 rfl _ _ (blkC a.head u) (info_BlkS _ _) (fun _ h => h.2.2.1) rfl rfl rfl) ?_; go_frame
  refine dY _ hS (yLoadRowC Tryz.underlying29 rfl _ _ (blkC a.head u) (info_BlkS _ _) (fun _ h => h.2.2.1) rfl rfl rfl) ?_; go_frame
  refine dLoud ?_
  refine kCall1 13 _ _ _ rfl rfl (by kernel_rfl) rfl ?_
  refine (blCheck_any (b := a) _ ia fa ha_75 (hK.below hB_83)).mono ?_
  rintro e y14 ⟨rfl, hBq⟩
  clear hS
  have ha_84 := ha_75.below hBq
  have hb_85 := hb_76.below hBq
  have hV2_86 := hV2_77.below hBq hV2_77.lt
  have hV3_87 := hV3_78.below hBq hV3_78.lt
  have hX4_88 := hX4_79.below hBq
  have hX5_89 := hX5_80.below hBq
  have hT6_90 := hT6_81.below hBq hT6_81.lt
  have hX6_91 := hX6_82.below hBq
  have hB_92 := hB_83.trans (hBq.mono hB_83.size)
  clear ha_75 hb_76 hV2_77 hV3_78 hX4_79 hX5_80 hT6_81 hX6_82 hB_83 hBq
  have hS : (TxsOf y14 u a.txs) ∧ (TxsOf y14 v b.txs) ∧ (Row y14 W0.heap.size 29 (blkC a.head u)) ∧ (Row y14 y1.heap.size 29 (blkC b.head v)) ∧ (IsVals y14 v4 ((blockL a).map VB)) ∧ (TxsOf y14 tv5 a.txs) ∧ (Row y14 y7.heap.size 29 (blkC a.head tv5)) ∧ (IsVals y14 v6 ((blockL a).map VB)) := ⟨ha_84, hb_85, hV2_86, hV3_87, hX4_88, hX5_89, hT6_90, hX6_91⟩
  refine ⟨_, rfl, mixOn ⟨(fun w => (TxsOf w u a.txs) ∧ (TxsOf w v b.txs) ∧ (Row w W0.heap.size 29 (blkC a.head u)) ∧ (Row w y1.heap.size 29 (blkC b.head v)) ∧ (IsVals w v4 ((blockL a).map VB)) ∧ (TxsOf w tv5 a.txs) ∧ (Row w y7.heap.size 29 (blkC a.head tv5)) ∧ (IsVals w v6 ((blockL a).map VB))), (fun _ h => ⟨h.1, h.2.1, h.2.2.1, h.2.2.2.1, h.2.2.2.2.1, h.2.2.2.2.2.1, h.2.2.2.2.2.2.1, h.2.2.2.2.2.2.2⟩), hS, ?_⟩⟩
  go_frame
  refine dLoud ?_
  refine kCall1 25 _ _ _ rfl rfl (by kernel_rfl) rfl ?_
  refine (xCheck_any (b := a) _ ia fa ha_84).mono ?_
  rintro e y15 ⟨rfl, hBq⟩
  clear hS
  have ha_93 := ha_84.below hBq
  have hb_94 := hb_85.below hBq
  have hV2_95 := hV2_86.below hBq hV2_86.lt
  have hV3_96 := hV3_87.below hBq hV3_87.lt
  have hX4_97 := hX4_88.below hBq
  have hX5_98 := hX5_89.below hBq
  have hT6_99 := hT6_90.below hBq hT6_90.lt
  have hX6_100 := hX6_91.below hBq
  have hB_101 := hB_92.trans (hBq.mono hB_92.size)
  clear ha_84 hb_85 hV2_86 hV3_87 hX4_88 hX5_89 hT6_90 hX6_91 hB_92 hBq
  have hS : (TxsOf y15 u a.txs) ∧ (TxsOf y15 v b.txs) ∧ (Row y15 W0.heap.size 29 (blkC a.head u)) ∧ (Row y15 y1.heap.size 29 (blkC b.head v)) ∧ (IsVals y15 v4 ((blockL a).map VB)) ∧ (TxsOf y15 tv5 a.txs) ∧ (Row y15 y7.heap.size 29 (blkC a.head tv5)) ∧ (IsVals y15 v6 ((blockL a).map VB)) := ⟨ha_93, hb_94, hV2_95, hV3_96, hX4_97, hX5_98, hT6_99, hX6_100⟩
  refine ⟨_, rfl, mixOn ⟨(fun w => (TxsOf w u a.txs) ∧ (TxsOf w v b.txs) ∧ (Row w W0.heap.size 29 (blkC a.head u)) ∧ (Row w y1.heap.size 29 (blkC b.head v)) ∧ (IsVals w v4 ((blockL a).map VB)) ∧ (TxsOf w tv5 a.txs) ∧ (Row w y7.heap.size 29 (blkC a.head tv5)) ∧ (IsVals w v6 ((blockL a).map VB))), (fun _ h => ⟨h.1, h.2.1, h.2.2.1, h.2.2.2.1, h.2.2.2.2.1, h.2.2.2.2.2.1, h.2.2.2.2.2.2.1, h.2.2.2.2.2.2.2⟩), hS, ?_⟩⟩
  go_frame
  refine dY _ hS (yNeqI _ _ _ _ .i64 (checkB a) (checkB a) false rfl rfl rfl rfl (by simp)) ?_; go_frame
  refine dY _ hS (yPick _ _ _ false (.bool false) rfl rfl rfl rfl) ?_; go_frame
  refine dDone ?_
  go_wp2
  go_wp2
  refine region_mixD [(0, true), (2, true), (1, false), (3, false), (4, true), (5, true)] (fun w => (TxsOf w u a.txs) ∧ (TxsOf w v b.txs) ∧ (Row w W0.heap.size 29 (blkC a.head u)) ∧ (Row w y1.heap.size 29 (blkC b.head v)) ∧ (IsVals w v4 ((blockL a).map VB)) ∧ (TxsOf w tv5 a.txs) ∧ (Row w y7.heap.size 29 (blkC a.head tv5)) ∧ (IsVals w v6 ((blockL a).map VB))) (by kernel_rfl) (by kernel_rfl) rfl ?_
  intro z0 hBd hsd
  clear hsd
  have ha_102 := ha_93.below hBd
  have hb_103 := hb_94.below hBd
  have hV2_104 := hV2_95.below hBd hV2_95.lt
  have hV3_105 := hV3_96.below hBd hV3_96.lt
  have hX4_106 := hX4_97.below hBd
  have hX5_107 := hX5_98.below hBd
  have hT6_108 := hT6_99.below hBd hT6_99.lt
  have hX6_109 := hX6_100.below hBd
  have hB_110 := hB_101.trans (hBd.mono hB_101.size)
  clear ha_93 hb_94 hV2_95 hV3_96 hX4_97 hX5_98 hT6_99 hX6_100 hB_101 hBd
  simp only [List.map_cons, List.map_nil]
  dsimp only [List.filterMap, List.getElem?_cons_zero, List.getElem?_cons_succ]
  have hS : (TxsOf z0 u a.txs) ∧ (TxsOf z0 v b.txs) ∧ (Row z0 W0.heap.size 29 (blkC a.head u)) ∧ (Row z0 y1.heap.size 29 (blkC b.head v)) ∧ (IsVals z0 v4 ((blockL a).map VB)) ∧ (TxsOf z0 tv5 a.txs) ∧ (Row z0 y7.heap.size 29 (blkC a.head tv5)) ∧ (IsVals z0 v6 ((blockL a).map VB)) := ⟨ha_102, hb_103, hV2_104, hV3_105, hX4_106, hX5_107, hT6_108, hX6_109⟩
  refine dY _ hS (yLoadRowC Tryz.underlying29 rfl _ _ (blkC a.head u) (info_BlkS _ _) (fun _ h => h.2.2.1) rfl rfl rfl) ?_; go_frame
  refine dY _ hS (yLoadRowC Tryz.underlying29 rfl _ _ (blkC a.head u) (info_BlkS _ _) (fun _ h => h.2.2.1) rfl rfl rfl) ?_; go_frame
  refine dLoud ?_
  refine kCall1 26 _ _ _ rfl rfl (by kernel_rfl) rfl ?_
  refine (blIds_any (b := a) _ ia fa ha_102 (hK.below hB_110)).mono ?_
  rintro e y16 ⟨v12, rfl, hX12o, hBq⟩
  clear hS
  have ha_111 := ha_102.below hBq
  have hb_112 := hb_103.below hBq
  have hV2_113 := hV2_104.below hBq hV2_104.lt
  have hV3_114 := hV3_105.below hBq hV3_105.lt
  have hX4_115 := hX4_106.below hBq
  have hX5_116 := hX5_107.below hBq
  have hT6_117 := hT6_108.below hBq hT6_108.lt
  have hX6_118 := hX6_109.below hBq
  have hB_119 := hB_110.trans (hBq.mono hB_110.size)
  clear ha_102 hb_103 hV2_104 hV3_105 hX4_106 hX5_107 hT6_108 hX6_109 hB_110 hBq
  have hX12 := hX12o.of
  clear hX12o
  have hS : (TxsOf y16 u a.txs) ∧ (TxsOf y16 v b.txs) ∧ (Row y16 W0.heap.size 29 (blkC a.head u)) ∧ (Row y16 y1.heap.size 29 (blkC b.head v)) ∧ (IsVals y16 v4 ((blockL a).map VB)) ∧ (TxsOf y16 tv5 a.txs) ∧ (Row y16 y7.heap.size 29 (blkC a.head tv5)) ∧ (IsVals y16 v6 ((blockL a).map VB)) ∧ (HashesOf y16 v12 (idsL a.txs)) := ⟨ha_111, hb_112, hV2_113, hV3_114, hX4_115, hX5_116, hT6_117, hX6_118, hX12⟩
  refine ⟨_, rfl, mixOn ⟨(fun w => (TxsOf w u a.txs) ∧ (TxsOf w v b.txs) ∧ (Row w W0.heap.size 29 (blkC a.head u)) ∧ (Row w y1.heap.size 29 (blkC b.head v)) ∧ (IsVals w v4 ((blockL a).map VB)) ∧ (TxsOf w tv5 a.txs) ∧ (Row w y7.heap.size 29 (blkC a.head tv5)) ∧ (IsVals w v6 ((blockL a).map VB)) ∧ (HashesOf w v12 (idsL a.txs))), (fun _ h => ⟨h.1, h.2.1, h.2.2.1, h.2.2.2.1, h.2.2.2.2.1, h.2.2.2.2.2.1, h.2.2.2.2.2.2.1, h.2.2.2.2.2.2.2.1⟩), hS, ?_⟩⟩
  go_frame
  refine dLoud ?_
  refine kCall1 27 _ _ _ rfl rfl (by kernel_rfl) rfl ?_
  refine (xIds_any (b := a) _ ia fa ha_111).mono ?_
  rintro e y17 ⟨v13, rfl, hX13o, hBq⟩
  clear hS
  have ha_120 := ha_111.below hBq
  have hb_121 := hb_112.below hBq
  have hV2_122 := hV2_113.below hBq hV2_113.lt
  have hV3_123 := hV3_114.below hBq hV3_114.lt
  have hX4_124 := hX4_115.below hBq
  have hX5_125 := hX5_116.below hBq
  have hT6_126 := hT6_117.below hBq hT6_117.lt
  have hX6_127 := hX6_118.below hBq
  have hX12_128 := hX12.below hBq
  have hB_129 := hB_119.trans (hBq.mono hB_119.size)
  clear ha_111 hb_112 hV2_113 hV3_114 hX4_115 hX5_116 hT6_117 hX6_118 hX12 hB_119 hBq
  have hX13 := hX13o.of
  clear hX13o
  have hS : (TxsOf y17 u a.txs) ∧ (TxsOf y17 v b.txs) ∧ (Row y17 W0.heap.size 29 (blkC a.head u)) ∧ (Row y17 y1.heap.size 29 (blkC b.head v)) ∧ (IsVals y17 v4 ((blockL a).map VB)) ∧ (TxsOf y17 tv5 a.txs) ∧ (Row y17 y7.heap.size 29 (blkC a.head tv5)) ∧ (IsVals y17 v6 ((blockL a).map VB)) ∧ (HashesOf y17 v12 (idsL a.txs)) ∧ (HashesOf y17 v13 (idsL a.txs)) := ⟨ha_120, hb_121, hV2_122, hV3_123, hX4_124, hX5_125, hT6_126, hX6_127, hX12_128, hX13⟩
  refine ⟨_, rfl, mixOn ⟨(fun w => (TxsOf w u a.txs) ∧ (TxsOf w v b.txs) ∧ (Row w W0.heap.size 29 (blkC a.head u)) ∧ (Row w y1.heap.size 29 (blkC b.head v)) ∧ (IsVals w v4 ((blockL a).map VB)) ∧ (TxsOf w tv5 a.txs) ∧ (Row w y7.heap.size 29 (blkC a.head tv5)) ∧ (IsVals w v6 ((blockL a).map VB)) ∧ (HashesOf w v12 (idsL a.txs)) ∧ (HashesOf w v13 (idsL a.txs))), (fun _ h => ⟨h.1, h.2.1, h.2.2.1, h.2.2.2.1, h.2.2.2.2.1, h.2.2.2.2.2.1, h.2.2.2.2.2.2.1, h.2.2.2.2.2.2.2.1, h.2.2.2.2.2.2.2.2.1⟩), hS, ?_⟩⟩
  go_frame
  refine dY _ hS (yAssign _ v12 rfl rfl rfl) ?_; go_frame
  refine dY _ hS (yAssign _ v13 rfl rfl rfl) ?_; go_frame
  refine dDone ?_
  go_wp2_with (first
    | ((with_reducible change wpList _ _ _ (Oper.mk (some 63) _ _ _ _ _ :: _) _ _); refine kY (yLenHs _ v12 (idsL a.txs) n (fun _ e => by cases e; exact hX12_128) hn rfl rfl rfl) ?_; go_frame)
    | ((with_reducible change wpList _ _ _ (Oper.mk (some 65) _ _ _ _ _ :: _) _ _); refine kY (yLenHs _ v13 (idsL a.txs) n (fun _ e => by cases e; exact hX13) hn rfl rfl rfl) ?_; go_frame)
    | ((with_reducible change wpList _ _ _ (Oper.mk (some 66) _ _ _ _ _ :: _) _ _); refine kY (yNeqI _ _ _ _ .i64 (n : Int) (n : Int) false rfl rfl rfl rfl (by simp)) ?_; go_frame)
    | ((with_reducible change wpList _ _ _ (Oper.mk (some 68) _ _ _ _ _ :: _) _ _); refine kY (yLenHs _ v12 (idsL a.txs) n (fun _ e => by cases e; exact hX12_128) hn rfl rfl rfl) ?_; go_frame))
  go_loopw [69] (fun x wr => ∃ k : Nat, k ≤ n ∧ x = .int .i64 (k : Int) ∧ Below y17.heap.size y17 wr) (fun x _ => n - (intOf x).toNat)
  case atStart => exact ⟨0, by omega, rfl, Below.refl _ _⟩
  case round =>
    obtain ⟨k, hk, rfl, hB⟩ := hrel
    by_cases hlt : k < n
    · have hd : decide ((k : Int) < (n : Int)) = true := by simp; omega
      obtain ⟨x, hx⟩ : ∃ x, (idsL a.txs)[k]? = some x := ⟨_, List.getElem?_eq_getElem (by omega)⟩
      have hx32 := (idsL_32 _) x (List.mem_of_getElem? hx)
      obtain ⟨p, hp, hpc⟩ := hs_addr (hX12_128.below hB) hx
      obtain ⟨q, hq, hqc⟩ := hs_addr (hX13.below hB) hx
      clear hx
      go_wp2_with (first
        | ((with_reducible change wpList _ _ _ (Oper.mk (some 70) _ _ _ _ _ :: _) _ _); refine kLssI _ _ _ _ .i64 (k : Int) (n : Int) true rfl rfl rfl rfl hd ?_; go_frame))
      refine region_mixD [(0, true), (1, true), (2, true), (3, true), (4, true), (5, true), (6, true), (7, true), (8, true)] (fun w => (∀ (j : Nat) (u : Value), (hashR x)[j]? = some u → w.cell? (p.add j) = some u) ∧ ∀ (j : Nat) (u : Value), (hashR x)[j]? = some u → w.cell? (q.add j) = some u) (by kernel_rfl) (by kernel_rfl) rfl ?_
      intro z hBd hsd
      clear hsd
      have hS : (∀ (j : Nat) (u : Value), (hashR x)[j]? = some u → z.cell? (p.add j) = some u) ∧ ∀ (j : Nat) (u : Value), (hashR x)[j]? = some u → z.cell? (q.add j) = some u := ⟨cells_below hpc hBd, cells_below hqc hBd⟩
      have hB2 := hB.trans (hBd.mono hB.size)
      clear hpc hqc hB hBd
      simp only [List.map_cons, List.map_nil]
      dsimp only [List.filterMap, List.getElem?_cons_zero, List.getElem?_cons_succ]
      refine dY _ hS (yMove _ v12 rfl rfl rfl) ?_; go_frame
      refine dY _ hS (yMove _ (.int .i64 (k : Int)) rfl rfl rfl) ?_; go_frame
      refine dY _ hS (yIndexAt _ _ _ _ k p hp rfl rfl rfl rfl) ?_; go_frame
      refine dY _ hS (yLoadHsAt _ p x (fun _ h => h.1) rfl rfl rfl) ?_; go_frame
      refine dY _ hS (yMove _ v13 rfl rfl rfl) ?_; go_frame
      refine dY _ hS (yMove _ (.int .i64 (k : Int)) rfl rfl rfl) ?_; go_frame
      refine dY _ hS (yIndexAt _ _ _ _ k q hq rfl rfl rfl rfl) ?_; go_frame
      refine dY _ hS (yLoadHsAt _ q x (fun _ h => h.2) rfl rfl rfl) ?_; go_frame
      refine dY _ hS (yNeqHash _ _ _ x x false hx32 hx32 rfl rfl rfl rfl (by simp)) ?_; go_frame
      refine dDone ?_
      go_wp2_with (first
        | ((with_reducible change wpList _ _ _ (Oper.mk (some 81) _ _ _ _ _ :: _) _ _); refine kAddI _ _ _ _ (k : Int) 1 ((k + 1 : Nat) : Int) (by omega) rfl rfl rfl rfl ?_; go_frame))
      go_roundw
      case rel => exact ⟨k + 1, by omega, rfl, hB2⟩
      case measure => simp [intOf]; omega
    · have hd : decide ((k : Int) < (n : Int)) = false := by simp; omega
      go_wp2_with (first
        | ((with_reducible change wpList _ _ _ (Oper.mk (some 70) _ _ _ _ _ :: _) _ _); refine kLssI _ _ _ _ .i64 (k : Int) (n : Int) false rfl rfl rfl rfl hd ?_; go_frame))
      go_ret
      exact ⟨rfl, hB_129.trans (hB.mono hB_129.size)⟩
end Go.Proofs.YtmfjgehlkbndjaaGreatDoor
