/-
  Layer 11: the walk of BlockParses.
-/
import Derived.Test.YtmfjgehlkbndjaaGreatDoorBkC
import Derived.Test.YtmfjgehlkbndjaaGreatDoorBkB
namespace Go.Proofs.YtmfjgehlkbndjaaGreatDoor
open Go Go.RowKit Go.Shelf

set_option maxRecDepth 100000 in
set_option maxHeartbeats 8000000 in
theorem blockParses_walk {l : List UInt8} {v : Value} (W0 : World) (hK : Keys W0) (hv : IsVals W0 v (l.map VB)) : Calls Tryz.prog 7 #[v] W0 (BoolPost W0 true) := by
  obtain ⟨n, hn⟩ : ∃ n, l.length = n := ⟨_, rfl⟩
  by_cases h1 : 5000 < n
  · have d1 : decide ((n : Int) > 5000) = true := by simp; omega
    have hB00 := Below.refl W0.heap.size W0
    go_enter Tryz.func7, Tryz.ntmps7
    go_wp2_with (first
      | (go_at_call 12; refine (blockAlive_any _ (hK.below hB00)).mono ?_; rintro e y1 ⟨rfl, hBq⟩; have hv_1 := hv.below hBq; have hB_2 := hB00.trans (hBq.mono hB00.size); clear hv hB00 hBq; go_frame)
      | ((with_reducible change wpList _ _ _ (Oper.mk (some 8) _ _ _ _ _ :: _) _ _); refine kY (yNotC _ _ true rfl rfl rfl) ?_; go_frame)
      | ((with_reducible change wpList _ _ _ (Oper.mk (some 10) _ _ _ _ _ :: _) _ _); refine kY (yLen _ _ _ v _ n rfl rfl rfl (fun _ e => by cases e; exact hv_1) (by rw [List.length_map, hn]) Tryz.underlying38) ?_; go_frame)
      | ((with_reducible change wpList _ _ _ (Oper.mk (some 11) _ _ _ _ _ :: _) _ _); refine kY (yGtrI _ _ _ _ .i64 (n : Int) 5000 true rfl rfl rfl rfl d1) ?_; go_frame))
    (try simp only [Exit.inBlock, Exit.then])
    refine retBT rfl rfl ?_
    exact ⟨rfl, hB_2⟩
  · have d1 : decide ((n : Int) > 5000) = false := by simp; omega
    have hlen : l.length ≤ 1000000 := by omega
    obtain ⟨p, hpl, hpx, hback, hqi, hqf⟩ : ∃ p : BlockP × Nat, (∀ W u, IsVals W u (l.map VB) → Calls Tryz.prog 21 #[u] W (BlkParse W p)) ∧ (∀ W u, IsVals W u (l.map VB) → Calls Tryz.prog 28 #[u] W (BlkParse W p)) ∧ (p.2 = 0 → blockL p.1 = l) ∧ p.1.Is ∧ p.1.Fits :=
      ⟨parseB l, fun W u h => blParse_any W h hlen, fun W u h => xParse_any W h hlen, parseB_right, (parseB_good l).1, (parseB_good l).2⟩
    clear h1
    by_cases he : p.2 = 0
    · have hbk := hback he
      have dn : (!decide ((p.2 : Int) = 0)) = false := by simp [he]
      have deq : (blockL p.1 == l) = true := by rw [hbk]; simp
      clear hback he hbk
      have hB00 := Below.refl W0.heap.size W0
      go_enter Tryz.func7, Tryz.ntmps7
      go_wp2_with (first
        | (go_at_call 12; refine (blockAlive_any _ (hK.below hB00)).mono ?_; rintro e y1 ⟨rfl, hBq⟩; have hv_1 := hv.below hBq; have hB_2 := hB00.trans (hBq.mono hB00.size); clear hv hB00 hBq; go_frame)
        | ((with_reducible change wpList _ _ _ (Oper.mk (some 8) _ _ _ _ _ :: _) _ _); refine kY (yNotC _ _ true rfl rfl rfl) ?_; go_frame)
        | ((with_reducible change wpList _ _ _ (Oper.mk (some 10) _ _ _ _ _ :: _) _ _); refine kY (yLen _ _ _ v _ n rfl rfl rfl (fun _ e => by cases e; exact hv_1) (by rw [List.length_map, hn]) Tryz.underlying38) ?_; go_frame)
        | ((with_reducible change wpList _ _ _ (Oper.mk (some 11) _ _ _ _ _ :: _) _ _); refine kY (yGtrI _ _ _ _ .i64 (n : Int) 5000 false rfl rfl rfl rfl d1) ?_; go_frame)
        | (go_at_call 21; refine (hpl _ _ hv_1).mono ?_; rintro e y2 ⟨tv2, rfl, hX2o, hBq⟩; have hv_3 := hv_1.below hBq; have hB_4 := hB_2.trans (hBq.mono hB_2.size); clear hv_1 hB_2 hBq; have hX2 := hX2o.of; clear hX2o; go_frame)
        | ((with_reducible change wpList _ _ _ (Oper.mk (some 3) _ _ _ _ _ :: _) _ _); refine kAllocL _ _ rfl rfl zero_BlkC ?_; intro y3 hV3 hzq hBq; clear hzq; have hP := hBq; clear hBq; go_frame)
        | ((with_reducible change wpList _ _ _ (Oper.mk none (Op.store _ (Operand.tmp 3) _) _ _ _ _ :: _) _ _); refine kStoreBlk _ _ _ p.1.head tv2 _ hV3 (blkC_size _ _) (hX2).sl.one rfl rfl rfl rfl ?_; intro y4 hT3 hWq; have hPn := hP.trans (hWq.below (Nat.le_refl _)); clear hP; have hP := hPn; clear hPn; clear hWq hV3; have hv_5 := hv_3.below hP; have hX2_6 := hX2.below hP; have hB_7 := hB_4.trans (hP.mono hB_4.size); clear hv_3 hX2 hB_4 hP; go_frame)
        | (go_at_call 28; refine (hpx _ _ hv_5).mono ?_; rintro e y5 ⟨tv3, rfl, hX3o, hBq⟩; have hv_8 := hv_5.below hBq; have hX2_9 := hX2_6.below hBq; have hT3_10 := hT3.below hBq hT3.lt; have hB_11 := hB_7.trans (hBq.mono hB_7.size); clear hv_5 hX2_6 hT3 hB_7 hBq; have hX3 := hX3o.of; clear hX3o; go_frame)
        | ((with_reducible change wpList _ _ _ (Oper.mk (some 5) _ _ _ _ _ :: _) _ _); refine kAllocL _ _ rfl rfl zero_BlkC ?_; intro y6 hV5 hzq hBq; clear hzq; have hP := hBq; clear hBq; go_frame)
        | ((with_reducible change wpList _ _ _ (Oper.mk none (Op.store _ (Operand.tmp 5) _) _ _ _ _ :: _) _ _); refine kStoreBlk _ _ _ p.1.head tv3 _ hV5 (blkC_size _ _) (hX3).sl.one rfl rfl rfl rfl ?_; intro y7 hT5 hWq; have hPn := hP.trans (hWq.below (Nat.le_refl _)); clear hP; have hP := hPn; clear hPn; clear hWq hV5; have hv_12 := hv_8.below hP; have hX2_13 := hX2_9.below hP; have hT3_14 := hT3_10.below hP hT3_10.lt; have hX3_15 := hX3.below hP; have hB_16 := hB_11.trans (hP.mono hB_11.size); clear hv_8 hX2_9 hT3_10 hX3 hB_11 hP; go_frame))
      refine region_mixD [(0, true), (1, true), (2, true), (3, true), (4, true), (5, true), (6, false), (7, true), (8, true), (9, true), (10, true), (11, true), (12, true), (15, true), (16, true), (13, false), (14, true), (17, true), (18, true), (19, true), (20, true)] (fun w => (IsVals w v (l.map VB)) ∧ (TxsOf w tv2 p.1.txs) ∧ (Row w y2.heap.size 29 (blkC p.1.head tv2)) ∧ (TxsOf w tv3 p.1.txs) ∧ (Row w y5.heap.size 29 (blkC p.1.head tv3))) (by kernel_rfl) (by kernel_rfl) rfl ?_
      intro z0 hBd hsd
      clear hsd
      have hv_17 := hv_12.below hBd
      have hX2_18 := hX2_13.below hBd
      have hT3_19 := hT3_14.below hBd hT3_14.lt
      have hX3_20 := hX3_15.below hBd
      have hT5_21 := hT5.below hBd hT5.lt
      have hB_22 := hB_16.trans (hBd.mono hB_16.size)
      clear hv_12 hX2_13 hT3_14 hX3_15 hT5 hB_16 hBd
      simp only [List.map_cons, List.map_nil]
      dsimp only [List.filterMap, List.getElem?_cons_zero, List.getElem?_cons_succ]
      have hS : (IsVals z0 v (l.map VB)) ∧ (TxsOf z0 tv2 p.1.txs) ∧ (Row z0 y2.heap.size 29 (blkC p.1.head tv2)) ∧ (TxsOf z0 tv3 p.1.txs) ∧ (Row z0 y5.heap.size 29 (blkC p.1.head tv3)) := ⟨hv_17, hX2_18, hT3_19, hX3_20, hT5_21⟩
      refine dY _ hS (yMove _ (.int .i64 ((p.2 : Int))) rfl rfl rfl) ?_; go_frame
      refine dY _ hS (yMove _ (.int .i64 ((p.2 : Int))) rfl rfl rfl) ?_; go_frame
      refine dY _ hS (yEqlIC _ _ _ _ .i64 (p.2 : Int) (p.2 : Int) true rfl rfl rfl rfl (by simp)) ?_; go_frame
      refine dY _ hS (yMove _ (.bool true) rfl rfl rfl) ?_; go_frame
      refine dY _ hS (yLoadRowC Tryz.underlying29 rfl _ _ (blkC p.1.head tv2) (info_BlkS _ _) (fun _ h => h.2.2.1) rfl rfl rfl) ?_; go_frame
      refine dY _ hS (yLoadRowC Tryz.underlying29 rfl _ _ (blkC p.1.head tv3) (info_BlkS _ _) (fun _ h => h.2.2.2.2) rfl rfl rfl) ?_; go_frame
      refine dLoud ?_
      refine kCall2 24 _ _ _ _ _ rfl rfl (by kernel_rfl) rfl rfl ?_
      refine (xSame_any (b := p.1) (c := p.1) _ hqi hqf hqi hqf hX2_18 hX3_20).mono ?_
      rintro e y8 ⟨rfl, hBq⟩
      clear hS
      have hv_23 := hv_17.below hBq
      have hX2_24 := hX2_18.below hBq
      have hT3_25 := hT3_19.below hBq hT3_19.lt
      have hX3_26 := hX3_20.below hBq
      have hT5_27 := hT5_21.below hBq hT5_21.lt
      have hB_28 := hB_22.trans (hBq.mono hB_22.size)
      clear hv_17 hX2_18 hT3_19 hX3_20 hT5_21 hB_22 hBq
      rw [sameB_refl]
      have hS : (IsVals y8 v (l.map VB)) ∧ (TxsOf y8 tv2 p.1.txs) ∧ (Row y8 y2.heap.size 29 (blkC p.1.head tv2)) ∧ (TxsOf y8 tv3 p.1.txs) ∧ (Row y8 y5.heap.size 29 (blkC p.1.head tv3)) := ⟨hv_23, hX2_24, hT3_25, hX3_26, hT5_27⟩
      refine ⟨_, rfl, mixOn ⟨(fun w => (IsVals w v (l.map VB)) ∧ (TxsOf w tv2 p.1.txs) ∧ (Row w y2.heap.size 29 (blkC p.1.head tv2)) ∧ (TxsOf w tv3 p.1.txs) ∧ (Row w y5.heap.size 29 (blkC p.1.head tv3))), (fun _ h => ⟨h.1, h.2.1, h.2.2.1, h.2.2.2.1, h.2.2.2.2⟩), hS, ?_⟩⟩
      go_frame
      refine dY _ hS (yPick _ _ _ true (.bool true) rfl rfl rfl rfl) ?_; go_frame
      refine dY _ hS (yMove _ (.bool true) rfl rfl rfl) ?_; go_frame
      refine dY _ hS (yMove _ (.int .i64 ((p.2 : Int))) rfl rfl rfl) ?_; go_frame
      refine dY _ hS (yNeqI _ _ _ _ .i64 (p.2 : Int) 0 false rfl rfl rfl rfl dn) ?_; go_frame
      refine dY _ hS (yMove _ (.bool false) rfl rfl rfl) ?_; go_frame
      refine dY _ hS (yLoadRowC Tryz.underlying29 rfl _ _ (blkC p.1.head tv2) (info_BlkS _ _) (fun _ h => h.2.2.1) rfl rfl rfl) ?_; go_frame
      refine dY _ hS (yMove _ v rfl rfl rfl) ?_; go_frame
      refine dY _ hS (yStr _ _ _ _ v l rfl rfl rfl (fun _ h => h.1) Tryz.underlying38 Tryz.underlying5 Tryz.underlying9) ?_; go_frame
      refine dLoud ?_
      refine kCall1 20 _ _ _ rfl rfl (by kernel_rfl) rfl ?_
      refine (blBytes_any (b := p.1) _ hqi hqf hX2_24).mono ?_
      rintro e y9 ⟨v5, rfl, hX5o, hBq⟩
      clear hS
      have hv_29 := hv_23.below hBq
      have hX2_30 := hX2_24.below hBq
      have hT3_31 := hT3_25.below hBq hT3_25.lt
      have hX3_32 := hX3_26.below hBq
      have hT5_33 := hT5_27.below hBq hT5_27.lt
      have hB_34 := hB_28.trans (hBq.mono hB_28.size)
      clear hv_23 hX2_24 hT3_25 hX3_26 hT5_27 hB_28 hBq
      have hX5 := hX5o.vals
      clear hX5o
      have hS : (IsVals y9 v (l.map VB)) ∧ (TxsOf y9 tv2 p.1.txs) ∧ (Row y9 y2.heap.size 29 (blkC p.1.head tv2)) ∧ (TxsOf y9 tv3 p.1.txs) ∧ (Row y9 y5.heap.size 29 (blkC p.1.head tv3)) ∧ (IsVals y9 v5 ((blockL p.1).map VB)) := ⟨hv_29, hX2_30, hT3_31, hX3_32, hT5_33, hX5⟩
      refine ⟨_, rfl, mixOn ⟨(fun w => (IsVals w v (l.map VB)) ∧ (TxsOf w tv2 p.1.txs) ∧ (Row w y2.heap.size 29 (blkC p.1.head tv2)) ∧ (TxsOf w tv3 p.1.txs) ∧ (Row w y5.heap.size 29 (blkC p.1.head tv3)) ∧ (IsVals w v5 ((blockL p.1).map VB))), (fun _ h => ⟨h.1, h.2.1, h.2.2.1, h.2.2.2.1, h.2.2.2.2.1⟩), hS, ?_⟩⟩
      go_frame
      refine dY _ hS (yStr _ _ _ _ v5 (blockL p.1) rfl rfl rfl (fun _ h => h.2.2.2.2.2) Tryz.underlying38 Tryz.underlying5 Tryz.underlying9) ?_; go_frame
      refine dY _ hS (yEqlStr _ _ _ _ (blockL p.1) l true rfl rfl rfl rfl deq) ?_; go_frame
      refine dY _ hS (yPick _ _ _ false (.bool true) rfl rfl rfl rfl) ?_; go_frame
      refine dY _ hS (yPick _ _ _ true (.bool true) rfl rfl rfl rfl) ?_; go_frame
      refine dY _ hS (yAssign _ (.bool true) rfl rfl rfl) ?_; go_frame
      refine dDone ?_
      go_wp2
      go_ret
      exact ⟨rfl, hB_34⟩
    · have dn : (!decide ((p.2 : Int) = 0)) = true := by simp; omega
      clear hback he
      have hB00 := Below.refl W0.heap.size W0
      go_enter Tryz.func7, Tryz.ntmps7
      go_wp2_with (first
        | (go_at_call 12; refine (blockAlive_any _ (hK.below hB00)).mono ?_; rintro e y1 ⟨rfl, hBq⟩; have hv_1 := hv.below hBq; have hB_2 := hB00.trans (hBq.mono hB00.size); clear hv hB00 hBq; go_frame)
        | ((with_reducible change wpList _ _ _ (Oper.mk (some 8) _ _ _ _ _ :: _) _ _); refine kY (yNotC _ _ true rfl rfl rfl) ?_; go_frame)
        | ((with_reducible change wpList _ _ _ (Oper.mk (some 10) _ _ _ _ _ :: _) _ _); refine kY (yLen _ _ _ v _ n rfl rfl rfl (fun _ e => by cases e; exact hv_1) (by rw [List.length_map, hn]) Tryz.underlying38) ?_; go_frame)
        | ((with_reducible change wpList _ _ _ (Oper.mk (some 11) _ _ _ _ _ :: _) _ _); refine kY (yGtrI _ _ _ _ .i64 (n : Int) 5000 false rfl rfl rfl rfl d1) ?_; go_frame)
        | (go_at_call 21; refine (hpl _ _ hv_1).mono ?_; rintro e y2 ⟨tv2, rfl, hX2o, hBq⟩; have hv_3 := hv_1.below hBq; have hB_4 := hB_2.trans (hBq.mono hB_2.size); clear hv_1 hB_2 hBq; have hX2 := hX2o.of; clear hX2o; go_frame)
        | ((with_reducible change wpList _ _ _ (Oper.mk (some 3) _ _ _ _ _ :: _) _ _); refine kAllocL _ _ rfl rfl zero_BlkC ?_; intro y3 hV3 hzq hBq; clear hzq; have hP := hBq; clear hBq; go_frame)
        | ((with_reducible change wpList _ _ _ (Oper.mk none (Op.store _ (Operand.tmp 3) _) _ _ _ _ :: _) _ _); refine kStoreBlk _ _ _ p.1.head tv2 _ hV3 (blkC_size _ _) (hX2).sl.one rfl rfl rfl rfl ?_; intro y4 hT3 hWq; have hPn := hP.trans (hWq.below (Nat.le_refl _)); clear hP; have hP := hPn; clear hPn; clear hWq hV3; have hv_5 := hv_3.below hP; have hX2_6 := hX2.below hP; have hB_7 := hB_4.trans (hP.mono hB_4.size); clear hv_3 hX2 hB_4 hP; go_frame)
        | (go_at_call 28; refine (hpx _ _ hv_5).mono ?_; rintro e y5 ⟨tv3, rfl, hX3o, hBq⟩; have hv_8 := hv_5.below hBq; have hX2_9 := hX2_6.below hBq; have hT3_10 := hT3.below hBq hT3.lt; have hB_11 := hB_7.trans (hBq.mono hB_7.size); clear hv_5 hX2_6 hT3 hB_7 hBq; have hX3 := hX3o.of; clear hX3o; go_frame)
        | ((with_reducible change wpList _ _ _ (Oper.mk (some 5) _ _ _ _ _ :: _) _ _); refine kAllocL _ _ rfl rfl zero_BlkC ?_; intro y6 hV5 hzq hBq; clear hzq; have hP := hBq; clear hBq; go_frame)
        | ((with_reducible change wpList _ _ _ (Oper.mk none (Op.store _ (Operand.tmp 5) _) _ _ _ _ :: _) _ _); refine kStoreBlk _ _ _ p.1.head tv3 _ hV5 (blkC_size _ _) (hX3).sl.one rfl rfl rfl rfl ?_; intro y7 hT5 hWq; have hPn := hP.trans (hWq.below (Nat.le_refl _)); clear hP; have hP := hPn; clear hPn; clear hWq hV5; have hv_12 := hv_8.below hP; have hX2_13 := hX2_9.below hP; have hT3_14 := hT3_10.below hP hT3_10.lt; have hX3_15 := hX3.below hP; have hB_16 := hB_11.trans (hP.mono hB_11.size); clear hv_8 hX2_9 hT3_10 hX3 hB_11 hP; go_frame))
      refine region_mixD [(0, true), (1, true), (2, true), (3, true), (4, true), (5, true), (6, false), (7, true), (8, true), (9, true), (10, true), (11, true), (12, true), (15, true), (16, true), (13, false), (14, true), (17, true), (18, true), (19, true), (20, true)] (fun w => (IsVals w v (l.map VB)) ∧ (TxsOf w tv2 p.1.txs) ∧ (Row w y2.heap.size 29 (blkC p.1.head tv2)) ∧ (TxsOf w tv3 p.1.txs) ∧ (Row w y5.heap.size 29 (blkC p.1.head tv3))) (by kernel_rfl) (by kernel_rfl) rfl ?_
      intro z0 hBd hsd
      clear hsd
      have hv_17 := hv_12.below hBd
      have hX2_18 := hX2_13.below hBd
      have hT3_19 := hT3_14.below hBd hT3_14.lt
      have hX3_20 := hX3_15.below hBd
      have hT5_21 := hT5.below hBd hT5.lt
      have hB_22 := hB_16.trans (hBd.mono hB_16.size)
      clear hv_12 hX2_13 hT3_14 hX3_15 hT5 hB_16 hBd
      simp only [List.map_cons, List.map_nil]
      dsimp only [List.filterMap, List.getElem?_cons_zero, List.getElem?_cons_succ]
      have hS : (IsVals z0 v (l.map VB)) ∧ (TxsOf z0 tv2 p.1.txs) ∧ (Row z0 y2.heap.size 29 (blkC p.1.head tv2)) ∧ (TxsOf z0 tv3 p.1.txs) ∧ (Row z0 y5.heap.size 29 (blkC p.1.head tv3)) := ⟨hv_17, hX2_18, hT3_19, hX3_20, hT5_21⟩
      refine dY _ hS (yMove _ (.int .i64 ((p.2 : Int))) rfl rfl rfl) ?_; go_frame
      refine dY _ hS (yMove _ (.int .i64 ((p.2 : Int))) rfl rfl rfl) ?_; go_frame
      refine dY _ hS (yEqlIC _ _ _ _ .i64 (p.2 : Int) (p.2 : Int) true rfl rfl rfl rfl (by simp)) ?_; go_frame
      refine dY _ hS (yMove _ (.bool true) rfl rfl rfl) ?_; go_frame
      refine dY _ hS (yLoadRowC Tryz.underlying29 rfl _ _ (blkC p.1.head tv2) (info_BlkS _ _) (fun _ h => h.2.2.1) rfl rfl rfl) ?_; go_frame
      refine dY _ hS (yLoadRowC Tryz.underlying29 rfl _ _ (blkC p.1.head tv3) (info_BlkS _ _) (fun _ h => h.2.2.2.2) rfl rfl rfl) ?_; go_frame
      refine dLoud ?_
      refine kCall2 24 _ _ _ _ _ rfl rfl (by kernel_rfl) rfl rfl ?_
      refine (xSame_any (b := p.1) (c := p.1) _ hqi hqf hqi hqf hX2_18 hX3_20).mono ?_
      rintro e y8 ⟨rfl, hBq⟩
      clear hS
      have hv_23 := hv_17.below hBq
      have hX2_24 := hX2_18.below hBq
      have hT3_25 := hT3_19.below hBq hT3_19.lt
      have hX3_26 := hX3_20.below hBq
      have hT5_27 := hT5_21.below hBq hT5_21.lt
      have hB_28 := hB_22.trans (hBq.mono hB_22.size)
      clear hv_17 hX2_18 hT3_19 hX3_20 hT5_21 hB_22 hBq
      rw [sameB_refl]
      have hS : (IsVals y8 v (l.map VB)) ∧ (TxsOf y8 tv2 p.1.txs) ∧ (Row y8 y2.heap.size 29 (blkC p.1.head tv2)) ∧ (TxsOf y8 tv3 p.1.txs) ∧ (Row y8 y5.heap.size 29 (blkC p.1.head tv3)) := ⟨hv_23, hX2_24, hT3_25, hX3_26, hT5_27⟩
      refine ⟨_, rfl, mixOn ⟨(fun w => (IsVals w v (l.map VB)) ∧ (TxsOf w tv2 p.1.txs) ∧ (Row w y2.heap.size 29 (blkC p.1.head tv2)) ∧ (TxsOf w tv3 p.1.txs) ∧ (Row w y5.heap.size 29 (blkC p.1.head tv3))), (fun _ h => ⟨h.1, h.2.1, h.2.2.1, h.2.2.2.1, h.2.2.2.2⟩), hS, ?_⟩⟩
      go_frame
      refine dY _ hS (yPick _ _ _ true (.bool true) rfl rfl rfl rfl) ?_; go_frame
      refine dY _ hS (yMove _ (.bool true) rfl rfl rfl) ?_; go_frame
      refine dY _ hS (yMove _ (.int .i64 ((p.2 : Int))) rfl rfl rfl) ?_; go_frame
      refine dY _ hS (yNeqI _ _ _ _ .i64 (p.2 : Int) 0 true rfl rfl rfl rfl dn) ?_; go_frame
      refine dY _ hS (yMove _ (.bool true) rfl rfl rfl) ?_; go_frame
      refine dY _ hS (ySkip rfl) ?_; go_frame
      refine dY _ hS (ySkip rfl) ?_; go_frame
      refine dY _ hS (ySkip rfl) ?_; go_frame
      refine dLoud ?_
      refine kSkipD rfl ?_
      refine mixOn ⟨(fun w => (IsVals w v (l.map VB)) ∧ (TxsOf w tv2 p.1.txs) ∧ (Row w y2.heap.size 29 (blkC p.1.head tv2)) ∧ (TxsOf w tv3 p.1.txs) ∧ (Row w y5.heap.size 29 (blkC p.1.head tv3))), (fun _ h => h), hS, ?_⟩
      go_frame
      refine dY _ hS (ySkip rfl) ?_; go_frame
      refine dY _ hS (ySkip rfl) ?_; go_frame
      refine dY _ hS (yPick _ _ _ true (.bool true) rfl rfl rfl rfl) ?_; go_frame
      refine dY _ hS (yPick _ _ _ true (.bool true) rfl rfl rfl rfl) ?_; go_frame
      refine dY _ hS (yAssign _ (.bool true) rfl rfl rfl) ?_; go_frame
      refine dDone ?_
      go_wp2
      go_ret
      exact ⟨rfl, hB_28⟩
end Go.Proofs.YtmfjgehlkbndjaaGreatDoor
