/-
  Layer 11: the walk of BlockNames.
-/
import Derived.Test.YtmfjgehlkbndjaaGreatDoorBkName
import Derived.Test.YtmfjgehlkbndjaaGreatDoorBkByte
import Derived.Test.YtmfjgehlkbndjaaGreatDoorBkB
namespace Go.Proofs.YtmfjgehlkbndjaaGreatDoor
open Go Go.RowKit Go.Shelf

theorem ownTxs_single {w : World} {b : Nat} {v : Value} {t : TxP} (h : OwnTxs w b v [t]) : ∃ a c : Value, OwnR 4 34 w b v ([((t, a, c) : TxZ)].map txR) ∧ OwnIns w b a t.ins ∧ OwnOuts w b c t.outs := by
  obtain ⟨zs, e, h1, h2⟩ := h
  match zs, e with
  | [(s, a, c)], e =>
    obtain rfl : s = t := by simpa using e
    exact ⟨a, c, h1, (h2 (_, a, c) (List.mem_singleton.2 rfl)).1, (h2 (_, a, c) (List.mem_singleton.2 rfl)).2⟩
theorem bad_row {c : UInt8} (hc : at8 (idL one11) 0 = c) (v : Value) : (blkC plainB.head v).setIfInBounds 33 (VB (c + 1)) = blkC badB.head v := by
  subst hc; exact blkC_root0 (idL_len _) v _
theorem plain_at33 {c : UInt8} (hc : at8 (idL one11) 0 = c) (v : Value) : (blkC plainB.head v)[33]? = some (VB c) := by
  subst hc; exact blkC_33 _ _
theorem dup_after {w w' : World} {g b : Nat} {v a c : Value} {cs : Array Value} (hO : OwnR 4 34 w b v ([((one11, a, c) : TxZ), (one11, a, c)].map txR)) (hI : OwnIns w b a one11.ins) (hU : OwnOuts w b c one11.outs) (hR : Row w g 29 cs) (hW : Wrote g w w') : TxsOf w' v dupB11.txs := by
  have hoB : OwnR cs.size 29 w g (.slice (some ⟨g, 0, none⟩) 1 1) [cs.toList] := ownR_one (Nat.le_refl _) (by simpa using hR) (by simp)
  have hg : w.grownBy w' (Value.ownBlock (.slice (some ⟨g, 0, none⟩) 1 1)) := exc_wrote hW
  have hI' := ownIns_grownT hI hoB (by decide) (by decide) hg
  have hU' := ownOuts_grownT hU hoB (by decide) (by decide) hg
  have h : OwnTxs w' b v [one11, one11] := ⟨[(one11, a, c), (one11, a, c)], rfl, OwnR.grownBy hO hoB (by decide) hg, fun z hz => by simp at hz; subst hz; exact ⟨hI', hU'⟩⟩
  exact h.of
theorem zeros_vals {w : World} {g n : Nat} (h : Row w g 5 (Array.replicate n (VB 0))) : IsVals w (.slice (some ⟨g, 0, none⟩) n n) ((List.replicate n (0 : UInt8)).map VB) := by
  have h2 := isVals_row h 0 n n (by simp) (Nat.le_refl _)
  simpa using h2
set_option maxRecDepth 100000 in
set_option maxHeartbeats 8000000 in
theorem blockNames_walk (W0 : World) (hK : Keys W0) : Calls Tryz.prog 3 #[] W0 (BoolPost W0 true) := by
  obtain ⟨i, hi, hz, hs1, hby⟩ := b8Info
  obtain ⟨c0, hc0⟩ : ∃ c : UInt8, at8 (idL one11) 0 = c := ⟨_, rfl⟩
  have h33 := plain_at33 hc0
  have hset := bad_row hc0
  clear hc0
  have hB00 := Below.refl W0.heap.size W0
  go_enter Tryz.func3, Tryz.ntmps3
  go_wp2_with (first
    | (go_at_call 9; refine (plain11_any _).mono ?_; rintro e y1 ⟨tv1, rfl, hX1o, hBq⟩; have hB_1 := hB00.trans (hBq.mono hB00.size); clear hB00 hBq; have hX1 := hX1o.of; clear hX1o; go_frame)
    | (go_at_call 9; refine (plain11_any _).mono ?_; rintro e y2 ⟨tv2, rfl, hX2o, hBq⟩; have hA2 := hBq; have hB_3 := hB_1.trans (hBq.mono hB_1.size); clear hBq; have hX2 := hX2o.of; go_frame)
    | ((with_reducible change wpList _ _ _ (Oper.mk (some 1) _ _ _ _ _ :: _) _ _); refine kAllocL _ _ rfl rfl zero_BlkC ?_; intro y3 hV1 hzq hBq; clear hzq; have hP := hBq; clear hBq; go_frame)
    | ((with_reducible change wpList _ _ _ (Oper.mk (some 2) _ _ _ _ _ :: _) _ _); refine kAllocL _ _ rfl rfl zero_BlkC ?_; intro y4 hV2 hzq hBq; clear hzq; have hV1b := hV1.below hBq hV1.lt; have hne12 : Hid (y2.heap.size ≠ y3.heap.size) := Nat.ne_of_lt hV1.lt; clear hV1; have hPn := hP.trans (hBq.mono hP.size); have hle2 : Hid (y2.heap.size ≤ y3.heap.size) := hP.size; clear hP hBq; have hP := hPn; clear hPn; go_frame)
    | ((with_reducible change wpList _ _ _ (Oper.mk none (Op.store _ (Operand.tmp 1) _) _ _ _ _ :: _) _ _); refine kStoreBlk _ _ _ plainB.head tv1 _ hV1b (blkC_size _ _) hX1.sl.one rfl rfl rfl rfl ?_; intro y5 hT1 hWq; have hPn := hP.trans (hWq.below (Nat.le_refl _)); clear hP; have hP := hPn; clear hPn; have hV2w := hWq.row hV2 (Ne.symm hne12.out); clear hV2; clear hWq hV1b; go_frame)
    | ((with_reducible change wpList _ _ _ (Oper.mk none (Op.store _ (Operand.tmp 2) _) _ _ _ _ :: _) _ _); refine kStoreBlk _ _ _ plainB.head tv2 _ hV2w (blkC_size _ _) (hX2).sl.one rfl rfl rfl rfl ?_; intro y6 hT2 hWq; have hPn := hP.trans (hWq.below (hle2.out)); clear hP; have hP := hPn; clear hPn; have hT1w := hWq.row hT1 hne12.out; clear hT1; clear hWq hV2w; go_frame)
    | ((with_reducible change wpList _ _ _ (Oper.mk (some 13) _ _ _ _ _ :: _) _ _); refine kY (yFld blkF0 _ _ 0 0 rfl rfl rfl rfl) ?_; go_frame)
    | ((with_reducible change wpList _ _ _ (Oper.mk (some 14) _ _ _ _ _ :: _) _ _); refine kY (yFld headF2 _ _ 0 33 rfl rfl rfl rfl) ?_; go_frame)
    | ((with_reducible change wpList _ _ _ (Oper.mk (some 15) _ _ _ _ _ :: _) _ _); refine kIdxArr Tryz.underlying24 info_b8P _ _ y2.heap.size 33 0 33 (by decide) rfl rfl rfl rfl rfl ?_; go_frame)
    | ((with_reducible change wpList _ _ _ (Oper.mk (some 16) _ _ _ _ _ :: _) _ _); refine kLd Tryz.underlying5 rfl _ y2.heap.size 33 _ (VB c0) hT1w (h33 _) rfl rfl rfl ?_; go_frame)
    | ((with_reducible change wpList _ _ _ (Oper.mk (some 17) _ _ _ _ _ :: _) _ _); refine kY (yAddB1 _ _ _ _ c0 rfl rfl rfl rfl) ?_; go_frame)
    | ((with_reducible change wpList _ _ _ (Oper.mk (some 18) _ _ _ _ _ :: _) _ _); refine kY (yFld blkF0 _ _ 0 0 rfl rfl rfl rfl) ?_; go_frame)
    | ((with_reducible change wpList _ _ _ (Oper.mk (some 19) _ _ _ _ _ :: _) _ _); refine kY (yFld headF2 _ _ 0 33 rfl rfl rfl rfl) ?_; go_frame)
    | ((with_reducible change wpList _ _ _ (Oper.mk (some 20) _ _ _ _ _ :: _) _ _); refine kIdxArr Tryz.underlying24 info_b8P _ _ y2.heap.size 33 0 33 (by decide) rfl rfl rfl rfl rfl ?_; go_frame)
    | ((with_reducible change wpList _ _ _ (Oper.mk none (Op.store _ (Operand.tmp 20) _) _ _ _ _ :: _) _ _); refine kStore1 _ _ _ _ y2.heap.size 33 _ (VB (c0 + 1)) rfl rfl rfl rfl hT1w info_b8P (by rw [blkC_size]; decide) rfl ?_; intro y7 hR1 hWq; rw [hset] at hR1; have hT2b := hWq.row hT2 (Ne.symm hne12.out); have hP7 := hP.trans (hWq.below (Nat.le_refl _)); clear hWq hT1w hT2 hP; go_frame))
  clear h33 hset
  have hA7 := hA2.trans (hP7.mono hA2.size)
  have hszA : Hid (y1.heap.size ≤ y2.heap.size) := hA2.size
  obtain ⟨a0, b0, hO, hI, hU⟩ := ownTxs_single (t := one11) hX2o
  have hltA := own_lt hO
  have hO7 := hO.below hP7
  have hI7 := hI.below hP7
  have hU7 := hU.below hP7
  obtain ⟨p0, hi0, hcp⟩ := txs_addr (zs := [(one11, a0, b0)]) (k := 0) ⟨hO7.rows, fun z hz => (List.mem_singleton.1 hz) ▸ ⟨hI7.of, hU7.of⟩⟩ rfl
  have hlt1 : ∀ r, tv2.ownBlock = some r → r ≠ y2.heap.size := fun r e h => by have := hltA r e; omega
  have hlt2 : ∀ r, tv2.ownBlock = some r → r ≠ y3.heap.size := fun r e h => by have := hltA r e; have := hle2.out; omega
  clear hX2o hX2 hA2 hO hI hU hP7 hltA
  refine region_mixE [(0, true), (1, true), (2, true), (3, true), (4, true), (5, false), (6, false), (7, false), (8, true)] 9 _ (fun w => Row w y3.heap.size 29 (blkC plainB.head tv2)) (by kernel_rfl) (by kernel_rfl) rfl rfl ?_
  intro z0 hBd hsd
  clear hsd
  have hS := hT2b.below hBd hT2b.lt
  have hcy := cells_below hcp hBd
  have hR10 := hR1.below hBd hR1.lt
  have hO0 := hO7.below hBd
  have hI0 := hI7.below hBd
  have hU0 := hU7.below hBd
  have hA0 := hA7.trans (hBd.mono hA7.size)
  clear hT2b hcp hR1 hO7 hI7 hU7 hA7 hBd
  simp only [List.map_cons, List.map_nil]
  dsimp only [List.filterMap, List.getElem?_cons_zero, List.getElem?_cons_succ]
  refine dY _ hS (yFld blkF1 _ _ 0 68 rfl rfl rfl rfl) ?_; go_frame
  refine dY _ hS (yLoad1 _ _ _ y3.heap.size 68 (blkC plainB.head tv2) tv2 _ rfl rfl rfl (fun _ h => h) Tryz.underlying27 rfl (blkC_68 _ _)) ?_; go_frame
  refine dY _ hS (yFld blkF1 _ _ 0 68 rfl rfl rfl rfl) ?_; go_frame
  refine dY _ hS (yLoad1 _ _ _ y3.heap.size 68 (blkC plainB.head tv2) tv2 _ rfl rfl rfl (fun _ h => h) Tryz.underlying27 rfl (blkC_68 _ _)) ?_; go_frame
  refine dY _ hS (yIndexAt _ _ _ _ 0 p0 hi0 rfl rfl rfl rfl) ?_; go_frame
  refine dLoud ?_
  refine kY (yLoadTxAt _ p0 (one11, a0, b0) (fun _ e => by cases e; exact hcy) rfl rfl rfl) ?_
  refine mixOn ⟨(fun w => Row w y3.heap.size 29 (blkC plainB.head tv2)), (fun _ h => h), hS, ?_⟩
  go_frame
  clear hcy
  refine dLoud ?_
  refine kBuildTxs1 _ one11.version one11.end' a0 b0 hI0.of.sl hU0.of.sl rfl rfl rfl ?_
  intro z1 hR9 hz9 hB9
  have hR11 := hR10.below hB9 hR10.lt
  have hS1 := hS.below hB9 hS.lt
  have hO1 := hO0.below hB9
  have hI1 := hI0.below hB9
  have hU1 := hU0.below hB9
  have hA1 := hA0.trans (hB9.mono hA0.size)
  have hrow : IsRows 4 z1 (.slice (some ⟨z0.heap.size, 0, none⟩) 1 1) ([((one11, a0, b0) : TxZ)].map txR) := isRows_one hR9 (txR_len _)
  clear hS hR10 hO0 hI0 hU0 hA0 hB9 hz9 hR9
  refine mixOn ⟨(fun w => Row w y3.heap.size 29 (blkC plainB.head tv2)), (fun _ h => h), hS1, ?_⟩
  go_frame
  refine dLoud ?_
  refine kAppTxs _ _ rfl rfl y1.heap.size _ _ [(one11, a0, b0)] [(one11, a0, b0)] rfl hO1 rfl hrow (fun z hz => (List.mem_singleton.1 hz) ▸ ⟨hI1.of.sl.one, hU1.of.sl.one⟩) (by simp) hA1.size ?_
  intro v28 z2 hO2 hBa hga
  have hI2 := ownIns_grownT hI1 hO1 (by decide) (by decide) hga
  have hU2 := ownOuts_grownT hU1 hO1 (by decide) (by decide) hga
  have hR12 := row_appJ hR11 hga hlt1
  have hS2 := row_appJ hS1 hga hlt2
  have hA2 := hA1.trans hBa
  clear hS1 hR11 hO1 hI1 hU1 hA1 hBa hga hrow hlt1 hlt2
  refine mixOn ⟨(fun w => Row w y3.heap.size 29 (blkC plainB.head tv2)), (fun _ h => h), hS2, ?_⟩
  go_frame
  refine dY _ hS2 (yFld blkF1 _ _ 0 68 rfl rfl rfl rfl) ?_; go_frame
  refine dDone ?_
  refine kStore1 _ _ _ _ _ 68 _ v28 rfl rfl rfl rfl hS2 info_txsC (by rw [blkC_size]; decide) (OwnR.rows hO2).sl.one ?_
  intro z3 hR23 hW3
  rw [blkC_set] at hR23
  have hR13 := hW3.row hR12 hne12.out
  have hA3 := hA2.trans (hW3.below (Nat.le_trans hszA.out hle2.out))
  have ht2 : TxsOf z3 v28 dupB11.txs := dup_after hO2 hI2 hU2 hS2 hW3
  have ht1 : TxsOf z3 tv1 badB.txs := hX1.below hA3
  have hBz := hB_1.trans (hA3.mono hB_1.size)
  clear hR12 hS2 hW3 hA2 hO2 hI2 hU2 hX1 hA3
  refine mixOn ?_
  go_frame
  go_wp2_with (first
    | ((with_reducible change wpList _ _ _ (Oper.mk (some 31) _ _ _ _ _ :: _) _ _); refine kMake _ _ _ _ rfl rfl i _ Tryz.underlying38 hi hz hs1 (VB 0) rfl _ _ _ _ 79 79 rfl rfl rfl rfl (by omega) (by rw [hby]; omega) (by omega) ?_; intro y41 hM hzq hBq; clear hzq; have hZ31 := zeros_vals hM; clear hM; have ht1_1 := ht1.below hBq; have ht2_2 := ht2.below hBq; have hR13_3 := hR13.below hBq hR13.lt; have hR23_4 := hR23.below hBq hR23.lt; have hB_5 := hBz.trans (hBq.mono hBz.size); clear ht1 ht2 hR13 hR23 hBz hBq; go_frame)
    | (go_at_call 10; refine (blHeadParse_any (l := (List.replicate 79 (0 : UInt8))) _ hZ31 (by simp)).mono ?_; rintro e y42 ⟨rfl, hBq⟩; have ht1_6 := ht1_1.below hBq; have ht2_7 := ht2_2.below hBq; have hR13_8 := hR13_3.below hBq hR13_3.lt; have hR23_9 := hR23_4.below hBq hR23_4.lt; have hZ31_10 := hZ31.below hBq; have hB_11 := hB_5.trans (hBq.mono hB_5.size); clear ht1_1 ht2_2 hR13_3 hR23_4 hZ31 hB_5 hBq; rw [headParse_79]; go_frame)
    | ((with_reducible change wpList _ _ _ (Oper.mk (some 3) _ _ _ _ _ :: _) _ _); refine kAllocL _ _ rfl rfl zero_HeadC ?_; intro y43 hV3 hzq hBq; clear hzq; have hP := hBq; clear hBq; go_frame)
    | ((with_reducible change wpList _ _ _ (Oper.mk none (Op.store _ (Operand.tmp 3) _) _ _ _ _ :: _) _ _); refine kStoreHead _ _ _ noHead _ hV3 (headC_size _) rfl rfl rfl rfl ?_; intro y44 hT3 hWq; have hPn := hP.trans (hWq.below (Nat.le_refl _)); clear hP; have hP := hPn; clear hPn; clear hWq hV3; have ht1_12 := ht1_6.below hP; have ht2_13 := ht2_7.below hP; have hR13_14 := hR13_8.below hP hR13_8.lt; have hR23_15 := hR23_9.below hP hR23_9.lt; have hZ31_16 := hZ31_10.below hP; have hB_17 := hB_11.trans (hP.mono hB_11.size); clear ht1_6 ht2_7 hR13_8 hR23_9 hZ31_10 hB_11 hP; go_frame)
    | ((with_reducible change wpList _ _ _ (Oper.mk (some 36) _ _ _ _ _ :: _) _ _); refine kMake _ _ _ _ rfl rfl i _ Tryz.underlying38 hi hz hs1 (VB 0) rfl _ _ _ _ 81 81 rfl rfl rfl rfl (by omega) (by rw [hby]; omega) (by omega) ?_; intro y45 hM hzq hBq; clear hzq; have hZ36 := zeros_vals hM; clear hM; have ht1_18 := ht1_12.below hBq; have ht2_19 := ht2_13.below hBq; have hR13_20 := hR13_14.below hBq hR13_14.lt; have hR23_21 := hR23_15.below hBq hR23_15.lt; have hZ31_22 := hZ31_16.below hBq; have hT3_23 := hT3.below hBq hT3.lt; have hB_24 := hB_17.trans (hBq.mono hB_17.size); clear ht1_12 ht2_13 hR13_14 hR23_15 hZ31_16 hT3 hB_17 hBq; go_frame)
    | (go_at_call 10; refine (blHeadParse_any (l := (List.replicate 81 (0 : UInt8))) _ hZ36 (by simp)).mono ?_; rintro e y46 ⟨rfl, hBq⟩; have ht1_25 := ht1_18.below hBq; have ht2_26 := ht2_19.below hBq; have hR13_27 := hR13_20.below hBq hR13_20.lt; have hR23_28 := hR23_21.below hBq hR23_21.lt; have hZ31_29 := hZ31_22.below hBq; have hT3_30 := hT3_23.below hBq hT3_23.lt; have hZ36_31 := hZ36.below hBq; have hB_32 := hB_24.trans (hBq.mono hB_24.size); clear ht1_18 ht2_19 hR13_20 hR23_21 hZ31_22 hT3_23 hZ36 hB_24 hBq; rw [headParse_81]; go_frame)
    | ((with_reducible change wpList _ _ _ (Oper.mk (some 5) _ _ _ _ _ :: _) _ _); refine kAllocL _ _ rfl rfl zero_HeadC ?_; intro y47 hV5 hzq hBq; clear hzq; have hP := hBq; clear hBq; go_frame)
    | ((with_reducible change wpList _ _ _ (Oper.mk none (Op.store _ (Operand.tmp 5) _) _ _ _ _ :: _) _ _); refine kStoreHead _ _ _ noHead _ hV5 (headC_size _) rfl rfl rfl rfl ?_; intro y48 hT5 hWq; have hPn := hP.trans (hWq.below (Nat.le_refl _)); clear hP; have hP := hPn; clear hPn; clear hWq hV5; have ht1_33 := ht1_25.below hP; have ht2_34 := ht2_26.below hP; have hR13_35 := hR13_27.below hP hR13_27.lt; have hR23_36 := hR23_28.below hP hR23_28.lt; have hZ31_37 := hZ31_29.below hP; have hT3_38 := hT3_30.below hP hT3_30.lt; have hZ36_39 := hZ36_31.below hP; have hB_40 := hB_32.trans (hP.mono hB_32.size); clear ht1_25 ht2_26 hR13_27 hR23_28 hZ31_29 hT3_30 hZ36_31 hB_32 hP; go_frame)
    | ((with_reducible change wpList _ _ _ (Oper.mk (some 41) _ _ _ _ _ :: _) _ _); refine kMake _ _ _ _ rfl rfl i _ Tryz.underlying38 hi hz hs1 (VB 0) rfl _ _ _ _ 80 80 rfl rfl rfl rfl (by omega) (by rw [hby]; omega) (by omega) ?_; intro y49 hM hzq hBq; clear hzq; have hZ41 := zeros_vals hM; clear hM; have ht1_41 := ht1_33.below hBq; have ht2_42 := ht2_34.below hBq; have hR13_43 := hR13_35.below hBq hR13_35.lt; have hR23_44 := hR23_36.below hBq hR23_36.lt; have hZ31_45 := hZ31_37.below hBq; have hT3_46 := hT3_38.below hBq hT3_38.lt; have hZ36_47 := hZ36_39.below hBq; have hT5_48 := hT5.below hBq hT5.lt; have hB_49 := hB_40.trans (hBq.mono hB_40.size); clear ht1_33 ht2_34 hR13_35 hR23_36 hZ31_37 hT3_38 hZ36_39 hT5 hB_40 hBq; go_frame)
    | (go_at_call 10; refine (blHeadParse_any (l := (List.replicate 80 (0 : UInt8))) _ hZ41 (by simp)).mono ?_; rintro e y50 ⟨rfl, hBq⟩; have ht1_50 := ht1_41.below hBq; have ht2_51 := ht2_42.below hBq; have hR13_52 := hR13_43.below hBq hR13_43.lt; have hR23_53 := hR23_44.below hBq hR23_44.lt; have hZ31_54 := hZ31_45.below hBq; have hT3_55 := hT3_46.below hBq hT3_46.lt; have hZ36_56 := hZ36_47.below hBq; have hT5_57 := hT5_48.below hBq hT5_48.lt; have hZ41_58 := hZ41.below hBq; have hB_59 := hB_49.trans (hBq.mono hB_49.size); clear ht1_41 ht2_42 hR13_43 hR23_44 hZ31_45 hT3_46 hZ36_47 hT5_48 hZ41 hB_49 hBq; rw [headParse_80]; go_frame)
    | ((with_reducible change wpList _ _ _ (Oper.mk (some 7) _ _ _ _ _ :: _) _ _); refine kAllocL _ _ rfl rfl zero_HeadC ?_; intro y51 hV7 hzq hBq; clear hzq; have hP := hBq; clear hBq; go_frame)
    | ((with_reducible change wpList _ _ _ (Oper.mk none (Op.store _ (Operand.tmp 7) _) _ _ _ _ :: _) _ _); refine kStoreHead _ _ _ noHead _ hV7 (headC_size _) rfl rfl rfl rfl ?_; intro y52 hT7 hWq; have hPn := hP.trans (hWq.below (Nat.le_refl _)); clear hP; have hP := hPn; clear hPn; clear hWq hV7; have ht1_60 := ht1_50.below hP; have ht2_61 := ht2_51.below hP; have hR13_62 := hR13_52.below hP hR13_52.lt; have hR23_63 := hR23_53.below hP hR23_53.lt; have hZ31_64 := hZ31_54.below hP; have hT3_65 := hT3_55.below hP hT3_55.lt; have hZ36_66 := hZ36_56.below hP; have hT5_67 := hT5_57.below hP hT5_57.lt; have hZ41_68 := hZ41_58.below hP; have hB_69 := hB_59.trans (hP.mono hB_59.size); clear ht1_50 ht2_51 hR13_52 hR23_53 hZ31_54 hT3_55 hZ36_56 hT5_57 hZ41_58 hB_59 hP; go_frame)
    | (go_at_call 11; refine (blRoot_any (l := []) _ (hashesOf_nil _) (fun x hx => by cases hx) (by decide) (hK.below hB_69)).mono ?_; rintro e y53 ⟨rfl, hBq⟩; have ht1_70 := ht1_60.below hBq; have ht2_71 := ht2_61.below hBq; have hR13_72 := hR13_62.below hBq hR13_62.lt; have hR23_73 := hR23_63.below hBq hR23_63.lt; have hZ31_74 := hZ31_64.below hBq; have hT3_75 := hT3_65.below hBq hT3_65.lt; have hZ36_76 := hZ36_66.below hBq; have hT5_77 := hT5_67.below hBq hT5_67.lt; have hZ41_78 := hZ41_68.below hBq; have hT7_79 := hT7.below hBq hT7.lt; have hB_80 := hB_69.trans (hBq.mono hB_69.size); clear ht1_60 ht2_61 hR13_62 hR23_63 hZ31_64 hT3_65 hZ36_66 hT5_67 hZ41_68 hT7 hB_69 hBq; rw [rootL_nil]; go_frame)
    | ((with_reducible change wpList _ _ _ (Oper.mk (some 9) _ _ _ _ _ :: _) _ _); refine kAllocL _ _ rfl rfl zero_Hash ?_; intro y54 hV9 hzq hBq; clear hzq; have hP := hBq; clear hBq; go_frame)
    | ((with_reducible change wpList _ _ _ (Oper.mk none (Op.store _ (Operand.tmp 9) _) _ _ _ _ :: _) _ _); refine kStoreHash _ _ _ z32 _ hV9 (by first | exact tab_size _ _ | rfl) rfl rfl rfl rfl ?_; intro y55 hT9 hWq; have hPn := hP.trans (hWq.below (Nat.le_refl _)); clear hP; have hP := hPn; clear hPn; clear hWq hV9; have ht1_81 := ht1_70.below hP; have ht2_82 := ht2_71.below hP; have hR13_83 := hR13_72.below hP hR13_72.lt; have hR23_84 := hR23_73.below hP hR23_73.lt; have hZ31_85 := hZ31_74.below hP; have hT3_86 := hT3_75.below hP hT3_75.lt; have hZ36_87 := hZ36_76.below hP; have hT5_88 := hT5_77.below hP hT5_77.lt; have hZ41_89 := hZ41_78.below hP; have hT7_90 := hT7_79.below hP hT7_79.lt; have hB_91 := hB_80.trans (hP.mono hB_80.size); clear ht1_70 ht2_71 hR13_72 hR23_73 hZ31_74 hT3_75 hZ36_76 hT5_77 hZ41_78 hT7_79 hB_80 hP; go_frame)
    | (go_at_call 12; refine (blockAlive_any _ (hK.below hB_91)).mono ?_; rintro e y56 ⟨rfl, hBq⟩; have ht1_92 := ht1_81.below hBq; have ht2_93 := ht2_82.below hBq; have hR13_94 := hR13_83.below hBq hR13_83.lt; have hR23_95 := hR23_84.below hBq hR23_84.lt; have hZ31_96 := hZ31_85.below hBq; have hT3_97 := hT3_86.below hBq hT3_86.lt; have hZ36_98 := hZ36_87.below hBq; have hT5_99 := hT5_88.below hBq hT5_88.lt; have hZ41_100 := hZ41_89.below hBq; have hT7_101 := hT7_90.below hBq hT7_90.lt; have hT9_102 := hT9.below hBq hT9.lt; have hB_103 := hB_91.trans (hBq.mono hB_91.size); clear ht1_81 ht2_82 hR13_83 hR23_84 hZ31_85 hT3_86 hZ36_87 hT5_88 hZ41_89 hT7_90 hT9 hB_91 hBq; go_frame)
    | ((with_reducible change wpList _ _ _ (Oper.mk (some 55) _ _ _ _ _ :: _) _ _); refine kY (yLoadRowC Tryz.underlying29 rfl _ _ (blkC badB.head tv1) (info_BlkS _ _) (fun _ e => by cases e; exact hR13_94) rfl rfl rfl) ?_; go_frame)
    | (go_at_call 13; refine (blCheck_any (b := badB) _ bad_is bad_fits ht1_92 (hK.below hB_103)).mono ?_; rintro e y57 ⟨rfl, hBq⟩; have ht1_104 := ht1_92.below hBq; have ht2_105 := ht2_93.below hBq; have hR13_106 := hR13_94.below hBq hR13_94.lt; have hR23_107 := hR23_95.below hBq hR23_95.lt; have hZ31_108 := hZ31_96.below hBq; have hT3_109 := hT3_97.below hBq hT3_97.lt; have hZ36_110 := hZ36_98.below hBq; have hT5_111 := hT5_99.below hBq hT5_99.lt; have hZ41_112 := hZ41_100.below hBq; have hT7_113 := hT7_101.below hBq hT7_101.lt; have hT9_114 := hT9_102.below hBq hT9_102.lt; have hB_115 := hB_103.trans (hBq.mono hB_103.size); clear ht1_92 ht2_93 hR13_94 hR23_95 hZ31_96 hT3_97 hZ36_98 hT5_99 hZ41_100 hT7_101 hT9_102 hB_103 hBq; rw [bad_check]; go_frame)
    | ((with_reducible change wpList _ _ _ (Oper.mk (some 57) _ _ _ _ _ :: _) _ _); refine kY (yEqlIC _ _ _ _ .i64 111 111 true rfl rfl rfl rfl (by simp)) ?_; go_frame)
    | ((with_reducible change wpList _ _ _ (Oper.mk (some 60) _ _ _ _ _ :: _) _ _); refine kY (yLoadRowC Tryz.underlying29 rfl _ _ (blkC plainB.head v28) (info_BlkS _ _) (fun _ e => by cases e; exact hR23_107) rfl rfl rfl) ?_; go_frame)
    | (go_at_call 13; refine (blCheck_any (b := dupB11) _ dup_is dup_fits ht2_105 (hK.below hB_115)).mono ?_; rintro e y58 ⟨rfl, hBq⟩; have ht1_116 := ht1_104.below hBq; have ht2_117 := ht2_105.below hBq; have hR13_118 := hR13_106.below hBq hR13_106.lt; have hR23_119 := hR23_107.below hBq hR23_107.lt; have hZ31_120 := hZ31_108.below hBq; have hT3_121 := hT3_109.below hBq hT3_109.lt; have hZ36_122 := hZ36_110.below hBq; have hT5_123 := hT5_111.below hBq hT5_111.lt; have hZ41_124 := hZ41_112.below hBq; have hT7_125 := hT7_113.below hBq hT7_113.lt; have hT9_126 := hT9_114.below hBq hT9_114.lt; have hB_127 := hB_115.trans (hBq.mono hB_115.size); clear ht1_104 ht2_105 hR13_106 hR23_107 hZ31_108 hT3_109 hZ36_110 hT5_111 hZ41_112 hT7_113 hT9_114 hB_115 hBq; rw [dup_check]; go_frame)
    | ((with_reducible change wpList _ _ _ (Oper.mk (some 62) _ _ _ _ _ :: _) _ _); refine kY (yEqlIC _ _ _ _ .i64 111 111 true rfl rfl rfl rfl (by simp)) ?_; go_frame)
    | ((with_reducible change wpList _ _ _ (Oper.mk (some 65) _ _ _ _ _ :: _) _ _); refine kY (yBuildBlk0 rfl rfl) ?_; go_frame)
    | (go_at_call 13; refine (blCheck_any (b := noBlock) _ noBlock_is noBlock_fits (txsOf_nil _) (hK.below hB_127)).mono ?_; rintro e y59 ⟨rfl, hBq⟩; have ht1_128 := ht1_116.below hBq; have ht2_129 := ht2_117.below hBq; have hR13_130 := hR13_118.below hBq hR13_118.lt; have hR23_131 := hR23_119.below hBq hR23_119.lt; have hZ31_132 := hZ31_120.below hBq; have hT3_133 := hT3_121.below hBq hT3_121.lt; have hZ36_134 := hZ36_122.below hBq; have hT5_135 := hT5_123.below hBq hT5_123.lt; have hZ41_136 := hZ41_124.below hBq; have hT7_137 := hT7_125.below hBq hT7_125.lt; have hT9_138 := hT9_126.below hBq hT9_126.lt; have hB_139 := hB_127.trans (hBq.mono hB_127.size); clear ht1_116 ht2_117 hR13_118 hR23_119 hZ31_120 hT3_121 hZ36_122 hT5_123 hZ41_124 hT7_125 hT9_126 hB_127 hBq; rw [no_check]; go_frame)
    | ((with_reducible change wpList _ _ _ (Oper.mk (some 67) _ _ _ _ _ :: _) _ _); refine kY (yEqlIC _ _ _ _ .i64 111 111 true rfl rfl rfl rfl (by simp)) ?_; go_frame)
    | ((with_reducible change wpList _ _ _ (Oper.mk (some 71) _ _ _ _ _ :: _) _ _); refine kY (yEqlIC _ _ _ _ .i64 61 61 true rfl rfl rfl rfl (by simp)) ?_; go_frame)
    | ((with_reducible change wpList _ _ _ (Oper.mk (some 75) _ _ _ _ _ :: _) _ _); refine kY (yEqlIC _ _ _ _ .i64 62 62 true rfl rfl rfl rfl (by simp)) ?_; go_frame)
    | ((with_reducible change wpList _ _ _ (Oper.mk (some 78) _ _ _ _ _ :: _) _ _); refine kY (yLoadRowC Tryz.underlying26 rfl _ _ (headC noHead) (info_HeadS _) (fun _ e => by cases e; exact hT7_137) rfl rfl rfl) ?_; go_frame)
    | ((with_reducible change wpList _ _ _ (Oper.mk (some 79) _ _ _ _ _ :: _) _ _); refine kY (yBuildHead0 rfl rfl) ?_; go_frame)
    | ((with_reducible change wpList _ _ _ (Oper.mk (some 80) _ _ _ _ _ :: _) _ _); refine kY (yEqlHead _ _ _ noHead_is noHead_is true rfl rfl rfl rfl (by simp)) ?_; go_frame)
    | ((with_reducible change wpList _ _ _ (Oper.mk (some 84) _ _ _ _ _ :: _) _ _); refine kY (yEqlIC _ _ _ _ .i64 0 0 true rfl rfl rfl rfl (by simp)) ?_; go_frame)
    | ((with_reducible change wpList _ _ _ (Oper.mk (some 87) _ _ _ _ _ :: _) _ _); refine kY (yLoadRowC Tryz.underlying24 rfl _ _ (tab 32 fun p => VB (at8 (z32) p)) info_HashT (fun _ e => by cases e; exact hT9_138) rfl rfl rfl) ?_; go_frame)
    | ((with_reducible change wpList _ _ _ (Oper.mk (some 88) _ _ _ _ _ :: _) _ _); refine kY (yBuildHash0 rfl rfl) ?_; go_frame)
    | ((with_reducible change wpList _ _ _ (Oper.mk (some 89) _ _ _ _ _ :: _) _ _); refine kY (yEqlHash _ _ _ z32 z32 true (z32_len) (z32_len) rfl rfl rfl rfl (by simp)) ?_; go_frame)
    | ((with_reducible change wpList _ _ _ (Oper.mk (some 93) _ _ _ _ _ :: _) _ _); refine kY (yNotC _ _ false rfl rfl rfl) ?_; go_frame))
  go_ret
  exact ⟨rfl, hB_139⟩
end Go.Proofs.YtmfjgehlkbndjaaGreatDoor
