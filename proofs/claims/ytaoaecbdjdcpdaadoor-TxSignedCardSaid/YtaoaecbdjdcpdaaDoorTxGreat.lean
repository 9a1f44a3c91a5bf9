/-
  Layer 10: what the statements begin with: the example is alive; what is too great.
-/
import Derived.Test.YtaoaecbdjdcpdaaDoorTxBase
namespace Go.Proofs.YtaoaecbdjdcpdaaDoor
open Go Go.RowKit

set_option maxRecDepth 100000 in
set_option maxHeartbeats 8000000 in
theorem txAlive_any (W0 : World) (hK : Keys W0) : Calls Tryd.prog 12 #[] W0 (BoolPost W0 true) := by
  have hB00 := Below.refl W0.heap.size W0
  go_enter Tryd.func12, Tryd.ntmps12
  go_wp2_with (first
    | (go_at_call 9; refine (base10_any _).mono ?_; rintro e y1 ⟨pa1, pb1, rfl, hI1, hO1, hBq⟩; have hB_1 := hB00.trans (hBq.mono hB00.size); clear hB00 hBq; go_frame)
    | (go_at_call 11; refine (tBytes_any (t := baseT) _ base_is base_fits hI1.of hO1.of).mono ?_; rintro e y2 ⟨v2, rfl, hX2o, hBq⟩; have hI1_2 := hI1.below hBq; have hO1_3 := hO1.below hBq; have hB_4 := hB_1.trans (hBq.mono hB_1.size); clear hI1 hO1 hB_1 hBq; have hX2 := hX2o.vals; clear hX2o; go_frame)
    | (go_at_call 10; refine (tParse_any (l := (txL baseT)) _ hX2 base_len).mono ?_; rintro e y3 ⟨pa3, pb3, rfl, hI3, hO3, hBq⟩; have hI1_5 := hI1_2.below hBq; have hO1_6 := hO1_3.below hBq; have hX2_7 := hX2.below hBq; have hB_8 := hB_4.trans (hBq.mono hB_4.size); clear hI1_2 hO1_3 hX2 hB_4 hBq; rw [base_parse] at hI3 hO3 ⊢; go_frame)
    | ((with_reducible change wpList _ _ _ (Oper.mk (some 1) _ _ _ _ _ :: _) _ _); refine kAllocL _ _ rfl rfl zero_TxC ?_; intro y4 hV1 hzq hBq; clear hzq; have hP := hBq; clear hBq; go_frame)
    | ((with_reducible change wpList _ _ _ (Oper.mk none (Op.store _ (Operand.tmp 1) _) _ _ _ _ :: _) _ _); refine kStoreTx _ _ _ baseT.version baseT.end' pa3 pb3 _ hV1 rfl hI3.of.sl.one hO3.of.sl.one rfl rfl rfl rfl ?_; intro y5 hT1 hWq; have hPn := hP.trans (hWq.below (Nat.le_refl _)); clear hP; have hP := hPn; clear hPn; clear hWq hV1; have hI1_9 := hI1_5.below hP; have hO1_10 := hO1_6.below hP; have hX2_11 := hX2_7.below hP; have hI3_12 := hI3.below hP; have hO3_13 := hO3.below hP; have hB_14 := hB_8.trans (hP.mono hB_8.size); clear hI1_5 hO1_6 hX2_7 hI3 hO3 hB_8 hP; go_frame))
  refine region_mixD [(0, false), (1, false), (2, true), (3, true), (4, false), (5, false), (6, true), (7, true), (8, true), (9, true), (10, true), (11, true), (12, true), (13, false), (14, false), (15, true), (16, true), (17, true), (18, false), (19, false), (20, false), (21, true), (22, true), (23, true), (24, true), (26, true), (25, false), (27, true), (28, true), (29, true)] (fun w => (IsVals w v2 ((txL baseT).map VB)) ∧ (Row w y3.heap.size 26 (txC baseT.version pa3 pb3 baseT.end'))) (by kernel_rfl) (by kernel_rfl) rfl ?_
  intro z0 hBd hsd
  clear hsd
  have hI1_15 := hI1_9.below hBd
  have hO1_16 := hO1_10.below hBd
  have hX2_17 := hX2_11.below hBd
  have hI3_18 := hI3_12.below hBd
  have hO3_19 := hO3_13.below hBd
  have hT1_20 := hT1.below hBd hT1.lt
  have hB_21 := hB_14.trans (hBd.mono hB_14.size)
  clear hI1_9 hO1_10 hX2_11 hI3_12 hO3_13 hT1 hB_14 hBd
  simp only [List.map_cons, List.map_nil]
  dsimp only [List.filterMap, List.getElem?_cons_zero, List.getElem?_cons_succ]
  have hS : (IsVals z0 v2 ((txL baseT).map VB)) ∧ (Row z0 y3.heap.size 26 (txC baseT.version pa3 pb3 baseT.end')) := ⟨hX2_17, hT1_20⟩
  refine dLoud ?_
  refine kCall0 9 _ rfl rfl (by kernel_rfl) ?_
  refine (base10_any _).mono ?_
  rintro e y6 ⟨pa4, pb4, rfl, hI4, hO4, hBq⟩
  clear hS
  have hI1_22 := hI1_15.below hBq
  have hO1_23 := hO1_16.below hBq
  have hX2_24 := hX2_17.below hBq
  have hI3_25 := hI3_18.below hBq
  have hO3_26 := hO3_19.below hBq
  have hT1_27 := hT1_20.below hBq hT1_20.lt
  have hB_28 := hB_21.trans (hBq.mono hB_21.size)
  clear hI1_15 hO1_16 hX2_17 hI3_18 hO3_19 hT1_20 hB_21 hBq
  have hS : (IsVals y6 v2 ((txL baseT).map VB)) ∧ (Row y6 y3.heap.size 26 (txC baseT.version pa3 pb3 baseT.end')) := ⟨hX2_24, hT1_27⟩
  refine ⟨_, rfl, mixOn ⟨(fun w => (IsVals w v2 ((txL baseT).map VB)) ∧ (Row w y3.heap.size 26 (txC baseT.version pa3 pb3 baseT.end'))), (fun _ h => ⟨h.1, h.2⟩), hS, ?_⟩⟩
  go_frame
  refine dLoud ?_
  refine kCall1 13 _ _ _ rfl rfl (by kernel_rfl) rfl ?_
  refine (tCheck_any (t := baseT) _ base_is base_fits hI4.of hO4.of).mono ?_
  rintro e y7 ⟨rfl, hBq⟩
  clear hS
  have hI1_29 := hI1_22.below hBq
  have hO1_30 := hO1_23.below hBq
  have hX2_31 := hX2_24.below hBq
  have hI3_32 := hI3_25.below hBq
  have hO3_33 := hO3_26.below hBq
  have hT1_34 := hT1_27.below hBq hT1_27.lt
  have hI4_35 := hI4.below hBq
  have hO4_36 := hO4.below hBq
  have hB_37 := hB_28.trans (hBq.mono hB_28.size)
  clear hI1_22 hO1_23 hX2_24 hI3_25 hO3_26 hT1_27 hI4 hO4 hB_28 hBq
  rw [base_check]
  have hS : (IsVals y7 v2 ((txL baseT).map VB)) ∧ (Row y7 y3.heap.size 26 (txC baseT.version pa3 pb3 baseT.end')) := ⟨hX2_31, hT1_34⟩
  refine ⟨_, rfl, mixOn ⟨(fun w => (IsVals w v2 ((txL baseT).map VB)) ∧ (Row w y3.heap.size 26 (txC baseT.version pa3 pb3 baseT.end'))), (fun _ h => ⟨h.1, h.2⟩), hS, ?_⟩⟩
  go_frame
  refine dY _ hS (yEqlIC _ _ _ _ .i64 0 0 true rfl rfl rfl rfl (by simp)) ?_; go_frame
  refine dY _ hS (yMove _ (.bool true) rfl rfl rfl) ?_; go_frame
  refine dLoud ?_
  refine kCall0 9 _ rfl rfl (by kernel_rfl) ?_
  refine (base10_any _).mono ?_
  rintro e y8 ⟨pa6, pb6, rfl, hI6, hO6, hBq⟩
  clear hS
  have hI1_38 := hI1_29.below hBq
  have hO1_39 := hO1_30.below hBq
  have hX2_40 := hX2_31.below hBq
  have hI3_41 := hI3_32.below hBq
  have hO3_42 := hO3_33.below hBq
  have hT1_43 := hT1_34.below hBq hT1_34.lt
  have hI4_44 := hI4_35.below hBq
  have hO4_45 := hO4_36.below hBq
  have hB_46 := hB_37.trans (hBq.mono hB_37.size)
  clear hI1_29 hO1_30 hX2_31 hI3_32 hO3_33 hT1_34 hI4_35 hO4_36 hB_37 hBq
  have hS : (IsVals y8 v2 ((txL baseT).map VB)) ∧ (Row y8 y3.heap.size 26 (txC baseT.version pa3 pb3 baseT.end')) := ⟨hX2_40, hT1_43⟩
  refine ⟨_, rfl, mixOn ⟨(fun w => (IsVals w v2 ((txL baseT).map VB)) ∧ (Row w y3.heap.size 26 (txC baseT.version pa3 pb3 baseT.end'))), (fun _ h => ⟨h.1, h.2⟩), hS, ?_⟩⟩
  go_frame
  refine dLoud ?_
  refine kCall1 14 _ _ _ rfl rfl (by kernel_rfl) rfl ?_
  refine (tBase_any (is := baseT.ins) _ hI6.of (fun i hi => (base_is.2.2.1 i hi).1)).mono ?_
  rintro e y9 ⟨rfl, hBq⟩
  clear hS
  have hI1_47 := hI1_38.below hBq
  have hO1_48 := hO1_39.below hBq
  have hX2_49 := hX2_40.below hBq
  have hI3_50 := hI3_41.below hBq
  have hO3_51 := hO3_42.below hBq
  have hT1_52 := hT1_43.below hBq hT1_43.lt
  have hI4_53 := hI4_44.below hBq
  have hO4_54 := hO4_45.below hBq
  have hI6_55 := hI6.below hBq
  have hO6_56 := hO6.below hBq
  have hB_57 := hB_46.trans (hBq.mono hB_46.size)
  clear hI1_38 hO1_39 hX2_40 hI3_41 hO3_42 hT1_43 hI4_44 hO4_45 hI6 hO6 hB_46 hBq
  rw [base_base]
  have hS : (IsVals y9 v2 ((txL baseT).map VB)) ∧ (Row y9 y3.heap.size 26 (txC baseT.version pa3 pb3 baseT.end')) := ⟨hX2_49, hT1_52⟩
  refine ⟨_, rfl, mixOn ⟨(fun w => (IsVals w v2 ((txL baseT).map VB)) ∧ (Row w y3.heap.size 26 (txC baseT.version pa3 pb3 baseT.end'))), (fun _ h => ⟨h.1, h.2⟩), hS, ?_⟩⟩
  go_frame
  refine dY _ hS (yPick _ _ _ true (.bool true) rfl rfl rfl rfl) ?_; go_frame
  refine dY _ hS (yMove _ (.bool true) rfl rfl rfl) ?_; go_frame
  refine dY _ hS (yMove _ (.int .i64 0) rfl rfl rfl) ?_; go_frame
  refine dY _ hS (yEqlIC _ _ _ _ .i64 0 0 true rfl rfl rfl rfl (by simp)) ?_; go_frame
  refine dY _ hS (yPick _ _ _ true (.bool true) rfl rfl rfl rfl) ?_; go_frame
  refine dY _ hS (yMove _ (.bool true) rfl rfl rfl) ?_; go_frame
  refine dY _ hS (yLoadRowC Tryd.underlying26 rfl _ _ (txC baseT.version pa3 pb3 baseT.end') info_TxC (fun _ h => h.2) rfl rfl rfl) ?_; go_frame
  refine dLoud ?_
  refine kCall0 9 _ rfl rfl (by kernel_rfl) ?_
  refine (base10_any _).mono ?_
  rintro e y10 ⟨pa8, pb8, rfl, hI8, hO8, hBq⟩
  clear hS
  have hI1_58 := hI1_47.below hBq
  have hO1_59 := hO1_48.below hBq
  have hX2_60 := hX2_49.below hBq
  have hI3_61 := hI3_50.below hBq
  have hO3_62 := hO3_51.below hBq
  have hT1_63 := hT1_52.below hBq hT1_52.lt
  have hI4_64 := hI4_53.below hBq
  have hO4_65 := hO4_54.below hBq
  have hI6_66 := hI6_55.below hBq
  have hO6_67 := hO6_56.below hBq
  have hB_68 := hB_57.trans (hBq.mono hB_57.size)
  clear hI1_47 hO1_48 hX2_49 hI3_50 hO3_51 hT1_52 hI4_53 hO4_54 hI6_55 hO6_56 hB_57 hBq
  have hS : (IsVals y10 v2 ((txL baseT).map VB)) ∧ (Row y10 y3.heap.size 26 (txC baseT.version pa3 pb3 baseT.end')) := ⟨hX2_60, hT1_63⟩
  refine ⟨_, rfl, mixOn ⟨(fun w => (IsVals w v2 ((txL baseT).map VB)) ∧ (Row w y3.heap.size 26 (txC baseT.version pa3 pb3 baseT.end'))), (fun _ h => ⟨h.1, h.2⟩), hS, ?_⟩⟩
  go_frame
  refine dLoud ?_
  refine kCall2 17 _ _ _ _ _ rfl rfl (by kernel_rfl) rfl rfl ?_
  refine (tSame_any (t := baseT) (u := baseT) _ base_is base_is ⟨Nat.le_trans (base_fits).1 (by decide), Nat.le_trans (base_fits).2.1 (by decide)⟩ hI3_61.of hO3_62.of hI8.of hO8.of).mono ?_
  rintro e y11 ⟨rfl, hBq⟩
  clear hS
  have hI1_69 := hI1_58.below hBq
  have hO1_70 := hO1_59.below hBq
  have hX2_71 := hX2_60.below hBq
  have hI3_72 := hI3_61.below hBq
  have hO3_73 := hO3_62.below hBq
  have hT1_74 := hT1_63.below hBq hT1_63.lt
  have hI4_75 := hI4_64.below hBq
  have hO4_76 := hO4_65.below hBq
  have hI6_77 := hI6_66.below hBq
  have hO6_78 := hO6_67.below hBq
  have hI8_79 := hI8.below hBq
  have hO8_80 := hO8.below hBq
  have hB_81 := hB_68.trans (hBq.mono hB_68.size)
  clear hI1_58 hO1_59 hX2_60 hI3_61 hO3_62 hT1_63 hI4_64 hO4_65 hI6_66 hO6_67 hI8 hO8 hB_68 hBq
  rw [sameT_refl]
  have hS : (IsVals y11 v2 ((txL baseT).map VB)) ∧ (Row y11 y3.heap.size 26 (txC baseT.version pa3 pb3 baseT.end')) := ⟨hX2_71, hT1_74⟩
  refine ⟨_, rfl, mixOn ⟨(fun w => (IsVals w v2 ((txL baseT).map VB)) ∧ (Row w y3.heap.size 26 (txC baseT.version pa3 pb3 baseT.end'))), (fun _ h => ⟨h.1, h.2⟩), hS, ?_⟩⟩
  go_frame
  refine dY _ hS (yPick _ _ _ true (.bool true) rfl rfl rfl rfl) ?_; go_frame
  refine dY _ hS (yMove _ (.bool true) rfl rfl rfl) ?_; go_frame
  refine dY _ hS (yLoadRowC Tryd.underlying26 rfl _ _ (txC baseT.version pa3 pb3 baseT.end') info_TxC (fun _ h => h.2) rfl rfl rfl) ?_; go_frame
  refine dLoud ?_
  refine kCall1 19 _ _ _ rfl rfl (by kernel_rfl) rfl ?_
  refine (tId_any (t := baseT) _ base_is base_fits hI3_72.of hO3_73.of (hK.below hB_81)).mono ?_
  rintro e y12 ⟨rfl, hBq⟩
  clear hS
  have hI1_82 := hI1_69.below hBq
  have hO1_83 := hO1_70.below hBq
  have hX2_84 := hX2_71.below hBq
  have hI3_85 := hI3_72.below hBq
  have hO3_86 := hO3_73.below hBq
  have hT1_87 := hT1_74.below hBq hT1_74.lt
  have hI4_88 := hI4_75.below hBq
  have hO4_89 := hO4_76.below hBq
  have hI6_90 := hI6_77.below hBq
  have hO6_91 := hO6_78.below hBq
  have hI8_92 := hI8_79.below hBq
  have hO8_93 := hO8_80.below hBq
  have hB_94 := hB_81.trans (hBq.mono hB_81.size)
  clear hI1_69 hO1_70 hX2_71 hI3_72 hO3_73 hT1_74 hI4_75 hO4_76 hI6_77 hO6_78 hI8_79 hO8_80 hB_81 hBq
  have hS : (IsVals y12 v2 ((txL baseT).map VB)) ∧ (Row y12 y3.heap.size 26 (txC baseT.version pa3 pb3 baseT.end')) := ⟨hX2_84, hT1_87⟩
  refine ⟨_, rfl, mixOn ⟨(fun w => (IsVals w v2 ((txL baseT).map VB)) ∧ (Row w y3.heap.size 26 (txC baseT.version pa3 pb3 baseT.end'))), (fun _ h => ⟨h.1, h.2⟩), hS, ?_⟩⟩
  go_frame
  refine dLoud ?_
  refine kCall0 9 _ rfl rfl (by kernel_rfl) ?_
  refine (base10_any _).mono ?_
  rintro e y13 ⟨pa11, pb11, rfl, hI11, hO11, hBq⟩
  clear hS
  have hI1_95 := hI1_82.below hBq
  have hO1_96 := hO1_83.below hBq
  have hX2_97 := hX2_84.below hBq
  have hI3_98 := hI3_85.below hBq
  have hO3_99 := hO3_86.below hBq
  have hT1_100 := hT1_87.below hBq hT1_87.lt
  have hI4_101 := hI4_88.below hBq
  have hO4_102 := hO4_89.below hBq
  have hI6_103 := hI6_90.below hBq
  have hO6_104 := hO6_91.below hBq
  have hI8_105 := hI8_92.below hBq
  have hO8_106 := hO8_93.below hBq
  have hB_107 := hB_94.trans (hBq.mono hB_94.size)
  clear hI1_82 hO1_83 hX2_84 hI3_85 hO3_86 hT1_87 hI4_88 hO4_89 hI6_90 hO6_91 hI8_92 hO8_93 hB_94 hBq
  have hS : (IsVals y13 v2 ((txL baseT).map VB)) ∧ (Row y13 y3.heap.size 26 (txC baseT.version pa3 pb3 baseT.end')) := ⟨hX2_97, hT1_100⟩
  refine ⟨_, rfl, mixOn ⟨(fun w => (IsVals w v2 ((txL baseT).map VB)) ∧ (Row w y3.heap.size 26 (txC baseT.version pa3 pb3 baseT.end'))), (fun _ h => ⟨h.1, h.2⟩), hS, ?_⟩⟩
  go_frame
  refine dLoud ?_
  refine kCall1 19 _ _ _ rfl rfl (by kernel_rfl) rfl ?_
  refine (tId_any (t := baseT) _ base_is base_fits hI11.of hO11.of (hK.below hB_107)).mono ?_
  rintro e y14 ⟨rfl, hBq⟩
  clear hS
  have hI1_108 := hI1_95.below hBq
  have hO1_109 := hO1_96.below hBq
  have hX2_110 := hX2_97.below hBq
  have hI3_111 := hI3_98.below hBq
  have hO3_112 := hO3_99.below hBq
  have hT1_113 := hT1_100.below hBq hT1_100.lt
  have hI4_114 := hI4_101.below hBq
  have hO4_115 := hO4_102.below hBq
  have hI6_116 := hI6_103.below hBq
  have hO6_117 := hO6_104.below hBq
  have hI8_118 := hI8_105.below hBq
  have hO8_119 := hO8_106.below hBq
  have hI11_120 := hI11.below hBq
  have hO11_121 := hO11.below hBq
  have hB_122 := hB_107.trans (hBq.mono hB_107.size)
  clear hI1_95 hO1_96 hX2_97 hI3_98 hO3_99 hT1_100 hI4_101 hO4_102 hI6_103 hO6_104 hI8_105 hO8_106 hI11 hO11 hB_107 hBq
  have hS : (IsVals y14 v2 ((txL baseT).map VB)) ∧ (Row y14 y3.heap.size 26 (txC baseT.version pa3 pb3 baseT.end')) := ⟨hX2_110, hT1_113⟩
  refine ⟨_, rfl, mixOn ⟨(fun w => (IsVals w v2 ((txL baseT).map VB)) ∧ (Row w y3.heap.size 26 (txC baseT.version pa3 pb3 baseT.end'))), (fun _ h => ⟨h.1, h.2⟩), hS, ?_⟩⟩
  go_frame
  refine dY _ hS (yEqlHash _ _ _ (idL baseT) (idL baseT) true (idL_len baseT) (idL_len baseT) rfl rfl rfl rfl (by simp)) ?_; go_frame
  refine dY _ hS (yPick _ _ _ true (.bool true) rfl rfl rfl rfl) ?_; go_frame
  refine dY _ hS (yMove _ (.bool true) rfl rfl rfl) ?_; go_frame
  refine dY _ hS (yLoadRowC Tryd.underlying26 rfl _ _ (txC baseT.version pa3 pb3 baseT.end') info_TxC (fun _ h => h.2) rfl rfl rfl) ?_; go_frame
  refine dY _ hS (yBuildHash0 rfl rfl) ?_; go_frame
  refine dLoud ?_
  refine kCall1 19 _ _ _ rfl rfl (by kernel_rfl) rfl ?_
  refine (tId_any (t := baseT) _ base_is base_fits hI3_111.of hO3_112.of (hK.below hB_122)).mono ?_
  rintro e y15 ⟨rfl, hBq⟩
  clear hS
  have hI1_123 := hI1_108.below hBq
  have hO1_124 := hO1_109.below hBq
  have hX2_125 := hX2_110.below hBq
  have hI3_126 := hI3_111.below hBq
  have hO3_127 := hO3_112.below hBq
  have hT1_128 := hT1_113.below hBq hT1_113.lt
  have hI4_129 := hI4_114.below hBq
  have hO4_130 := hO4_115.below hBq
  have hI6_131 := hI6_116.below hBq
  have hO6_132 := hO6_117.below hBq
  have hI8_133 := hI8_118.below hBq
  have hO8_134 := hO8_119.below hBq
  have hI11_135 := hI11_120.below hBq
  have hO11_136 := hO11_121.below hBq
  have hB_137 := hB_122.trans (hBq.mono hB_122.size)
  clear hI1_108 hO1_109 hX2_110 hI3_111 hO3_112 hT1_113 hI4_114 hO4_115 hI6_116 hO6_117 hI8_118 hO8_119 hI11_120 hO11_121 hB_122 hBq
  have hS : (IsVals y15 v2 ((txL baseT).map VB)) ∧ (Row y15 y3.heap.size 26 (txC baseT.version pa3 pb3 baseT.end')) := ⟨hX2_125, hT1_128⟩
  refine ⟨_, rfl, mixOn ⟨(fun w => (IsVals w v2 ((txL baseT).map VB)) ∧ (Row w y3.heap.size 26 (txC baseT.version pa3 pb3 baseT.end'))), (fun _ h => ⟨h.1, h.2⟩), hS, ?_⟩⟩
  go_frame
  refine dY _ hS (yNeqHash _ _ _ (idL baseT) z32 true (idL_len baseT) (z32_len) rfl rfl rfl rfl base_id') ?_; go_frame
  refine dY _ hS (yPick _ _ _ true (.bool true) rfl rfl rfl rfl) ?_; go_frame
  refine dY _ hS (yAssign _ (.bool true) rfl rfl rfl) ?_; go_frame
  refine dDone ?_
  go_wp2
  go_ret
  exact ⟨rfl, hB_137⟩
def greatB (t : TxP) : Bool := ((decide (30 < t.ins.length) || decide (30 < t.outs.length)) || t.ins.any fun i => decide (2000 < i.unlock.length)) || t.outs.any fun o => decide (2000 < o.2.length)
theorem any_stepO {p : (Int × List UInt8) → Bool} {is : List (Int × List UInt8)} {k : Nat} {i : Int × List UInt8} (h : is[k]? = some i) : (is.drop k).any p = (p i || (is.drop (k + 1)).any p) := by
  obtain ⟨hk, rfl⟩ := List.getElem?_eq_some_iff.1 h
  rw [List.drop_eq_getElem_cons hk]; rfl
theorem great_not {t : TxP} (h : greatB t = false) : t.Fits := by
  unfold greatB at h
  simp only [Bool.or_eq_false_iff, decide_eq_false_iff_not, List.any_eq_false, decide_eq_true_eq] at h
  obtain ⟨⟨⟨h1, h2⟩, h3⟩, h4⟩ := h
  exact ⟨by omega, by omega, fun i hi => by have := h3 i hi; omega, fun x hx => by have := h4 x hx; omega⟩
theorem great_30 {t : TxP} (h : greatB t = false) : t.ins.length ≤ 30 ∧ t.outs.length ≤ 30 := by
  unfold greatB at h
  simp only [Bool.or_eq_false_iff, decide_eq_false_iff_not] at h
  omega
set_option maxRecDepth 100000 in
set_option maxHeartbeats 8000000 in
theorem great_any {t : TxP} {a b : Value} (W0 : World) (ha : InsOf W0 a t.ins) (hb : OutsOf W0 b t.outs) : Calls Tryd.prog 15 #[.agg (txC t.version a b t.end')] W0 (BoolPost W0 (greatB t)) := by
  obtain ⟨zi, ei, hi⟩ := ha
  obtain ⟨zo, eo, hoo⟩ := hb
  obtain ⟨N, hN⟩ : ∃ N, t.ins.length = N := ⟨_, rfl⟩
  obtain ⟨M, hM⟩ : ∃ M, t.outs.length = M := ⟨_, rfl⟩
  have hzN : zi.length = N := by rw [fst_len ei, hN]
  have hzM : zo.length = M := by rw [fst_len eo, hM]
  obtain ⟨R, hR0⟩ : ∃ R, greatB t = R := ⟨_, rfl⟩
  rw [hR0]
  unfold greatB at hR0
  rw [hN, hM] at hR0
  by_cases h1 : 30 < N
  · have d1 : decide ((N : Int) > 30) = true := by simp; omega
    have hR1 : true = R := by rw [← hR0]; simp [h1]
    subst hR1
    clear hR0 h1
    go_enter Tryd.func15, Tryd.ntmps15
    go_wp2_with (first
      | ((with_reducible change wpList _ _ _ (Oper.mk (some 1) _ _ _ _ _ :: _) _ _); refine kBoxL _ _ _ rfl rfl rfl ?_; intro w1 hR hz1 hB1; have hi1 := hi.below hB1; have ho1 := hoo.below hB1; clear hz1; go_frame)
      | ((with_reducible change wpList _ _ _ (Oper.mk (some 7) _ _ _ _ _ :: _) _ _); refine kFld txCF1 _ _ 0 1 rfl rfl rfl rfl ?_; go_frame)
      | ((with_reducible change wpList _ _ _ (Oper.mk (some 8) _ _ _ _ _ :: _) _ _); refine kLd Tryd.underlying23 rfl _ _ 1 _ a hR rfl rfl rfl rfl ?_; go_frame)
      | ((with_reducible change wpList _ _ _ (Oper.mk (some 9) _ _ _ _ _ :: _) _ _); refine kLenIns _ a zi N hi1 hzN rfl rfl rfl ?_; go_frame)
      | ((with_reducible change wpList _ _ _ (Oper.mk (some 10) _ _ _ _ _ :: _) _ _); refine kGtrI _ _ _ _ .i64 (N : Int) 30 _ rfl rfl rfl rfl d1 ?_; go_frame))
    (try simp only [Exit.inBlock, Exit.then])
    refine retBT rfl rfl ?_
    exact ⟨rfl, hB1⟩
  have d1 : decide ((N : Int) > 30) = false := by simp; omega
  by_cases h2 : 30 < M
  · have d2 : decide ((M : Int) > 30) = true := by simp; omega
    have hR1 : true = R := by rw [← hR0]; simp [h2]
    subst hR1
    clear hR0 h1 h2
    go_enter Tryd.func15, Tryd.ntmps15
    go_wp2_with (first
      | ((with_reducible change wpList _ _ _ (Oper.mk (some 1) _ _ _ _ _ :: _) _ _); refine kBoxL _ _ _ rfl rfl rfl ?_; intro w1 hR hz1 hB1; have hi1 := hi.below hB1; have ho1 := hoo.below hB1; clear hz1; go_frame)
      | ((with_reducible change wpList _ _ _ (Oper.mk (some 7) _ _ _ _ _ :: _) _ _); refine kFld txCF1 _ _ 0 1 rfl rfl rfl rfl ?_; go_frame)
      | ((with_reducible change wpList _ _ _ (Oper.mk (some 8) _ _ _ _ _ :: _) _ _); refine kLd Tryd.underlying23 rfl _ _ 1 _ a hR rfl rfl rfl rfl ?_; go_frame)
      | ((with_reducible change wpList _ _ _ (Oper.mk (some 9) _ _ _ _ _ :: _) _ _); refine kLenIns _ a zi N hi1 hzN rfl rfl rfl ?_; go_frame)
      | ((with_reducible change wpList _ _ _ (Oper.mk (some 10) _ _ _ _ _ :: _) _ _); refine kGtrI _ _ _ _ .i64 (N : Int) 30 _ rfl rfl rfl rfl d1 ?_; go_frame)
      | ((with_reducible change wpList _ _ _ (Oper.mk (some 12) _ _ _ _ _ :: _) _ _); refine kFld txCF2 _ _ 0 2 rfl rfl rfl rfl ?_; go_frame)
      | ((with_reducible change wpList _ _ _ (Oper.mk (some 13) _ _ _ _ _ :: _) _ _); refine kLd Tryd.underlying24 rfl _ _ 2 _ b hR rfl rfl rfl rfl ?_; go_frame)
      | ((with_reducible change wpList _ _ _ (Oper.mk (some 14) _ _ _ _ _ :: _) _ _); refine kLenOutsT _ b zo M ho1 hzM rfl rfl rfl ?_; go_frame)
      | ((with_reducible change wpList _ _ _ (Oper.mk (some 15) _ _ _ _ _ :: _) _ _); refine kGtrI _ _ _ _ .i64 (M : Int) 30 _ rfl rfl rfl rfl d2 ?_; go_frame))
    (try simp only [Exit.inBlock, Exit.then])
    refine retBT rfl rfl ?_
    exact ⟨rfl, hB1⟩
  have d2 : decide ((M : Int) > 30) = false := by simp; omega
  have hR1 : (t.ins.any (fun i => decide (2000 < i.unlock.length)) || t.outs.any fun o => decide (2000 < o.2.length)) = R := by rw [← hR0]; simp [h1, h2]
  clear hR0
  go_enter Tryd.func15, Tryd.ntmps15
  go_wp2_with (first
    | ((with_reducible change wpList _ _ _ (Oper.mk (some 1) _ _ _ _ _ :: _) _ _); refine kBoxL _ _ _ rfl rfl rfl ?_; intro w1 hR hz1 hB1; have hi1 := hi.below hB1; have ho1 := hoo.below hB1; clear hz1; go_frame)
    | ((with_reducible change wpList _ _ _ (Oper.mk (some 7) _ _ _ _ _ :: _) _ _); refine kFld txCF1 _ _ 0 1 rfl rfl rfl rfl ?_; go_frame)
    | ((with_reducible change wpList _ _ _ (Oper.mk (some 8) _ _ _ _ _ :: _) _ _); refine kLd Tryd.underlying23 rfl _ _ 1 _ a hR rfl rfl rfl rfl ?_; go_frame)
    | ((with_reducible change wpList _ _ _ (Oper.mk (some 9) _ _ _ _ _ :: _) _ _); refine kLenIns _ a zi N hi1 hzN rfl rfl rfl ?_; go_frame)
    | ((with_reducible change wpList _ _ _ (Oper.mk (some 10) _ _ _ _ _ :: _) _ _); refine kGtrI _ _ _ _ .i64 (N : Int) 30 _ rfl rfl rfl rfl d1 ?_; go_frame)
    | ((with_reducible change wpList _ _ _ (Oper.mk (some 12) _ _ _ _ _ :: _) _ _); refine kFld txCF2 _ _ 0 2 rfl rfl rfl rfl ?_; go_frame)
    | ((with_reducible change wpList _ _ _ (Oper.mk (some 13) _ _ _ _ _ :: _) _ _); refine kLd Tryd.underlying24 rfl _ _ 2 _ b hR rfl rfl rfl rfl ?_; go_frame)
    | ((with_reducible change wpList _ _ _ (Oper.mk (some 14) _ _ _ _ _ :: _) _ _); refine kLenOutsT _ b zo M ho1 hzM rfl rfl rfl ?_; go_frame)
    | ((with_reducible change wpList _ _ _ (Oper.mk (some 15) _ _ _ _ _ :: _) _ _); refine kGtrI _ _ _ _ .i64 (M : Int) 30 _ rfl rfl rfl rfl d2 ?_; go_frame)
    | ((with_reducible change wpList _ _ _ (Oper.mk (some 17) _ _ _ _ _ :: _) _ _); refine kFld txCF1 _ _ 0 1 rfl rfl rfl rfl ?_; go_frame)
    | ((with_reducible change wpList _ _ _ (Oper.mk (some 18) _ _ _ _ _ :: _) _ _); refine kLd Tryd.underlying23 rfl _ _ 1 _ a hR rfl rfl rfl rfl ?_; go_frame)
    | ((with_reducible change wpList _ _ _ (Oper.mk (some 19) _ _ _ _ _ :: _) _ _); refine kLenIns _ a zi N hi1 hzN rfl rfl rfl ?_; go_frame))
  go_loopw [20] (fun x wr => ∃ k : Nat, k ≤ N ∧ x = .int .i64 (k : Int) ∧ ((t.ins.drop k).any (fun i => decide (2000 < i.unlock.length)) || t.outs.any fun o => decide (2000 < o.2.length)) = R ∧ Below w1.heap.size w1 wr) (fun x _ => N - (intOf x).toNat)
  case atStart => exact ⟨0, by omega, rfl, by rw [List.drop_zero]; exact hR1, Below.refl _ _⟩
  case round =>
    clear hR1
    obtain ⟨k, hk, rfl, hR1, hB⟩ := hrel
    have hsz := hB.size
    by_cases hlt : k < N
    · have hd : decide ((k : Int) < (N : Int)) = true := by simp; omega
      obtain ⟨⟨i, u⟩, hz⟩ : ∃ z, zi[k]? = some z := ⟨_, List.getElem?_eq_getElem (by omega)⟩
      have hik := fst_at ei hz
      have hu1 : IsVals w1 u (i.unlock.map VB) := hi1.2 _ (List.mem_of_getElem? hz)
      have har := hi1.below hB
      rw [any_step hik] at hR1
      obtain ⟨n, hn⟩ : ∃ n, i.unlock.length = n := ⟨_, rfl⟩
      obtain ⟨c, hc⟩ : ∃ c, decide (2000 < n) = c := ⟨_, rfl⟩
      rw [hn, hc] at hR1
      have hc2 : decide ((n : Int) > 2000) = c := by rw [← hc]; exact decide_eq_decide.2 (by omega)
      clear hc
      cases c
      · rw [Bool.false_or] at hR1
        have hR2 : Hid (((t.ins.drop (k + 1)).any (fun i => decide (2000 < i.unlock.length)) || t.outs.any fun o => decide (2000 < o.2.length)) = R) := hR1
        clear hR1
        go_wp2_with (first
          | ((with_reducible change wpList _ _ _ (Oper.mk (some 21) _ _ _ _ _ :: _) _ _); refine kLssI _ _ _ _ .i64 (k : Int) (N : Int) true rfl rfl rfl rfl hd ?_; go_frame)
          | ((with_reducible change wpList _ _ _ (Oper.mk (some 22) _ _ _ _ _ :: _) _ _); refine kIndexIn _ _ a zi k (i, u) har hz rfl rfl rfl rfl ?_; intro bb hbb; go_frame)
          | ((with_reducible change wpList _ _ _ (Oper.mk (some 23) _ _ _ _ _ :: _) _ _); refine kLoadInAt _ bb i u hbb rfl rfl rfl ?_; clear hbb har; go_frame)
          | ((with_reducible change wpList _ _ _ (Oper.mk (some 4) _ _ _ _ _ :: _) _ _); refine kAllocL _ _ rfl rfl zero_InC ?_; intro w5 hR5 hz5 hBq; have hB5 := hB.trans (hBq.mono hsz); clear hB hBq hz5; go_frame)
          | ((with_reducible change wpList _ _ _ (Oper.mk none _ _ _ _ _ :: _) _ _); refine kStoreIn _ _ _ i u _ hR5 (inC_size _ _) hu1.sl.one rfl rfl rfl rfl ?_; intro w6 hR6 hW6; have hB6 := hB5.trans (hW6.below hsz); have hu6 := hu1.below hB6; clear hB5 hW6 hR5; go_frame)
          | ((with_reducible change wpList _ _ _ (Oper.mk (some 24) _ _ _ _ _ :: _) _ _); refine kFld inCF1 _ _ 0 33 rfl rfl rfl rfl ?_; go_frame)
          | ((with_reducible change wpList _ _ _ (Oper.mk (some 25) _ _ _ _ _ :: _) _ _); refine kLd Tryd.underlying28 rfl _ _ 33 _ u hR6 (inC_33 _ _) rfl rfl rfl ?_; go_frame)
          | ((with_reducible change wpList _ _ _ (Oper.mk (some 26) _ _ _ _ _ :: _) _ _); refine kLenN _ _ _ u _ n rfl rfl rfl hu6 (by rw [List.length_map, hn]) Tryd.underlying28 ?_; go_frame)
          | ((with_reducible change wpList _ _ _ (Oper.mk (some 27) _ _ _ _ _ :: _) _ _); refine kGtrI _ _ _ _ .i64 (n : Int) 2000 _ rfl rfl rfl rfl hc2 ?_; go_frame)
          | ((with_reducible change wpList _ _ _ (Oper.mk (some 28) _ _ _ _ _ :: _) _ _); refine kAddI _ _ _ _ (k : Int) 1 ((k + 1 : Nat) : Int) (by omega) rfl rfl rfl rfl ?_; go_frame))
        go_roundw
        case rel => exact ⟨k + 1, by omega, rfl, hR2.out, hB6⟩
        case measure => simp [intOf]; omega
      · have hR2 : true = R := by rw [← hR1]; simp
        subst hR2
        clear hR1
        go_wp2_with (first
          | ((with_reducible change wpList _ _ _ (Oper.mk (some 21) _ _ _ _ _ :: _) _ _); refine kLssI _ _ _ _ .i64 (k : Int) (N : Int) true rfl rfl rfl rfl hd ?_; go_frame)
          | ((with_reducible change wpList _ _ _ (Oper.mk (some 22) _ _ _ _ _ :: _) _ _); refine kIndexIn _ _ a zi k (i, u) har hz rfl rfl rfl rfl ?_; intro bb hbb; go_frame)
          | ((with_reducible change wpList _ _ _ (Oper.mk (some 23) _ _ _ _ _ :: _) _ _); refine kLoadInAt _ bb i u hbb rfl rfl rfl ?_; clear hbb har; go_frame)
          | ((with_reducible change wpList _ _ _ (Oper.mk (some 4) _ _ _ _ _ :: _) _ _); refine kAllocL _ _ rfl rfl zero_InC ?_; intro w5 hR5 hz5 hBq; have hB5 := hB.trans (hBq.mono hsz); clear hB hBq hz5; go_frame)
          | ((with_reducible change wpList _ _ _ (Oper.mk none _ _ _ _ _ :: _) _ _); refine kStoreIn _ _ _ i u _ hR5 (inC_size _ _) hu1.sl.one rfl rfl rfl rfl ?_; intro w6 hR6 hW6; have hB6 := hB5.trans (hW6.below hsz); have hu6 := hu1.below hB6; clear hB5 hW6 hR5; go_frame)
          | ((with_reducible change wpList _ _ _ (Oper.mk (some 24) _ _ _ _ _ :: _) _ _); refine kFld inCF1 _ _ 0 33 rfl rfl rfl rfl ?_; go_frame)
          | ((with_reducible change wpList _ _ _ (Oper.mk (some 25) _ _ _ _ _ :: _) _ _); refine kLd Tryd.underlying28 rfl _ _ 33 _ u hR6 (inC_33 _ _) rfl rfl rfl ?_; go_frame)
          | ((with_reducible change wpList _ _ _ (Oper.mk (some 26) _ _ _ _ _ :: _) _ _); refine kLenN _ _ _ u _ n rfl rfl rfl hu6 (by rw [List.length_map, hn]) Tryd.underlying28 ?_; go_frame)
          | ((with_reducible change wpList _ _ _ (Oper.mk (some 27) _ _ _ _ _ :: _) _ _); refine kGtrI _ _ _ _ .i64 (n : Int) 2000 _ rfl rfl rfl rfl hc2 ?_; go_frame)
          | ((with_reducible change wpList _ _ _ (Oper.mk (some 28) _ _ _ _ _ :: _) _ _); refine kAddI _ _ _ _ (k : Int) 1 ((k + 1 : Nat) : Int) (by omega) rfl rfl rfl rfl ?_; go_frame))
        (try simp only [Exit.inBlock, Exit.then])
        refine retBT rfl rfl ?_
        exact ⟨rfl, hB1.trans (hB6.mono hB1.size)⟩
    · have hd : decide ((k : Int) < (N : Int)) = false := by simp; omega
      rw [List.drop_of_length_le (by omega), List.any_nil, Bool.false_or] at hR1
      have hR2 : Hid ((t.outs.any fun o => decide (2000 < o.2.length)) = R) := hR1
      clear hR1
      go_wp2_with (first
        | ((with_reducible change wpList _ _ _ (Oper.mk (some 21) _ _ _ _ _ :: _) _ _); refine kLssI _ _ _ _ .i64 (k : Int) (N : Int) false rfl rfl rfl rfl hd ?_; go_frame)
        | ((with_reducible change wpList _ _ _ (Oper.mk (some 29) _ _ _ _ _ :: _) _ _); refine kFld txCF2 _ _ 0 2 rfl rfl rfl rfl ?_; go_frame)
        | ((with_reducible change wpList _ _ _ (Oper.mk (some 30) _ _ _ _ _ :: _) _ _); refine kLd Tryd.underlying24 rfl _ _ 2 _ b (hR.below hB hR.lt) rfl rfl rfl rfl ?_; go_frame)
        | ((with_reducible change wpList _ _ _ (Oper.mk (some 31) _ _ _ _ _ :: _) _ _); refine kLenOutsT _ b zo M (ho1.below hB) hzM rfl rfl rfl ?_; go_frame))
      go_loopw [32] (fun x wr => ∃ k : Nat, k ≤ M ∧ x = .int .i64 (k : Int) ∧ ((t.outs.drop k).any fun o => decide (2000 < o.2.length)) = R ∧ Below w1.heap.size w1 wr) (fun x _ => M - (intOf x).toNat)
      case atStart => exact ⟨0, by omega, rfl, by rw [List.drop_zero]; exact hR2.out, hB⟩
      case round =>
        clear hR2 hB hd hlt hsz
        obtain ⟨k, hk, rfl, hR1, hB⟩ := hrel
        have hsz := hB.size
        by_cases hlt : k < M
        · have hd : decide ((k : Int) < (M : Int)) = true := by simp; omega
          obtain ⟨⟨⟨q, l⟩, u⟩, hz⟩ : ∃ z, zo[k]? = some z := ⟨_, List.getElem?_eq_getElem (by omega)⟩
          have hik := fst_at eo hz
          have hu1 : IsVals w1 u (l.map VB) := ho1.2 _ (List.mem_of_getElem? hz)
          have har := ho1.below hB
          rw [any_stepO hik] at hR1
          obtain ⟨n, hn⟩ : ∃ n, l.length = n := ⟨_, rfl⟩
          obtain ⟨c, hc⟩ : ∃ c, decide (2000 < n) = c := ⟨_, rfl⟩
          dsimp only at hR1
          rw [hn, hc] at hR1
          have hc2 : decide ((n : Int) > 2000) = c := by rw [← hc]; exact decide_eq_decide.2 (by omega)
          clear hc
          cases c
          · rw [Bool.false_or] at hR1
            have hR2 : Hid (((t.outs.drop (k + 1)).any fun o => decide (2000 < o.2.length)) = R) := hR1
            clear hR1
            go_wp2_with (first
              | ((with_reducible change wpList _ _ _ (Oper.mk (some 33) _ _ _ _ _ :: _) _ _); refine kLssI _ _ _ _ .i64 (k : Int) (M : Int) true rfl rfl rfl rfl hd ?_; go_frame)
              | ((with_reducible change wpList _ _ _ (Oper.mk (some 34) _ _ _ _ _ :: _) _ _); refine kIndexOutT _ _ b zo k ((q, l), u) har hz rfl rfl rfl rfl ?_; intro bb hbb; go_frame)
              | ((with_reducible change wpList _ _ _ (Oper.mk (some 35) _ _ _ _ _ :: _) _ _); refine kLoadOutT _ bb q l u hbb rfl rfl rfl ?_; clear hbb har; go_frame)
              | ((with_reducible change wpList _ _ _ (Oper.mk (some 6) _ _ _ _ _ :: _) _ _); refine kAllocL _ _ rfl rfl zero_OutC ?_; intro w5 hR5 hz5 hBq; have hB5 := hB.trans (hBq.mono hsz); clear hB hBq hz5; go_frame)
              | ((with_reducible change wpList _ _ _ (Oper.mk none _ _ _ _ _ :: _) _ _); refine kStoreOut _ _ _ q u _ hR5 rfl hu1 rfl rfl rfl rfl ?_; intro w6 hR6 hW6; have hB6 := hB5.trans (hW6.below hsz); have hu6 := hu1.below hB6; clear hB5 hW6 hR5; go_frame)
              | ((with_reducible change wpList _ _ _ (Oper.mk (some 36) _ _ _ _ _ :: _) _ _); refine kFld outCF1 _ _ 0 1 rfl rfl rfl rfl ?_; go_frame)
              | ((with_reducible change wpList _ _ _ (Oper.mk (some 37) _ _ _ _ _ :: _) _ _); refine kLd Tryd.underlying28 rfl _ _ 1 _ u hR6 rfl rfl rfl rfl ?_; go_frame)
              | ((with_reducible change wpList _ _ _ (Oper.mk (some 38) _ _ _ _ _ :: _) _ _); refine kLenN _ _ _ u _ n rfl rfl rfl hu6 (by rw [List.length_map, hn]) Tryd.underlying28 ?_; go_frame)
              | ((with_reducible change wpList _ _ _ (Oper.mk (some 39) _ _ _ _ _ :: _) _ _); refine kGtrI _ _ _ _ .i64 (n : Int) 2000 _ rfl rfl rfl rfl hc2 ?_; go_frame)
              | ((with_reducible change wpList _ _ _ (Oper.mk (some 40) _ _ _ _ _ :: _) _ _); refine kAddI _ _ _ _ (k : Int) 1 ((k + 1 : Nat) : Int) (by omega) rfl rfl rfl rfl ?_; go_frame))
            go_roundw
            case rel => exact ⟨k + 1, by omega, rfl, hR2.out, hB6⟩
            case measure => simp [intOf]; omega
          · have hR2 : true = R := by rw [← hR1]; simp
            subst hR2
            clear hR1
            go_wp2_with (first
              | ((with_reducible change wpList _ _ _ (Oper.mk (some 33) _ _ _ _ _ :: _) _ _); refine kLssI _ _ _ _ .i64 (k : Int) (M : Int) true rfl rfl rfl rfl hd ?_; go_frame)
              | ((with_reducible change wpList _ _ _ (Oper.mk (some 34) _ _ _ _ _ :: _) _ _); refine kIndexOutT _ _ b zo k ((q, l), u) har hz rfl rfl rfl rfl ?_; intro bb hbb; go_frame)
              | ((with_reducible change wpList _ _ _ (Oper.mk (some 35) _ _ _ _ _ :: _) _ _); refine kLoadOutT _ bb q l u hbb rfl rfl rfl ?_; clear hbb har; go_frame)
              | ((with_reducible change wpList _ _ _ (Oper.mk (some 6) _ _ _ _ _ :: _) _ _); refine kAllocL _ _ rfl rfl zero_OutC ?_; intro w5 hR5 hz5 hBq; have hB5 := hB.trans (hBq.mono hsz); clear hB hBq hz5; go_frame)
              | ((with_reducible change wpList _ _ _ (Oper.mk none _ _ _ _ _ :: _) _ _); refine kStoreOut _ _ _ q u _ hR5 rfl hu1 rfl rfl rfl rfl ?_; intro w6 hR6 hW6; have hB6 := hB5.trans (hW6.below hsz); have hu6 := hu1.below hB6; clear hB5 hW6 hR5; go_frame)
              | ((with_reducible change wpList _ _ _ (Oper.mk (some 36) _ _ _ _ _ :: _) _ _); refine kFld outCF1 _ _ 0 1 rfl rfl rfl rfl ?_; go_frame)
              | ((with_reducible change wpList _ _ _ (Oper.mk (some 37) _ _ _ _ _ :: _) _ _); refine kLd Tryd.underlying28 rfl _ _ 1 _ u hR6 rfl rfl rfl rfl ?_; go_frame)
              | ((with_reducible change wpList _ _ _ (Oper.mk (some 38) _ _ _ _ _ :: _) _ _); refine kLenN _ _ _ u _ n rfl rfl rfl hu6 (by rw [List.length_map, hn]) Tryd.underlying28 ?_; go_frame)
              | ((with_reducible change wpList _ _ _ (Oper.mk (some 39) _ _ _ _ _ :: _) _ _); refine kGtrI _ _ _ _ .i64 (n : Int) 2000 _ rfl rfl rfl rfl hc2 ?_; go_frame)
              | ((with_reducible change wpList _ _ _ (Oper.mk (some 40) _ _ _ _ _ :: _) _ _); refine kAddI _ _ _ _ (k : Int) 1 ((k + 1 : Nat) : Int) (by omega) rfl rfl rfl rfl ?_; go_frame))
            (try simp only [Exit.inBlock, Exit.then])
            refine retBT rfl rfl ?_
            exact ⟨rfl, hB1.trans (hB6.mono hB1.size)⟩
        · have hd : decide ((k : Int) < (M : Int)) = false := by simp; omega
          have hR2 : false = R := by rw [← hR1, List.drop_of_length_le (by omega)]; rfl
          subst hR2
          clear hR1
          go_wp2_with (first
            | ((with_reducible change wpList _ _ _ (Oper.mk (some 33) _ _ _ _ _ :: _) _ _); refine kLssI _ _ _ _ .i64 (k : Int) (M : Int) false rfl rfl rfl rfl hd ?_; go_frame))
          go_ret
          exact ⟨rfl, hB1.trans (hB.mono hB1.size)⟩
end Go.Proofs.YtaoaecbdjdcpdaaDoor
