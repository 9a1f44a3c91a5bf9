/-
  Layer 10: the walk of TxBytes.
-/
import Derived.Test.YtaoaecbdjdcpdaaDoorTxGreat
namespace Go.Proofs.YtaoaecbdjdcpdaaDoor
open Go Go.RowKit

theorem noTx_is : noTx.Is := ⟨by decide, by decide, (fun i hi => by cases hi), (fun x hx => by cases hx)⟩
theorem noTx_fits : noTx.Fits := ⟨by decide, by decide, (fun i hi => by cases hi), (fun x hx => by cases hx)⟩
set_option maxRecDepth 100000 in
set_option maxHeartbeats 8000000 in
theorem txBytes_walk {t : TxP} {a b lv : Value} {i : Int} {lock : List UInt8} (W0 : World) (hK : Keys W0) (ht : t.Is) (ha : InsOf W0 a t.ins) (hb : OutsOf W0 b t.outs) (hlv : IsVals W0 lv (lock.map VB)) : Calls Tryd.prog 4 #[.agg (txC t.version a b t.end'), .int .i64 i, lv] W0 (BoolPost W0 true) := by
  obtain ⟨nl, hnl⟩ : ∃ n, lock.length = n := ⟨_, rfl⟩
  obtain ⟨g, hg⟩ : ∃ g, greatB t = g := ⟨_, rfl⟩
  cases g
  case true =>
    have hB00 := Below.refl W0.heap.size W0
    go_enter Tryd.func4, Tryd.ntmps4
    go_wp2_with (first
      | ((with_reducible change wpList _ _ _ (Oper.mk (some 3) _ _ _ _ _ :: _) _ _); refine kBoxL _ _ _ rfl rfl rfl ?_; intro y1 hV3 hzq hBq; clear hzq; have hlv_1 := hlv.below hBq; have hB_2 := hB00.trans (hBq.mono hB00.size); clear hlv hB00 hBq; go_frame)
      | (go_at_call 12; refine (txAlive_any _ (hK.below hB_2)).mono ?_; rintro e y2 ⟨rfl, hBq⟩; have hlv_3 := hlv_1.below hBq; have hV3_4 := hV3.below hBq hV3.lt; have hB_5 := hB_2.trans (hBq.mono hB_2.size); clear hlv_1 hV3 hB_2 hBq; go_frame)
      | ((with_reducible change wpList _ _ _ (Oper.mk (some 11) _ _ _ _ _ :: _) _ _); refine kNot _ _ true rfl rfl rfl ?_; go_frame)
      | ((with_reducible change wpList _ _ _ (Oper.mk (some 12) _ _ _ _ _ :: _) _ _); refine kLoadRow _ _ _ _ (txC t.version a b t.end') _ rfl rfl rfl hV3_4 Tryd.underlying26 rfl info_TxC ?_; go_frame)
      | (go_at_call 15; refine (great_any (t := t) _ (ha.below hB_5) (hb.below hB_5)).mono ?_; rintro e y3 ⟨rfl, hBq⟩; have hlv_6 := hlv_3.below hBq; have hV3_7 := hV3_4.below hBq hV3_4.lt; have hB_8 := hB_5.trans (hBq.mono hB_5.size); clear hlv_3 hV3_4 hB_5 hBq; rw [hg]; go_frame))
    (try simp only [Exit.inBlock, Exit.then])
    refine retBT rfl rfl ?_
    exact ⟨rfl, hB_8⟩
  have hf := great_not hg
  by_cases hl : 500 < nl
  · have d17 : decide ((nl : Int) > 500) = true := by simp; omega
    have hB00 := Below.refl W0.heap.size W0
    go_enter Tryd.func4, Tryd.ntmps4
    go_wp2_with (first
      | ((with_reducible change wpList _ _ _ (Oper.mk (some 3) _ _ _ _ _ :: _) _ _); refine kBoxL _ _ _ rfl rfl rfl ?_; intro y1 hV3 hzq hBq; clear hzq; have hlv_1 := hlv.below hBq; have hB_2 := hB00.trans (hBq.mono hB00.size); clear hlv hB00 hBq; go_frame)
      | (go_at_call 12; refine (txAlive_any _ (hK.below hB_2)).mono ?_; rintro e y2 ⟨rfl, hBq⟩; have hlv_3 := hlv_1.below hBq; have hV3_4 := hV3.below hBq hV3.lt; have hB_5 := hB_2.trans (hBq.mono hB_2.size); clear hlv_1 hV3 hB_2 hBq; go_frame)
      | ((with_reducible change wpList _ _ _ (Oper.mk (some 11) _ _ _ _ _ :: _) _ _); refine kNot _ _ true rfl rfl rfl ?_; go_frame)
      | ((with_reducible change wpList _ _ _ (Oper.mk (some 12) _ _ _ _ _ :: _) _ _); refine kLoadRow _ _ _ _ (txC t.version a b t.end') _ rfl rfl rfl hV3_4 Tryd.underlying26 rfl info_TxC ?_; go_frame)
      | (go_at_call 15; refine (great_any (t := t) _ (ha.below hB_5) (hb.below hB_5)).mono ?_; rintro e y3 ⟨rfl, hBq⟩; have hlv_6 := hlv_3.below hBq; have hV3_7 := hV3_4.below hBq hV3_4.lt; have hB_8 := hB_5.trans (hBq.mono hB_5.size); clear hlv_3 hV3_4 hB_5 hBq; rw [hg]; go_frame)
      | ((with_reducible change wpList _ _ _ (Oper.mk (some 16) _ _ _ _ _ :: _) _ _); refine kLenN _ _ _ lv _ nl rfl rfl rfl hlv_6 (by rw [List.length_map, hnl]) Tryd.underlying28 ?_; go_frame)
      | ((with_reducible change wpList _ _ _ (Oper.mk (some 17) _ _ _ _ _ :: _) _ _); refine kGtrI _ _ _ _ .i64 (nl : Int) 500 true rfl rfl rfl rfl d17 ?_; go_frame))
    (try simp only [Exit.inBlock, Exit.then])
    refine retBT rfl rfl ?_
    exact ⟨rfl, hB_8⟩
  · have d17 : decide ((nl : Int) > 500) = false := by simp; omega
    have hl2 : lock.length ≤ 2000 := by omega
    have hparse := parse_txL ht hf
    have hlen : (txL t).length ≤ 1000000 := Nat.le_trans (txL_len ht hf) (by decide)
    have hsame2 : (txL t == txL t) = true := by simp
    clear hl
    have hB00 := Below.refl W0.heap.size W0
    go_enter Tryd.func4, Tryd.ntmps4
    go_wp2_with (first
      | ((with_reducible change wpList _ _ _ (Oper.mk (some 3) _ _ _ _ _ :: _) _ _); refine kBoxL _ _ _ rfl rfl rfl ?_; intro y1 hV3 hzq hBq; clear hzq; have hlv_1 := hlv.below hBq; have hB_2 := hB00.trans (hBq.mono hB00.size); clear hlv hB00 hBq; go_frame)
      | (go_at_call 12; refine (txAlive_any _ (hK.below hB_2)).mono ?_; rintro e y2 ⟨rfl, hBq⟩; have hlv_3 := hlv_1.below hBq; have hV3_4 := hV3.below hBq hV3.lt; have hB_5 := hB_2.trans (hBq.mono hB_2.size); clear hlv_1 hV3 hB_2 hBq; go_frame)
      | ((with_reducible change wpList _ _ _ (Oper.mk (some 11) _ _ _ _ _ :: _) _ _); refine kNot _ _ true rfl rfl rfl ?_; go_frame)
      | ((with_reducible change wpList _ _ _ (Oper.mk (some 12) _ _ _ _ _ :: _) _ _); refine kLoadRow _ _ _ _ (txC t.version a b t.end') _ rfl rfl rfl hV3_4 Tryd.underlying26 rfl info_TxC ?_; go_frame)
      | (go_at_call 15; refine (great_any (t := t) _ (ha.below hB_5) (hb.below hB_5)).mono ?_; rintro e y3 ⟨rfl, hBq⟩; have hlv_6 := hlv_3.below hBq; have hV3_7 := hV3_4.below hBq hV3_4.lt; have hB_8 := hB_5.trans (hBq.mono hB_5.size); clear hlv_3 hV3_4 hB_5 hBq; rw [hg]; go_frame)
      | ((with_reducible change wpList _ _ _ (Oper.mk (some 16) _ _ _ _ _ :: _) _ _); refine kLenN _ _ _ lv _ nl rfl rfl rfl hlv_6 (by rw [List.length_map, hnl]) Tryd.underlying28 ?_; go_frame)
      | ((with_reducible change wpList _ _ _ (Oper.mk (some 17) _ _ _ _ _ :: _) _ _); refine kGtrI _ _ _ _ .i64 (nl : Int) 500 false rfl rfl rfl rfl d17 ?_; go_frame)
      | ((with_reducible change wpList _ _ _ (Oper.mk (some 19) _ _ _ _ _ :: _) _ _); refine kLoadRow _ _ _ _ (txC t.version a b t.end') _ rfl rfl rfl hV3_7 Tryd.underlying26 rfl info_TxC ?_; go_frame)
      | (go_at_call 11; refine (tBytes_any (t := t) _ ht hf (ha.below hB_8) (hb.below hB_8)).mono ?_; rintro e y4 ⟨v3, rfl, hX3o, hBq⟩; have hlv_9 := hlv_6.below hBq; have hV3_10 := hV3_7.below hBq hV3_7.lt; have hB_11 := hB_8.trans (hBq.mono hB_8.size); clear hlv_6 hV3_7 hB_8 hBq; have hX3 := hX3o.vals; clear hX3o; go_frame)
      | (go_at_call 10; refine (tParse_any (l := (txL t)) _ hX3 hlen).mono ?_; rintro e y5 ⟨pa4, pb4, rfl, hI4, hO4, hBq⟩; have hlv_12 := hlv_9.below hBq; have hV3_13 := hV3_10.below hBq hV3_10.lt; have hX3_14 := hX3.below hBq; have hB_15 := hB_11.trans (hBq.mono hB_11.size); clear hlv_9 hV3_10 hX3 hB_11 hBq; rw [hparse] at hI4 hO4 ⊢; go_frame)
      | ((with_reducible change wpList _ _ _ (Oper.mk (some 8) _ _ _ _ _ :: _) _ _); refine kAllocL _ _ rfl rfl zero_TxC ?_; intro y6 hV8 hzq hBq; clear hzq; have hP := hBq; clear hBq; go_frame)
      | ((with_reducible change wpList _ _ _ (Oper.mk none (Op.store _ (Operand.tmp 8) _) _ _ _ _ :: _) _ _); refine kStoreTx _ _ _ t.version t.end' pa4 pb4 _ hV8 rfl hI4.of.sl.one hO4.of.sl.one rfl rfl rfl rfl ?_; intro y7 hT8 hWq; have hPn := hP.trans (hWq.below (Nat.le_refl _)); clear hP; have hP := hPn; clear hPn; clear hWq hV8; have hlv_16 := hlv_12.below hP; have hV3_17 := hV3_13.below hP hV3_13.lt; have hX3_18 := hX3_14.below hP; have hI4_19 := hI4.below hP; have hO4_20 := hO4.below hP; have hB_21 := hB_15.trans (hP.mono hB_15.size); clear hlv_12 hV3_13 hX3_14 hI4 hO4 hB_15 hP; go_frame))
    refine region_mixD [(0, true), (1, true), (2, true), (3, false), (4, true), (5, true), (6, true), (7, true), (8, true), (9, true), (10, true), (11, true), (12, true), (13, false), (14, true), (15, true), (16, true), (17, true), (18, true), (19, false), (20, true), (21, true), (22, true), (23, true), (25, true), (24, false), (26, false), (27, true), (28, true)] (fun w => (IsVals w lv (lock.map VB)) ∧ (Row w W0.heap.size 26 (txC t.version a b t.end')) ∧ (IsVals w v3 ((txL t).map VB)) ∧ (Row w y5.heap.size 26 (txC t.version pa4 pb4 t.end'))) (by kernel_rfl) (by kernel_rfl) rfl ?_
    intro z0 hBd hsd
    clear hsd
    have hlv_22 := hlv_16.below hBd
    have hV3_23 := hV3_17.below hBd hV3_17.lt
    have hX3_24 := hX3_18.below hBd
    have hI4_25 := hI4_19.below hBd
    have hO4_26 := hO4_20.below hBd
    have hT8_27 := hT8.below hBd hT8.lt
    have hB_28 := hB_21.trans (hBd.mono hB_21.size)
    clear hlv_16 hV3_17 hX3_18 hI4_19 hO4_20 hT8 hB_21 hBd
    simp only [List.map_cons, List.map_nil]
    dsimp only [List.filterMap, List.getElem?_cons_zero, List.getElem?_cons_succ]
    have hS : (IsVals z0 lv (lock.map VB)) ∧ (Row z0 W0.heap.size 26 (txC t.version a b t.end')) ∧ (IsVals z0 v3 ((txL t).map VB)) ∧ (Row z0 y5.heap.size 26 (txC t.version pa4 pb4 t.end')) := ⟨hlv_22, hV3_23, hX3_24, hT8_27⟩
    refine dY _ hS (yMove _ v3 rfl rfl rfl) ?_; go_frame
    refine dY _ hS (yStr _ _ _ _ v3 (txL t) rfl rfl rfl (fun _ h => h.2.2.1) Tryd.underlying28 Tryd.underlying5 Tryd.underlying9) ?_; go_frame
    refine dY _ hS (yLoadRowC Tryd.underlying26 rfl _ _ (txC t.version a b t.end') info_TxC (fun _ h => h.2.1) rfl rfl rfl) ?_; go_frame
    refine dLoud ?_
    refine kCall1 16 _ _ _ rfl rfl (by kernel_rfl) rfl ?_
    refine (yBytes_any (t := t) _ ht hf (ha.below hB_28) (hb.below hB_28)).mono ?_
    rintro e y8 ⟨v5, rfl, hX5o, hBq⟩
    clear hS
    have hlv_29 := hlv_22.below hBq
    have hV3_30 := hV3_23.below hBq hV3_23.lt
    have hX3_31 := hX3_24.below hBq
    have hI4_32 := hI4_25.below hBq
    have hO4_33 := hO4_26.below hBq
    have hT8_34 := hT8_27.below hBq hT8_27.lt
    have hB_35 := hB_28.trans (hBq.mono hB_28.size)
    clear hlv_22 hV3_23 hX3_24 hI4_25 hO4_26 hT8_27 hB_28 hBq
    have hX5 := hX5o.vals
    clear hX5o
    have hS : (IsVals y8 lv (lock.map VB)) ∧ (Row y8 W0.heap.size 26 (txC t.version a b t.end')) ∧ (IsVals y8 v3 ((txL t).map VB)) ∧ (Row y8 y5.heap.size 26 (txC t.version pa4 pb4 t.end')) ∧ (IsVals y8 v5 ((txL t).map VB)) := ⟨hlv_29, hV3_30, hX3_31, hT8_34, hX5⟩
    refine ⟨_, rfl, mixOn ⟨(fun w => (IsVals w lv (lock.map VB)) ∧ (Row w W0.heap.size 26 (txC t.version a b t.end')) ∧ (IsVals w v3 ((txL t).map VB)) ∧ (Row w y5.heap.size 26 (txC t.version pa4 pb4 t.end')) ∧ (IsVals w v5 ((txL t).map VB))), (fun _ h => ⟨h.1, h.2.1, h.2.2.1, h.2.2.2.1⟩), hS, ?_⟩⟩
    go_frame
    refine dY _ hS (yStr _ _ _ _ v5 (txL t) rfl rfl rfl (fun _ h => h.2.2.2.2) Tryd.underlying28 Tryd.underlying5 Tryd.underlying9) ?_; go_frame
    refine dY _ hS (yNeqStr _ _ _ _ (txL t) (txL t) false rfl rfl rfl rfl (by simp)) ?_; go_frame
    refine dY _ hS (yMove _ (.bool false) rfl rfl rfl) ?_; go_frame
    refine dY _ hS (yMove _ (.int .i64 0) rfl rfl rfl) ?_; go_frame
    refine dY _ hS (yNeqI _ _ _ _ .i64 0 0 false rfl rfl rfl rfl (by simp)) ?_; go_frame
    refine dY _ hS (yPick _ _ _ false (.bool false) rfl rfl rfl rfl) ?_; go_frame
    refine dY _ hS (yMove _ (.bool false) rfl rfl rfl) ?_; go_frame
    refine dY _ hS (yLoadRowC Tryd.underlying26 rfl _ _ (txC t.version pa4 pb4 t.end') info_TxC (fun _ h => h.2.2.2.1) rfl rfl rfl) ?_; go_frame
    refine dY _ hS (yLoadRowC Tryd.underlying26 rfl _ _ (txC t.version a b t.end') info_TxC (fun _ h => h.2.1) rfl rfl rfl) ?_; go_frame
    refine dLoud ?_
    refine kCall2 17 _ _ _ _ _ rfl rfl (by kernel_rfl) rfl rfl ?_
    refine (tSame_any (t := t) (u := t) _ ht ht ⟨Nat.le_trans (hf).1 (by decide), Nat.le_trans (hf).2.1 (by decide)⟩ hI4_32.of hO4_33.of (ha.below hB_35) (hb.below hB_35)).mono ?_
    rintro e y9 ⟨rfl, hBq⟩
    clear hS
    have hlv_36 := hlv_29.below hBq
    have hV3_37 := hV3_30.below hBq hV3_30.lt
    have hX3_38 := hX3_31.below hBq
    have hI4_39 := hI4_32.below hBq
    have hO4_40 := hO4_33.below hBq
    have hT8_41 := hT8_34.below hBq hT8_34.lt
    have hX5_42 := hX5.below hBq
    have hB_43 := hB_35.trans (hBq.mono hB_35.size)
    clear hlv_29 hV3_30 hX3_31 hI4_32 hO4_33 hT8_34 hX5 hB_35 hBq
    rw [sameT_refl]
    have hS : (IsVals y9 lv (lock.map VB)) ∧ (Row y9 W0.heap.size 26 (txC t.version a b t.end')) ∧ (IsVals y9 v3 ((txL t).map VB)) ∧ (Row y9 y5.heap.size 26 (txC t.version pa4 pb4 t.end')) ∧ (IsVals y9 v5 ((txL t).map VB)) := ⟨hlv_36, hV3_37, hX3_38, hT8_41, hX5_42⟩
    refine ⟨_, rfl, mixOn ⟨(fun w => (IsVals w lv (lock.map VB)) ∧ (Row w W0.heap.size 26 (txC t.version a b t.end')) ∧ (IsVals w v3 ((txL t).map VB)) ∧ (Row w y5.heap.size 26 (txC t.version pa4 pb4 t.end')) ∧ (IsVals w v5 ((txL t).map VB))), (fun _ h => ⟨h.1, h.2.1, h.2.2.1, h.2.2.2.1, h.2.2.2.2⟩), hS, ?_⟩⟩
    go_frame
    refine dY _ hS (yNotC _ _ true rfl rfl rfl) ?_; go_frame
    refine dY _ hS (yPick _ _ _ false (.bool false) rfl rfl rfl rfl) ?_; go_frame
    refine dY _ hS (yMove _ (.bool false) rfl rfl rfl) ?_; go_frame
    refine dY _ hS (yLoadRowC Tryd.underlying26 rfl _ _ (txC t.version pa4 pb4 t.end') info_TxC (fun _ h => h.2.2.2.1) rfl rfl rfl) ?_; go_frame
    refine dY _ hS (yLoadRowC Tryd.underlying26 rfl _ _ (txC t.version a b t.end') info_TxC (fun _ h => h.2.1) rfl rfl rfl) ?_; go_frame
    refine dLoud ?_
    refine kCall2 18 _ _ _ _ _ rfl rfl (by kernel_rfl) rfl rfl ?_
    refine (ySame_any (t := t) (u := t) _ ht hf ht hf hI4_39.of hO4_40.of (ha.below hB_43) (hb.below hB_43)).mono ?_
    rintro e y10 ⟨rfl, hBq⟩
    clear hS
    have hlv_44 := hlv_36.below hBq
    have hV3_45 := hV3_37.below hBq hV3_37.lt
    have hX3_46 := hX3_38.below hBq
    have hI4_47 := hI4_39.below hBq
    have hO4_48 := hO4_40.below hBq
    have hT8_49 := hT8_41.below hBq hT8_41.lt
    have hX5_50 := hX5_42.below hBq
    have hB_51 := hB_43.trans (hBq.mono hB_43.size)
    clear hlv_36 hV3_37 hX3_38 hI4_39 hO4_40 hT8_41 hX5_42 hB_43 hBq
    rw [hsame2]
    have hS : (IsVals y10 lv (lock.map VB)) ∧ (Row y10 W0.heap.size 26 (txC t.version a b t.end')) ∧ (IsVals y10 v3 ((txL t).map VB)) ∧ (Row y10 y5.heap.size 26 (txC t.version pa4 pb4 t.end')) ∧ (IsVals y10 v5 ((txL t).map VB)) := ⟨hlv_44, hV3_45, hX3_46, hT8_49, hX5_50⟩
    refine ⟨_, rfl, mixOn ⟨(fun w => (IsVals w lv (lock.map VB)) ∧ (Row w W0.heap.size 26 (txC t.version a b t.end')) ∧ (IsVals w v3 ((txL t).map VB)) ∧ (Row w y5.heap.size 26 (txC t.version pa4 pb4 t.end')) ∧ (IsVals w v5 ((txL t).map VB))), (fun _ h => ⟨h.1, h.2.1, h.2.2.1, h.2.2.2.1, h.2.2.2.2⟩), hS, ?_⟩⟩
    go_frame
    refine dY _ hS (yNotC _ _ true rfl rfl rfl) ?_; go_frame
    refine dY _ hS (yPick _ _ _ false (.bool false) rfl rfl rfl rfl) ?_; go_frame
    refine dY _ hS (yMove _ (.bool false) rfl rfl rfl) ?_; go_frame
    refine dY _ hS (yLoadRowC Tryd.underlying26 rfl _ _ (txC t.version a b t.end') info_TxC (fun _ h => h.2.1) rfl rfl rfl) ?_; go_frame
    refine dY _ hS (yLoadRowC Tryd.underlying26 rfl _ _ (txC t.version a b t.end') info_TxC (fun _ h => h.2.1) rfl rfl rfl) ?_; go_frame
    refine dLoud ?_
    refine kCall1 19 _ _ _ rfl rfl (by kernel_rfl) rfl ?_
    refine (tId_any (t := t) _ ht hf (ha.below hB_51) (hb.below hB_51) (hK.below hB_51)).mono ?_
    rintro e y11 ⟨rfl, hBq⟩
    clear hS
    have hlv_52 := hlv_44.below hBq
    have hV3_53 := hV3_45.below hBq hV3_45.lt
    have hX3_54 := hX3_46.below hBq
    have hI4_55 := hI4_47.below hBq
    have hO4_56 := hO4_48.below hBq
    have hT8_57 := hT8_49.below hBq hT8_49.lt
    have hX5_58 := hX5_50.below hBq
    have hB_59 := hB_51.trans (hBq.mono hB_51.size)
    clear hlv_44 hV3_45 hX3_46 hI4_47 hO4_48 hT8_49 hX5_50 hB_51 hBq
    have hS : (IsVals y11 lv (lock.map VB)) ∧ (Row y11 W0.heap.size 26 (txC t.version a b t.end')) ∧ (IsVals y11 v3 ((txL t).map VB)) ∧ (Row y11 y5.heap.size 26 (txC t.version pa4 pb4 t.end')) ∧ (IsVals y11 v5 ((txL t).map VB)) := ⟨hlv_52, hV3_53, hX3_54, hT8_57, hX5_58⟩
    refine ⟨_, rfl, mixOn ⟨(fun w => (IsVals w lv (lock.map VB)) ∧ (Row w W0.heap.size 26 (txC t.version a b t.end')) ∧ (IsVals w v3 ((txL t).map VB)) ∧ (Row w y5.heap.size 26 (txC t.version pa4 pb4 t.end')) ∧ (IsVals w v5 ((txL t).map VB))), (fun _ h => ⟨h.1, h.2.1, h.2.2.1, h.2.2.2.1, h.2.2.2.2⟩), hS, ?_⟩⟩
    go_frame
    refine dLoud ?_
    refine kCall1 20 _ _ _ rfl rfl (by kernel_rfl) rfl ?_
    refine (yId_any (t := t) _ ht hf (ha.below hB_59) (hb.below hB_59)).mono ?_
    rintro e y12 ⟨rfl, hBq⟩
    clear hS
    have hlv_60 := hlv_52.below hBq
    have hV3_61 := hV3_53.below hBq hV3_53.lt
    have hX3_62 := hX3_54.below hBq
    have hI4_63 := hI4_55.below hBq
    have hO4_64 := hO4_56.below hBq
    have hT8_65 := hT8_57.below hBq hT8_57.lt
    have hX5_66 := hX5_58.below hBq
    have hB_67 := hB_59.trans (hBq.mono hB_59.size)
    clear hlv_52 hV3_53 hX3_54 hI4_55 hO4_56 hT8_57 hX5_58 hB_59 hBq
    have hS : (IsVals y12 lv (lock.map VB)) ∧ (Row y12 W0.heap.size 26 (txC t.version a b t.end')) ∧ (IsVals y12 v3 ((txL t).map VB)) ∧ (Row y12 y5.heap.size 26 (txC t.version pa4 pb4 t.end')) ∧ (IsVals y12 v5 ((txL t).map VB)) := ⟨hlv_60, hV3_61, hX3_62, hT8_65, hX5_66⟩
    refine ⟨_, rfl, mixOn ⟨(fun w => (IsVals w lv (lock.map VB)) ∧ (Row w W0.heap.size 26 (txC t.version a b t.end')) ∧ (IsVals w v3 ((txL t).map VB)) ∧ (Row w y5.heap.size 26 (txC t.version pa4 pb4 t.end')) ∧ (IsVals w v5 ((txL t).map VB))), (fun _ h => ⟨h.1, h.2.1, h.2.2.1, h.2.2.2.1, h.2.2.2.2⟩), hS, ?_⟩⟩
    go_frame
    refine dY _ hS (yNeqHash _ _ _ (idL t) (idL t) false (idL_len t) (idL_len t) rfl rfl rfl rfl (by simp)) ?_; go_frame
    refine dY _ hS (yPick _ _ _ false (.bool false) rfl rfl rfl rfl) ?_; go_frame
    refine dDone ?_
    go_wp2
    go_wp2
    refine region_mixD [(0, true), (2, true), (1, false), (3, false), (4, true), (5, true), (6, true), (8, true), (7, false), (9, false), (10, true), (11, true), (12, true), (13, true), (14, true), (15, true), (17, true), (18, true), (19, true), (16, false), (20, false), (21, true), (22, true), (23, true), (24, true), (27, true), (28, true), (25, false), (26, true), (29, true), (30, true), (31, true)] (fun w => (IsVals w lv (lock.map VB)) ∧ (Row w W0.heap.size 26 (txC t.version a b t.end')) ∧ (IsVals w v3 ((txL t).map VB)) ∧ (Row w y5.heap.size 26 (txC t.version pa4 pb4 t.end')) ∧ (IsVals w v5 ((txL t).map VB))) (by kernel_rfl) (by kernel_rfl) rfl ?_
    intro z0 hBd hsd
    clear hsd
    have hlv_68 := hlv_60.below hBd
    have hV3_69 := hV3_61.below hBd hV3_61.lt
    have hX3_70 := hX3_62.below hBd
    have hI4_71 := hI4_63.below hBd
    have hO4_72 := hO4_64.below hBd
    have hT8_73 := hT8_65.below hBd hT8_65.lt
    have hX5_74 := hX5_66.below hBd
    have hB_75 := hB_67.trans (hBd.mono hB_67.size)
    clear hlv_60 hV3_61 hX3_62 hI4_63 hO4_64 hT8_65 hX5_66 hB_67 hBd
    simp only [List.map_cons, List.map_nil]
    dsimp only [List.filterMap, List.getElem?_cons_zero, List.getElem?_cons_succ]
    have hS : (IsVals z0 lv (lock.map VB)) ∧ (Row z0 W0.heap.size 26 (txC t.version a b t.end')) ∧ (IsVals z0 v3 ((txL t).map VB)) ∧ (Row z0 y5.heap.size 26 (txC t.version pa4 pb4 t.end')) ∧ (IsVals z0 v5 ((txL t).map VB)) := ⟨hlv_68, hV3_69, hX3_70, hT8_73, hX5_74⟩
    refine dY _ hS (yLoadRowC Tryd.underlying26 rfl _ _ (txC t.version a b t.end') info_TxC (fun _ h => h.2.1) rfl rfl rfl) ?_; go_frame
    refine dY _ hS (yLoadRowC Tryd.underlying26 rfl _ _ (txC t.version a b t.end') info_TxC (fun _ h => h.2.1) rfl rfl rfl) ?_; go_frame
    refine dLoud ?_
    refine kCall1 13 _ _ _ rfl rfl (by kernel_rfl) rfl ?_
    refine (tCheck_any (t := t) _ ht hf (ha.below hB_75) (hb.below hB_75)).mono ?_
    rintro e y13 ⟨rfl, hBq⟩
    clear hS
    have hlv_76 := hlv_68.below hBq
    have hV3_77 := hV3_69.below hBq hV3_69.lt
    have hX3_78 := hX3_70.below hBq
    have hI4_79 := hI4_71.below hBq
    have hO4_80 := hO4_72.below hBq
    have hT8_81 := hT8_73.below hBq hT8_73.lt
    have hX5_82 := hX5_74.below hBq
    have hB_83 := hB_75.trans (hBq.mono hB_75.size)
    clear hlv_68 hV3_69 hX3_70 hI4_71 hO4_72 hT8_73 hX5_74 hB_75 hBq
    have hS : (IsVals y13 lv (lock.map VB)) ∧ (Row y13 W0.heap.size 26 (txC t.version a b t.end')) ∧ (IsVals y13 v3 ((txL t).map VB)) ∧ (Row y13 y5.heap.size 26 (txC t.version pa4 pb4 t.end')) ∧ (IsVals y13 v5 ((txL t).map VB)) := ⟨hlv_76, hV3_77, hX3_78, hT8_81, hX5_82⟩
    refine ⟨_, rfl, mixOn ⟨(fun w => (IsVals w lv (lock.map VB)) ∧ (Row w W0.heap.size 26 (txC t.version a b t.end')) ∧ (IsVals w v3 ((txL t).map VB)) ∧ (Row w y5.heap.size 26 (txC t.version pa4 pb4 t.end')) ∧ (IsVals w v5 ((txL t).map VB))), (fun _ h => ⟨h.1, h.2.1, h.2.2.1, h.2.2.2.1, h.2.2.2.2⟩), hS, ?_⟩⟩
    go_frame
    refine dLoud ?_
    refine kCall1 21 _ _ _ rfl rfl (by kernel_rfl) rfl ?_
    refine (yCheck_any (t := t) _ ht hf (ha.below hB_83) (hb.below hB_83)).mono ?_
    rintro e y14 ⟨rfl, hBq⟩
    clear hS
    have hlv_84 := hlv_76.below hBq
    have hV3_85 := hV3_77.below hBq hV3_77.lt
    have hX3_86 := hX3_78.below hBq
    have hI4_87 := hI4_79.below hBq
    have hO4_88 := hO4_80.below hBq
    have hT8_89 := hT8_81.below hBq hT8_81.lt
    have hX5_90 := hX5_82.below hBq
    have hB_91 := hB_83.trans (hBq.mono hB_83.size)
    clear hlv_76 hV3_77 hX3_78 hI4_79 hO4_80 hT8_81 hX5_82 hB_83 hBq
    have hS : (IsVals y14 lv (lock.map VB)) ∧ (Row y14 W0.heap.size 26 (txC t.version a b t.end')) ∧ (IsVals y14 v3 ((txL t).map VB)) ∧ (Row y14 y5.heap.size 26 (txC t.version pa4 pb4 t.end')) ∧ (IsVals y14 v5 ((txL t).map VB)) := ⟨hlv_84, hV3_85, hX3_86, hT8_89, hX5_90⟩
    refine ⟨_, rfl, mixOn ⟨(fun w => (IsVals w lv (lock.map VB)) ∧ (Row w W0.heap.size 26 (txC t.version a b t.end')) ∧ (IsVals w v3 ((txL t).map VB)) ∧ (Row w y5.heap.size 26 (txC t.version pa4 pb4 t.end')) ∧ (IsVals w v5 ((txL t).map VB))), (fun _ h => ⟨h.1, h.2.1, h.2.2.1, h.2.2.2.1, h.2.2.2.2⟩), hS, ?_⟩⟩
    go_frame
    refine dY _ hS (yEqlIC _ _ _ _ .i64 (checkN t) (checkN t) true rfl rfl rfl rfl (by simp)) ?_; go_frame
    refine dY _ hS (yMove _ (.bool true) rfl rfl rfl) ?_; go_frame
    refine dY _ hS (yLoadRowC Tryd.underlying26 rfl _ _ (txC t.version a b t.end') info_TxC (fun _ h => h.2.1) rfl rfl rfl) ?_; go_frame
    refine dY _ hS (yLoadRowC Tryd.underlying26 rfl _ _ (txC t.version a b t.end') info_TxC (fun _ h => h.2.1) rfl rfl rfl) ?_; go_frame
    refine dLoud ?_
    refine kCall1 14 _ _ _ rfl rfl (by kernel_rfl) rfl ?_
    refine (tBase_any (is := t.ins) _ (ha.below hB_91) (fun i hi => (ht.2.2.1 i hi).1)).mono ?_
    rintro e y15 ⟨rfl, hBq⟩
    clear hS
    have hlv_92 := hlv_84.below hBq
    have hV3_93 := hV3_85.below hBq hV3_85.lt
    have hX3_94 := hX3_86.below hBq
    have hI4_95 := hI4_87.below hBq
    have hO4_96 := hO4_88.below hBq
    have hT8_97 := hT8_89.below hBq hT8_89.lt
    have hX5_98 := hX5_90.below hBq
    have hB_99 := hB_91.trans (hBq.mono hB_91.size)
    clear hlv_84 hV3_85 hX3_86 hI4_87 hO4_88 hT8_89 hX5_90 hB_91 hBq
    have hS : (IsVals y15 lv (lock.map VB)) ∧ (Row y15 W0.heap.size 26 (txC t.version a b t.end')) ∧ (IsVals y15 v3 ((txL t).map VB)) ∧ (Row y15 y5.heap.size 26 (txC t.version pa4 pb4 t.end')) ∧ (IsVals y15 v5 ((txL t).map VB)) := ⟨hlv_92, hV3_93, hX3_94, hT8_97, hX5_98⟩
    refine ⟨_, rfl, mixOn ⟨(fun w => (IsVals w lv (lock.map VB)) ∧ (Row w W0.heap.size 26 (txC t.version a b t.end')) ∧ (IsVals w v3 ((txL t).map VB)) ∧ (Row w y5.heap.size 26 (txC t.version pa4 pb4 t.end')) ∧ (IsVals w v5 ((txL t).map VB))), (fun _ h => ⟨h.1, h.2.1, h.2.2.1, h.2.2.2.1, h.2.2.2.2⟩), hS, ?_⟩⟩
    go_frame
    refine dLoud ?_
    refine kCall1 22 _ _ _ rfl rfl (by kernel_rfl) rfl ?_
    refine (yBase_any (is := t.ins) _ (ha.below hB_99) (fun i hi => (ht.2.2.1 i hi).1)).mono ?_
    rintro e y16 ⟨rfl, hBq⟩
    clear hS
    have hlv_100 := hlv_92.below hBq
    have hV3_101 := hV3_93.below hBq hV3_93.lt
    have hX3_102 := hX3_94.below hBq
    have hI4_103 := hI4_95.below hBq
    have hO4_104 := hO4_96.below hBq
    have hT8_105 := hT8_97.below hBq hT8_97.lt
    have hX5_106 := hX5_98.below hBq
    have hB_107 := hB_99.trans (hBq.mono hB_99.size)
    clear hlv_92 hV3_93 hX3_94 hI4_95 hO4_96 hT8_97 hX5_98 hB_99 hBq
    have hS : (IsVals y16 lv (lock.map VB)) ∧ (Row y16 W0.heap.size 26 (txC t.version a b t.end')) ∧ (IsVals y16 v3 ((txL t).map VB)) ∧ (Row y16 y5.heap.size 26 (txC t.version pa4 pb4 t.end')) ∧ (IsVals y16 v5 ((txL t).map VB)) := ⟨hlv_100, hV3_101, hX3_102, hT8_105, hX5_106⟩
    refine ⟨_, rfl, mixOn ⟨(fun w => (IsVals w lv (lock.map VB)) ∧ (Row w W0.heap.size 26 (txC t.version a b t.end')) ∧ (IsVals w v3 ((txL t).map VB)) ∧ (Row w y5.heap.size 26 (txC t.version pa4 pb4 t.end')) ∧ (IsVals w v5 ((txL t).map VB))), (fun _ h => ⟨h.1, h.2.1, h.2.2.1, h.2.2.2.1, h.2.2.2.2⟩), hS, ?_⟩⟩
    go_frame
    refine dY _ hS (yEqlBoolT _ _ _ _ (baseB t.ins) (baseB t.ins) true rfl rfl rfl rfl Tryd.underlying4 (by simp)) ?_; go_frame
    refine dY _ hS (yPick _ _ _ true (.bool true) rfl rfl rfl rfl) ?_; go_frame
    refine dY _ hS (yMove _ (.bool true) rfl rfl rfl) ?_; go_frame
    refine dY _ hS (yLoadRowC Tryd.underlying26 rfl _ _ (txC t.version a b t.end') info_TxC (fun _ h => h.2.1) rfl rfl rfl) ?_; go_frame
    refine dY _ hS (yMove _ (.int .i64 (i)) rfl rfl rfl) ?_; go_frame
    refine dY _ hS (yMove _ lv rfl rfl rfl) ?_; go_frame
    refine dY _ hS (yLoadRowC Tryd.underlying26 rfl _ _ (txC t.version a b t.end') info_TxC (fun _ h => h.2.1) rfl rfl rfl) ?_; go_frame
    refine dY _ hS (yMove _ (.int .i64 (i)) rfl rfl rfl) ?_; go_frame
    refine dY _ hS (yMove _ lv rfl rfl rfl) ?_; go_frame
    refine dLoud ?_
    refine kCall3 23 _ _ _ _ _ _ _ rfl rfl (by kernel_rfl) rfl rfl rfl ?_
    refine (tHash_any (t := t) (i := i) (lock := lock) _ ht hf (ha.below hB_107) (hb.below hB_107) hlv_100 hl2 (hK.below hB_107)).mono ?_
    rintro e y17 ⟨rfl, hBq⟩
    clear hS
    have hlv_108 := hlv_100.below hBq
    have hV3_109 := hV3_101.below hBq hV3_101.lt
    have hX3_110 := hX3_102.below hBq
    have hI4_111 := hI4_103.below hBq
    have hO4_112 := hO4_104.below hBq
    have hT8_113 := hT8_105.below hBq hT8_105.lt
    have hX5_114 := hX5_106.below hBq
    have hB_115 := hB_107.trans (hBq.mono hB_107.size)
    clear hlv_100 hV3_101 hX3_102 hI4_103 hO4_104 hT8_105 hX5_106 hB_107 hBq
    have hS : (IsVals y17 lv (lock.map VB)) ∧ (Row y17 W0.heap.size 26 (txC t.version a b t.end')) ∧ (IsVals y17 v3 ((txL t).map VB)) ∧ (Row y17 y5.heap.size 26 (txC t.version pa4 pb4 t.end')) ∧ (IsVals y17 v5 ((txL t).map VB)) := ⟨hlv_108, hV3_109, hX3_110, hT8_113, hX5_114⟩
    refine ⟨_, rfl, mixOn ⟨(fun w => (IsVals w lv (lock.map VB)) ∧ (Row w W0.heap.size 26 (txC t.version a b t.end')) ∧ (IsVals w v3 ((txL t).map VB)) ∧ (Row w y5.heap.size 26 (txC t.version pa4 pb4 t.end')) ∧ (IsVals w v5 ((txL t).map VB))), (fun _ h => ⟨h.1, h.2.1, h.2.2.1, h.2.2.2.1, h.2.2.2.2⟩), hS, ?_⟩⟩
    go_frame
    refine dLoud ?_
    refine kCall3 24 _ _ _ _ _ _ _ rfl rfl (by kernel_rfl) rfl rfl rfl ?_
    refine (yHash_any (t := t) (i := i) (lock := lock) _ ht hf (ha.below hB_115) (hb.below hB_115) hlv_108 hl2).mono ?_
    rintro e y18 ⟨rfl, hBq⟩
    clear hS
    have hlv_116 := hlv_108.below hBq
    have hV3_117 := hV3_109.below hBq hV3_109.lt
    have hX3_118 := hX3_110.below hBq
    have hI4_119 := hI4_111.below hBq
    have hO4_120 := hO4_112.below hBq
    have hT8_121 := hT8_113.below hBq hT8_113.lt
    have hX5_122 := hX5_114.below hBq
    have hB_123 := hB_115.trans (hBq.mono hB_115.size)
    clear hlv_108 hV3_109 hX3_110 hI4_111 hO4_112 hT8_113 hX5_114 hB_115 hBq
    have hS : (IsVals y18 lv (lock.map VB)) ∧ (Row y18 W0.heap.size 26 (txC t.version a b t.end')) ∧ (IsVals y18 v3 ((txL t).map VB)) ∧ (Row y18 y5.heap.size 26 (txC t.version pa4 pb4 t.end')) ∧ (IsVals y18 v5 ((txL t).map VB)) := ⟨hlv_116, hV3_117, hX3_118, hT8_121, hX5_122⟩
    refine ⟨_, rfl, mixOn ⟨(fun w => (IsVals w lv (lock.map VB)) ∧ (Row w W0.heap.size 26 (txC t.version a b t.end')) ∧ (IsVals w v3 ((txL t).map VB)) ∧ (Row w y5.heap.size 26 (txC t.version pa4 pb4 t.end')) ∧ (IsVals w v5 ((txL t).map VB))), (fun _ h => ⟨h.1, h.2.1, h.2.2.1, h.2.2.2.1, h.2.2.2.2⟩), hS, ?_⟩⟩
    go_frame
    refine dY _ hS (yEqlHash _ _ _ (hashL t i lock) (hashL t i lock) true (sha_len _) (sha_len _) rfl rfl rfl rfl (by simp)) ?_; go_frame
    refine dY _ hS (yPick _ _ _ true (.bool true) rfl rfl rfl rfl) ?_; go_frame
    refine dY _ hS (yMove _ (.bool true) rfl rfl rfl) ?_; go_frame
    refine dY _ hS (yLoadRowC Tryd.underlying26 rfl _ _ (txC t.version a b t.end') info_TxC (fun _ h => h.2.1) rfl rfl rfl) ?_; go_frame
    refine dY _ hS (yMove _ v3 rfl rfl rfl) ?_; go_frame
    refine dY _ hS (yStr _ _ _ _ v3 (txL t) rfl rfl rfl (fun _ h => h.2.2.1) Tryd.underlying28 Tryd.underlying5 Tryd.underlying9) ?_; go_frame
    refine dLoud ?_
    refine kCall1 11 _ _ _ rfl rfl (by kernel_rfl) rfl ?_
    refine (tBytes_any (t := t) _ ht hf (ha.below hB_123) (hb.below hB_123)).mono ?_
    rintro e y19 ⟨v16, rfl, hX16o, hBq⟩
    clear hS
    have hlv_124 := hlv_116.below hBq
    have hV3_125 := hV3_117.below hBq hV3_117.lt
    have hX3_126 := hX3_118.below hBq
    have hI4_127 := hI4_119.below hBq
    have hO4_128 := hO4_120.below hBq
    have hT8_129 := hT8_121.below hBq hT8_121.lt
    have hX5_130 := hX5_122.below hBq
    have hB_131 := hB_123.trans (hBq.mono hB_123.size)
    clear hlv_116 hV3_117 hX3_118 hI4_119 hO4_120 hT8_121 hX5_122 hB_123 hBq
    have hX16 := hX16o.vals
    clear hX16o
    have hS : (IsVals y19 lv (lock.map VB)) ∧ (Row y19 W0.heap.size 26 (txC t.version a b t.end')) ∧ (IsVals y19 v3 ((txL t).map VB)) ∧ (Row y19 y5.heap.size 26 (txC t.version pa4 pb4 t.end')) ∧ (IsVals y19 v5 ((txL t).map VB)) ∧ (IsVals y19 v16 ((txL t).map VB)) := ⟨hlv_124, hV3_125, hX3_126, hT8_129, hX5_130, hX16⟩
    refine ⟨_, rfl, mixOn ⟨(fun w => (IsVals w lv (lock.map VB)) ∧ (Row w W0.heap.size 26 (txC t.version a b t.end')) ∧ (IsVals w v3 ((txL t).map VB)) ∧ (Row w y5.heap.size 26 (txC t.version pa4 pb4 t.end')) ∧ (IsVals w v5 ((txL t).map VB)) ∧ (IsVals w v16 ((txL t).map VB))), (fun _ h => ⟨h.1, h.2.1, h.2.2.1, h.2.2.2.1, h.2.2.2.2.1⟩), hS, ?_⟩⟩
    go_frame
    refine dY _ hS (yStr _ _ _ _ v16 (txL t) rfl rfl rfl (fun _ h => h.2.2.2.2.2) Tryd.underlying28 Tryd.underlying5 Tryd.underlying9) ?_; go_frame
    refine dY _ hS (yEqlStr _ _ _ _ (txL t) (txL t) true rfl rfl rfl rfl (by simp)) ?_; go_frame
    refine dY _ hS (yPick _ _ _ true (.bool true) rfl rfl rfl rfl) ?_; go_frame
    refine dY _ hS (yAssign _ (.bool true) rfl rfl rfl) ?_; go_frame
    refine dDone ?_
    go_wp2
    go_ret
    exact ⟨rfl, hB_131⟩
end Go.Proofs.YtaoaecbdjdcpdaaDoor
