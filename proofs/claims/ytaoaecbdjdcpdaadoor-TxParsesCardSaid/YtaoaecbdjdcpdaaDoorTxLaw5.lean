/-
  Layer 10: what is read can be; the walk of TxParses.
-/
import Derived.Test.YtaoaecbdjdcpdaaDoorTxLaw1
namespace Go.Proofs.YtaoaecbdjdcpdaaDoor
open Go Go.RowKit

theorem text_le2000 (s : Scn) : (textS s 2000).1.length ≤ 2000 := by
  have h := count_le s 2000
  unfold textS
  split
  · simp
  · split
    · simp
    · rw [List.length_take]; exact Nat.le_trans (Nat.min_le_left _ _) h
theorem i64Z_ok (n : Nat) : -9223372036854775808 ≤ i64Z n ∧ i64Z n < 9223372036854775808 := by unfold i64Z; omega
theorem out_good (s : Scn) : outOk (outS s).1 ∧ (outS s).1.2.length ≤ 2000 := by
  unfold outS
  split
  · exact ⟨⟨by show (-9223372036854775808 : Int) ≤ 0; decide, by show (0 : Int) < 9223372036854775808; decide⟩, Nat.zero_le _⟩
  · exact ⟨i64Z_ok _, text_le2000 _⟩
theorem ref_at_lt (s : Scn) : (refS s).1.2 < 4294967296 := by
  unfold refS
  split
  · exact (by decide : (0 : Nat) < 4294967296)
  · exact fixed4_lt _
theorem list_all {α : Type} {f : Scn → α × Scn} {P : α → Prop} (hf : ∀ s, P (f s).1) : ∀ (n : Nat) (s : Scn), ∀ x ∈ (listS f n s).1, P x
  | 0, _, x, h => by cases h
  | n + 1, s, x, h => by
    rcases List.mem_cons.1 h with rfl | h
    · exact hf s
    · exact list_all hf n _ x h
theorem list_count {α : Type} (f : Scn → α × Scn) : ∀ (n : Nat) (s : Scn), (listS f n s).1.length = n
  | 0, _ => rfl
  | n + 1, s => by show ((listS f n (f s).2).1.length + 1) = n + 1; rw [list_count f n]
theorem raw_good (s : Scn) : (rawTx s).1.Is ∧ (rawTx s).1.Fits := by
  rw [rawTx_eq]
  refine ⟨⟨fixed4_lt _, fixed4_lt _, ?_, ?_⟩, ⟨?_, ?_, ?_, ?_⟩⟩
  · exact list_all (P := InP.Is) (fun s => ⟨refS_len _, ref_at_lt _, fixed4_lt _⟩) _ _
  · exact list_all (P := outOk) (fun s => (out_good s).1) _ _
  · show (listS inS _ _).1.length ≤ 200
    rw [list_count]; exact count_le _ _
  · show (listS outS _ _).1.length ≤ 200
    rw [list_count]; exact count_le _ _
  · exact list_all (P := fun i : InP => i.unlock.length ≤ 2000) (fun s => text_le2000 _) _ _
  · exact list_all (P := fun i : Int × List UInt8 => i.2.length ≤ 2000) (fun s => (out_good s).2) _ _
theorem read_good (s : Scn) : (readS s).1.Is ∧ (readS s).1.Fits := by
  unfold readS
  split
  · exact ⟨noTx_is, noTx_fits⟩
  · exact raw_good s
theorem parse_good (b : List UInt8) : (parseT b).1.Is ∧ (parseT b).1.Fits := by
  unfold parseT
  split
  · exact ⟨noTx_is, noTx_fits⟩
  · split
    · exact ⟨noTx_is, noTx_fits⟩
    · exact read_good _
set_option maxRecDepth 100000 in
set_option maxHeartbeats 8000000 in
theorem txParses_walk {l : List UInt8} {v : Value} (W0 : World) (hK : Keys W0) (hv : IsVals W0 v (l.map VB)) : Calls Tryd.prog 5 #[v] W0 (BoolPost W0 true) := by
  have hv00 := hv
  obtain ⟨nl, hnl⟩ : ∃ n, l.length = n := ⟨_, rfl⟩
  by_cases h0 : 3000 < nl
  · have d15 : decide ((nl : Int) > 3000) = true := by simp; omega
    have hB00 := Below.refl W0.heap.size W0
    go_enter Tryd.func5, Tryd.ntmps5
    go_wp2_with (first
      | (go_at_call 12; refine (txAlive_any _ (hK.below hB00)).mono ?_; rintro e y1 ⟨rfl, hBq⟩; have hv_1 := hv.below hBq; have hB_2 := hB00.trans (hBq.mono hB00.size); clear hv hB00 hBq; go_frame)
      | ((with_reducible change wpList _ _ _ (Oper.mk (some 12) _ _ _ _ _ :: _) _ _); refine kNot _ _ true rfl rfl rfl ?_; go_frame)
      | ((with_reducible change wpList _ _ _ (Oper.mk (some 14) _ _ _ _ _ :: _) _ _); refine kLenN _ _ _ v _ nl rfl rfl rfl hv_1 (by rw [List.length_map, hnl]) Tryd.underlying28 ?_; go_frame)
      | ((with_reducible change wpList _ _ _ (Oper.mk (some 15) _ _ _ _ _ :: _) _ _); refine kGtrI _ _ _ _ .i64 (nl : Int) 3000 true rfl rfl rfl rfl d15 ?_; go_frame))
    (try simp only [Exit.inBlock, Exit.then])
    refine retBT rfl rfl ?_
    exact ⟨rfl, hB_2⟩
  have d15 : decide ((nl : Int) > 3000) = false := by simp; omega
  have hl : l.length ≤ 1000000 := by omega
  clear h0
  obtain ⟨q, E, hps⟩ : ∃ q E, parseT l = (q, E) := ⟨_, _, rfl⟩
  obtain ⟨hqi, hqf⟩ : q.Is ∧ q.Fits := by have := parse_good l; rwa [hps] at this
  obtain ⟨p, hp⟩ : ∃ p, readS ⟨l, 0⟩ = p := ⟨_, rfl⟩
  obtain ⟨hpi, hpf⟩ : p.1.Is ∧ p.1.Fits := by have := read_good ⟨l, 0⟩; rwa [hp] at this
  have hsq : (txL q == txL q) = true := by simp
  have hsp : (txL p.1 == txL p.1) = true := by simp
  obtain ⟨E1, hE1⟩ : ∃ k, p.2.err = k := ⟨_, rfl⟩
  obtain ⟨F1, hF1⟩ : ∃ k, p.2.rest.length = k := ⟨_, rfl⟩
  have hB00 := Below.refl W0.heap.size W0
  go_enter Tryd.func5, Tryd.ntmps5
  go_wp2_with (first
    | (go_at_call 12; refine (txAlive_any _ (hK.below hB00)).mono ?_; rintro e y1 ⟨rfl, hBq⟩; have hv_1 := hv.below hBq; have hB_2 := hB00.trans (hBq.mono hB00.size); clear hv hB00 hBq; go_frame)
    | ((with_reducible change wpList _ _ _ (Oper.mk (some 12) _ _ _ _ _ :: _) _ _); refine kNot _ _ true rfl rfl rfl ?_; go_frame)
    | ((with_reducible change wpList _ _ _ (Oper.mk (some 14) _ _ _ _ _ :: _) _ _); refine kLenN _ _ _ v _ nl rfl rfl rfl hv_1 (by rw [List.length_map, hnl]) Tryd.underlying28 ?_; go_frame)
    | ((with_reducible change wpList _ _ _ (Oper.mk (some 15) _ _ _ _ _ :: _) _ _); refine kGtrI _ _ _ _ .i64 (nl : Int) 3000 false rfl rfl rfl rfl d15 ?_; go_frame)
    | (go_at_call 10; refine (tParse_any (l := l) _ hv_1 hl).mono ?_; rintro e y2 ⟨pa2, pb2, rfl, hI2, hO2, hBq⟩; have hv_3 := hv_1.below hBq; have hB_4 := hB_2.trans (hBq.mono hB_2.size); clear hv_1 hB_2 hBq; rw [hps] at hI2 hO2 ⊢; go_frame)
    | ((with_reducible change wpList _ _ _ (Oper.mk (some 3) _ _ _ _ _ :: _) _ _); refine kAllocL _ _ rfl rfl zero_TxC ?_; intro y3 hV3 hzq hBq; clear hzq; have hP := hBq; clear hBq; go_frame)
    | ((with_reducible change wpList _ _ _ (Oper.mk none (Op.store _ (Operand.tmp 3) _) _ _ _ _ :: _) _ _); refine kStoreTx _ _ _ q.version q.end' pa2 pb2 _ hV3 rfl hI2.of.sl.one hO2.of.sl.one rfl rfl rfl rfl ?_; intro y4 hT3 hWq; have hPn := hP.trans (hWq.below (Nat.le_refl _)); clear hP; have hP := hPn; clear hPn; clear hWq hV3; have hv_5 := hv_3.below hP; have hI2_6 := hI2.below hP; have hO2_7 := hO2.below hP; have hB_8 := hB_4.trans (hP.mono hB_4.size); clear hv_3 hI2 hO2 hB_4 hP; go_frame)
    | (go_at_call 25; refine (yParse_any (l := l) _ hv_5 hl).mono ?_; rintro e y5 ⟨pa3, pb3, rfl, hI3, hO3, hBq⟩; have hv_9 := hv_5.below hBq; have hI2_10 := hI2_6.below hBq; have hO2_11 := hO2_7.below hBq; have hT3_12 := hT3.below hBq hT3.lt; have hB_13 := hB_8.trans (hBq.mono hB_8.size); clear hv_5 hI2_6 hO2_7 hT3 hB_8 hBq; rw [hps] at hI3 hO3 ⊢; go_frame)
    | ((with_reducible change wpList _ _ _ (Oper.mk (some 5) _ _ _ _ _ :: _) _ _); refine kAllocL _ _ rfl rfl zero_TxC ?_; intro y6 hV5 hzq hBq; clear hzq; have hP := hBq; clear hBq; go_frame)
    | ((with_reducible change wpList _ _ _ (Oper.mk none (Op.store _ (Operand.tmp 5) _) _ _ _ _ :: _) _ _); refine kStoreTx _ _ _ q.version q.end' pa3 pb3 _ hV5 rfl hI3.of.sl.one hO3.of.sl.one rfl rfl rfl rfl ?_; intro y7 hT5 hWq; have hPn := hP.trans (hWq.below (Nat.le_refl _)); clear hP; have hP := hPn; clear hPn; clear hWq hV5; have hv_14 := hv_9.below hP; have hI2_15 := hI2_10.below hP; have hO2_16 := hO2_11.below hP; have hT3_17 := hT3_12.below hP hT3_12.lt; have hI3_18 := hI3.below hP; have hO3_19 := hO3.below hP; have hB_20 := hB_13.trans (hP.mono hB_13.size); clear hv_9 hI2_10 hO2_11 hT3_12 hI3 hO3 hB_13 hP; go_frame)
    | ((with_reducible change wpList _ _ _ (Oper.mk (some 28) _ _ _ _ _ :: _) _ _); refine kNeqI _ _ _ _ .i64 (E : Int) (E : Int) false rfl rfl rfl rfl (by simp) ?_; go_frame)
    | ((with_reducible change wpList _ _ _ (Oper.mk (some 30) _ _ _ _ _ :: _) _ _); refine kLoadRow _ _ _ _ (txC q.version pa2 pb2 q.end') _ rfl rfl rfl hT3_17 Tryd.underlying26 rfl info_TxC ?_; go_frame)
    | ((with_reducible change wpList _ _ _ (Oper.mk (some 31) _ _ _ _ _ :: _) _ _); refine kLoadRow _ _ _ _ (txC q.version pa3 pb3 q.end') _ rfl rfl rfl hT5 Tryd.underlying26 rfl info_TxC ?_; go_frame)
    | (go_at_call 18; refine (ySame_any (t := q) (u := q) _ hqi hqf hqi hqf hI2_15.of hO2_16.of hI3_18.of hO3_19.of).mono ?_; rintro e y8 ⟨rfl, hBq⟩; have hv_21 := hv_14.below hBq; have hI2_22 := hI2_15.below hBq; have hO2_23 := hO2_16.below hBq; have hT3_24 := hT3_17.below hBq hT3_17.lt; have hI3_25 := hI3_18.below hBq; have hO3_26 := hO3_19.below hBq; have hT5_27 := hT5.below hBq hT5.lt; have hB_28 := hB_20.trans (hBq.mono hB_20.size); clear hv_14 hI2_15 hO2_16 hT3_17 hI3_18 hO3_19 hT5 hB_20 hBq; rw [hsq]; go_frame)
    | ((with_reducible change wpList _ _ _ (Oper.mk (some 33) _ _ _ _ _ :: _) _ _); refine kNot _ _ true rfl rfl rfl ?_; go_frame)
    | (go_at_call 26; refine (pcNew_any _ hv_21 hl).mono ?_; rintro e w36 ⟨gp, rfl, hgp, hRd, hBq⟩; have hge : Hid (W0.heap.size ≤ gp) := (by have a1 := hB_28.size; show W0.heap.size ≤ gp; omega); have hLP := Nat.le_refl w36.heap.size; have hgl : Hid (gp < w36.heap.size) := hRd.lt; clear hgp; have hv_29 := hv_21.below hBq; have hB_30 := hB_28.trans (hBq.mono hB_28.size); clear hv_21 hB_28 hBq; go_frame)
    | ((with_reducible change wpList _ _ _ (Oper.mk (some 38) _ _ _ _ _ :: _) _ _); refine kBuildScanC _ v hv_29 rfl rfl rfl ?_; go_frame)
    | ((with_reducible change wpList _ _ _ (Oper.mk (some 39) _ _ _ _ _ :: _) _ _); refine kBoxL _ _ _ rfl rfl rfl ?_; intro w39 hRS hzS hBq; clear hzS; have hPQ : Hid (gp ≠ w36.heap.size) := Nat.ne_of_lt hgl.out; have hgQ : Hid (W0.heap.size ≤ w36.heap.size) := hB_30.size; have hLP_31 := Nat.le_trans hLP (hBq).size; clear hLP; have hv_32 := hv_29.below hBq; have hRd_33 := hRd.below hBq; have hB_34 := hB_30.trans (hBq.mono hB_30.size); clear hv_29 hRd hB_30 hBq; have hQ : Rd W0.heap.size 55 w39 w36.heap.size ⟨l, 0⟩ := ⟨v, hRS, hv_32, limR_vals hv00⟩; have hgm : Hid (w36.heap.size < w39.heap.size) := hRS.lt; clear hRS; go_frame)
    | (go_at_call 27; refine (tRead_any _ hRd_33 hl hLP_31).mono ?_; rintro e y9 ⟨pa1, pb1, rfl, hI1, hO1, hR1, hX1⟩; rw [hp] at hI1 hO1 hR1 ⊢; have hLP_35 := Nat.le_trans hLP_31 hX1.size; clear hLP_31; have hQ_36 := hX1.rd hRd_33 hQ (Ne.symm hPQ.out); have hB_37 := hB_34.trans (hX1.below hge.out hB_34.size); clear hQ hB_34 hRd_33 hX1; go_frame)
    | (go_at_call 28; refine (yRead_any _ hQ_36 hl hB_37.size).mono ?_; rintro e y10 ⟨pa2, pb2, rfl, hI2, hO2, hR2, hX2⟩; rw [hp] at hI2 hO2 hR2 ⊢; have hI1_38 := hI1.over (over_exc hX2 hgm.out); clear hI1; have hO1_39 := hO1.over (over_exc hX2 hgm.out); clear hO1; have hLP_40 := Nat.le_trans hLP_35 hX2.size; clear hLP_35; have hRd_41 := hX2.rd hQ_36 hR1 hPQ.out; have hB_42 := hB_37.trans (hX2.below hgQ.out hB_37.size); clear hR1 hB_37 hQ_36 hX2; go_frame)
    | ((with_reducible change wpList _ _ _ (Oper.mk (some 9) _ _ _ _ _ :: _) _ _); refine kAllocL _ _ rfl rfl zero_TxC ?_; intro y11 hV9 hzq hBq; clear hzq; have hP := hBq; clear hBq; go_frame)
    | ((with_reducible change wpList _ _ _ (Oper.mk (some 10) _ _ _ _ _ :: _) _ _); refine kAllocL _ _ rfl rfl zero_TxC ?_; intro y12 hV10 hzq hBq; clear hzq; have hV9b := hV9.below hBq hV9.lt; have hne910 : Hid (y10.heap.size ≠ y11.heap.size) := Nat.ne_of_lt hV9.lt; clear hV9; have hPn := hP.trans (hBq.mono hP.size); have hle10 : Hid (y10.heap.size ≤ y11.heap.size) := hP.size; clear hP hBq; have hP := hPn; clear hPn; go_frame)
    | ((with_reducible change wpList _ _ _ (Oper.mk none (Op.store _ (Operand.tmp 9) _) _ _ _ _ :: _) _ _); refine kStoreTx _ _ _ p.1.version p.1.end' pa1 pb1 _ hV9b rfl hI1_38.of.sl.one hO1_39.of.sl.one rfl rfl rfl rfl ?_; intro y13 hT9 hWq; have hPn := hP.trans (hWq.below (Nat.le_refl _)); clear hP; have hP := hPn; clear hPn; have hV10w := hWq.row hV10 (Ne.symm hne910.out); clear hV10; clear hWq hV9b; go_frame)
    | ((with_reducible change wpList _ _ _ (Oper.mk none (Op.store _ (Operand.tmp 10) _) _ _ _ _ :: _) _ _); refine kStoreTx _ _ _ p.1.version p.1.end' pa2 pb2 _ hV10w rfl hI2.of.sl.one hO2.of.sl.one rfl rfl rfl rfl ?_; intro y14 hT10 hWq; have hPn := hP.trans (hWq.below (hle10.out)); clear hP; have hP := hPn; clear hPn; have hT9w := hWq.row hT9 hne910.out; clear hT9; clear hWq hV10w; have hLP_43 := Nat.le_trans hLP_40 (hP).size; clear hLP_40; have hRd_44 := hRd_41.below hP; have hQ_45 := hR2.below hP; have hI1_46 := hI1_38.below hP; have hO1_47 := hO1_39.below hP; have hI2_48 := hI2.below hP; have hO2_49 := hO2.below hP; have hB_50 := hB_42.trans (hP.mono hB_42.size); clear hRd_41 hR2 hI1_38 hO1_39 hI2 hO2 hB_42 hP; go_frame))
  obtain ⟨vS, hRS, hVS, -⟩ := id hQ_45
  rw [hE1] at hRS
  go_wp2
  refine region_mixD [(0, true), (1, true), (2, false), (3, true), (4, true), (6, true), (7, true), (8, true), (9, true), (5, false), (10, true), (11, true), (12, true), (13, true), (15, true), (16, true), (17, true), (18, true), (19, true), (14, false), (20, true), (21, true), (22, true)] (fun w => (Row w y10.heap.size 26 (txC p.1.version pa1 pb1 p.1.end')) ∧ (Row w y11.heap.size 26 (txC p.1.version pa2 pb2 p.1.end')) ∧ (Row w w36.heap.size 55 #[vS, .int .i64 (E1 : Int)]) ∧ (IsVals w vS (p.2.rest.map VB))) (by kernel_rfl) (by kernel_rfl) rfl ?_
  intro z0 hBd hsd
  clear hsd
  have hLP_51 := Nat.le_trans hLP_43 (hBd).size
  clear hLP_43
  have hRd_52 := hRd_44.below hBd
  have hI1_53 := hI1_46.below hBd
  have hO1_54 := hO1_47.below hBd
  have hI2_55 := hI2_48.below hBd
  have hO2_56 := hO2_49.below hBd
  have hT9w_57 := hT9w.below hBd hT9w.lt
  have hT10_58 := hT10.below hBd hT10.lt
  have hRS_59 := hRS.below hBd hRS.lt
  have hVS_60 := hVS.below hBd
  have hB_61 := hB_50.trans (hBd.mono hB_50.size)
  clear hRd_44 hI1_46 hO1_47 hI2_48 hO2_49 hT9w hT10 hRS hVS hB_50 hBd
  simp only [List.map_cons, List.map_nil]
  dsimp only [List.filterMap, List.getElem?_cons_zero, List.getElem?_cons_succ]
  have hS : (Row z0 y10.heap.size 26 (txC p.1.version pa1 pb1 p.1.end')) ∧ (Row z0 y11.heap.size 26 (txC p.1.version pa2 pb2 p.1.end')) ∧ (Row z0 w36.heap.size 55 #[vS, .int .i64 (E1 : Int)]) ∧ (IsVals z0 vS (p.2.rest.map VB)) := ⟨hT9w_57, hT10_58, hRS_59, hVS_60⟩
  refine dY _ hS (yLoadRowC Tryd.underlying26 rfl _ _ (txC p.1.version pa1 pb1 p.1.end') info_TxC (fun _ h => h.1) rfl rfl rfl) ?_; go_frame
  refine dY _ hS (yLoadRowC Tryd.underlying26 rfl _ _ (txC p.1.version pa2 pb2 p.1.end') info_TxC (fun _ h => h.2.1) rfl rfl rfl) ?_; go_frame
  refine dLoud ?_
  refine kCall2 18 _ _ _ _ _ rfl rfl (by kernel_rfl) rfl rfl ?_
  refine (ySame_any (t := p.1) (u := p.1) _ hpi hpf hpi hpf hI1_53.of hO1_54.of hI2_55.of hO2_56.of).mono ?_
  rintro e y15 ⟨rfl, hBq⟩
  clear hS
  have hLP_62 := Nat.le_trans hLP_51 (hBq).size
  clear hLP_51
  have hRd_63 := hRd_52.below hBq
  have hI1_64 := hI1_53.below hBq
  have hO1_65 := hO1_54.below hBq
  have hI2_66 := hI2_55.below hBq
  have hO2_67 := hO2_56.below hBq
  have hT9w_68 := hT9w_57.below hBq hT9w_57.lt
  have hT10_69 := hT10_58.below hBq hT10_58.lt
  have hRS_70 := hRS_59.below hBq hRS_59.lt
  have hVS_71 := hVS_60.below hBq
  have hB_72 := hB_61.trans (hBq.mono hB_61.size)
  clear hRd_52 hI1_53 hO1_54 hI2_55 hO2_56 hT9w_57 hT10_58 hRS_59 hVS_60 hB_61 hBq
  rw [hsp]
  have hS : (Row y15 y10.heap.size 26 (txC p.1.version pa1 pb1 p.1.end')) ∧ (Row y15 y11.heap.size 26 (txC p.1.version pa2 pb2 p.1.end')) ∧ (Row y15 w36.heap.size 55 #[vS, .int .i64 (E1 : Int)]) ∧ (IsVals y15 vS (p.2.rest.map VB)) := ⟨hT9w_68, hT10_69, hRS_70, hVS_71⟩
  refine ⟨_, rfl, mixOn ⟨(fun w => (Row w y10.heap.size 26 (txC p.1.version pa1 pb1 p.1.end')) ∧ (Row w y11.heap.size 26 (txC p.1.version pa2 pb2 p.1.end')) ∧ (Row w w36.heap.size 55 #[vS, .int .i64 (E1 : Int)]) ∧ (IsVals w vS (p.2.rest.map VB))), (fun _ h => ⟨h.1, h.2.1, h.2.2.1, h.2.2.2⟩), hS, ?_⟩⟩
  go_frame
  refine dY _ hS (yMove _ (.bool true) rfl rfl rfl) ?_; go_frame
  refine dY _ hS (yMove _ (.pointer (some ⟨gp, 0, none⟩)) rfl rfl rfl) ?_; go_frame
  refine dY _ hS (yMove _ (.pointer (some ⟨w36.heap.size, 0, none⟩)) rfl rfl rfl) ?_; go_frame
  refine dY _ hS (yNil _ ⟨w36.heap.size, 0, none⟩ rfl rfl rfl) ?_; go_frame
  refine dY _ hS (yFld scanF1 _ _ 0 1 rfl rfl rfl rfl) ?_; go_frame
  refine dY _ hS (yLoad1 _ _ _ _ 1 _ (.int .i64 ((E1 : Int))) _ rfl rfl rfl (fun _ h => h.2.2.1) Tryd.underlying3 rfl rfl) ?_; go_frame
  refine dLoud ?_
  refine kCall1 29 _ _ _ rfl rfl (by kernel_rfl) rfl ?_
  refine (rdErr_any (n := E1) _ hRd_63 hE1).mono ?_
  rintro e y16 ⟨rfl, rfl⟩
  refine ⟨_, rfl, mixOn ⟨_, (fun _ h => h), hS, ?_⟩⟩
  go_frame
  refine dY _ hS (yEqlIC _ _ _ _ .i64 (E1 : Int) (E1 : Int) true rfl rfl rfl rfl (by simp)) ?_; go_frame
  refine dY _ hS (yPick _ _ _ true (.bool true) rfl rfl rfl rfl) ?_; go_frame
  refine dY _ hS (yMove _ (.bool true) rfl rfl rfl) ?_; go_frame
  refine dY _ hS (yMove _ (.pointer (some ⟨gp, 0, none⟩)) rfl rfl rfl) ?_; go_frame
  refine dY _ hS (yMove _ (.pointer (some ⟨w36.heap.size, 0, none⟩)) rfl rfl rfl) ?_; go_frame
  refine dY _ hS (yNil _ ⟨w36.heap.size, 0, none⟩ rfl rfl rfl) ?_; go_frame
  refine dY _ hS (yFld scanF0 _ _ 0 0 rfl rfl rfl rfl) ?_; go_frame
  refine dY _ hS (yLoad1 _ _ _ _ 0 _ vS _ rfl rfl rfl (fun _ h => h.2.2.1) Tryd.underlying28 rfl rfl) ?_; go_frame
  refine dY _ hS (yLen _ _ _ vS _ F1 rfl rfl rfl (fun _ h => h.2.2.2) (by rw [List.length_map, hF1]) Tryd.underlying28) ?_; go_frame
  refine dLoud ?_
  refine kCall1 30 _ _ _ rfl rfl (by kernel_rfl) rfl ?_
  refine (rdLeft_any (n := F1) _ hRd_63 hF1).mono ?_
  rintro e y17 ⟨rfl, rfl⟩
  refine ⟨_, rfl, mixOn ⟨_, (fun _ h => h), hS, ?_⟩⟩
  go_frame
  refine dY _ hS (yEqlIC _ _ _ _ .i64 (F1 : Int) (F1 : Int) true rfl rfl rfl rfl (by simp)) ?_; go_frame
  refine dY _ hS (yPick _ _ _ true (.bool true) rfl rfl rfl rfl) ?_; go_frame
  refine dY _ hS (yAssign _ (.bool true) rfl rfl rfl) ?_; go_frame
  refine dDone ?_
  go_wp2
  go_ret
  exact ⟨rfl, hB_72⟩
end Go.Proofs.YtaoaecbdjdcpdaaDoor
