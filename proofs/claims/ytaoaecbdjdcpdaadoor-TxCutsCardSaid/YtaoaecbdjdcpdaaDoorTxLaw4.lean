/-
  Layer 10: the walk of TxCuts.
-/
import Derived.Test.YtaoaecbdjdcpdaaDoorTxLaw1
namespace Go.Proofs.YtaoaecbdjdcpdaaDoor
open Go Go.RowKit

theorem txL_len2 {t : TxP} (h : t.Is) (hg : greatB t = false) : (txL t).length ≤ 200000 := by
  have hf := great_not hg
  rw [txL_split]
  have h1 := countL_le t.ins.length
  have h2 := countL_le t.outs.length
  have hi : ∀ l : List InP, (∀ i ∈ l, i.Is) → (∀ i ∈ l, i.unlock.length ≤ 2000) → (insL l).length ≤ l.length * 2060 := by
    intro l
    induction l with
    | nil => intro _ _; simp [insL]
    | cons x l ih =>
      intro g1 g2
      have a1 := ih (fun i hi => g1 i (by simp [hi])) (fun i hi => g2 i (by simp [hi]))
      have a2 := inL_le (g2 x (by simp)) (g1 x (by simp)).1
      have e : insL (x :: l) = inL x ++ insL l := by unfold insL; rw [List.map_cons, List.flatten_cons]
      rw [e, List.length_append, List.length_cons, Nat.add_mul]; omega
  have ho : ∀ l : List (Int × List UInt8), (∀ i ∈ l, i.2.length ≤ 2000) → (outsL l).length ≤ l.length * 2060 := by
    intro l
    induction l with
    | nil => intro _; simp [outsL]
    | cons x l ih =>
      intro g2
      have a1 := ih (fun i hi => g2 i (by simp [hi]))
      have a2 : (outPL x).length ≤ 2017 := outL_le (g2 x (by simp))
      have e : outsL (x :: l) = outPL x ++ outsL l := by unfold outsL; rw [List.map_cons, List.flatten_cons]
      rw [e, List.length_append, List.length_cons, Nat.add_mul]; omega
  have b1 := hi t.ins h.2.2.1 hf.2.2.1
  have b2 := ho t.outs hf.2.2.2
  have b3 := Nat.mul_le_mul_right 2060 (great_30 hg).1
  have b4 := Nat.mul_le_mul_right 2060 (great_30 hg).2
  simp only [List.length_append, fixedL_len]
  omega
theorem parse_cutT {t : TxP} (h : t.Is) (hf : t.Fits) {k : Nat} (hk : k < (txL t).length) : parseT ((txL t).take k) = (noTx, 61) := by
  have hc := (tx_cut h hf hk).1
  unfold parseT
  rw [if_pos (by rw [hc]; decide), hc]
theorem back_nil {t : TxP} (h : t.Is) (hf : t.Fits) : readS ⟨txL t, 0⟩ = (t, ⟨[], 0⟩) := by
  have := tx_back h hf []
  rwa [List.append_nil] at this
set_option maxRecDepth 100000 in
set_option maxHeartbeats 8000000 in
theorem txCuts_walk {t u : TxP} {a b x y : Value} {n : Int} (W0 : World) (hK : Keys W0) (ht : t.Is) (hu : u.Is) (ha : InsOf W0 a t.ins) (hb : OutsOf W0 b t.outs) (hx : InsOf W0 x u.ins) (hy : OutsOf W0 y u.outs) : Calls Tryd.prog 8 #[.agg (txC t.version a b t.end'), .agg (txC u.version x y u.end'), .int .i64 n] W0 (BoolPost W0 true) := by
  obtain ⟨ib, hib, -, -, -⟩ := b8Info
  obtain ⟨g1, hg1⟩ : ∃ g, greatB t = g := ⟨_, rfl⟩
  obtain ⟨g2, hg2⟩ : ∃ g, greatB u = g := ⟨_, rfl⟩
  cases g1
  case true =>
    have hB00 := Below.refl W0.heap.size W0
    go_enter Tryd.func8, Tryd.ntmps8
    go_wp2_with (first
      | ((with_reducible change wpList _ _ _ (Oper.mk (some 3) _ _ _ _ _ :: _) _ _); refine kBoxL _ _ _ rfl rfl rfl ?_; intro y1 hV3 hzq hBq; clear hzq; have hB_1 := hB00.trans (hBq.mono hB00.size); clear hB00 hBq; go_frame)
      | ((with_reducible change wpList _ _ _ (Oper.mk (some 4) _ _ _ _ _ :: _) _ _); refine kBoxL _ _ _ rfl rfl rfl ?_; intro y2 hV4 hzq hBq; clear hzq; have hV3_2 := hV3.below hBq hV3.lt; have hB_3 := hB_1.trans (hBq.mono hB_1.size); clear hV3 hB_1 hBq; go_frame)
      | (go_at_call 12; refine (txAlive_any _ (hK.below hB_3)).mono ?_; rintro e y3 ⟨rfl, hBq⟩; have hV3_4 := hV3_2.below hBq hV3_2.lt; have hV4_5 := hV4.below hBq hV4.lt; have hB_6 := hB_3.trans (hBq.mono hB_3.size); clear hV3_2 hV4 hB_3 hBq; go_frame)
      | ((with_reducible change wpList _ _ _ (Oper.mk (some 14) _ _ _ _ _ :: _) _ _); refine kNot _ _ true rfl rfl rfl ?_; go_frame)
      | ((with_reducible change wpList _ _ _ (Oper.mk (some 15) _ _ _ _ _ :: _) _ _); refine kLoadRow _ _ _ _ (txC t.version a b t.end') _ rfl rfl rfl hV3_4 Tryd.underlying26 rfl info_TxC ?_; go_frame)
      | (go_at_call 15; refine (great_any (t := t) _ (ha.below hB_6) (hb.below hB_6)).mono ?_; rintro e y4 ⟨rfl, hBq⟩; have hV3_7 := hV3_4.below hBq hV3_4.lt; have hV4_8 := hV4_5.below hBq hV4_5.lt; have hB_9 := hB_6.trans (hBq.mono hB_6.size); clear hV3_4 hV4_5 hB_6 hBq; rw [hg1]; go_frame))
    (try simp only [Exit.inBlock, Exit.then])
    refine retBT rfl rfl ?_
    exact ⟨rfl, hB_9⟩
  cases g2
  case true =>
    have hB00 := Below.refl W0.heap.size W0
    go_enter Tryd.func8, Tryd.ntmps8
    go_wp2_with (first
      | ((with_reducible change wpList _ _ _ (Oper.mk (some 3) _ _ _ _ _ :: _) _ _); refine kBoxL _ _ _ rfl rfl rfl ?_; intro y1 hV3 hzq hBq; clear hzq; have hB_1 := hB00.trans (hBq.mono hB00.size); clear hB00 hBq; go_frame)
      | ((with_reducible change wpList _ _ _ (Oper.mk (some 4) _ _ _ _ _ :: _) _ _); refine kBoxL _ _ _ rfl rfl rfl ?_; intro y2 hV4 hzq hBq; clear hzq; have hV3_2 := hV3.below hBq hV3.lt; have hB_3 := hB_1.trans (hBq.mono hB_1.size); clear hV3 hB_1 hBq; go_frame)
      | (go_at_call 12; refine (txAlive_any _ (hK.below hB_3)).mono ?_; rintro e y3 ⟨rfl, hBq⟩; have hV3_4 := hV3_2.below hBq hV3_2.lt; have hV4_5 := hV4.below hBq hV4.lt; have hB_6 := hB_3.trans (hBq.mono hB_3.size); clear hV3_2 hV4 hB_3 hBq; go_frame)
      | ((with_reducible change wpList _ _ _ (Oper.mk (some 14) _ _ _ _ _ :: _) _ _); refine kNot _ _ true rfl rfl rfl ?_; go_frame)
      | ((with_reducible change wpList _ _ _ (Oper.mk (some 15) _ _ _ _ _ :: _) _ _); refine kLoadRow _ _ _ _ (txC t.version a b t.end') _ rfl rfl rfl hV3_4 Tryd.underlying26 rfl info_TxC ?_; go_frame)
      | (go_at_call 15; refine (great_any (t := t) _ (ha.below hB_6) (hb.below hB_6)).mono ?_; rintro e y4 ⟨rfl, hBq⟩; have hV3_7 := hV3_4.below hBq hV3_4.lt; have hV4_8 := hV4_5.below hBq hV4_5.lt; have hB_9 := hB_6.trans (hBq.mono hB_6.size); clear hV3_4 hV4_5 hB_6 hBq; rw [hg1]; go_frame)
      | ((with_reducible change wpList _ _ _ (Oper.mk (some 18) _ _ _ _ _ :: _) _ _); refine kLoadRow _ _ _ _ (txC u.version x y u.end') _ rfl rfl rfl hV4_8 Tryd.underlying26 rfl info_TxC ?_; go_frame)
      | (go_at_call 15; refine (great_any (t := u) _ (hx.below hB_9) (hy.below hB_9)).mono ?_; rintro e y5 ⟨rfl, hBq⟩; have hV3_10 := hV3_7.below hBq hV3_7.lt; have hV4_11 := hV4_8.below hBq hV4_8.lt; have hB_12 := hB_9.trans (hBq.mono hB_9.size); clear hV3_7 hV4_8 hB_9 hBq; rw [hg2]; go_frame))
    (try simp only [Exit.inBlock, Exit.then])
    refine retBT rfl rfl ?_
    exact ⟨rfl, hB_12⟩
  have hf := great_not hg1
  have hg := great_not hg2
  obtain ⟨nx, hnx⟩ : ∃ k, (txL t).length = k := ⟨_, rfl⟩
  obtain ⟨ny, hny⟩ : ∃ k, (txL u).length = k := ⟨_, rfl⟩
  have hx2 : nx ≤ 200000 := by rw [← hnx]; exact txL_len2 ht hg1
  have hy2 : ny ≤ 200000 := by rw [← hny]; exact txL_len2 hu hg2
  have hl12 : (txL t ++ txL u).length ≤ 1000000 := by rw [List.length_append]; omega
  have hl2 : (txL u).length ≤ 1000000 := by omega
  have hbk1 := tx_back ht hf (txL u)
  have hbk2 := back_nil hu hg
  by_cases h0 : n < 0
  · have d24 : decide (n ≥ 0) = false := by simp; omega
    have hB00 := Below.refl W0.heap.size W0
    go_enter Tryd.func8, Tryd.ntmps8
    go_wp2_with (first
      | ((with_reducible change wpList _ _ _ (Oper.mk (some 3) _ _ _ _ _ :: _) _ _); refine kBoxL _ _ _ rfl rfl rfl ?_; intro y1 hV3 hzq hBq; clear hzq; have hB_1 := hB00.trans (hBq.mono hB00.size); clear hB00 hBq; go_frame)
      | ((with_reducible change wpList _ _ _ (Oper.mk (some 4) _ _ _ _ _ :: _) _ _); refine kBoxL _ _ _ rfl rfl rfl ?_; intro y2 hV4 hzq hBq; clear hzq; have hV3_2 := hV3.below hBq hV3.lt; have hB_3 := hB_1.trans (hBq.mono hB_1.size); clear hV3 hB_1 hBq; go_frame)
      | (go_at_call 12; refine (txAlive_any _ (hK.below hB_3)).mono ?_; rintro e y3 ⟨rfl, hBq⟩; have hV3_4 := hV3_2.below hBq hV3_2.lt; have hV4_5 := hV4.below hBq hV4.lt; have hB_6 := hB_3.trans (hBq.mono hB_3.size); clear hV3_2 hV4 hB_3 hBq; go_frame)
      | ((with_reducible change wpList _ _ _ (Oper.mk (some 14) _ _ _ _ _ :: _) _ _); refine kNot _ _ true rfl rfl rfl ?_; go_frame)
      | ((with_reducible change wpList _ _ _ (Oper.mk (some 15) _ _ _ _ _ :: _) _ _); refine kLoadRow _ _ _ _ (txC t.version a b t.end') _ rfl rfl rfl hV3_4 Tryd.underlying26 rfl info_TxC ?_; go_frame)
      | (go_at_call 15; refine (great_any (t := t) _ (ha.below hB_6) (hb.below hB_6)).mono ?_; rintro e y4 ⟨rfl, hBq⟩; have hV3_7 := hV3_4.below hBq hV3_4.lt; have hV4_8 := hV4_5.below hBq hV4_5.lt; have hB_9 := hB_6.trans (hBq.mono hB_6.size); clear hV3_4 hV4_5 hB_6 hBq; rw [hg1]; go_frame)
      | ((with_reducible change wpList _ _ _ (Oper.mk (some 18) _ _ _ _ _ :: _) _ _); refine kLoadRow _ _ _ _ (txC u.version x y u.end') _ rfl rfl rfl hV4_8 Tryd.underlying26 rfl info_TxC ?_; go_frame)
      | (go_at_call 15; refine (great_any (t := u) _ (hx.below hB_9) (hy.below hB_9)).mono ?_; rintro e y5 ⟨rfl, hBq⟩; have hV3_10 := hV3_7.below hBq hV3_7.lt; have hV4_11 := hV4_8.below hBq hV4_8.lt; have hB_12 := hB_9.trans (hBq.mono hB_9.size); clear hV3_7 hV4_8 hB_9 hBq; rw [hg2]; go_frame)
      | ((with_reducible change wpList _ _ _ (Oper.mk (some 21) _ _ _ _ _ :: _) _ _); refine kLoadRow _ _ _ _ (txC t.version a b t.end') _ rfl rfl rfl hV3_10 Tryd.underlying26 rfl info_TxC ?_; go_frame)
      | (go_at_call 11; refine (tBytes_any (t := t) _ ht hf (ha.below hB_12) (hb.below hB_12)).mono ?_; rintro e y6 ⟨v4, rfl, hX4o, hBq⟩; have hV3_13 := hV3_10.below hBq hV3_10.lt; have hV4_14 := hV4_11.below hBq hV4_11.lt; have hB_15 := hB_12.trans (hBq.mono hB_12.size); clear hV3_10 hV4_11 hB_12 hBq; have hX4 := hX4o.vals; clear hX4o; go_frame)
      | ((with_reducible change wpList _ _ _ (Oper.mk (some 24) _ _ _ _ _ :: _) _ _); refine kGeqI _ _ _ _ .i64 n 0 false rfl rfl rfl rfl d24 ?_; go_frame))
    refine region_mixD [(1, true), (3, true), (0, false), (2, false), (4, false), (5, false), (6, false), (7, true)] (fun w => (Row w y1.heap.size 26 (txC u.version x y u.end'))) (by kernel_rfl) (by kernel_rfl) rfl ?_
    intro z0 hBd hsd
    clear hsd
    have hV3_16 := hV3_13.below hBd hV3_13.lt
    have hV4_17 := hV4_14.below hBd hV4_14.lt
    have hX4_18 := hX4.below hBd
    have hB_19 := hB_15.trans (hBd.mono hB_15.size)
    clear hV3_13 hV4_14 hX4 hB_15 hBd
    simp only [List.map_cons, List.map_nil]
    dsimp only [List.filterMap, List.getElem?_cons_zero, List.getElem?_cons_succ]
    have hS : (Row z0 y1.heap.size 26 (txC u.version x y u.end')) := hV4_17
    refine dY _ hS (yMove _ v4 rfl rfl rfl) ?_; go_frame
    refine dY _ hS (yLoadRowC Tryd.underlying26 rfl _ _ (txC u.version x y u.end') info_TxC (fun _ h => h) rfl rfl rfl) ?_; go_frame
    refine dLoud ?_
    refine kBuildSlice0 _ _ rfl rfl Tryd.underlying28 ib hib ?_
    intro wb hRr hzz hC1
    have hE := (own_empty (Nat.le_refl _) hRr : OwnB wb z0.heap.size _ [])
    have hx1 := hX4_18.below hC1
    clear hzz hRr
    have hSn : (Row wb y1.heap.size 26 (txC u.version x y u.end')) := hV4_17.below hC1 hV4_17.lt
    clear hS
    have hS := hSn
    clear hSn
    refine mixOn ⟨(fun w => (Row w y1.heap.size 26 (txC u.version x y u.end'))), (fun _ h => h), hS, ?_⟩
    go_frame
    refine dLoud ?_
    refine kAppB _ _ rfl rfl z0.heap.size _ _ [] (txL t) hE hx1 rfl rfl (by rw [List.length_nil]; omega) hC1.size ?_
    intro v48 w48 hE2 hC2
    rw [List.nil_append] at hE2
    have hC3 := hC1.trans hC2
    clear hE hx1 hC1 hC2
    have hSn : (Row w48 y1.heap.size 26 (txC u.version x y u.end')) := hV4_17.below hC3 hV4_17.lt
    clear hS
    have hS := hSn
    clear hSn
    refine mixOn ⟨(fun w => (Row w y1.heap.size 26 (txC u.version x y u.end'))), (fun _ h => h), hS, ?_⟩
    go_frame
    have hB3 := hB_19.trans (hC3.mono hB_19.size)
    refine dLoud ?_
    refine kCall1 11 _ _ _ rfl rfl (by kernel_rfl) rfl ?_
    refine (tBytes_any (t := u) _ hu hg (hx.below hB3) (hy.below hB3)).mono ?_
    rintro e w50 ⟨v50, rfl, hy0, hBq⟩
    have hy3 := hy0.vals
    have hE3 := hE2.below hBq
    have hC4 := hC3.trans (hBq.mono hC3.size)
    clear hy0 hE2 hBq hC3 hB3
    have hSn : (Row w50 y1.heap.size 26 (txC u.version x y u.end')) := hV4_17.below hC4 hV4_17.lt
    clear hS
    have hS := hSn
    clear hSn
    refine ⟨_, rfl, mixOn ⟨(fun w => (Row w y1.heap.size 26 (txC u.version x y u.end'))), (fun _ h => h), hS, ?_⟩⟩
    go_frame
    refine dLoud ?_
    refine kAppB _ _ rfl rfl z0.heap.size _ _ (txL t) (txL u) hE3 hy3 rfl rfl (by omega) hC4.size ?_
    intro v51 w51 hE5 hC5
    have hC6 := hC4.trans hC5
    have hs5 := hE5.vals
    clear hE3 hy3 hE5 hC4 hC5
    have hSn : (Row w51 y1.heap.size 26 (txC u.version x y u.end')) := hV4_17.below hC6 hV4_17.lt
    clear hS
    have hS := hSn
    clear hSn
    refine mixOn ⟨(fun w => (Row w y1.heap.size 26 (txC u.version x y u.end'))), (fun _ h => h), hS, ?_⟩
    go_frame
    refine dLoud ?_
    refine kCall1 26 _ _ _ rfl rfl (by kernel_rfl) rfl ?_
    refine (pcNew_any _ hs5 hl12).mono ?_
    rintro e w52 ⟨gp, rfl, hgp, hRd, hBq⟩
    have hC7 := hC6.trans (hBq.mono hC6.size)
    have hnhV3 : Hid (W0.heap.size ≠ gp) := by have a1 := hV3_16.lt; have a2 := hC6.size; show W0.heap.size ≠ gp; omega
    have hnhV4 : Hid (y1.heap.size ≠ gp) := by have a1 := hV4_17.lt; have a2 := hC6.size; show y1.heap.size ≠ gp; omega
    have hge : Hid (W0.heap.size ≤ gp) := by have a1 := hB_19.size; have a2 := hC6.size; show W0.heap.size ≤ gp; omega
    have hgl : Hid (gp < w52.heap.size) := hRd.lt
    have hLP := Nat.le_refl w52.heap.size
    clear hs5 hgp hBq hC6
    clear hS
    have hV3_20 := hV3_16.below hC7 hV3_16.lt
    have hV4_21 := hV4_17.below hC7 hV4_17.lt
    have hB_22 := hB_19.trans (hC7.mono hB_19.size)
    clear hV3_16 hV4_17 hB_19 hC7
    have hS : (Row w52 y1.heap.size 26 (txC u.version x y u.end')) := hV4_21
    refine ⟨_, rfl, mixOn ⟨(fun w => (Row w y1.heap.size 26 (txC u.version x y u.end'))), (fun _ h => h), hS, ?_⟩⟩
    go_frame
    refine dY _ hS (yAssign _ (.pointer (some ⟨gp, 0, none⟩)) rfl rfl rfl) ?_; go_frame
    refine dDone ?_
    clear hS
    go_wp2_with (first
      | (go_at_call 27; refine (tRead_any _ hRd hl12 hLP).mono ?_; rintro e y7 ⟨pa1, pb1, rfl, hI1, hO1, hR1, hX1⟩; rw [hbk1] at hI1 hO1 hR1 ⊢; have hLP_23 := Nat.le_trans hLP hX1.size; clear hLP; have hV3_24 := hX1.row hV3_20 hnhV3.out; have hV4_25 := hX1.row hV4_21 hnhV4.out; have hB_26 := hB_22.trans (hX1.below hge.out hB_22.size); clear hV3_20 hV4_21 hB_22 hRd hX1; go_frame)
      | (go_at_call 27; refine (tRead_any _ hR1 hl2 hLP_23).mono ?_; rintro e y8 ⟨pa2, pb2, rfl, hI2, hO2, hR2, hX2⟩; rw [hbk2] at hI2 hO2 hR2 ⊢; have hI1_27 := hI1.over (over_exc hX2 hgl.out); clear hI1; have hO1_28 := hO1.over (over_exc hX2 hgl.out); clear hO1; have hLP_29 := Nat.le_trans hLP_23 hX2.size; clear hLP_23; have hV3_30 := hX2.row hV3_24 hnhV3.out; have hV4_31 := hX2.row hV4_25 hnhV4.out; have hB_32 := hB_26.trans (hX2.below hge.out hB_26.size); clear hV3_24 hV4_25 hB_26 hR1 hX2; go_frame)
      | ((with_reducible change wpList _ _ _ (Oper.mk (some 11) _ _ _ _ _ :: _) _ _); refine kAllocL _ _ rfl rfl zero_TxC ?_; intro y9 hV11 hzq hBq; clear hzq; have hP := hBq; clear hBq; go_frame)
      | ((with_reducible change wpList _ _ _ (Oper.mk (some 12) _ _ _ _ _ :: _) _ _); refine kAllocL _ _ rfl rfl zero_TxC ?_; intro y10 hV12 hzq hBq; clear hzq; have hV11b := hV11.below hBq hV11.lt; have hne1112 : Hid (y8.heap.size ≠ y9.heap.size) := Nat.ne_of_lt hV11.lt; clear hV11; have hPn := hP.trans (hBq.mono hP.size); have hle12 : Hid (y8.heap.size ≤ y9.heap.size) := hP.size; clear hP hBq; have hP := hPn; clear hPn; go_frame)
      | ((with_reducible change wpList _ _ _ (Oper.mk none (Op.store _ (Operand.tmp 11) _) _ _ _ _ :: _) _ _); refine kStoreTx _ _ _ t.version t.end' pa1 pb1 _ hV11b rfl hI1_27.of.sl.one hO1_28.of.sl.one rfl rfl rfl rfl ?_; intro y11 hT11 hWq; have hPn := hP.trans (hWq.below (Nat.le_refl _)); clear hP; have hP := hPn; clear hPn; have hV12w := hWq.row hV12 (Ne.symm hne1112.out); clear hV12; clear hWq hV11b; go_frame)
      | ((with_reducible change wpList _ _ _ (Oper.mk none (Op.store _ (Operand.tmp 12) _) _ _ _ _ :: _) _ _); refine kStoreTx _ _ _ u.version u.end' pa2 pb2 _ hV12w rfl hI2.of.sl.one hO2.of.sl.one rfl rfl rfl rfl ?_; intro y12 hT12 hWq; have hPn := hP.trans (hWq.below (hle12.out)); clear hP; have hP := hPn; clear hPn; have hT11w := hWq.row hT11 hne1112.out; clear hT11; clear hWq hV12w; have hLP_33 := Nat.le_trans hLP_29 (hP).size; clear hLP_29; have hV3_34 := hV3_30.below hP hV3_30.lt; have hV4_35 := hV4_31.below hP hV4_31.lt; have hRd_36 := hR2.below hP; have hI1_37 := hI1_27.below hP; have hO1_38 := hO1_28.below hP; have hI2_39 := hI2.below hP; have hO2_40 := hO2.below hP; have hB_41 := hB_32.trans (hP.mono hB_32.size); clear hV3_30 hV4_31 hR2 hI1_27 hO1_28 hI2 hO2 hB_32 hP; go_frame)
      | ((with_reducible change wpList _ _ _ (Oper.mk (some 57) _ _ _ _ _ :: _) _ _); refine kLoadRow _ _ _ _ (txC t.version pa1 pb1 t.end') _ rfl rfl rfl hT11w Tryd.underlying26 rfl info_TxC ?_; go_frame)
      | ((with_reducible change wpList _ _ _ (Oper.mk (some 58) _ _ _ _ _ :: _) _ _); refine kLoadRow _ _ _ _ (txC t.version a b t.end') _ rfl rfl rfl hV3_34 Tryd.underlying26 rfl info_TxC ?_; go_frame)
      | (go_at_call 17; refine (tSame_any (t := t) (u := t) _ ht ht ⟨Nat.le_trans (hf).1 (by decide), Nat.le_trans (hf).2.1 (by decide)⟩ hI1_37.of hO1_38.of (ha.below hB_41) (hb.below hB_41)).mono ?_; rintro e y13 ⟨rfl, hBq⟩; have hLP_42 := Nat.le_trans hLP_33 (hBq).size; clear hLP_33; have hV3_43 := hV3_34.below hBq hV3_34.lt; have hV4_44 := hV4_35.below hBq hV4_35.lt; have hRd_45 := hRd_36.below hBq; have hI1_46 := hI1_37.below hBq; have hO1_47 := hO1_38.below hBq; have hI2_48 := hI2_39.below hBq; have hO2_49 := hO2_40.below hBq; have hT11w_50 := hT11w.below hBq hT11w.lt; have hT12_51 := hT12.below hBq hT12.lt; have hB_52 := hB_41.trans (hBq.mono hB_41.size); clear hV3_34 hV4_35 hRd_36 hI1_37 hO1_38 hI2_39 hO2_40 hT11w hT12 hB_41 hBq; rw [sameT_refl]; go_frame)
      | ((with_reducible change wpList _ _ _ (Oper.mk (some 61) _ _ _ _ _ :: _) _ _); refine kLoadRow _ _ _ _ (txC u.version pa2 pb2 u.end') _ rfl rfl rfl hT12_51 Tryd.underlying26 rfl info_TxC ?_; go_frame)
      | ((with_reducible change wpList _ _ _ (Oper.mk (some 62) _ _ _ _ _ :: _) _ _); refine kLoadRow _ _ _ _ (txC u.version x y u.end') _ rfl rfl rfl hV4_44 Tryd.underlying26 rfl info_TxC ?_; go_frame)
      | (go_at_call 17; refine (tSame_any (t := u) (u := u) _ hu hu ⟨Nat.le_trans (hg).1 (by decide), Nat.le_trans (hg).2.1 (by decide)⟩ hI2_48.of hO2_49.of (hx.below hB_52) (hy.below hB_52)).mono ?_; rintro e y14 ⟨rfl, hBq⟩; have hLP_53 := Nat.le_trans hLP_42 (hBq).size; clear hLP_42; have hV3_54 := hV3_43.below hBq hV3_43.lt; have hV4_55 := hV4_44.below hBq hV4_44.lt; have hRd_56 := hRd_45.below hBq; have hI1_57 := hI1_46.below hBq; have hO1_58 := hO1_47.below hBq; have hI2_59 := hI2_48.below hBq; have hO2_60 := hO2_49.below hBq; have hT11w_61 := hT11w_50.below hBq hT11w_50.lt; have hT12_62 := hT12_51.below hBq hT12_51.lt; have hB_63 := hB_52.trans (hBq.mono hB_52.size); clear hV3_43 hV4_44 hRd_45 hI1_46 hO1_47 hI2_48 hO2_49 hT11w_50 hT12_51 hB_52 hBq; rw [sameT_refl]; go_frame)
      | (go_at_call 30; refine (rdLeft_any (n := 0) _ hRd_56 rfl).mono ?_; rintro e y15 ⟨rfl, rfl⟩; go_frame)
      | ((with_reducible change wpList _ _ _ (Oper.mk (some 68) _ _ _ _ _ :: _) _ _); refine kEqlI _ _ _ _ .i64 0 0 true rfl rfl rfl rfl (by simp) ?_; go_frame)
      | (go_at_call 29; refine (rdErr_any (n := 0) _ hRd_56 rfl).mono ?_; rintro e y16 ⟨rfl, rfl⟩; go_frame)
      | ((with_reducible change wpList _ _ _ (Oper.mk (some 73) _ _ _ _ _ :: _) _ _); refine kEqlI _ _ _ _ .i64 0 0 true rfl rfl rfl rfl (by simp) ?_; go_frame))
    first
      | (go_ret; exact ⟨rfl, hB_63⟩)
      | ((try simp only [Exit.inBlock, Exit.then]); refine retBT rfl rfl ?_; exact ⟨rfl, hB_63⟩)
  obtain ⟨k, rfl⟩ : ∃ k : Nat, n = (k : Int) := ⟨n.toNat, by omega⟩
  have d24 : decide ((k : Int) ≥ 0) = true := by simp
  clear h0
  by_cases h1 : k < nx
  · have d29 : decide ((k : Int) < (nx : Int)) = true := by simp; omega
    have hcut := parse_cutT ht hf (k := k) (by omega)
    have hlk : ((txL t).take k).length ≤ 1000000 := by rw [List.length_take]; omega
    have hB00 := Below.refl W0.heap.size W0
    go_enter Tryd.func8, Tryd.ntmps8
    go_wp2_with (first
      | ((with_reducible change wpList _ _ _ (Oper.mk (some 3) _ _ _ _ _ :: _) _ _); refine kBoxL _ _ _ rfl rfl rfl ?_; intro y1 hV3 hzq hBq; clear hzq; have hB_1 := hB00.trans (hBq.mono hB00.size); clear hB00 hBq; go_frame)
      | ((with_reducible change wpList _ _ _ (Oper.mk (some 4) _ _ _ _ _ :: _) _ _); refine kBoxL _ _ _ rfl rfl rfl ?_; intro y2 hV4 hzq hBq; clear hzq; have hV3_2 := hV3.below hBq hV3.lt; have hB_3 := hB_1.trans (hBq.mono hB_1.size); clear hV3 hB_1 hBq; go_frame)
      | (go_at_call 12; refine (txAlive_any _ (hK.below hB_3)).mono ?_; rintro e y3 ⟨rfl, hBq⟩; have hV3_4 := hV3_2.below hBq hV3_2.lt; have hV4_5 := hV4.below hBq hV4.lt; have hB_6 := hB_3.trans (hBq.mono hB_3.size); clear hV3_2 hV4 hB_3 hBq; go_frame)
      | ((with_reducible change wpList _ _ _ (Oper.mk (some 14) _ _ _ _ _ :: _) _ _); refine kNot _ _ true rfl rfl rfl ?_; go_frame)
      | ((with_reducible change wpList _ _ _ (Oper.mk (some 15) _ _ _ _ _ :: _) _ _); refine kLoadRow _ _ _ _ (txC t.version a b t.end') _ rfl rfl rfl hV3_4 Tryd.underlying26 rfl info_TxC ?_; go_frame)
      | (go_at_call 15; refine (great_any (t := t) _ (ha.below hB_6) (hb.below hB_6)).mono ?_; rintro e y4 ⟨rfl, hBq⟩; have hV3_7 := hV3_4.below hBq hV3_4.lt; have hV4_8 := hV4_5.below hBq hV4_5.lt; have hB_9 := hB_6.trans (hBq.mono hB_6.size); clear hV3_4 hV4_5 hB_6 hBq; rw [hg1]; go_frame)
      | ((with_reducible change wpList _ _ _ (Oper.mk (some 18) _ _ _ _ _ :: _) _ _); refine kLoadRow _ _ _ _ (txC u.version x y u.end') _ rfl rfl rfl hV4_8 Tryd.underlying26 rfl info_TxC ?_; go_frame)
      | (go_at_call 15; refine (great_any (t := u) _ (hx.below hB_9) (hy.below hB_9)).mono ?_; rintro e y5 ⟨rfl, hBq⟩; have hV3_10 := hV3_7.below hBq hV3_7.lt; have hV4_11 := hV4_8.below hBq hV4_8.lt; have hB_12 := hB_9.trans (hBq.mono hB_9.size); clear hV3_7 hV4_8 hB_9 hBq; rw [hg2]; go_frame)
      | ((with_reducible change wpList _ _ _ (Oper.mk (some 21) _ _ _ _ _ :: _) _ _); refine kLoadRow _ _ _ _ (txC t.version a b t.end') _ rfl rfl rfl hV3_10 Tryd.underlying26 rfl info_TxC ?_; go_frame)
      | (go_at_call 11; refine (tBytes_any (t := t) _ ht hf (ha.below hB_12) (hb.below hB_12)).mono ?_; rintro e y6 ⟨v4, rfl, hX4o, hBq⟩; have hV3_13 := hV3_10.below hBq hV3_10.lt; have hV4_14 := hV4_11.below hBq hV4_11.lt; have hB_15 := hB_12.trans (hBq.mono hB_12.size); clear hV3_10 hV4_11 hB_12 hBq; have hX4 := hX4o.vals; clear hX4o; go_frame)
      | ((with_reducible change wpList _ _ _ (Oper.mk (some 24) _ _ _ _ _ :: _) _ _); refine kGeqI _ _ _ _ .i64 (k : Int) 0 true rfl rfl rfl rfl d24 ?_; go_frame)
      | ((with_reducible change wpList _ _ _ (Oper.mk (some 28) _ _ _ _ _ :: _) _ _); refine kLenN _ _ _ v4 _ nx rfl rfl rfl hX4 (by rw [List.length_map, hnx]) Tryd.underlying28 ?_; go_frame)
      | ((with_reducible change wpList _ _ _ (Oper.mk (some 29) _ _ _ _ _ :: _) _ _); refine kLssI _ _ _ _ .i64 (k : Int) (nx : Int) true rfl rfl rfl rfl d29 ?_; go_frame)
      | ((with_reducible change wpList _ _ _ (Oper.mk (some 34) _ _ _ _ _ :: _) _ _); refine kSliceTo _ _ v4 (txL t) k hX4 (by omega) rfl rfl rfl rfl ?_; intro hV34; go_frame)
      | (go_at_call 10; refine (tParse_any (l := ((txL t).take k)) _ hV34 hlk).mono ?_; rintro e y7 ⟨pa5, pb5, rfl, hI5, hO5, hBq⟩; have hV3_16 := hV3_13.below hBq hV3_13.lt; have hV4_17 := hV4_14.below hBq hV4_14.lt; have hX4_18 := hX4.below hBq; have hV34_19 := hV34.below hBq; have hB_20 := hB_15.trans (hBq.mono hB_15.size); clear hV3_13 hV4_14 hX4 hV34 hB_15 hBq; rw [hcut] at hI5 hO5 ⊢; go_frame)
      | ((with_reducible change wpList _ _ _ (Oper.mk (some 8) _ _ _ _ _ :: _) _ _); refine kAllocL _ _ rfl rfl zero_TxC ?_; intro y8 hV8 hzq hBq; clear hzq; have hP := hBq; clear hBq; go_frame)
      | ((with_reducible change wpList _ _ _ (Oper.mk none (Op.store _ (Operand.tmp 8) _) _ _ _ _ :: _) _ _); refine kStoreTx _ _ _ noTx.version noTx.end' pa5 pb5 _ hV8 rfl hI5.of.sl.one hO5.of.sl.one rfl rfl rfl rfl ?_; intro y9 hT8 hWq; have hPn := hP.trans (hWq.below (Nat.le_refl _)); clear hP; have hP := hPn; clear hPn; clear hWq hV8; have hV3_21 := hV3_16.below hP hV3_16.lt; have hV4_22 := hV4_17.below hP hV4_17.lt; have hX4_23 := hX4_18.below hP; have hV34_24 := hV34_19.below hP; have hI5_25 := hI5.below hP; have hO5_26 := hO5.below hP; have hB_27 := hB_20.trans (hP.mono hB_20.size); clear hV3_16 hV4_17 hX4_18 hV34_19 hI5 hO5 hB_20 hP; go_frame)
      | ((with_reducible change wpList _ _ _ (Oper.mk (some 39) _ _ _ _ _ :: _) _ _); refine kNeqI _ _ _ _ .i64 61 61 false rfl rfl rfl rfl (by simp) ?_; go_frame)
      | ((with_reducible change wpList _ _ _ (Oper.mk (some 41) _ _ _ _ _ :: _) _ _); refine kLoadRow _ _ _ _ (txC noTx.version pa5 pb5 noTx.end') _ rfl rfl rfl hT8 Tryd.underlying26 rfl info_TxC ?_; go_frame)
      | ((with_reducible change wpList _ _ _ (Oper.mk (some 42) _ _ _ _ _ :: _) _ _); refine kBuildTx0 rfl rfl ?_; go_frame)
      | (go_at_call 17; refine (tSame_any (t := noTx) (u := noTx) _ noTx_is noTx_is ⟨Nat.le_trans (noTx_fits).1 (by decide), Nat.le_trans (noTx_fits).2.1 (by decide)⟩ hI5_25.of hO5_26.of (insOf_nil _) (outsOf_nil _)).mono ?_; rintro e y10 ⟨rfl, hBq⟩; have hV3_28 := hV3_21.below hBq hV3_21.lt; have hV4_29 := hV4_22.below hBq hV4_22.lt; have hX4_30 := hX4_23.below hBq; have hV34_31 := hV34_24.below hBq; have hI5_32 := hI5_25.below hBq; have hO5_33 := hO5_26.below hBq; have hT8_34 := hT8.below hBq hT8.lt; have hB_35 := hB_27.trans (hBq.mono hB_27.size); clear hV3_21 hV4_22 hX4_23 hV34_24 hI5_25 hO5_26 hT8 hB_27 hBq; rw [sameT_refl]; go_frame)
      | ((with_reducible change wpList _ _ _ (Oper.mk (some 44) _ _ _ _ _ :: _) _ _); refine kNot _ _ true rfl rfl rfl ?_; go_frame))
    refine region_mixD [(1, true), (3, true), (0, false), (2, false), (4, false), (5, false), (6, false), (7, true)] (fun w => (Row w y1.heap.size 26 (txC u.version x y u.end'))) (by kernel_rfl) (by kernel_rfl) rfl ?_
    intro z0 hBd hsd
    clear hsd
    have hV3_36 := hV3_28.below hBd hV3_28.lt
    have hV4_37 := hV4_29.below hBd hV4_29.lt
    have hX4_38 := hX4_30.below hBd
    have hB_39 := hB_35.trans (hBd.mono hB_35.size)
    clear hV3_28 hV4_29 hX4_30 hB_35 hBd
    simp only [List.map_cons, List.map_nil]
    dsimp only [List.filterMap, List.getElem?_cons_zero, List.getElem?_cons_succ]
    have hS : (Row z0 y1.heap.size 26 (txC u.version x y u.end')) := hV4_37
    refine dY _ hS (yMove _ v4 rfl rfl rfl) ?_; go_frame
    refine dY _ hS (yLoadRowC Tryd.underlying26 rfl _ _ (txC u.version x y u.end') info_TxC (fun _ h => h) rfl rfl rfl) ?_; go_frame
    refine dLoud ?_
    refine kBuildSlice0 _ _ rfl rfl Tryd.underlying28 ib hib ?_
    intro wb hRr hzz hC1
    have hE := (own_empty (Nat.le_refl _) hRr : OwnB wb z0.heap.size _ [])
    have hx1 := hX4_38.below hC1
    clear hzz hRr
    have hSn : (Row wb y1.heap.size 26 (txC u.version x y u.end')) := hV4_37.below hC1 hV4_37.lt
    clear hS
    have hS := hSn
    clear hSn
    refine mixOn ⟨(fun w => (Row w y1.heap.size 26 (txC u.version x y u.end'))), (fun _ h => h), hS, ?_⟩
    go_frame
    refine dLoud ?_
    refine kAppB _ _ rfl rfl z0.heap.size _ _ [] (txL t) hE hx1 rfl rfl (by rw [List.length_nil]; omega) hC1.size ?_
    intro v48 w48 hE2 hC2
    rw [List.nil_append] at hE2
    have hC3 := hC1.trans hC2
    clear hE hx1 hC1 hC2
    have hSn : (Row w48 y1.heap.size 26 (txC u.version x y u.end')) := hV4_37.below hC3 hV4_37.lt
    clear hS
    have hS := hSn
    clear hSn
    refine mixOn ⟨(fun w => (Row w y1.heap.size 26 (txC u.version x y u.end'))), (fun _ h => h), hS, ?_⟩
    go_frame
    have hB3 := hB_39.trans (hC3.mono hB_39.size)
    refine dLoud ?_
    refine kCall1 11 _ _ _ rfl rfl (by kernel_rfl) rfl ?_
    refine (tBytes_any (t := u) _ hu hg (hx.below hB3) (hy.below hB3)).mono ?_
    rintro e w50 ⟨v50, rfl, hy0, hBq⟩
    have hy3 := hy0.vals
    have hE3 := hE2.below hBq
    have hC4 := hC3.trans (hBq.mono hC3.size)
    clear hy0 hE2 hBq hC3 hB3
    have hSn : (Row w50 y1.heap.size 26 (txC u.version x y u.end')) := hV4_37.below hC4 hV4_37.lt
    clear hS
    have hS := hSn
    clear hSn
    refine ⟨_, rfl, mixOn ⟨(fun w => (Row w y1.heap.size 26 (txC u.version x y u.end'))), (fun _ h => h), hS, ?_⟩⟩
    go_frame
    refine dLoud ?_
    refine kAppB _ _ rfl rfl z0.heap.size _ _ (txL t) (txL u) hE3 hy3 rfl rfl (by omega) hC4.size ?_
    intro v51 w51 hE5 hC5
    have hC6 := hC4.trans hC5
    have hs5 := hE5.vals
    clear hE3 hy3 hE5 hC4 hC5
    have hSn : (Row w51 y1.heap.size 26 (txC u.version x y u.end')) := hV4_37.below hC6 hV4_37.lt
    clear hS
    have hS := hSn
    clear hSn
    refine mixOn ⟨(fun w => (Row w y1.heap.size 26 (txC u.version x y u.end'))), (fun _ h => h), hS, ?_⟩
    go_frame
    refine dLoud ?_
    refine kCall1 26 _ _ _ rfl rfl (by kernel_rfl) rfl ?_
    refine (pcNew_any _ hs5 hl12).mono ?_
    rintro e w52 ⟨gp, rfl, hgp, hRd, hBq⟩
    have hC7 := hC6.trans (hBq.mono hC6.size)
    have hnhV3 : Hid (W0.heap.size ≠ gp) := by have a1 := hV3_36.lt; have a2 := hC6.size; show W0.heap.size ≠ gp; omega
    have hnhV4 : Hid (y1.heap.size ≠ gp) := by have a1 := hV4_37.lt; have a2 := hC6.size; show y1.heap.size ≠ gp; omega
    have hge : Hid (W0.heap.size ≤ gp) := by have a1 := hB_39.size; have a2 := hC6.size; show W0.heap.size ≤ gp; omega
    have hgl : Hid (gp < w52.heap.size) := hRd.lt
    have hLP := Nat.le_refl w52.heap.size
    clear hs5 hgp hBq hC6
    clear hS
    have hV3_40 := hV3_36.below hC7 hV3_36.lt
    have hV4_41 := hV4_37.below hC7 hV4_37.lt
    have hB_42 := hB_39.trans (hC7.mono hB_39.size)
    clear hV3_36 hV4_37 hB_39 hC7
    have hS : (Row w52 y1.heap.size 26 (txC u.version x y u.end')) := hV4_41
    refine ⟨_, rfl, mixOn ⟨(fun w => (Row w y1.heap.size 26 (txC u.version x y u.end'))), (fun _ h => h), hS, ?_⟩⟩
    go_frame
    refine dY _ hS (yAssign _ (.pointer (some ⟨gp, 0, none⟩)) rfl rfl rfl) ?_; go_frame
    refine dDone ?_
    clear hS
    go_wp2_with (first
      | (go_at_call 27; refine (tRead_any _ hRd hl12 hLP).mono ?_; rintro e y11 ⟨pa1, pb1, rfl, hI1, hO1, hR1, hX1⟩; rw [hbk1] at hI1 hO1 hR1 ⊢; have hLP_43 := Nat.le_trans hLP hX1.size; clear hLP; have hV3_44 := hX1.row hV3_40 hnhV3.out; have hV4_45 := hX1.row hV4_41 hnhV4.out; have hB_46 := hB_42.trans (hX1.below hge.out hB_42.size); clear hV3_40 hV4_41 hB_42 hRd hX1; go_frame)
      | (go_at_call 27; refine (tRead_any _ hR1 hl2 hLP_43).mono ?_; rintro e y12 ⟨pa2, pb2, rfl, hI2, hO2, hR2, hX2⟩; rw [hbk2] at hI2 hO2 hR2 ⊢; have hI1_47 := hI1.over (over_exc hX2 hgl.out); clear hI1; have hO1_48 := hO1.over (over_exc hX2 hgl.out); clear hO1; have hLP_49 := Nat.le_trans hLP_43 hX2.size; clear hLP_43; have hV3_50 := hX2.row hV3_44 hnhV3.out; have hV4_51 := hX2.row hV4_45 hnhV4.out; have hB_52 := hB_46.trans (hX2.below hge.out hB_46.size); clear hV3_44 hV4_45 hB_46 hR1 hX2; go_frame)
      | ((with_reducible change wpList _ _ _ (Oper.mk (some 11) _ _ _ _ _ :: _) _ _); refine kAllocL _ _ rfl rfl zero_TxC ?_; intro y13 hV11 hzq hBq; clear hzq; have hP := hBq; clear hBq; go_frame)
      | ((with_reducible change wpList _ _ _ (Oper.mk (some 12) _ _ _ _ _ :: _) _ _); refine kAllocL _ _ rfl rfl zero_TxC ?_; intro y14 hV12 hzq hBq; clear hzq; have hV11b := hV11.below hBq hV11.lt; have hne1112 : Hid (y12.heap.size ≠ y13.heap.size) := Nat.ne_of_lt hV11.lt; clear hV11; have hPn := hP.trans (hBq.mono hP.size); have hle12 : Hid (y12.heap.size ≤ y13.heap.size) := hP.size; clear hP hBq; have hP := hPn; clear hPn; go_frame)
      | ((with_reducible change wpList _ _ _ (Oper.mk none (Op.store _ (Operand.tmp 11) _) _ _ _ _ :: _) _ _); refine kStoreTx _ _ _ t.version t.end' pa1 pb1 _ hV11b rfl hI1_47.of.sl.one hO1_48.of.sl.one rfl rfl rfl rfl ?_; intro y15 hT11 hWq; have hPn := hP.trans (hWq.below (Nat.le_refl _)); clear hP; have hP := hPn; clear hPn; have hV12w := hWq.row hV12 (Ne.symm hne1112.out); clear hV12; clear hWq hV11b; go_frame)
      | ((with_reducible change wpList _ _ _ (Oper.mk none (Op.store _ (Operand.tmp 12) _) _ _ _ _ :: _) _ _); refine kStoreTx _ _ _ u.version u.end' pa2 pb2 _ hV12w rfl hI2.of.sl.one hO2.of.sl.one rfl rfl rfl rfl ?_; intro y16 hT12 hWq; have hPn := hP.trans (hWq.below (hle12.out)); clear hP; have hP := hPn; clear hPn; have hT11w := hWq.row hT11 hne1112.out; clear hT11; clear hWq hV12w; have hLP_53 := Nat.le_trans hLP_49 (hP).size; clear hLP_49; have hV3_54 := hV3_50.below hP hV3_50.lt; have hV4_55 := hV4_51.below hP hV4_51.lt; have hRd_56 := hR2.below hP; have hI1_57 := hI1_47.below hP; have hO1_58 := hO1_48.below hP; have hI2_59 := hI2.below hP; have hO2_60 := hO2.below hP; have hB_61 := hB_52.trans (hP.mono hB_52.size); clear hV3_50 hV4_51 hR2 hI1_47 hO1_48 hI2 hO2 hB_52 hP; go_frame)
      | ((with_reducible change wpList _ _ _ (Oper.mk (some 57) _ _ _ _ _ :: _) _ _); refine kLoadRow _ _ _ _ (txC t.version pa1 pb1 t.end') _ rfl rfl rfl hT11w Tryd.underlying26 rfl info_TxC ?_; go_frame)
      | ((with_reducible change wpList _ _ _ (Oper.mk (some 58) _ _ _ _ _ :: _) _ _); refine kLoadRow _ _ _ _ (txC t.version a b t.end') _ rfl rfl rfl hV3_54 Tryd.underlying26 rfl info_TxC ?_; go_frame)
      | (go_at_call 17; refine (tSame_any (t := t) (u := t) _ ht ht ⟨Nat.le_trans (hf).1 (by decide), Nat.le_trans (hf).2.1 (by decide)⟩ hI1_57.of hO1_58.of (ha.below hB_61) (hb.below hB_61)).mono ?_; rintro e y17 ⟨rfl, hBq⟩; have hLP_62 := Nat.le_trans hLP_53 (hBq).size; clear hLP_53; have hV3_63 := hV3_54.below hBq hV3_54.lt; have hV4_64 := hV4_55.below hBq hV4_55.lt; have hRd_65 := hRd_56.below hBq; have hI1_66 := hI1_57.below hBq; have hO1_67 := hO1_58.below hBq; have hI2_68 := hI2_59.below hBq; have hO2_69 := hO2_60.below hBq; have hT11w_70 := hT11w.below hBq hT11w.lt; have hT12_71 := hT12.below hBq hT12.lt; have hB_72 := hB_61.trans (hBq.mono hB_61.size); clear hV3_54 hV4_55 hRd_56 hI1_57 hO1_58 hI2_59 hO2_60 hT11w hT12 hB_61 hBq; rw [sameT_refl]; go_frame)
      | ((with_reducible change wpList _ _ _ (Oper.mk (some 61) _ _ _ _ _ :: _) _ _); refine kLoadRow _ _ _ _ (txC u.version pa2 pb2 u.end') _ rfl rfl rfl hT12_71 Tryd.underlying26 rfl info_TxC ?_; go_frame)
      | ((with_reducible change wpList _ _ _ (Oper.mk (some 62) _ _ _ _ _ :: _) _ _); refine kLoadRow _ _ _ _ (txC u.version x y u.end') _ rfl rfl rfl hV4_64 Tryd.underlying26 rfl info_TxC ?_; go_frame)
      | (go_at_call 17; refine (tSame_any (t := u) (u := u) _ hu hu ⟨Nat.le_trans (hg).1 (by decide), Nat.le_trans (hg).2.1 (by decide)⟩ hI2_68.of hO2_69.of (hx.below hB_72) (hy.below hB_72)).mono ?_; rintro e y18 ⟨rfl, hBq⟩; have hLP_73 := Nat.le_trans hLP_62 (hBq).size; clear hLP_62; have hV3_74 := hV3_63.below hBq hV3_63.lt; have hV4_75 := hV4_64.below hBq hV4_64.lt; have hRd_76 := hRd_65.below hBq; have hI1_77 := hI1_66.below hBq; have hO1_78 := hO1_67.below hBq; have hI2_79 := hI2_68.below hBq; have hO2_80 := hO2_69.below hBq; have hT11w_81 := hT11w_70.below hBq hT11w_70.lt; have hT12_82 := hT12_71.below hBq hT12_71.lt; have hB_83 := hB_72.trans (hBq.mono hB_72.size); clear hV3_63 hV4_64 hRd_65 hI1_66 hO1_67 hI2_68 hO2_69 hT11w_70 hT12_71 hB_72 hBq; rw [sameT_refl]; go_frame)
      | (go_at_call 30; refine (rdLeft_any (n := 0) _ hRd_76 rfl).mono ?_; rintro e y19 ⟨rfl, rfl⟩; go_frame)
      | ((with_reducible change wpList _ _ _ (Oper.mk (some 68) _ _ _ _ _ :: _) _ _); refine kEqlI _ _ _ _ .i64 0 0 true rfl rfl rfl rfl (by simp) ?_; go_frame)
      | (go_at_call 29; refine (rdErr_any (n := 0) _ hRd_76 rfl).mono ?_; rintro e y20 ⟨rfl, rfl⟩; go_frame)
      | ((with_reducible change wpList _ _ _ (Oper.mk (some 73) _ _ _ _ _ :: _) _ _); refine kEqlI _ _ _ _ .i64 0 0 true rfl rfl rfl rfl (by simp) ?_; go_frame))
    first
      | (go_ret; exact ⟨rfl, hB_83⟩)
      | ((try simp only [Exit.inBlock, Exit.then]); refine retBT rfl rfl ?_; exact ⟨rfl, hB_83⟩)
  · have d29 : decide ((k : Int) < (nx : Int)) = false := by simp; omega
    have hB00 := Below.refl W0.heap.size W0
    go_enter Tryd.func8, Tryd.ntmps8
    go_wp2_with (first
      | ((with_reducible change wpList _ _ _ (Oper.mk (some 3) _ _ _ _ _ :: _) _ _); refine kBoxL _ _ _ rfl rfl rfl ?_; intro y1 hV3 hzq hBq; clear hzq; have hB_1 := hB00.trans (hBq.mono hB00.size); clear hB00 hBq; go_frame)
      | ((with_reducible change wpList _ _ _ (Oper.mk (some 4) _ _ _ _ _ :: _) _ _); refine kBoxL _ _ _ rfl rfl rfl ?_; intro y2 hV4 hzq hBq; clear hzq; have hV3_2 := hV3.below hBq hV3.lt; have hB_3 := hB_1.trans (hBq.mono hB_1.size); clear hV3 hB_1 hBq; go_frame)
      | (go_at_call 12; refine (txAlive_any _ (hK.below hB_3)).mono ?_; rintro e y3 ⟨rfl, hBq⟩; have hV3_4 := hV3_2.below hBq hV3_2.lt; have hV4_5 := hV4.below hBq hV4.lt; have hB_6 := hB_3.trans (hBq.mono hB_3.size); clear hV3_2 hV4 hB_3 hBq; go_frame)
      | ((with_reducible change wpList _ _ _ (Oper.mk (some 14) _ _ _ _ _ :: _) _ _); refine kNot _ _ true rfl rfl rfl ?_; go_frame)
      | ((with_reducible change wpList _ _ _ (Oper.mk (some 15) _ _ _ _ _ :: _) _ _); refine kLoadRow _ _ _ _ (txC t.version a b t.end') _ rfl rfl rfl hV3_4 Tryd.underlying26 rfl info_TxC ?_; go_frame)
      | (go_at_call 15; refine (great_any (t := t) _ (ha.below hB_6) (hb.below hB_6)).mono ?_; rintro e y4 ⟨rfl, hBq⟩; have hV3_7 := hV3_4.below hBq hV3_4.lt; have hV4_8 := hV4_5.below hBq hV4_5.lt; have hB_9 := hB_6.trans (hBq.mono hB_6.size); clear hV3_4 hV4_5 hB_6 hBq; rw [hg1]; go_frame)
      | ((with_reducible change wpList _ _ _ (Oper.mk (some 18) _ _ _ _ _ :: _) _ _); refine kLoadRow _ _ _ _ (txC u.version x y u.end') _ rfl rfl rfl hV4_8 Tryd.underlying26 rfl info_TxC ?_; go_frame)
      | (go_at_call 15; refine (great_any (t := u) _ (hx.below hB_9) (hy.below hB_9)).mono ?_; rintro e y5 ⟨rfl, hBq⟩; have hV3_10 := hV3_7.below hBq hV3_7.lt; have hV4_11 := hV4_8.below hBq hV4_8.lt; have hB_12 := hB_9.trans (hBq.mono hB_9.size); clear hV3_7 hV4_8 hB_9 hBq; rw [hg2]; go_frame)
      | ((with_reducible change wpList _ _ _ (Oper.mk (some 21) _ _ _ _ _ :: _) _ _); refine kLoadRow _ _ _ _ (txC t.version a b t.end') _ rfl rfl rfl hV3_10 Tryd.underlying26 rfl info_TxC ?_; go_frame)
      | (go_at_call 11; refine (tBytes_any (t := t) _ ht hf (ha.below hB_12) (hb.below hB_12)).mono ?_; rintro e y6 ⟨v4, rfl, hX4o, hBq⟩; have hV3_13 := hV3_10.below hBq hV3_10.lt; have hV4_14 := hV4_11.below hBq hV4_11.lt; have hB_15 := hB_12.trans (hBq.mono hB_12.size); clear hV3_10 hV4_11 hB_12 hBq; have hX4 := hX4o.vals; clear hX4o; go_frame)
      | ((with_reducible change wpList _ _ _ (Oper.mk (some 24) _ _ _ _ _ :: _) _ _); refine kGeqI _ _ _ _ .i64 (k : Int) 0 true rfl rfl rfl rfl d24 ?_; go_frame)
      | ((with_reducible change wpList _ _ _ (Oper.mk (some 28) _ _ _ _ _ :: _) _ _); refine kLenN _ _ _ v4 _ nx rfl rfl rfl hX4 (by rw [List.length_map, hnx]) Tryd.underlying28 ?_; go_frame)
      | ((with_reducible change wpList _ _ _ (Oper.mk (some 29) _ _ _ _ _ :: _) _ _); refine kLssI _ _ _ _ .i64 (k : Int) (nx : Int) false rfl rfl rfl rfl d29 ?_; go_frame))
    refine region_mixD [(1, true), (3, true), (0, false), (2, false), (4, false), (5, false), (6, false), (7, true)] (fun w => (Row w y1.heap.size 26 (txC u.version x y u.end'))) (by kernel_rfl) (by kernel_rfl) rfl ?_
    intro z0 hBd hsd
    clear hsd
    have hV3_16 := hV3_13.below hBd hV3_13.lt
    have hV4_17 := hV4_14.below hBd hV4_14.lt
    have hX4_18 := hX4.below hBd
    have hB_19 := hB_15.trans (hBd.mono hB_15.size)
    clear hV3_13 hV4_14 hX4 hB_15 hBd
    simp only [List.map_cons, List.map_nil]
    dsimp only [List.filterMap, List.getElem?_cons_zero, List.getElem?_cons_succ]
    have hS : (Row z0 y1.heap.size 26 (txC u.version x y u.end')) := hV4_17
    refine dY _ hS (yMove _ v4 rfl rfl rfl) ?_; go_frame
    refine dY _ hS (yLoadRowC Tryd.underlying26 rfl _ _ (txC u.version x y u.end') info_TxC (fun _ h => h) rfl rfl rfl) ?_; go_frame
    refine dLoud ?_
    refine kBuildSlice0 _ _ rfl rfl Tryd.underlying28 ib hib ?_
    intro wb hRr hzz hC1
    have hE := (own_empty (Nat.le_refl _) hRr : OwnB wb z0.heap.size _ [])
    have hx1 := hX4_18.below hC1
    clear hzz hRr
    have hSn : (Row wb y1.heap.size 26 (txC u.version x y u.end')) := hV4_17.below hC1 hV4_17.lt
    clear hS
    have hS := hSn
    clear hSn
    refine mixOn ⟨(fun w => (Row w y1.heap.size 26 (txC u.version x y u.end'))), (fun _ h => h), hS, ?_⟩
    go_frame
    refine dLoud ?_
    refine kAppB _ _ rfl rfl z0.heap.size _ _ [] (txL t) hE hx1 rfl rfl (by rw [List.length_nil]; omega) hC1.size ?_
    intro v48 w48 hE2 hC2
    rw [List.nil_append] at hE2
    have hC3 := hC1.trans hC2
    clear hE hx1 hC1 hC2
    have hSn : (Row w48 y1.heap.size 26 (txC u.version x y u.end')) := hV4_17.below hC3 hV4_17.lt
    clear hS
    have hS := hSn
    clear hSn
    refine mixOn ⟨(fun w => (Row w y1.heap.size 26 (txC u.version x y u.end'))), (fun _ h => h), hS, ?_⟩
    go_frame
    have hB3 := hB_19.trans (hC3.mono hB_19.size)
    refine dLoud ?_
    refine kCall1 11 _ _ _ rfl rfl (by kernel_rfl) rfl ?_
    refine (tBytes_any (t := u) _ hu hg (hx.below hB3) (hy.below hB3)).mono ?_
    rintro e w50 ⟨v50, rfl, hy0, hBq⟩
    have hy3 := hy0.vals
    have hE3 := hE2.below hBq
    have hC4 := hC3.trans (hBq.mono hC3.size)
    clear hy0 hE2 hBq hC3 hB3
    have hSn : (Row w50 y1.heap.size 26 (txC u.version x y u.end')) := hV4_17.below hC4 hV4_17.lt
    clear hS
    have hS := hSn
    clear hSn
    refine ⟨_, rfl, mixOn ⟨(fun w => (Row w y1.heap.size 26 (txC u.version x y u.end'))), (fun _ h => h), hS, ?_⟩⟩
    go_frame
    refine dLoud ?_
    refine kAppB _ _ rfl rfl z0.heap.size _ _ (txL t) (txL u) hE3 hy3 rfl rfl (by omega) hC4.size ?_
    intro v51 w51 hE5 hC5
    have hC6 := hC4.trans hC5
    have hs5 := hE5.vals
    clear hE3 hy3 hE5 hC4 hC5
    have hSn : (Row w51 y1.heap.size 26 (txC u.version x y u.end')) := hV4_17.below hC6 hV4_17.lt
    clear hS
    have hS := hSn
    clear hSn
    refine mixOn ⟨(fun w => (Row w y1.heap.size 26 (txC u.version x y u.end'))), (fun _ h => h), hS, ?_⟩
    go_frame
    refine dLoud ?_
    refine kCall1 26 _ _ _ rfl rfl (by kernel_rfl) rfl ?_
    refine (pcNew_any _ hs5 hl12).mono ?_
    rintro e w52 ⟨gp, rfl, hgp, hRd, hBq⟩
    have hC7 := hC6.trans (hBq.mono hC6.size)
    have hnhV3 : Hid (W0.heap.size ≠ gp) := by have a1 := hV3_16.lt; have a2 := hC6.size; show W0.heap.size ≠ gp; omega
    have hnhV4 : Hid (y1.heap.size ≠ gp) := by have a1 := hV4_17.lt; have a2 := hC6.size; show y1.heap.size ≠ gp; omega
    have hge : Hid (W0.heap.size ≤ gp) := by have a1 := hB_19.size; have a2 := hC6.size; show W0.heap.size ≤ gp; omega
    have hgl : Hid (gp < w52.heap.size) := hRd.lt
    have hLP := Nat.le_refl w52.heap.size
    clear hs5 hgp hBq hC6
    clear hS
    have hV3_20 := hV3_16.below hC7 hV3_16.lt
    have hV4_21 := hV4_17.below hC7 hV4_17.lt
    have hB_22 := hB_19.trans (hC7.mono hB_19.size)
    clear hV3_16 hV4_17 hB_19 hC7
    have hS : (Row w52 y1.heap.size 26 (txC u.version x y u.end')) := hV4_21
    refine ⟨_, rfl, mixOn ⟨(fun w => (Row w y1.heap.size 26 (txC u.version x y u.end'))), (fun _ h => h), hS, ?_⟩⟩
    go_frame
    refine dY _ hS (yAssign _ (.pointer (some ⟨gp, 0, none⟩)) rfl rfl rfl) ?_; go_frame
    refine dDone ?_
    clear hS
    go_wp2_with (first
      | (go_at_call 27; refine (tRead_any _ hRd hl12 hLP).mono ?_; rintro e y7 ⟨pa1, pb1, rfl, hI1, hO1, hR1, hX1⟩; rw [hbk1] at hI1 hO1 hR1 ⊢; have hLP_23 := Nat.le_trans hLP hX1.size; clear hLP; have hV3_24 := hX1.row hV3_20 hnhV3.out; have hV4_25 := hX1.row hV4_21 hnhV4.out; have hB_26 := hB_22.trans (hX1.below hge.out hB_22.size); clear hV3_20 hV4_21 hB_22 hRd hX1; go_frame)
      | (go_at_call 27; refine (tRead_any _ hR1 hl2 hLP_23).mono ?_; rintro e y8 ⟨pa2, pb2, rfl, hI2, hO2, hR2, hX2⟩; rw [hbk2] at hI2 hO2 hR2 ⊢; have hI1_27 := hI1.over (over_exc hX2 hgl.out); clear hI1; have hO1_28 := hO1.over (over_exc hX2 hgl.out); clear hO1; have hLP_29 := Nat.le_trans hLP_23 hX2.size; clear hLP_23; have hV3_30 := hX2.row hV3_24 hnhV3.out; have hV4_31 := hX2.row hV4_25 hnhV4.out; have hB_32 := hB_26.trans (hX2.below hge.out hB_26.size); clear hV3_24 hV4_25 hB_26 hR1 hX2; go_frame)
      | ((with_reducible change wpList _ _ _ (Oper.mk (some 11) _ _ _ _ _ :: _) _ _); refine kAllocL _ _ rfl rfl zero_TxC ?_; intro y9 hV11 hzq hBq; clear hzq; have hP := hBq; clear hBq; go_frame)
      | ((with_reducible change wpList _ _ _ (Oper.mk (some 12) _ _ _ _ _ :: _) _ _); refine kAllocL _ _ rfl rfl zero_TxC ?_; intro y10 hV12 hzq hBq; clear hzq; have hV11b := hV11.below hBq hV11.lt; have hne1112 : Hid (y8.heap.size ≠ y9.heap.size) := Nat.ne_of_lt hV11.lt; clear hV11; have hPn := hP.trans (hBq.mono hP.size); have hle12 : Hid (y8.heap.size ≤ y9.heap.size) := hP.size; clear hP hBq; have hP := hPn; clear hPn; go_frame)
      | ((with_reducible change wpList _ _ _ (Oper.mk none (Op.store _ (Operand.tmp 11) _) _ _ _ _ :: _) _ _); refine kStoreTx _ _ _ t.version t.end' pa1 pb1 _ hV11b rfl hI1_27.of.sl.one hO1_28.of.sl.one rfl rfl rfl rfl ?_; intro y11 hT11 hWq; have hPn := hP.trans (hWq.below (Nat.le_refl _)); clear hP; have hP := hPn; clear hPn; have hV12w := hWq.row hV12 (Ne.symm hne1112.out); clear hV12; clear hWq hV11b; go_frame)
      | ((with_reducible change wpList _ _ _ (Oper.mk none (Op.store _ (Operand.tmp 12) _) _ _ _ _ :: _) _ _); refine kStoreTx _ _ _ u.version u.end' pa2 pb2 _ hV12w rfl hI2.of.sl.one hO2.of.sl.one rfl rfl rfl rfl ?_; intro y12 hT12 hWq; have hPn := hP.trans (hWq.below (hle12.out)); clear hP; have hP := hPn; clear hPn; have hT11w := hWq.row hT11 hne1112.out; clear hT11; clear hWq hV12w; have hLP_33 := Nat.le_trans hLP_29 (hP).size; clear hLP_29; have hV3_34 := hV3_30.below hP hV3_30.lt; have hV4_35 := hV4_31.below hP hV4_31.lt; have hRd_36 := hR2.below hP; have hI1_37 := hI1_27.below hP; have hO1_38 := hO1_28.below hP; have hI2_39 := hI2.below hP; have hO2_40 := hO2.below hP; have hB_41 := hB_32.trans (hP.mono hB_32.size); clear hV3_30 hV4_31 hR2 hI1_27 hO1_28 hI2 hO2 hB_32 hP; go_frame)
      | ((with_reducible change wpList _ _ _ (Oper.mk (some 57) _ _ _ _ _ :: _) _ _); refine kLoadRow _ _ _ _ (txC t.version pa1 pb1 t.end') _ rfl rfl rfl hT11w Tryd.underlying26 rfl info_TxC ?_; go_frame)
      | ((with_reducible change wpList _ _ _ (Oper.mk (some 58) _ _ _ _ _ :: _) _ _); refine kLoadRow _ _ _ _ (txC t.version a b t.end') _ rfl rfl rfl hV3_34 Tryd.underlying26 rfl info_TxC ?_; go_frame)
      | (go_at_call 17; refine (tSame_any (t := t) (u := t) _ ht ht ⟨Nat.le_trans (hf).1 (by decide), Nat.le_trans (hf).2.1 (by decide)⟩ hI1_37.of hO1_38.of (ha.below hB_41) (hb.below hB_41)).mono ?_; rintro e y13 ⟨rfl, hBq⟩; have hLP_42 := Nat.le_trans hLP_33 (hBq).size; clear hLP_33; have hV3_43 := hV3_34.below hBq hV3_34.lt; have hV4_44 := hV4_35.below hBq hV4_35.lt; have hRd_45 := hRd_36.below hBq; have hI1_46 := hI1_37.below hBq; have hO1_47 := hO1_38.below hBq; have hI2_48 := hI2_39.below hBq; have hO2_49 := hO2_40.below hBq; have hT11w_50 := hT11w.below hBq hT11w.lt; have hT12_51 := hT12.below hBq hT12.lt; have hB_52 := hB_41.trans (hBq.mono hB_41.size); clear hV3_34 hV4_35 hRd_36 hI1_37 hO1_38 hI2_39 hO2_40 hT11w hT12 hB_41 hBq; rw [sameT_refl]; go_frame)
      | ((with_reducible change wpList _ _ _ (Oper.mk (some 61) _ _ _ _ _ :: _) _ _); refine kLoadRow _ _ _ _ (txC u.version pa2 pb2 u.end') _ rfl rfl rfl hT12_51 Tryd.underlying26 rfl info_TxC ?_; go_frame)
      | ((with_reducible change wpList _ _ _ (Oper.mk (some 62) _ _ _ _ _ :: _) _ _); refine kLoadRow _ _ _ _ (txC u.version x y u.end') _ rfl rfl rfl hV4_44 Tryd.underlying26 rfl info_TxC ?_; go_frame)
      | (go_at_call 17; refine (tSame_any (t := u) (u := u) _ hu hu ⟨Nat.le_trans (hg).1 (by decide), Nat.le_trans (hg).2.1 (by decide)⟩ hI2_48.of hO2_49.of (hx.below hB_52) (hy.below hB_52)).mono ?_; rintro e y14 ⟨rfl, hBq⟩; have hLP_53 := Nat.le_trans hLP_42 (hBq).size; clear hLP_42; have hV3_54 := hV3_43.below hBq hV3_43.lt; have hV4_55 := hV4_44.below hBq hV4_44.lt; have hRd_56 := hRd_45.below hBq; have hI1_57 := hI1_46.below hBq; have hO1_58 := hO1_47.below hBq; have hI2_59 := hI2_48.below hBq; have hO2_60 := hO2_49.below hBq; have hT11w_61 := hT11w_50.below hBq hT11w_50.lt; have hT12_62 := hT12_51.below hBq hT12_51.lt; have hB_63 := hB_52.trans (hBq.mono hB_52.size); clear hV3_43 hV4_44 hRd_45 hI1_46 hO1_47 hI2_48 hO2_49 hT11w_50 hT12_51 hB_52 hBq; rw [sameT_refl]; go_frame)
      | (go_at_call 30; refine (rdLeft_any (n := 0) _ hRd_56 rfl).mono ?_; rintro e y15 ⟨rfl, rfl⟩; go_frame)
      | ((with_reducible change wpList _ _ _ (Oper.mk (some 68) _ _ _ _ _ :: _) _ _); refine kEqlI _ _ _ _ .i64 0 0 true rfl rfl rfl rfl (by simp) ?_; go_frame)
      | (go_at_call 29; refine (rdErr_any (n := 0) _ hRd_56 rfl).mono ?_; rintro e y16 ⟨rfl, rfl⟩; go_frame)
      | ((with_reducible change wpList _ _ _ (Oper.mk (some 73) _ _ _ _ _ :: _) _ _); refine kEqlI _ _ _ _ .i64 0 0 true rfl rfl rfl rfl (by simp) ?_; go_frame))
    first
      | (go_ret; exact ⟨rfl, hB_63⟩)
      | ((try simp only [Exit.inBlock, Exit.then]); refine retBT rfl rfl ?_; exact ⟨rfl, hB_63⟩)
end Go.Proofs.YtaoaecbdjdcpdaaDoor
