/-
  Layer 10: the walk of TxNames.
-/
import Derived.Test.YtaoaecbdjdcpdaaDoorTxLaw1
namespace Go.Proofs.YtaoaecbdjdcpdaaDoor
open Go Go.RowKit

theorem row_neT {w : World} {g k : Nat} {T U : TypeId} {cs ds : Array Value} (h : Row w g T cs) (h2 : Row w k U ds) (hT : T ≠ U) : g ≠ k := by
  rintro rfl
  have h1 : w.heap[g]? = some (.cells cs T (0, 0)) := h
  have h3 : w.heap[g]? = some (.cells ds U (0, 0)) := h2
  rw [h1] at h3
  simp only [Option.some.injEq, Obj.cells.injEq] at h3
  exact hT h3.2.1
theorem ownR_wroteT {n g b : Nat} {E T : TypeId} {w w' : World} {cs : Array Value} {v : Value} {L : List (List Value)} (ho : OwnR n E w b v L) (hr : Row w g T cs) (hT : T ≠ E) (hW : Wrote g w w') : OwnR n E w' b v L := by
  refine ⟨⟨ho.1.1, ?_⟩, ho.2⟩
  rcases ho.1.2 with hn | ⟨k, cap, cur, rfl, hb, hk, rest⟩
  · exact .inl hn
  · refine .inr ⟨k, cap, cur, rfl, hb, ?_, rest⟩
    have hne : k ≠ g := by
      rintro rfl
      have hr' : w.heap[k]? = some (.cells cs T (0, 0)) := hr
      rw [hr'] at hk
      simp only [Option.some.injEq, Obj.cells.injEq] at hk
      exact hT hk.2.1
    rw [hW.other k hne]; exact hk
theorem ownIns_wroteT {g b : Nat} {T : TypeId} {w w' : World} {cs : Array Value} {v : Value} {l : List InP} (h : OwnIns w b v l) (hr : Row w g T cs) (hT : T ≠ 34) (hT2 : T ≠ 5) (hW : Wrote g w w') : OwnIns w' b v l := by
  obtain ⟨zs, e, h1, h2⟩ := h
  exact ⟨zs, e, ownR_wroteT h1 hr hT hW, fun z hz => own_wroteN (h2 z hz) hr hT2 hW⟩
theorem ownOuts_wroteT {g b : Nat} {T : TypeId} {w w' : World} {cs : Array Value} {v : Value} {l : List (Int × List UInt8)} (h : OwnOuts w b v l) (hr : Row w g T cs) (hT : T ≠ 36) (hT2 : T ≠ 5) (hW : Wrote g w w') : OwnOuts w' b v l := by
  obtain ⟨zs, e, h1, h2⟩ := h
  exact ⟨zs, e, ownR_wroteT h1 hr hT hW, fun z hz => own_wroteN (h2 z hz) hr hT2 hW⟩
theorem one_put {w : World} {base : Nat} {v u : Value} {i : InP} {l : List UInt8} (h : OwnIns w base v [i]) (hu : OwnB w base u l) : ∃ (g off : Nat) (cur : Array Value), (∀ w' : World, (Instr.indexAt 23 v (.int .i64 ((0 : Nat) : Int))).run Tryd.prog w' = .ok (.pointer (some ⟨g, off, none⟩)) w') ∧ base ≤ g ∧ Row w g 34 cur ∧ off + 33 < cur.size ∧ ∀ w' : World, Row w' g 34 (cur.setIfInBounds (off + 33) u) → Wrote g w w' → OwnIns w' base v [putI i l] := by
  obtain ⟨zs, e, h1, h2⟩ := h
  obtain ⟨u0, rfl⟩ : ∃ u0, zs = [(i, u0)] := by
    match zs, e with
    | [(j, u0)], e => simp at e; subst e; exact ⟨u0, rfl⟩
  obtain ⟨g, off, cur, hrun, hb, hr, hoff, hput⟩ := own_put (u := u) (k := 0) (r := inR (i, u0)) h1 rfl
  refine ⟨g, off, cur, hrun, hb, hr, hoff, fun w' hr' hW => ⟨[(putI i l, u)], rfl, ?_, fun z hz => ?_⟩⟩
  · have h3 := hput w' hr'
    rw [show ([(i, u0)].map inR).set 0 ((inR (i, u0)).set 33 u) = [inR (putI i l, u)] by rw [inR_put i u0 u l]; rfl] at h3
    exact h3
  · simp only [List.mem_singleton] at hz
    subst hz
    exact own_wroteN hu hr (by decide) hW
theorem own_putO {w : World} {base : Nat} {v u : Value} {L : List (List Value)} {k : Nat} {r : List Value} (hO : OwnR 2 36 w base v L) (hk : L[k]? = some r) : ∃ (g off : Nat) (cur : Array Value), (∀ w' : World, (Instr.indexAt 24 v (.int .i64 (k : Int))).run Tryd.prog w' = .ok (.pointer (some ⟨g, off, none⟩)) w') ∧ base ≤ g ∧ Row w g 36 cur ∧ off + 0 < cur.size ∧ ∀ w' : World, Row w' g 36 (cur.setIfInBounds (off + 0) u) → OwnR 2 36 w' base v (L.set k (r.set 0 u)) := by
  have hkl := (List.getElem?_eq_some_iff.1 hk).1
  obtain ⟨g, cap, cur, rfl, hb, hrow, hcs, hlc, hcm, ht⟩ := hO.row (fun e => by rw [e] at hkl; simp at hkl)
  refine ⟨g, k * 2, cur, fun w' => ?_, hb, hrow, by rw [hcs]; omega, fun w' hr' => hO.set hrow hk (by decide) hr'⟩
  have hi := info_OutC
  cases hq : Tryd.prog.info? 36 with
  | none => simp [hq] at hi
  | some t =>
    have hs' : t.size = 2 := by simpa [hq] using hi
    simp [Instr.indexAt, asIntOf, run_underlying Tryd.underlying24, sizeOf, typeInfo, hq, hs', hkl, add_none]
theorem one_putO {w : World} {base : Nat} {v : Value} {q : Int × List UInt8} (z : Int) (h : OwnOuts w base v [q]) : ∃ (g off : Nat) (cur : Array Value), (∀ w' : World, (Instr.indexAt 24 v (.int .i64 ((0 : Nat) : Int))).run Tryd.prog w' = .ok (.pointer (some ⟨g, off, none⟩)) w') ∧ base ≤ g ∧ Row w g 36 cur ∧ off + 0 < cur.size ∧ ∀ w' : World, Row w' g 36 (cur.setIfInBounds (off + 0) (.int .i64 z)) → Wrote g w w' → OwnOuts w' base v [(z, q.2)] := by
  obtain ⟨zs, e, h1, h2⟩ := h
  obtain ⟨u0, rfl⟩ : ∃ u0, zs = [(q, u0)] := by
    match zs, e with
    | [(j, u0)], e => simp at e; subst e; exact ⟨u0, rfl⟩
  obtain ⟨g, off, cur, hrun, hb, hr, hoff, hput⟩ := own_putO (u := .int .i64 z) (k := 0) (r := outR (q, u0)) h1 rfl
  refine ⟨g, off, cur, hrun, hb, hr, hoff, fun w' hr' hW => ⟨[((z, q.2), u0)], rfl, hput w' hr', fun x hx => ?_⟩⟩
  simp only [List.mem_singleton] at hx
  subst hx
  exact own_wroteN (h2 (q, u0) (by simp)) hr (by decide) hW
def in1 : InP := ⟨z32, 4294967295, [1, 2], 0⟩
def nT1 : TxP := ⟨1, [putI in1 [1]], [(5, [81])], 0⟩
def nT2 : TxP := ⟨1, [in1], [], 0⟩
def nT3 : TxP := ⟨1, [in1], [(-1, [81])], 0⟩
theorem nT1_is : nT1.Is := ⟨by decide, by decide, fun i hi => by simp [nT1, putI, in1] at hi; subst hi; exact ⟨rfl, by decide, by decide⟩, fun x hx => by simp [nT1] at hx; subst hx; exact ⟨by decide, by decide⟩⟩
theorem nT1_fits : nT1.Fits := ⟨by decide, by decide, fun i hi => by simp [nT1, putI, in1] at hi; subst hi; decide, fun x hx => by simp [nT1] at hx; subst hx; decide⟩
theorem nT2_is : nT2.Is := ⟨by decide, by decide, fun i hi => by simp [nT2, in1] at hi; subst hi; exact ⟨rfl, by decide, by decide⟩, fun x hx => by cases hx⟩
theorem nT2_fits : nT2.Fits := ⟨by decide, by decide, fun i hi => by simp [nT2, in1] at hi; subst hi; decide, fun x hx => by cases hx⟩
theorem nT3_is : nT3.Is := ⟨by decide, by decide, fun i hi => by simp [nT3, in1] at hi; subst hi; exact ⟨rfl, by decide, by decide⟩, fun x hx => by simp [nT3] at hx; subst hx; exact ⟨by decide, by decide⟩⟩
theorem nT3_fits : nT3.Fits := ⟨by decide, by decide, fun i hi => by simp [nT3, in1] at hi; subst hi; decide, fun x hx => by simp [nT3] at hx; subst hx; decide⟩
theorem nT1_check : checkN nT1 = 101 := by decide +kernel
theorem nT2_check : checkN nT2 = 101 := by decide +kernel
theorem nT3_check : checkN nT3 = 91 := by decide +kernel
theorem noTx_check : checkN noTx = 101 := by decide +kernel
theorem noTx_base : baseB noTx.ins = false := by decide +kernel
theorem parse_none : parseT [] = (noTx, 61) := by
  have hc : (readS ⟨[], 0⟩).2.err = 61 := by decide +kernel
  unfold parseT
  rw [if_pos (by rw [hc]; decide), hc]
theorem parse_moreT : parseT (txL baseT ++ [0]) = (noTx, 62) := by
  unfold parseT
  rw [tx_back base_is base_fits, if_neg (by simp), if_pos (by simp)]
theorem more_len9 : (txL baseT).length + ([0] : List UInt8).length ≤ 1000000000 := Nat.le_trans (Nat.add_le_add_right base_len 1) (by decide)
theorem more_len : (txL baseT ++ [0]).length ≤ 1000000 := by
  have := Nat.le_trans (txL_len base_is base_fits) (by decide : 900000 ≤ 999999)
  rw [List.length_append]
  exact Nat.succ_le_succ this
set_option maxRecDepth 100000 in
set_option maxHeartbeats 8000000 in
theorem txNames_walk (W0 : World) (hK : Keys W0) : Calls Tryd.prog 3 #[] W0 (BoolPost W0 true) := by
  obtain ⟨ib, hib, hzb, hsb, -⟩ := b8Info
  have hB00 := Below.refl W0.heap.size W0
  go_enter Tryd.func3, Tryd.ntmps3
  go_wp2_with (first
    | (go_at_call 9; refine (base10_any _).mono ?_; rintro e y1 ⟨pa1, pb1, rfl, hI1, hO1, hC1⟩; have hw1 : Hid (W0.heap.size ≤ W0.heap.size) := hB00.size; go_frame)
    | ((with_reducible change wpList _ _ _ (Oper.mk (some 1) _ _ _ _ _ :: _) _ _); refine kAllocL _ _ rfl rfl zero_TxC ?_; intro y2 hV1 hzq hBq; clear hzq; have hP := hBq; clear hBq; go_frame)
    | ((with_reducible change wpList _ _ _ (Oper.mk none (Op.store _ (Operand.tmp 1) _) _ _ _ _ :: _) _ _); refine kStoreTx _ _ _ baseT.version baseT.end' pa1 pb1 _ hV1 rfl hI1.of.sl.one hO1.of.sl.one rfl rfl rfl rfl ?_; intro y3 hT1 hWq; have hPn := hP.trans (hWq.below (Nat.le_refl _)); clear hP; have hP := hPn; clear hPn; clear hWq hV1; have hI1_1 := hI1.below hP; have hO1_2 := hO1.below hP; have hB_3 := hC1.trans (hP.mono hC1.size); clear hI1 hO1 hC1 hP; go_frame)
    | ((with_reducible change wpList _ _ _ (Oper.mk (some 9) _ _ _ _ _ :: _) _ _); refine kFld txCF1 _ _ 0 1 rfl rfl rfl rfl ?_; go_frame)
    | ((with_reducible change wpList _ _ _ (Oper.mk (some 10) _ _ _ _ _ :: _) _ _); refine kLd Tryd.underlying23 rfl _ _ 1 _ pa1 hT1 rfl rfl rfl rfl ?_; go_frame)
    | ((with_reducible change wpList _ _ _ (Oper.mk (some 11) _ _ _ _ _ :: _) _ _); refine kBuildSlice1 _ _ _ (VB 1) rfl rfl Tryd.underlying28 ib _ hib hzb hsb rfl rfl ?_; intro w11 hRr hzz hBq; have hu0 := (own_litT [1] hB_3.size (by decide) hRr : OwnB w11 W0.heap.size _ [1]); clear hzz hRr; have hI1_4 := hI1_1.below hBq; have hO1_5 := hO1_2.below hBq; have hT1_6 := hT1.below hBq hT1.lt; have hB_7 := hB_3.trans (hBq.mono hB_3.size); clear hI1_1 hO1_2 hT1 hB_3 hBq; obtain ⟨gI, oI, cI, hrI, hbI, hRI, hoI, hpI⟩ := one_put hI1_4 hu0; have hwI : Hid (W0.heap.size ≤ gI) := hbI; have hoJ : Hid (oI + 33 < cI.size) := hoI; clear hbI hu0 hoI; go_frame)
    | ((with_reducible change wpList _ _ _ (Oper.mk (some 12) _ _ _ _ _ :: _) _ _); refine kIndexRun _ _ _ pa1 _ _ hrI rfl rfl rfl rfl ?_; go_frame)
    | ((with_reducible change wpList _ _ _ (Oper.mk (some 13) _ _ _ _ _ :: _) _ _); refine kFld inCF1 _ gI oI (oI + 33) rfl rfl rfl rfl ?_; go_frame)
    | ((with_reducible change wpList _ _ _ (Oper.mk none (Op.store _ (Operand.tmp 13) _) _ _ _ _ :: _) _ _); refine kStore1 _ _ _ _ gI (oI + 33) cI (.slice (some ⟨y3.heap.size, 0, none⟩) 1 1) rfl rfl rfl rfl hRI info_bytesP hoJ.out rfl ?_; intro w13 hRw hWw; have hIn1 := hpI w13 hRw hWw; have hO1_8 := ownOuts_wroteT hO1_5 hRI (by decide) (by decide) hWw; have hT1_9 := hWw.row hT1_6 (row_neT hT1_6 hRI (by decide)); have hB_10 := hB_7.trans (hWw.below hwI.out); clear hO1_5 hT1_6 hB_7; have hB_11 := hB00.trans (hB_10.mono hB00.size); clear hB00 hB_10; clear hpI hrI hRw hRI hWw hI1_4; go_frame)
    | (go_at_call 9; refine (base10_any _).mono ?_; rintro e y4 ⟨pa2, pb2, rfl, hI2, hO2, hC2⟩; have hw2 : Hid (W0.heap.size ≤ w13.heap.size) := hB_11.size; go_frame)
    | ((with_reducible change wpList _ _ _ (Oper.mk (some 2) _ _ _ _ _ :: _) _ _); refine kAllocL _ _ rfl rfl zero_TxC ?_; intro y5 hV2 hzq hBq; clear hzq; have hw2k : Hid (w13.heap.size ≤ y4.heap.size) := hC2.size; have hP := hBq; clear hBq; go_frame)
    | ((with_reducible change wpList _ _ _ (Oper.mk none (Op.store _ (Operand.tmp 2) _) _ _ _ _ :: _) _ _); refine kStoreTx _ _ _ baseT.version baseT.end' pa2 pb2 _ hV2 rfl hI2.of.sl.one hO2.of.sl.one rfl rfl rfl rfl ?_; intro y6 hT2 hWq; have hPn := hP.trans (hWq.below (Nat.le_refl _)); clear hP; have hP := hPn; clear hPn; clear hWq hV2; have hI2_12 := hI2.below hP; have hO2_13 := hO2.below hP; have hB_14 := hC2.trans (hP.mono hC2.size); clear hI2 hO2 hC2 hP; go_frame)
    | ((with_reducible change wpList _ _ _ (Oper.mk (some 15) _ _ _ _ _ :: _) _ _); refine kFld txCF2 _ _ 0 2 rfl rfl rfl rfl ?_; go_frame)
    | ((with_reducible change wpList _ _ _ (Oper.mk (some 15) _ _ _ _ _ :: _) _ _); refine kFld txCF2 _ y4.heap.size 0 2 rfl rfl rfl rfl ?_; go_frame)
    | ((with_reducible change wpList _ _ _ (Oper.mk none (Op.store _ (Operand.tmp 15) _) _ _ _ _ :: _) _ _); refine kStore1 _ _ _ _ _ 2 _ (.slice none 0 0) rfl rfl rfl rfl hT2 info_outsC (by show 2 < 4; decide) rfl ?_; intro w15 hRw hWw; have hw2g : Hid (w13.heap.size ≤ y4.heap.size) := hw2k.out; have hT2n : Row w15 y4.heap.size 26 (txC nT2.version pa2 (.slice none 0 0) nT2.end') := hRw; clear hRw; have hI2_15 := ownIns_wroteT hI2_12 hT2 (by decide) (by decide) hWw; have hB_16 := hB_14.trans (hWw.below hw2g.out); clear hI2_12 hB_14; have hI1_17 := hIn1.below hB_16; have hO1_18 := hO1_8.below hB_16; have hT1_19 := hT1_9.below hB_16 hT1_9.lt; have hB_20 := hB_11.trans (hB_16.mono hB_11.size); clear hIn1 hO1_8 hT1_9 hB_11 hB_16; clear hWw hT2; go_frame)
    | (go_at_call 9; refine (base10_any _).mono ?_; rintro e y7 ⟨pa3, pb3, rfl, hI3, hO3, hC3⟩; have hw3 : Hid (W0.heap.size ≤ w15.heap.size) := hB_20.size; go_frame)
    | ((with_reducible change wpList _ _ _ (Oper.mk (some 3) _ _ _ _ _ :: _) _ _); refine kAllocL _ _ rfl rfl zero_TxC ?_; intro y8 hV3 hzq hBq; clear hzq; have hP := hBq; clear hBq; go_frame)
    | ((with_reducible change wpList _ _ _ (Oper.mk none (Op.store _ (Operand.tmp 3) _) _ _ _ _ :: _) _ _); refine kStoreTx _ _ _ baseT.version baseT.end' pa3 pb3 _ hV3 rfl hI3.of.sl.one hO3.of.sl.one rfl rfl rfl rfl ?_; intro y9 hT3 hWq; have hPn := hP.trans (hWq.below (Nat.le_refl _)); clear hP; have hP := hPn; clear hPn; clear hWq hV3; have hI3_21 := hI3.below hP; have hO3_22 := hO3.below hP; have hB_23 := hC3.trans (hP.mono hC3.size); clear hI3 hO3 hC3 hP; go_frame)
    | ((with_reducible change wpList _ _ _ (Oper.mk (some 17) _ _ _ _ _ :: _) _ _); refine kFld txCF2 _ _ 0 2 rfl rfl rfl rfl ?_; go_frame)
    | ((with_reducible change wpList _ _ _ (Oper.mk (some 18) _ _ _ _ _ :: _) _ _); refine kLd Tryd.underlying24 rfl _ _ 2 _ pb3 hT3 rfl rfl rfl rfl ?_; go_frame)
    | ((with_reducible change wpList _ _ _ (Oper.mk (some 19) _ _ _ _ _ :: _) _ _); obtain ⟨gO, oO, cO, hrO, hbO, hRO, hoO, hpO⟩ := one_putO (-1) hO3_22; have hwO : Hid (w15.heap.size ≤ gO) := hbO; have hoQ : Hid (oO + 0 < cO.size) := hoO; clear hbO hoO; refine kIndexRun _ _ _ pb3 _ _ hrO rfl rfl rfl rfl ?_; go_frame)
    | ((with_reducible change wpList _ _ _ (Oper.mk (some 20) _ _ _ _ _ :: _) _ _); refine kFld outCF0 _ gO oO (oO + 0) rfl rfl rfl rfl ?_; go_frame)
    | ((with_reducible change wpList _ _ _ (Oper.mk none (Op.store _ (Operand.tmp 20) _) _ _ _ _ :: _) _ _); refine kStore1 _ _ _ _ gO (oO + 0) cO (.int .i64 (-1)) rfl rfl rfl rfl hRO info_i64C hoQ.out rfl ?_; intro w20 hRw hWw; have hOn3 := hpO w20 hRw hWw; have hI3_24 := ownIns_wroteT hI3_21 hRO (by decide) (by decide) hWw; have hT3_25 := hWw.row hT3 (row_neT hT3 hRO (by decide)); have hB_26 := hB_23.trans (hWw.below hwO.out); clear hI3_21 hT3 hB_23; have hI1_27 := hI1_17.below hB_26; have hO1_28 := hO1_18.below hB_26; have hT1_29 := hT1_19.below hB_26 hT1_19.lt; have hI2_30 := hI2_15.below hB_26; have hT2_31 := hT2n.below hB_26 hT2n.lt; have hB_32 := hB_20.trans (hB_26.mono hB_20.size); clear hI1_17 hO1_18 hT1_19 hI2_15 hT2n hB_20 hB_26; clear hpO hrO hRw hRO hWw hO3_22; go_frame)
    | (go_at_call 10; refine (tParse_any (l := ([] : List UInt8)) _ (have _ := hB_32; isVals_nil _) (by decide)).mono ?_; rintro e y10 ⟨pa4, pb4, rfl, hI4, hO4, hBq⟩; have hI1_33 := hI1_27.below hBq; have hO1_34 := hO1_28.below hBq; have hT1_35 := hT1_29.below hBq hT1_29.lt; have hI2_36 := hI2_30.below hBq; have hT2_37 := hT2_31.below hBq hT2_31.lt; have hI3_38 := hI3_24.below hBq; have hO3_39 := hOn3.below hBq; have hT3_40 := hT3_25.below hBq hT3_25.lt; have hB_41 := hB_32.trans (hBq.mono hB_32.size); clear hI1_27 hO1_28 hT1_29 hI2_30 hT2_31 hI3_24 hOn3 hT3_25 hB_32 hBq; rw [parse_none] at hI4 hO4 ⊢; go_frame)
    | ((with_reducible change wpList _ _ _ (Oper.mk (some 4) _ _ _ _ _ :: _) _ _); refine kAllocL _ _ rfl rfl zero_TxC ?_; intro y11 hV4 hzq hBq; clear hzq; have hP := hBq; clear hBq; go_frame)
    | ((with_reducible change wpList _ _ _ (Oper.mk none (Op.store _ (Operand.tmp 4) _) _ _ _ _ :: _) _ _); refine kStoreTx _ _ _ noTx.version noTx.end' pa4 pb4 _ hV4 rfl hI4.of.sl.one hO4.of.sl.one rfl rfl rfl rfl ?_; intro y12 hT4 hWq; have hPn := hP.trans (hWq.below (Nat.le_refl _)); clear hP; have hP := hPn; clear hPn; clear hWq hV4; have hI1_42 := hI1_33.below hP; have hO1_43 := hO1_34.below hP; have hT1_44 := hT1_35.below hP hT1_35.lt; have hI2_45 := hI2_36.below hP; have hT2_46 := hT2_37.below hP hT2_37.lt; have hI3_47 := hI3_38.below hP; have hO3_48 := hO3_39.below hP; have hT3_49 := hT3_40.below hP hT3_40.lt; have hI4_50 := hI4.below hP; have hO4_51 := hO4.below hP; have hB_52 := hB_41.trans (hP.mono hB_41.size); clear hI1_33 hO1_34 hT1_35 hI2_36 hT2_37 hI3_38 hO3_39 hT3_40 hI4 hO4 hB_41 hP; go_frame)
    | (go_at_call 9; refine (base10_any _).mono ?_; rintro e y13 ⟨pa5, pb5, rfl, hI5, hO5, hC5⟩; have hw5 : Hid (W0.heap.size ≤ y12.heap.size) := hB_52.size; go_frame)
    | (go_at_call 11; refine (tBytes_any (t := baseT) _ base_is base_fits hI5.of hO5.of).mono ?_; rintro e w27 ⟨v27, rfl, hX7, hD1⟩; clear hI5 hO5; go_frame)
    | ((with_reducible change wpList _ _ _ (Oper.mk (some 28) _ _ _ _ _ :: _) _ _); refine kBuildSlice1 _ _ _ (VB 0) rfl rfl Tryd.underlying28 ib _ hib hzb hsb rfl rfl ?_; intro w28 hRr hzz hBq; have hu8 := (own_litT [0] (Nat.le_refl _) (by decide) hRr : OwnB w28 w27.heap.size _ [0]).vals; have hX8 := hX7.below hBq; have hD2 := hD1.trans (hBq.mono hD1.size); clear hzz hRr hBq hX7 hD1; go_frame)
    | ((with_reducible change wpList _ _ _ (Oper.mk (some 29) _ _ _ _ _ :: _) _ _); refine kAppB _ _ rfl rfl y13.heap.size _ _ (txL baseT) [0] hX8 hu8 rfl rfl more_len9 hD2.size ?_; intro v29 w29 hO29 hBq; have hs29 := hO29.vals; have hD3 := hD2.trans hBq; have hC5n := hC5.trans (hD3.mono hC5.size); clear hX8 hu8 hO29 hBq hD2 hD3 hC5; have hI1_53 := hI1_42.below hC5n; have hO1_54 := hO1_43.below hC5n; have hT1_55 := hT1_44.below hC5n hT1_44.lt; have hI2_56 := hI2_45.below hC5n; have hT2_57 := hT2_46.below hC5n hT2_46.lt; have hI3_58 := hI3_47.below hC5n; have hO3_59 := hO3_48.below hC5n; have hT3_60 := hT3_49.below hC5n hT3_49.lt; have hB_61 := hB_52.trans (hC5n.mono hB_52.size); clear hI1_42 hO1_43 hT1_44 hI2_45 hT2_46 hI3_47 hO3_48 hT3_49 hB_52 hC5n; go_frame)
    | (go_at_call 10; refine (tParse_any (l := (txL baseT ++ [0])) _ hs29 more_len).mono ?_; rintro e y14 ⟨pa6, pb6, rfl, hI6, hO6, hBq⟩; have hI1_62 := hI1_53.below hBq; have hO1_63 := hO1_54.below hBq; have hT1_64 := hT1_55.below hBq hT1_55.lt; have hI2_65 := hI2_56.below hBq; have hT2_66 := hT2_57.below hBq hT2_57.lt; have hI3_67 := hI3_58.below hBq; have hO3_68 := hO3_59.below hBq; have hT3_69 := hT3_60.below hBq hT3_60.lt; have hs29_70 := hs29.below hBq; have hB_71 := hB_61.trans (hBq.mono hB_61.size); clear hI1_53 hO1_54 hT1_55 hI2_56 hT2_57 hI3_58 hO3_59 hT3_60 hs29 hB_61 hBq; rw [parse_moreT] at hI6 hO6 ⊢; go_frame)
    | ((with_reducible change wpList _ _ _ (Oper.mk (some 6) _ _ _ _ _ :: _) _ _); refine kAllocL _ _ rfl rfl zero_TxC ?_; intro y15 hV6 hzq hBq; clear hzq; have hP := hBq; clear hBq; go_frame)
    | ((with_reducible change wpList _ _ _ (Oper.mk none (Op.store _ (Operand.tmp 6) _) _ _ _ _ :: _) _ _); refine kStoreTx _ _ _ noTx.version noTx.end' pa6 pb6 _ hV6 rfl hI6.of.sl.one hO6.of.sl.one rfl rfl rfl rfl ?_; intro y16 hT6 hWq; have hPn := hP.trans (hWq.below (Nat.le_refl _)); clear hP; have hP := hPn; clear hPn; clear hWq hV6; have hI1_72 := hI1_62.below hP; have hO1_73 := hO1_63.below hP; have hT1_74 := hT1_64.below hP hT1_64.lt; have hI2_75 := hI2_65.below hP; have hT2_76 := hT2_66.below hP hT2_66.lt; have hI3_77 := hI3_67.below hP; have hO3_78 := hO3_68.below hP; have hT3_79 := hT3_69.below hP hT3_69.lt; have hs29_80 := hs29_70.below hP; have hI6_81 := hI6.below hP; have hO6_82 := hO6.below hP; have hB_83 := hB_71.trans (hP.mono hB_71.size); clear hI1_62 hO1_63 hT1_64 hI2_65 hT2_66 hI3_67 hO3_68 hT3_69 hs29_70 hI6 hO6 hB_71 hP; go_frame)
    | (go_at_call 12; refine (txAlive_any _ (hK.below hB_83)).mono ?_; rintro e y17 ⟨rfl, hBq⟩; have hI1_84 := hI1_72.below hBq; have hO1_85 := hO1_73.below hBq; have hT1_86 := hT1_74.below hBq hT1_74.lt; have hI2_87 := hI2_75.below hBq; have hT2_88 := hT2_76.below hBq hT2_76.lt; have hI3_89 := hI3_77.below hBq; have hO3_90 := hO3_78.below hBq; have hT3_91 := hT3_79.below hBq hT3_79.lt; have hs29_92 := hs29_80.below hBq; have hI6_93 := hI6_81.below hBq; have hO6_94 := hO6_82.below hBq; have hT6_95 := hT6.below hBq hT6.lt; have hB_96 := hB_83.trans (hBq.mono hB_83.size); clear hI1_72 hO1_73 hT1_74 hI2_75 hT2_76 hI3_77 hO3_78 hT3_79 hs29_80 hI6_81 hO6_82 hT6 hB_83 hBq; go_frame)
    | ((with_reducible change wpList _ _ _ (Oper.mk (some 39) _ _ _ _ _ :: _) _ _); refine kLoadRow _ _ _ _ (txC nT1.version pa1 pb1 nT1.end') _ rfl rfl rfl hT1_86 Tryd.underlying26 rfl info_TxC ?_; go_frame)
    | (go_at_call 13; refine (tCheck_any (t := nT1) _ nT1_is nT1_fits hI1_84.of hO1_85.of).mono ?_; rintro e y18 ⟨rfl, hBq⟩; have hI1_97 := hI1_84.below hBq; have hO1_98 := hO1_85.below hBq; have hT1_99 := hT1_86.below hBq hT1_86.lt; have hI2_100 := hI2_87.below hBq; have hT2_101 := hT2_88.below hBq hT2_88.lt; have hI3_102 := hI3_89.below hBq; have hO3_103 := hO3_90.below hBq; have hT3_104 := hT3_91.below hBq hT3_91.lt; have hs29_105 := hs29_92.below hBq; have hI6_106 := hI6_93.below hBq; have hO6_107 := hO6_94.below hBq; have hT6_108 := hT6_95.below hBq hT6_95.lt; have hB_109 := hB_96.trans (hBq.mono hB_96.size); clear hI1_84 hO1_85 hT1_86 hI2_87 hT2_88 hI3_89 hO3_90 hT3_91 hs29_92 hI6_93 hO6_94 hT6_95 hB_96 hBq; rw [nT1_check]; go_frame)
    | ((with_reducible change wpList _ _ _ (Oper.mk (some 41) _ _ _ _ _ :: _) _ _); refine kEqlI _ _ _ _ .i64 101 101 true rfl rfl rfl rfl (by simp) ?_; go_frame)
    | ((with_reducible change wpList _ _ _ (Oper.mk (some 44) _ _ _ _ _ :: _) _ _); refine kLoadRow _ _ _ _ (txC nT2.version pa2 (.slice none 0 0) nT2.end') _ rfl rfl rfl hT2_101 Tryd.underlying26 rfl info_TxC ?_; go_frame)
    | (go_at_call 13; refine (tCheck_any (t := nT2) _ nT2_is nT2_fits hI2_100.of (outsOf_nil _)).mono ?_; rintro e y19 ⟨rfl, hBq⟩; have hI1_110 := hI1_97.below hBq; have hO1_111 := hO1_98.below hBq; have hT1_112 := hT1_99.below hBq hT1_99.lt; have hI2_113 := hI2_100.below hBq; have hT2_114 := hT2_101.below hBq hT2_101.lt; have hI3_115 := hI3_102.below hBq; have hO3_116 := hO3_103.below hBq; have hT3_117 := hT3_104.below hBq hT3_104.lt; have hs29_118 := hs29_105.below hBq; have hI6_119 := hI6_106.below hBq; have hO6_120 := hO6_107.below hBq; have hT6_121 := hT6_108.below hBq hT6_108.lt; have hB_122 := hB_109.trans (hBq.mono hB_109.size); clear hI1_97 hO1_98 hT1_99 hI2_100 hT2_101 hI3_102 hO3_103 hT3_104 hs29_105 hI6_106 hO6_107 hT6_108 hB_109 hBq; rw [nT2_check]; go_frame)
    | ((with_reducible change wpList _ _ _ (Oper.mk (some 46) _ _ _ _ _ :: _) _ _); refine kEqlI _ _ _ _ .i64 101 101 true rfl rfl rfl rfl (by simp) ?_; go_frame)
    | ((with_reducible change wpList _ _ _ (Oper.mk (some 49) _ _ _ _ _ :: _) _ _); refine kLoadRow _ _ _ _ (txC nT3.version pa3 pb3 nT3.end') _ rfl rfl rfl hT3_117 Tryd.underlying26 rfl info_TxC ?_; go_frame)
    | (go_at_call 13; refine (tCheck_any (t := nT3) _ nT3_is nT3_fits hI3_115.of hO3_116.of).mono ?_; rintro e y20 ⟨rfl, hBq⟩; have hI1_123 := hI1_110.below hBq; have hO1_124 := hO1_111.below hBq; have hT1_125 := hT1_112.below hBq hT1_112.lt; have hI2_126 := hI2_113.below hBq; have hT2_127 := hT2_114.below hBq hT2_114.lt; have hI3_128 := hI3_115.below hBq; have hO3_129 := hO3_116.below hBq; have hT3_130 := hT3_117.below hBq hT3_117.lt; have hs29_131 := hs29_118.below hBq; have hI6_132 := hI6_119.below hBq; have hO6_133 := hO6_120.below hBq; have hT6_134 := hT6_121.below hBq hT6_121.lt; have hB_135 := hB_122.trans (hBq.mono hB_122.size); clear hI1_110 hO1_111 hT1_112 hI2_113 hT2_114 hI3_115 hO3_116 hT3_117 hs29_118 hI6_119 hO6_120 hT6_121 hB_122 hBq; rw [nT3_check]; go_frame)
    | ((with_reducible change wpList _ _ _ (Oper.mk (some 51) _ _ _ _ _ :: _) _ _); refine kEqlI _ _ _ _ .i64 91 91 true rfl rfl rfl rfl (by simp) ?_; go_frame)
    | ((with_reducible change wpList _ _ _ (Oper.mk (some 54) _ _ _ _ _ :: _) _ _); refine kBuildTx0 rfl rfl ?_; go_frame)
    | (go_at_call 13; refine (tCheck_any (t := noTx) _ noTx_is noTx_fits (insOf_nil _) (outsOf_nil _)).mono ?_; rintro e y21 ⟨rfl, hBq⟩; have hI1_136 := hI1_123.below hBq; have hO1_137 := hO1_124.below hBq; have hT1_138 := hT1_125.below hBq hT1_125.lt; have hI2_139 := hI2_126.below hBq; have hT2_140 := hT2_127.below hBq hT2_127.lt; have hI3_141 := hI3_128.below hBq; have hO3_142 := hO3_129.below hBq; have hT3_143 := hT3_130.below hBq hT3_130.lt; have hs29_144 := hs29_131.below hBq; have hI6_145 := hI6_132.below hBq; have hO6_146 := hO6_133.below hBq; have hT6_147 := hT6_134.below hBq hT6_134.lt; have hB_148 := hB_135.trans (hBq.mono hB_135.size); clear hI1_123 hO1_124 hT1_125 hI2_126 hT2_127 hI3_128 hO3_129 hT3_130 hs29_131 hI6_132 hO6_133 hT6_134 hB_135 hBq; rw [noTx_check]; go_frame)
    | ((with_reducible change wpList _ _ _ (Oper.mk (some 56) _ _ _ _ _ :: _) _ _); refine kEqlI _ _ _ _ .i64 101 101 true rfl rfl rfl rfl (by simp) ?_; go_frame)
    | ((with_reducible change wpList _ _ _ (Oper.mk (some 60) _ _ _ _ _ :: _) _ _); refine kEqlI _ _ _ _ .i64 61 61 true rfl rfl rfl rfl (by simp) ?_; go_frame)
    | ((with_reducible change wpList _ _ _ (Oper.mk (some 64) _ _ _ _ _ :: _) _ _); refine kEqlI _ _ _ _ .i64 62 62 true rfl rfl rfl rfl (by simp) ?_; go_frame)
    | ((with_reducible change wpList _ _ _ (Oper.mk (some 67) _ _ _ _ _ :: _) _ _); refine kBuildTx0 rfl rfl ?_; go_frame)
    | (go_at_call 14; refine (tBase_any (is := noTx.ins) _ (insOf_nil _) (fun i hi => (noTx_is.2.2.1 i hi).1)).mono ?_; rintro e y22 ⟨rfl, hBq⟩; have hI1_149 := hI1_136.below hBq; have hO1_150 := hO1_137.below hBq; have hT1_151 := hT1_138.below hBq hT1_138.lt; have hI2_152 := hI2_139.below hBq; have hT2_153 := hT2_140.below hBq hT2_140.lt; have hI3_154 := hI3_141.below hBq; have hO3_155 := hO3_142.below hBq; have hT3_156 := hT3_143.below hBq hT3_143.lt; have hs29_157 := hs29_144.below hBq; have hI6_158 := hI6_145.below hBq; have hO6_159 := hO6_146.below hBq; have hT6_160 := hT6_147.below hBq hT6_147.lt; have hB_161 := hB_148.trans (hBq.mono hB_148.size); clear hI1_136 hO1_137 hT1_138 hI2_139 hT2_140 hI3_141 hO3_142 hT3_143 hs29_144 hI6_145 hO6_146 hT6_147 hB_148 hBq; rw [noTx_base]; go_frame)
    | ((with_reducible change wpList _ _ _ (Oper.mk (some 69) _ _ _ _ _ :: _) _ _); refine kNot _ _ false rfl rfl rfl ?_; go_frame))
  first
    | (go_ret; exact ⟨rfl, hB_161⟩)
    | ((try simp only [Exit.inBlock, Exit.then]); refine retBT rfl rfl ?_; exact ⟨rfl, hB_161⟩)
end Go.Proofs.YtaoaecbdjdcpdaaDoor
