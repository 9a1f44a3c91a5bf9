/-
  The reference of layer 4: contracts of num, mul, add, sub, below, Base, Neg, On, Of, Sum and Point.
-/
import Derived.Test.YtfgffjmpjoipeaaDoorCvRef0
namespace Go.Proofs.YtfgffjmpjoipeaaDoor
open Go Go.RowKit

open Cv
theorem FPm_mod {m a v : Nat} (Hm : m = PP) (h : a % m = v) : FP v = FP a := by subst h; subst Hm; exact FP_mod _
theorem FPm_sub2 {m a b v : Nat} (Hm : m = PP) (hb : b < m) (h : (a + m - b) % m = v) : FP v = FP a - FP b := by
  subst h; subst Hm
  rw [FP_mod, show a + PP - b = a + (PP - b) by omega, FP_add]
  have h := FP_sub 0 b
  rw [Nat.zero_mod, Nat.zero_add, Nat.mod_eq_of_lt hb] at h
  rw [h]
  have h0 : FP 0 = 0 := rfl
  rw [h0]; clear h h0; grobner
set_option maxRecDepth 100000 in
set_option maxHeartbeats 8000000 in
theorem enum_as {m a x : Nat} (hm : Modu m) (hP : PrimeIs true m) (ma : a < M256) (hx : a % m = x) (w : World) : Calls Tryd.prog 70 #[WV a] w (NumTPost w x) := by
  obtain ⟨v4, Hv4, mv4⟩ := nameMod hm (a)
  have hM0 := mm_nil w
  (try unfold WV)
  go_enter Tryd.func70, Tryd.ntmps70
  go_wp2_with (first
    | ((with_reducible change wpList _ _ _ (Oper.mk (some 1) _ _ _ _ _ :: _) _ _); refine mmBox hM0 _ _ (wcells a) rfl rfl rfl ?_; intro w1 hM1; clear hM0; go_frame)
    | ((with_reducible change wpList _ _ _ (Oper.mk (some 3) _ _ _ _ _ :: _) _ _); refine kLoadRow _ _ _ _ _ _ rfl rfl rfl (hM1.get 0 rfl) Tryd.underlying24 rfl (info_WideC _) ?_; go_frame)
    | (go_at_call 37; (with_reducible change Calls _ _ #[Value.agg (wcells a), Value.bool true] _ _); refine (rOf_as hm hP ma Hv4.out _).mono ?_; rintro e w2 ⟨x2, rfl, hN2, hB2⟩; have hM2 := hM1.on hB2; clear hB2 hM1; have hM3 := mm_nil w2; go_frame))
  go_ret
  exact ⟨_, rfl, (Hv4.out.symm.trans hx) ▸ (hN2.below hM3.below), ((hM2.below).trans (hM3.below.mono (hM2.below).size))⟩
set_option maxRecDepth 100000 in
set_option maxHeartbeats 8000000 in
theorem emul_as {m x : Nat} {va vb : Value} {na nb : Nat} {w : World} (hm : Modu m) (hP : PrimeIs true m) (ha : Num w va na 16) (hb : Num w vb nb 16) (hx : na * nb % m = x) : Calls Tryd.prog 71 #[va, vb] w (NumTPost w x) := by
  obtain ⟨v7, Hv7, mv7⟩ := nameMod hm (na * nb)
  have hM0 := mm_nil w
  (try unfold WV)
  go_enter Tryd.func71, Tryd.ntmps71
  go_wp2_with (first
    | (go_at_call 40; (with_reducible change Calls _ _ #[va, vb, Value.bool true] _ _); refine (rMul_as hm hP (ha.below hM0.below) (hb.below hM0.below) Hv7.out).mono ?_; rintro e w1 ⟨x1, rfl, hN1, hB1⟩; have hM1 := hM0.on hB1; clear hB1 hM0; have hM2 := mm_nil w1; go_frame))
  go_ret
  exact ⟨_, rfl, (Hv7.out.symm.trans hx) ▸ (hN1.below hM2.below), ((hM1.below).trans (hM2.below.mono (hM1.below).size))⟩
set_option maxRecDepth 100000 in
set_option maxHeartbeats 8000000 in
theorem eadd_as {m x : Nat} {va vb : Value} {na nb : Nat} {w : World} (hm : Modu m) (hP : PrimeIs true m) (ha : Num w va na 16) (hb : Num w vb nb 16) (hx : (na + nb) % m = x) : Calls Tryd.prog 72 #[va, vb] w (NumTPost w x) := by
  obtain ⟨v7, Hv7, mv7⟩ := nameMod hm (na + nb)
  have hM0 := mm_nil w
  (try unfold WV)
  go_enter Tryd.func72, Tryd.ntmps72
  go_wp2_with (first
    | (go_at_call 38; (with_reducible change Calls _ _ #[va, vb, Value.bool true] _ _); refine (rAdd_as hm hP (ha.below hM0.below) (hb.below hM0.below) Hv7.out).mono ?_; rintro e w1 ⟨x1, rfl, hN1, hB1⟩; have hM1 := hM0.on hB1; clear hB1 hM0; have hM2 := mm_nil w1; go_frame))
  go_ret
  exact ⟨_, rfl, (Hv7.out.symm.trans hx) ▸ (hN1.below hM2.below), ((hM1.below).trans (hM2.below.mono (hM1.below).size))⟩
set_option maxRecDepth 100000 in
set_option maxHeartbeats 8000000 in
theorem esub_as {m x : Nat} {va vb : Value} {na nb : Nat} {w : World} (hm : Modu m) (hP : PrimeIs true m) (ha : Num w va na 16) (hb : Num w vb nb 16) (hnb : nb < m) (hx : (na + m - nb) % m = x) : Calls Tryd.prog 73 #[va, vb] w (NumTPost w x) := by
  obtain ⟨v7, Hv7, mv7⟩ := nameMod hm (na + m - nb)
  have hM0 := mm_nil w
  (try unfold WV)
  go_enter Tryd.func73, Tryd.ntmps73
  go_wp2_with (first
    | (go_at_call 44; (with_reducible change Calls _ _ #[va, vb, Value.bool true] _ _); refine (rSub_as hm hP (ha.below hM0.below) (hb.below hM0.below) hnb Hv7.out).mono ?_; rintro e w1 ⟨x1, rfl, hN1, hB1⟩; have hM1 := hM0.on hB1; clear hB1 hM0; have hM2 := mm_nil w1; go_frame))
  go_ret
  exact ⟨_, rfl, (Hv7.out.symm.trans hx) ▸ (hN1.below hM2.below), ((hM1.below).trans (hM2.below.mono (hM1.below).size))⟩
set_option maxRecDepth 100000 in
set_option maxHeartbeats 8000000 in
theorem ebelow_as {m a : Nat} {b : Bool} (hP : PrimeIs true m) (ma : a < M256) (h : decide (a < m) = b) (w : World) : Calls Tryd.prog 81 #[WV a] w fun e w' => e = .returned (.bool b) ∧ Below w.heap.size w w' := by
  have h := Lib.hid h
  have hM0 := mm_nil w
  (try unfold WV)
  go_enter Tryd.func81, Tryd.ntmps81
  go_wp2_with (first
    | ((with_reducible change wpList _ _ _ (Oper.mk (some 1) _ _ _ _ _ :: _) _ _); refine mmBox hM0 _ _ (wcells a) rfl rfl rfl ?_; intro w1 hM1; clear hM0; go_frame)
    | ((with_reducible change wpList _ _ _ (Oper.mk (some 3) _ _ _ _ _ :: _) _ _); refine kLoadRow _ _ _ _ _ _ rfl rfl rfl (hM1.get 0 rfl) Tryd.underlying24 rfl (info_WideC _) ?_; go_frame)
    | (go_at_call 41; (with_reducible change Calls _ _ #[Value.agg (wcells a)] _ _); refine (dOf_num a ma _).mono ?_; rintro e w2 ⟨x2, rfl, hN2, hB2⟩; have hM2 := hM1.on hB2; clear hB2 hM1; have hM3 := mm_nil w2; go_frame)
    | (go_at_call 10; (with_reducible change Calls _ _ #[Value.bool true] _ _); refine (hP _).mono ?_; rintro e w4 ⟨x4, rfl, hN4, hB4⟩; have hM4 := hM3.on hB4; clear hB4 hM3; have hM5 := mm_nil w4; go_frame)
    | (go_at_call 46; (with_reducible change Calls _ _ #[x2, x4] _ _); refine (dCompare_below ((hN2.below hM4.below).below hM5.below) (hN4.below hM5.below) (by decide) (by decide)).mono ?_; rintro e w6 ⟨rfl, hB6⟩; have hM6 := hM5.on hB6; clear hB6 hM5; (try unfold WV); go_frame)
    | ((with_reducible change wpList _ _ _ (Oper.mk (some 7) _ _ _ _ _ :: _) _ _); refine kLssI _ _ _ _ .i64 (cmpI a m) (0) b rfl rfl rfl rfl (cmpI_less h.out) ?_; go_frame))
  go_ret
  exact ⟨rfl, ((((hM2.below).trans (hM4.below.mono (hM2.below).size))).trans (hM6.below.mono (((hM2.below).trans (hM4.below.mono (hM2.below).size))).size))⟩
set_option maxRecDepth 100000 in
set_option maxHeartbeats 8000000 in
theorem eBase_any (w : World) : Calls Tryd.prog 16 #[] w fun e w' => e = .returned (.agg (ptc gPt)) ∧ Below w.heap.size w w' := by
  have R := Lib.hid (show Value.agg (pcells gX gY false) = .agg (ptc gPt) by show _ = Value.agg (pcells (FP gX).val (FP gY).val false); rw [← val_of (show gX < PP by decide) rfl, ← val_of (show gY < PP by decide) rfl])
  have hM0 := mm_nil w
  (try unfold WV)
  go_enter Tryd.func16, Tryd.ntmps16
  go_wp2_with (first
    | ((with_reducible change wpList _ _ _ (Oper.mk (some 0) _ _ _ _ _ :: _) _ _); refine mmAlloc hM0 _ _ rfl rfl zero_Point ?_; intro w1 hM1; clear hM0; go_frame)
    | ((with_reducible change wpList _ _ _ (Oper.mk (some 1) _ _ _ _ _ :: _) _ _); refine kBuildAny _ _ _ _ rfl rfl (by simp [Act.eval]; rfl) built_gX ?_; go_frame)
    | ((with_reducible change wpList _ _ _ (Oper.mk (some 2) _ _ _ _ _ :: _) _ _); refine kBuildAny _ _ _ _ rfl rfl (by simp [Act.eval]; rfl) built_gY ?_; go_frame)
    | ((with_reducible change wpList _ _ _ (Oper.mk (some 3) _ _ _ _ _ :: _) _ _); refine kBuildPoint2 _ _ gX gY rfl rfl rfl rfl ?_; go_frame)
    | ((with_reducible change wpList _ _ _ (Oper.mk none (Op.store _ (Operand.tmp 0) (Operand.tmp 3)) _ _ _ _ :: _) _ _); refine mmStoreAt hM1 0 _ _ _ _ _ _ (pcells gX gY false) rfl rfl rfl rfl rfl (info_PointC _ _ _) (by simp only [pcells_size]) (pcells_one _ _ _) ?_; intro w2 hM2; dsimp only [List.set] at hM2; clear hM1; go_frame))
  exact result_row Tryd.results16 rfl (hM2.get 0 rfl) Tryd.underlying30 rfl (info_PointC _ _ _) rfl ⟨by rw [R.out], hM2.below⟩
set_option maxRecDepth 100000 in
set_option maxHeartbeats 8000000 in
theorem eNeg_nat {x y : Nat} (my : y < M256) (p : Bool) (w : World) : Calls Tryd.prog 82 #[.agg (pcells x y p)] w fun e w' => e = .returned (.agg (pcells x (0 - FP y).val p)) ∧ Below w.heap.size w w' := by
  obtain ⟨m, Hm⟩ : ∃ m, Hid (m = PP) := ⟨_, Lib.hid rfl⟩
  have hm : Modu m := by rw [Hm.out]; exact modu_P
  have hP : PrimeIs true m := by rw [Hm.out]; exact rPrime_true
  obtain ⟨v6, Hv6, mv6⟩ := nameMod hm (y)
  obtain ⟨v7, Hv7, mv7⟩ := nameMod hm (0 + m - v6)
  have Ev6 := FPm_mod Hm.out Hv6.out
  have Ev7 := FPm_sub2 Hm.out (by rw [← Hv6.out]; exact Nat.mod_lt _ hm.pos) Hv7.out
  have Lv7 := FPm_lt Hm.out Hv7.out
  have F0 : FP 0 = 0 := rfl
  have R := Lib.hid (val_of Lv7 (show FP v7 = 0 - FP y by simp only [Ev7, F0, Ev6]))
  clear F0 Ev6 Ev7 Lv7
  have hM0 := mm_nil w
  (try unfold WV)
  go_enter Tryd.func82, Tryd.ntmps82
  go_wp2_with (first
    | ((with_reducible change wpList _ _ _ (Oper.mk (some 1) _ _ _ _ _ :: _) _ _); refine mmBox hM0 _ _ (pcells x y p) rfl rfl rfl ?_; intro w1 hM1; clear hM0; go_frame)
    | ((with_reducible change wpList _ _ _ (Oper.mk (some 2) _ _ _ _ _ :: _) _ _); refine mmAlloc hM1 _ _ rfl rfl zero_Point ?_; intro w2 hM2; clear hM1; go_frame)
    | ((with_reducible change wpList _ _ _ (Oper.mk (some 3) _ _ _ _ _ :: _) _ _); refine kDig0 rfl rfl ?_; intro w3 x3 hN3 hB3; have hM3 := hM2.on hB3; clear hB3 hM2; have hM4 := mm_nil w3; go_frame)
    | ((with_reducible change wpList _ _ _ (Oper.mk (some 4) _ _ _ _ _ :: _) _ _); refine kFieldPoint1 _ _ rfl rfl rfl ?_; go_frame)
    | ((with_reducible change wpList _ _ _ (Oper.mk (some 5) _ _ _ _ _ :: _) _ _); refine kLoadAs _ _ _ _ _ 4 _ _ _ rfl rfl rfl ((hM3.get 1 rfl).on hM4.below) Tryd.underlying24 rfl info_Wide (by rw [pcells_size]; decide) (pcells_at4 _ _ _) ?_; go_frame)
    | (go_at_call 70; (with_reducible change Calls _ _ #[Value.agg (wcells y)] _ _); refine (enum_as hm hP my Hv6.out _).mono ?_; rintro e w5 ⟨x5, rfl, hN5, hB5⟩; have hM5 := hM4.on hB5; clear hB5 hM4; have hM6 := mm_nil w5; go_frame)
    | (go_at_call 73; (with_reducible change Calls _ _ #[x3, x5] _ _); refine (esub_as hm hP (((hN3.below hM5.below).below hM6.below).n16 M256_pos) ((hN5.below hM6.below).n16 mv6) (by rw [← Hv6.out]; exact Nat.mod_lt _ hm.pos) Hv7.out).mono ?_; rintro e w7 ⟨x7, rfl, hN7, hB7⟩; have hM7 := hM6.on hB7; clear hB7 hM6; have hM8 := mm_nil w7; go_frame)
    | (go_at_call 9; (with_reducible change Calls _ _ #[x7] _ _); refine (dWide_numT (hN7.below hM8.below)).mono ?_; rintro e w9 ⟨rfl, hB9⟩; have hM9 := hM8.on hB9; clear hB9 hM8; (try unfold WV); go_frame)
    | ((with_reducible change wpList _ _ _ (Oper.mk (some 9) _ _ _ _ _ :: _) _ _); refine kFieldPoint1 _ _ rfl rfl rfl ?_; go_frame)
    | ((with_reducible change wpList _ _ _ (Oper.mk none (Op.store _ (Operand.tmp 9) (Operand.tmp 8)) _ _ _ _ :: _) _ _); have hJ := (Mm.join (Mm.join (Mm.join hM3 hM5) hM7) hM9); dsimp only [List.append, List.cons_append, List.nil_append] at hJ; refine mmPutY hJ 1 _ _ _ _ _ x y v7 p rfl rfl rfl rfl rfl (info_WideC _) ?_; intro w10 hM10; dsimp only [List.set] at hM10; clear hJ; go_frame)
    | ((with_reducible change wpList _ _ _ (Oper.mk (some 10) _ _ _ _ _ :: _) _ _); refine kLoadRow _ _ _ _ _ _ rfl rfl rfl (hM10.get 1 rfl) Tryd.underlying30 rfl (info_PointC _ _ _) ?_; go_frame)
    | ((with_reducible change wpList _ _ _ (Oper.mk none (Op.store _ (Operand.tmp 2) (Operand.tmp 10)) _ _ _ _ :: _) _ _); refine mmStoreAt hM10 0 _ _ _ _ _ _ (pcells x v7 p) rfl rfl rfl rfl rfl (info_PointC _ _ _) (by simp only [pcells_size]) (pcells_one _ _ _) ?_; intro w11 hM11; dsimp only [List.set] at hM11; clear hM10; go_frame))
  exact result_row Tryd.results82 rfl (hM11.get 0 rfl) Tryd.underlying30 rfl (info_PointC _ _ _) rfl ⟨by rw [← R.out], hM11.below⟩
end Go.Proofs.YtfgffjmpjoipeaaDoor
