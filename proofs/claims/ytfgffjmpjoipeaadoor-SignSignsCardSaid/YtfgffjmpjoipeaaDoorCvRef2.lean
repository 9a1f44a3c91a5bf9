/-
  The reference of layer 4: contracts of On, Of, Sum and Point.
-/
import Derived.Test.YtfgffjmpjoipeaaDoorCvRef1
namespace Go.Proofs.YtfgffjmpjoipeaaDoor
open Go Go.RowKit

open Cv
theorem cmpI_zero {x y : Nat} {b : Bool} (h : decide (x = y) = b) : decide (cmpI x y = 0) = b := by
  subst h
  unfold cmpI
  by_cases h : x = y
  · subst h; simp
  · rw [decide_eq_false h]
    by_cases h2 : x < y
    · rw [if_pos h2]; rfl
    · rw [if_neg h2, if_pos (by omega)]; rfl
set_option maxRecDepth 100000 in
set_option maxHeartbeats 8000000 in
theorem eOn_any {x y : Nat} (mx : x < M256) (my : y < M256) (b : Bool) (w : World) :
    Calls Tryd.prog 52 #[.agg (pcells x y b)] w fun e w' => e = .returned (.bool (onB x y b)) ∧ Below w.heap.size w w' := by
  obtain ⟨m, Hm⟩ : ∃ m, Hid (m = PP) := ⟨_, Lib.hid rfl⟩
  have hm : Modu m := by rw [Hm.out]; exact modu_P
  have hP : PrimeIs true m := by rw [Hm.out]; exact rPrime_true
  obtain ⟨n7, H7⟩ : ∃ n, Hid (n = 7) := ⟨7, Lib.hid rfl⟩
  have h7 : n7 < 18446744073709551616 := by rw [H7.out]; decide
  have mn7 : n7 < M256 := by rw [H7.out]; decide
  have E7 : (7 : Int) = (n7 : Int) := by rw [H7.out]; rfl
  replace E7 := Lib.hid E7
  have p7 : Hid (0 < n7 ∧ n7 < 65536) := Lib.hid (by rw [H7.out]; decide)
  obtain ⟨bb, Hb⟩ : ∃ c, Hid (onB x y b = c) := ⟨_, Lib.hid rfl⟩
  rw [Hb.out]
  cases b with
  | true =>
    have F8 := Lib.hid (show decide (x % M256 = 0 % M256 ∧ y % M256 = 0 % M256 ∧ true = true) = bb by rw [← Hb.out, Nat.mod_eq_of_lt mx, Nat.mod_eq_of_lt my]; unfold onB; simp)
    clear Hb
    have hM0 := mm_nil w
    (try unfold WV)
    go_enter Tryd.func52, Tryd.ntmps52
    go_wp2_with (first
      | ((with_reducible change wpList _ _ _ (Oper.mk (some 1) _ _ _ _ _ :: _) _ _); refine mmBox hM0 _ _ (pcells x y true) rfl rfl rfl ?_; intro w1 hM1; clear hM0; go_frame)
      | ((with_reducible change wpList _ _ _ (Oper.mk (some 6) _ _ _ _ _ :: _) _ _); refine kBuildPointN rfl rfl ?_; go_frame)
      | ((with_reducible change wpList _ _ _ (Oper.mk (some 3) _ _ _ _ _ :: _) _ _); refine mmAlloc hM1 _ _ rfl rfl zero_Point ?_; intro w2 hM2; clear hM1; go_frame)
      | ((with_reducible change wpList _ _ _ (Oper.mk none (Op.store _ (Operand.tmp 3) (Operand.tmp 6)) _ _ _ _ :: _) _ _); refine mmStoreAt hM2 0 _ _ _ _ _ _ (pcells 0 0 true) rfl rfl rfl rfl rfl (info_PointC _ _ _) (by simp only [pcells_size]) (pcells_one _ _ _) ?_; intro w3 hM3; dsimp only [List.set] at hM3; clear hM2; go_frame)
      | ((with_reducible change wpList _ _ _ (Oper.mk (some 7) _ _ _ _ _ :: _) _ _); refine kFieldPoint2 _ _ rfl rfl rfl ?_; go_frame)
      | ((with_reducible change wpList _ _ _ (Oper.mk (some 8) _ _ _ _ _ :: _) _ _); refine kLoad1 _ _ _ _ _ _ _ _ rfl rfl rfl (hM3.get 1 rfl) Tryd.underlying4 rfl (pcells_at8 _ _ _) ?_; go_frame)
      | ((with_reducible change wpList _ _ _ (Oper.mk (some 9) _ _ _ _ _ :: _) _ _); refine kLoadRow _ _ _ _ _ _ rfl rfl rfl (hM3.get 1 rfl) Tryd.underlying30 rfl (info_PointC _ _ _) ?_; go_frame)
      | ((with_reducible change wpList _ _ _ (Oper.mk (some 10) _ _ _ _ _ :: _) _ _); refine kLoadRow _ _ _ _ _ _ rfl rfl rfl (hM3.get 0 rfl) Tryd.underlying30 rfl (info_PointC _ _ _) ?_; go_frame)
      | ((with_reducible change wpList _ _ _ (Oper.mk (some 11) _ _ _ _ _ :: _) _ _); refine kEqlP _ _ _ x y true 0 0 true bb rfl rfl rfl rfl (F8.out) ?_; go_frame))
    go_ret
    exact ⟨rfl, hM3.below⟩
  | false =>
    by_cases hx : x < PP
    · by_cases hy : y < PP
      · skip
        obtain ⟨v14, Hv14, mv14⟩ := nameMod hm (x)
        obtain ⟨v17, Hv17, mv17⟩ := nameMod hm (y)
        obtain ⟨v29, Hv29, mv29⟩ := nameMod hm (v17 * v17)
        obtain ⟨v32, Hv32, mv32⟩ := nameMod hm (v14 * v14)
        obtain ⟨v34, Hv34, mv34⟩ := nameMod hm (v32 * v14)
        obtain ⟨v36, Hv36, mv36⟩ := nameMod hm (v34 + n7)
        have Ev29 := FPm_mul Hm.out Hv29.out
        have Lv29 := FPm_lt Hm.out Hv29.out
        have Ev32 := FPm_mul Hm.out Hv32.out
        have Ev34 := FPm_mul Hm.out Hv34.out
        have Ev36 := FPm_add Hm.out Hv36.out
        have Lv36 := FPm_lt Hm.out Hv36.out
        have F7 : FP n7 = 7 := by rw [H7.out]; rfl
        have Ev14 := FPm_mod Hm.out Hv14.out
        have Ev17 := FPm_mod Hm.out Hv17.out
        have F13 := Lib.hid (show decide (x < m) = true by rw [Hm.out]; exact decide_eq_true hx)
        have F18 := Lib.hid (show decide (y < m) = true by rw [Hm.out]; exact decide_eq_true hy)
        have F30 := Lib.hid (show decide (v29 = v36) = bb by
            rw [← Hb.out]
            have E1 : FP v29 = FP y * FP y := by simp only [Ev29, Ev17]
            have E2 : FP v36 = FP x * FP x * FP x + 7 := by simp only [Ev36, Ev34, Ev32, Ev14, F7]
            unfold onB
            rw [if_neg (by decide)]
            refine decide_eq_decide.2 ⟨fun e => ⟨hx, hy, by rw [← E1, ← E2, e]⟩, fun e => FP_inj Lv29 Lv36 (by rw [E1, E2]; exact e.2.2)⟩)
        clear Hb hx hy Ev29 Lv29 Ev32 Ev34 Ev36 Lv36 F7 Ev14 Ev17
        have hM0 := mm_nil w
        (try unfold WV)
        go_enter Tryd.func52, Tryd.ntmps52
        go_wp2_with (first
          | ((with_reducible change wpList _ _ _ (Oper.mk (some 1) _ _ _ _ _ :: _) _ _); refine mmBox hM0 _ _ (pcells x y false) rfl rfl rfl ?_; intro w1 hM1; clear hM0; go_frame)
          | ((with_reducible change wpList _ _ _ (Oper.mk (some 6) _ _ _ _ _ :: _) _ _); refine kBuildPointN rfl rfl ?_; go_frame)
          | ((with_reducible change wpList _ _ _ (Oper.mk (some 3) _ _ _ _ _ :: _) _ _); refine mmAlloc hM1 _ _ rfl rfl zero_Point ?_; intro w2 hM2; clear hM1; go_frame)
          | ((with_reducible change wpList _ _ _ (Oper.mk none (Op.store _ (Operand.tmp 3) (Operand.tmp 6)) _ _ _ _ :: _) _ _); refine mmStoreAt hM2 0 _ _ _ _ _ _ (pcells 0 0 true) rfl rfl rfl rfl rfl (info_PointC _ _ _) (by simp only [pcells_size]) (pcells_one _ _ _) ?_; intro w3 hM3; dsimp only [List.set] at hM3; clear hM2; go_frame)
          | ((with_reducible change wpList _ _ _ (Oper.mk (some 7) _ _ _ _ _ :: _) _ _); refine kFieldPoint2 _ _ rfl rfl rfl ?_; go_frame)
          | ((with_reducible change wpList _ _ _ (Oper.mk (some 8) _ _ _ _ _ :: _) _ _); refine kLoad1 _ _ _ _ _ _ _ _ rfl rfl rfl (hM3.get 1 rfl) Tryd.underlying4 rfl (pcells_at8 _ _ _) ?_; go_frame))
        refine region_symT 8 _ [] [] [.val (.pointer (some ⟨w.heap.size, 0, none⟩)), .val (.agg (wcells x)), .prop (fun w v => NumT w v (v14)) (fun _ _ _ hb h => h.below hb), .val (.pointer (some ⟨w.heap.size, 4, none⟩)), .val (.agg (wcells y)), .prop (fun w v => NumT w v (v17)) (fun _ _ _ hb h => h.below hb), .prop (fun w v => NumT w v (v14)) (fun _ _ _ hb h => h.below hb), .prop (fun w v => NumT w v (v17)) (fun _ _ _ hb h => h.below hb)] rfl (by kernel_rfl) (by kernel_rfl) (by kernel_rfl) (by kernel_rfl) rfl (by intro s hs; cases hs) (steps_all ⟨?_, ?_, ?_, ?_, ?_, ?_, ?_, ?_, trivial⟩) ?_
        · exact fun A W sz ot hbel ap dp => kFieldPoint0 _ _ rfl rfl (sO ot 1) (sE ap sz rfl)
        · exact fun A W sz ot hbel ap dp => kLoadAs _ _ _ _ _ 4 _ _ _ rfl rfl (sD dp 0 .data) ((hM3.get 1 rfl).on hbel) Tryd.underlying24 rfl info_Wide (by rw [pcells_size]; decide) (pcells_at0 _ _ _) (sE ap sz rfl)
        · intro A W sz ot hbel ap dp
          refine kCall1 70 _ _ _ rfl rfl (by kernel_rfl) (sD dp 1 .data) ?_
          refine (enum_as hm hP mx Hv14.out W).mono ?_
          rintro e r ⟨xx, rfl, hNx, hBc⟩
          exact ⟨_, rfl, (sV ap sz hBc hNx)⟩
        · exact fun A W sz ot hbel ap dp => kFieldPoint1 _ _ rfl rfl (sO ot 1) (sE ap sz rfl)
        · exact fun A W sz ot hbel ap dp => kLoadAs _ _ _ _ _ 4 _ _ _ rfl rfl (sD dp 3 .data) ((hM3.get 1 rfl).on hbel) Tryd.underlying24 rfl info_Wide (by rw [pcells_size]; decide) (pcells_at4 _ _ _) (sE ap sz rfl)
        · intro A W sz ot hbel ap dp
          refine kCall1 70 _ _ _ rfl rfl (by kernel_rfl) (sD dp 4 .data) ?_
          refine (enum_as hm hP my Hv17.out W).mono ?_
          rintro e r ⟨xx, rfl, hNx, hBc⟩
          exact ⟨_, rfl, (sV ap sz hBc hNx)⟩
        · intro A W sz ot hbel ap dp
          have hN := (sD dp 2 .data)
          exact kAssignV _ (A.tmps.getD 14 undef) rfl rfl rfl (sE ap sz hN)
        · intro A W sz ot hbel ap dp
          have hN := (sD dp 5 .data)
          exact kAssignV _ (A.tmps.getD 17 undef) rfl rfl rfl (sE ap sz hN)
        intro w4 hB4
        dsimp only [AllV]
        intro x4_14 hN4_14
        intro x4_17 hN4_17
        intro x4_4 hN4_4
        intro x4_5 hN4_5
        intro hap
        dsimp only [putAll, List.take, List.drop]
        go_frame
        have hM4 := hM3.on hB4
        clear hB4 hM3 hap
        have hM5 := mm_nil w4
        go_wp2_with (first
          | ((with_reducible change wpList _ _ _ (Oper.mk (some 18) _ _ _ _ _ :: _) _ _); refine kFieldPoint0 _ _ rfl rfl rfl ?_; go_frame)
          | ((with_reducible change wpList _ _ _ (Oper.mk (some 19) _ _ _ _ _ :: _) _ _); refine kLoadAs _ _ _ _ _ 4 _ _ _ rfl rfl rfl ((hM4.get 1 rfl).on hM5.below) Tryd.underlying24 rfl info_Wide (by rw [pcells_size]; decide) (pcells_at0 _ _ _) ?_; go_frame)
          | (go_at_call 81; (with_reducible change Calls _ _ #[Value.agg (wcells x)] _ _); refine (ebelow_as hP mx F13.out _).mono ?_; rintro e w6 ⟨rfl, hB6⟩; have hM6 := hM5.on hB6; clear hB6 hM5; (try unfold WV); go_frame)
          | ((with_reducible change wpList _ _ _ (Oper.mk (some 22) _ _ _ _ _ :: _) _ _); refine kFieldPoint1 _ _ rfl rfl rfl ?_; go_frame)
          | ((with_reducible change wpList _ _ _ (Oper.mk (some 23) _ _ _ _ _ :: _) _ _); refine kLoadAs _ _ _ _ _ 4 _ _ _ rfl rfl rfl ((hM4.get 1 rfl).on hM6.below) Tryd.underlying24 rfl info_Wide (by rw [pcells_size]; decide) (pcells_at4 _ _ _) ?_; go_frame)
          | (go_at_call 81; (with_reducible change Calls _ _ #[Value.agg (wcells y)] _ _); refine (ebelow_as hP my F18.out _).mono ?_; rintro e w7 ⟨rfl, hB7⟩; have hM7 := hM6.on hB7; clear hB7 hM6; (try unfold WV); go_frame)
          | (go_at_call 71; (with_reducible change Calls _ _ #[x4_5, x4_5] _ _); refine (emul_as hm hP ((hN4_5.below hM7.below).n16 mv17) ((hN4_5.below hM7.below).n16 mv17) Hv29.out).mono ?_; rintro e w8 ⟨x8, rfl, hN8, hB8⟩; have hM8 := hM7.on hB8; clear hB8 hM7; have hM9 := mm_nil w8; go_frame)
          | (go_at_call 71; (with_reducible change Calls _ _ #[x4_4, x4_4] _ _); refine (emul_as hm hP (((hN4_4.below hM8.below).below hM9.below).n16 mv14) (((hN4_4.below hM8.below).below hM9.below).n16 mv14) Hv32.out).mono ?_; rintro e w10 ⟨x10, rfl, hN10, hB10⟩; have hM10 := hM9.on hB10; clear hB10 hM9; have hM11 := mm_nil w10; go_frame)
          | (go_at_call 71; (with_reducible change Calls _ _ #[x10, x4_4] _ _); refine (emul_as hm hP ((hN10.below hM11.below).n16 mv32) ((((hN4_4.below hM8.below).below hM10.below).below hM11.below).n16 mv14) Hv34.out).mono ?_; rintro e w12 ⟨x12, rfl, hN12, hB12⟩; have hM12 := hM11.on hB12; clear hB12 hM11; have hM13 := mm_nil w12; go_frame)
          | ((with_reducible change wpList _ _ _ (Oper.mk (some 35) _ _ _ _ _ :: _) _ _); refine kDig1 n7 7 E7.out p7.out rfl rfl ?_; intro w14 x14 hN14 hB14; have hM14 := hM13.on hB14; clear hB14 hM13; have hM15 := mm_nil w14; go_frame)
          | (go_at_call 72; (with_reducible change Calls _ _ #[x12, x14] _ _); refine (eadd_as hm hP (((hN12.below hM14.below).below hM15.below).n16 mv34) ((hN14.below hM15.below).n16 mn7) Hv36.out).mono ?_; rintro e w16 ⟨x16, rfl, hN16, hB16⟩; have hM16 := hM15.on hB16; clear hB16 hM15; have hM17 := mm_nil w16; go_frame)
          | (go_at_call 46; (with_reducible change Calls _ _ #[x8, x16] _ _); refine (dCompare_below ((((((hN8.below hM10.below).below hM12.below).below hM14.below).below hM16.below).below hM17.below).n16 mv29) ((hN16.below hM17.below).n16 mv36) (by decide) (by decide)).mono ?_; rintro e w18 ⟨rfl, hB18⟩; have hM18 := hM17.on hB18; clear hB18 hM17; (try unfold WV); go_frame)
          | ((with_reducible change wpList _ _ _ (Oper.mk (some 38) _ _ _ _ _ :: _) _ _); refine kEqlI _ _ _ _ .i64 (cmpI v29 v36) (0) bb rfl rfl rfl rfl (cmpI_zero F30.out) ?_; go_frame))
        go_ret
        exact ⟨rfl, ((((((((((((hM4.below).trans (hM8.below.mono (hM4.below).size))).trans (hM10.below.mono (((hM4.below).trans (hM8.below.mono (hM4.below).size))).size))).trans (hM12.below.mono (((((hM4.below).trans (hM8.below.mono (hM4.below).size))).trans (hM10.below.mono (((hM4.below).trans (hM8.below.mono (hM4.below).size))).size))).size))).trans (hM14.below.mono (((((((hM4.below).trans (hM8.below.mono (hM4.below).size))).trans (hM10.below.mono (((hM4.below).trans (hM8.below.mono (hM4.below).size))).size))).trans (hM12.below.mono (((((hM4.below).trans (hM8.below.mono (hM4.below).size))).trans (hM10.below.mono (((hM4.below).trans (hM8.below.mono (hM4.below).size))).size))).size))).size))).trans (hM16.below.mono (((((((((hM4.below).trans (hM8.below.mono (hM4.below).size))).trans (hM10.below.mono (((hM4.below).trans (hM8.below.mono (hM4.below).size))).size))).trans (hM12.below.mono (((((hM4.below).trans (hM8.below.mono (hM4.below).size))).trans (hM10.below.mono (((hM4.below).trans (hM8.below.mono (hM4.below).size))).size))).size))).trans (hM14.below.mono (((((((hM4.below).trans (hM8.below.mono (hM4.below).size))).trans (hM10.below.mono (((hM4.below).trans (hM8.below.mono (hM4.below).size))).size))).trans (hM12.below.mono (((((hM4.below).trans (hM8.below.mono (hM4.below).size))).trans (hM10.below.mono (((hM4.below).trans (hM8.below.mono (hM4.below).size))).size))).size))).size))).size))).trans (hM18.below.mono (((((((((((hM4.below).trans (hM8.below.mono (hM4.below).size))).trans (hM10.below.mono (((hM4.below).trans (hM8.below.mono (hM4.below).size))).size))).trans (hM12.below.mono (((((hM4.below).trans (hM8.below.mono (hM4.below).size))).trans (hM10.below.mono (((hM4.below).trans (hM8.below.mono (hM4.below).size))).size))).size))).trans (hM14.below.mono (((((((hM4.below).trans (hM8.below.mono (hM4.below).size))).trans (hM10.below.mono (((hM4.below).trans (hM8.below.mono (hM4.below).size))).size))).trans (hM12.below.mono (((((hM4.below).trans (hM8.below.mono (hM4.below).size))).trans (hM10.below.mono (((hM4.below).trans (hM8.below.mono (hM4.below).size))).size))).size))).size))).trans (hM16.below.mono (((((((((hM4.below).trans (hM8.below.mono (hM4.below).size))).trans (hM10.below.mono (((hM4.below).trans (hM8.below.mono (hM4.below).size))).size))).trans (hM12.below.mono (((((hM4.below).trans (hM8.below.mono (hM4.below).size))).trans (hM10.below.mono (((hM4.below).trans (hM8.below.mono (hM4.below).size))).size))).size))).trans (hM14.below.mono (((((((hM4.below).trans (hM8.below.mono (hM4.below).size))).trans (hM10.below.mono (((hM4.below).trans (hM8.below.mono (hM4.below).size))).size))).trans (hM12.below.mono (((((hM4.below).trans (hM8.below.mono (hM4.below).size))).trans (hM10.below.mono (((hM4.below).trans (hM8.below.mono (hM4.below).size))).size))).size))).size))).size))).size))⟩
      · skip
        obtain ⟨v14, Hv14, mv14⟩ := nameMod hm (x)
        obtain ⟨v17, Hv17, mv17⟩ := nameMod hm (y)
        have R := Lib.hid (show bb = false by rw [← Hb.out]; unfold onB; rw [if_neg (by decide)]; exact decide_eq_false fun e => hy e.2.1)
        have F13 := Lib.hid (show decide (x < m) = true by rw [Hm.out]; exact decide_eq_true hx)
        have F18 := Lib.hid (show decide (y < m) = false by rw [Hm.out]; exact decide_eq_false hy)
        clear Hb hx hy
        have hM0 := mm_nil w
        (try unfold WV)
        go_enter Tryd.func52, Tryd.ntmps52
        go_wp2_with (first
          | ((with_reducible change wpList _ _ _ (Oper.mk (some 1) _ _ _ _ _ :: _) _ _); refine mmBox hM0 _ _ (pcells x y false) rfl rfl rfl ?_; intro w1 hM1; clear hM0; go_frame)
          | ((with_reducible change wpList _ _ _ (Oper.mk (some 6) _ _ _ _ _ :: _) _ _); refine kBuildPointN rfl rfl ?_; go_frame)
          | ((with_reducible change wpList _ _ _ (Oper.mk (some 3) _ _ _ _ _ :: _) _ _); refine mmAlloc hM1 _ _ rfl rfl zero_Point ?_; intro w2 hM2; clear hM1; go_frame)
          | ((with_reducible change wpList _ _ _ (Oper.mk none (Op.store _ (Operand.tmp 3) (Operand.tmp 6)) _ _ _ _ :: _) _ _); refine mmStoreAt hM2 0 _ _ _ _ _ _ (pcells 0 0 true) rfl rfl rfl rfl rfl (info_PointC _ _ _) (by simp only [pcells_size]) (pcells_one _ _ _) ?_; intro w3 hM3; dsimp only [List.set] at hM3; clear hM2; go_frame)
          | ((with_reducible change wpList _ _ _ (Oper.mk (some 7) _ _ _ _ _ :: _) _ _); refine kFieldPoint2 _ _ rfl rfl rfl ?_; go_frame)
          | ((with_reducible change wpList _ _ _ (Oper.mk (some 8) _ _ _ _ _ :: _) _ _); refine kLoad1 _ _ _ _ _ _ _ _ rfl rfl rfl (hM3.get 1 rfl) Tryd.underlying4 rfl (pcells_at8 _ _ _) ?_; go_frame))
        refine region_symT 8 _ [] [] [.val (.pointer (some ⟨w.heap.size, 0, none⟩)), .val (.agg (wcells x)), .prop (fun w v => NumT w v (v14)) (fun _ _ _ hb h => h.below hb), .val (.pointer (some ⟨w.heap.size, 4, none⟩)), .val (.agg (wcells y)), .prop (fun w v => NumT w v (v17)) (fun _ _ _ hb h => h.below hb), .prop (fun w v => NumT w v (v14)) (fun _ _ _ hb h => h.below hb), .prop (fun w v => NumT w v (v17)) (fun _ _ _ hb h => h.below hb)] rfl (by kernel_rfl) (by kernel_rfl) (by kernel_rfl) (by kernel_rfl) rfl (by intro s hs; cases hs) (steps_all ⟨?_, ?_, ?_, ?_, ?_, ?_, ?_, ?_, trivial⟩) ?_
        · exact fun A W sz ot hbel ap dp => kFieldPoint0 _ _ rfl rfl (sO ot 1) (sE ap sz rfl)
        · exact fun A W sz ot hbel ap dp => kLoadAs _ _ _ _ _ 4 _ _ _ rfl rfl (sD dp 0 .data) ((hM3.get 1 rfl).on hbel) Tryd.underlying24 rfl info_Wide (by rw [pcells_size]; decide) (pcells_at0 _ _ _) (sE ap sz rfl)
        · intro A W sz ot hbel ap dp
          refine kCall1 70 _ _ _ rfl rfl (by kernel_rfl) (sD dp 1 .data) ?_
          refine (enum_as hm hP mx Hv14.out W).mono ?_
          rintro e r ⟨xx, rfl, hNx, hBc⟩
          exact ⟨_, rfl, (sV ap sz hBc hNx)⟩
        · exact fun A W sz ot hbel ap dp => kFieldPoint1 _ _ rfl rfl (sO ot 1) (sE ap sz rfl)
        · exact fun A W sz ot hbel ap dp => kLoadAs _ _ _ _ _ 4 _ _ _ rfl rfl (sD dp 3 .data) ((hM3.get 1 rfl).on hbel) Tryd.underlying24 rfl info_Wide (by rw [pcells_size]; decide) (pcells_at4 _ _ _) (sE ap sz rfl)
        · intro A W sz ot hbel ap dp
          refine kCall1 70 _ _ _ rfl rfl (by kernel_rfl) (sD dp 4 .data) ?_
          refine (enum_as hm hP my Hv17.out W).mono ?_
          rintro e r ⟨xx, rfl, hNx, hBc⟩
          exact ⟨_, rfl, (sV ap sz hBc hNx)⟩
        · intro A W sz ot hbel ap dp
          have hN := (sD dp 2 .data)
          exact kAssignV _ (A.tmps.getD 14 undef) rfl rfl rfl (sE ap sz hN)
        · intro A W sz ot hbel ap dp
          have hN := (sD dp 5 .data)
          exact kAssignV _ (A.tmps.getD 17 undef) rfl rfl rfl (sE ap sz hN)
        intro w4 hB4
        dsimp only [AllV]
        intro x4_14 hN4_14
        intro x4_17 hN4_17
        intro x4_4 hN4_4
        intro x4_5 hN4_5
        intro hap
        dsimp only [putAll, List.take, List.drop]
        go_frame
        have hM4 := hM3.on hB4
        clear hB4 hM3 hap
        have hM5 := mm_nil w4
        go_wp2_with (first
          | ((with_reducible change wpList _ _ _ (Oper.mk (some 18) _ _ _ _ _ :: _) _ _); refine kFieldPoint0 _ _ rfl rfl rfl ?_; go_frame)
          | ((with_reducible change wpList _ _ _ (Oper.mk (some 19) _ _ _ _ _ :: _) _ _); refine kLoadAs _ _ _ _ _ 4 _ _ _ rfl rfl rfl ((hM4.get 1 rfl).on hM5.below) Tryd.underlying24 rfl info_Wide (by rw [pcells_size]; decide) (pcells_at0 _ _ _) ?_; go_frame)
          | (go_at_call 81; (with_reducible change Calls _ _ #[Value.agg (wcells x)] _ _); refine (ebelow_as hP mx F13.out _).mono ?_; rintro e w6 ⟨rfl, hB6⟩; have hM6 := hM5.on hB6; clear hB6 hM5; (try unfold WV); go_frame)
          | ((with_reducible change wpList _ _ _ (Oper.mk (some 22) _ _ _ _ _ :: _) _ _); refine kFieldPoint1 _ _ rfl rfl rfl ?_; go_frame)
          | ((with_reducible change wpList _ _ _ (Oper.mk (some 23) _ _ _ _ _ :: _) _ _); refine kLoadAs _ _ _ _ _ 4 _ _ _ rfl rfl rfl ((hM4.get 1 rfl).on hM6.below) Tryd.underlying24 rfl info_Wide (by rw [pcells_size]; decide) (pcells_at4 _ _ _) ?_; go_frame)
          | (go_at_call 81; (with_reducible change Calls _ _ #[Value.agg (wcells y)] _ _); refine (ebelow_as hP my F18.out _).mono ?_; rintro e w7 ⟨rfl, hB7⟩; have hM7 := hM6.on hB7; clear hB7 hM6; (try unfold WV); go_frame))
        go_ret
        exact ⟨by rw [R.out] <;> rfl, ((hM4.below).trans (hM7.below.mono (hM4.below).size))⟩
    · skip
      obtain ⟨v14, Hv14, mv14⟩ := nameMod hm (x)
      obtain ⟨v17, Hv17, mv17⟩ := nameMod hm (y)
      have R := Lib.hid (show bb = false by rw [← Hb.out]; unfold onB; rw [if_neg (by decide)]; exact decide_eq_false fun e => hx e.1)
      have F13 := Lib.hid (show decide (x < m) = false by rw [Hm.out]; exact decide_eq_false hx)
      clear Hb hx
      have hM0 := mm_nil w
      (try unfold WV)
      go_enter Tryd.func52, Tryd.ntmps52
      go_wp2_with (first
        | ((with_reducible change wpList _ _ _ (Oper.mk (some 1) _ _ _ _ _ :: _) _ _); refine mmBox hM0 _ _ (pcells x y false) rfl rfl rfl ?_; intro w1 hM1; clear hM0; go_frame)
        | ((with_reducible change wpList _ _ _ (Oper.mk (some 6) _ _ _ _ _ :: _) _ _); refine kBuildPointN rfl rfl ?_; go_frame)
        | ((with_reducible change wpList _ _ _ (Oper.mk (some 3) _ _ _ _ _ :: _) _ _); refine mmAlloc hM1 _ _ rfl rfl zero_Point ?_; intro w2 hM2; clear hM1; go_frame)
        | ((with_reducible change wpList _ _ _ (Oper.mk none (Op.store _ (Operand.tmp 3) (Operand.tmp 6)) _ _ _ _ :: _) _ _); refine mmStoreAt hM2 0 _ _ _ _ _ _ (pcells 0 0 true) rfl rfl rfl rfl rfl (info_PointC _ _ _) (by simp only [pcells_size]) (pcells_one _ _ _) ?_; intro w3 hM3; dsimp only [List.set] at hM3; clear hM2; go_frame)
        | ((with_reducible change wpList _ _ _ (Oper.mk (some 7) _ _ _ _ _ :: _) _ _); refine kFieldPoint2 _ _ rfl rfl rfl ?_; go_frame)
        | ((with_reducible change wpList _ _ _ (Oper.mk (some 8) _ _ _ _ _ :: _) _ _); refine kLoad1 _ _ _ _ _ _ _ _ rfl rfl rfl (hM3.get 1 rfl) Tryd.underlying4 rfl (pcells_at8 _ _ _) ?_; go_frame))
      refine region_symT 8 _ [] [] [.val (.pointer (some ⟨w.heap.size, 0, none⟩)), .val (.agg (wcells x)), .prop (fun w v => NumT w v (v14)) (fun _ _ _ hb h => h.below hb), .val (.pointer (some ⟨w.heap.size, 4, none⟩)), .val (.agg (wcells y)), .prop (fun w v => NumT w v (v17)) (fun _ _ _ hb h => h.below hb), .prop (fun w v => NumT w v (v14)) (fun _ _ _ hb h => h.below hb), .prop (fun w v => NumT w v (v17)) (fun _ _ _ hb h => h.below hb)] rfl (by kernel_rfl) (by kernel_rfl) (by kernel_rfl) (by kernel_rfl) rfl (by intro s hs; cases hs) (steps_all ⟨?_, ?_, ?_, ?_, ?_, ?_, ?_, ?_, trivial⟩) ?_
      · exact fun A W sz ot hbel ap dp => kFieldPoint0 _ _ rfl rfl (sO ot 1) (sE ap sz rfl)
      · exact fun A W sz ot hbel ap dp => kLoadAs _ _ _ _ _ 4 _ _ _ rfl rfl (sD dp 0 .data) ((hM3.get 1 rfl).on hbel) Tryd.underlying24 rfl info_Wide (by rw [pcells_size]; decide) (pcells_at0 _ _ _) (sE ap sz rfl)
      · intro A W sz ot hbel ap dp
        refine kCall1 70 _ _ _ rfl rfl (by kernel_rfl) (sD dp 1 .data) ?_
        refine (enum_as hm hP mx Hv14.out W).mono ?_
        rintro e r ⟨xx, rfl, hNx, hBc⟩
        exact ⟨_, rfl, (sV ap sz hBc hNx)⟩
      · exact fun A W sz ot hbel ap dp => kFieldPoint1 _ _ rfl rfl (sO ot 1) (sE ap sz rfl)
      · exact fun A W sz ot hbel ap dp => kLoadAs _ _ _ _ _ 4 _ _ _ rfl rfl (sD dp 3 .data) ((hM3.get 1 rfl).on hbel) Tryd.underlying24 rfl info_Wide (by rw [pcells_size]; decide) (pcells_at4 _ _ _) (sE ap sz rfl)
      · intro A W sz ot hbel ap dp
        refine kCall1 70 _ _ _ rfl rfl (by kernel_rfl) (sD dp 4 .data) ?_
        refine (enum_as hm hP my Hv17.out W).mono ?_
        rintro e r ⟨xx, rfl, hNx, hBc⟩
        exact ⟨_, rfl, (sV ap sz hBc hNx)⟩
      · intro A W sz ot hbel ap dp
        have hN := (sD dp 2 .data)
        exact kAssignV _ (A.tmps.getD 14 undef) rfl rfl rfl (sE ap sz hN)
      · intro A W sz ot hbel ap dp
        have hN := (sD dp 5 .data)
        exact kAssignV _ (A.tmps.getD 17 undef) rfl rfl rfl (sE ap sz hN)
      intro w4 hB4
      dsimp only [AllV]
      intro x4_14 hN4_14
      intro x4_17 hN4_17
      intro x4_4 hN4_4
      intro x4_5 hN4_5
      intro hap
      dsimp only [putAll, List.take, List.drop]
      go_frame
      have hM4 := hM3.on hB4
      clear hB4 hM3 hap
      have hM5 := mm_nil w4
      go_wp2_with (first
        | ((with_reducible change wpList _ _ _ (Oper.mk (some 18) _ _ _ _ _ :: _) _ _); refine kFieldPoint0 _ _ rfl rfl rfl ?_; go_frame)
        | ((with_reducible change wpList _ _ _ (Oper.mk (some 19) _ _ _ _ _ :: _) _ _); refine kLoadAs _ _ _ _ _ 4 _ _ _ rfl rfl rfl ((hM4.get 1 rfl).on hM5.below) Tryd.underlying24 rfl info_Wide (by rw [pcells_size]; decide) (pcells_at0 _ _ _) ?_; go_frame)
        | (go_at_call 81; (with_reducible change Calls _ _ #[Value.agg (wcells x)] _ _); refine (ebelow_as hP mx F13.out _).mono ?_; rintro e w6 ⟨rfl, hB6⟩; have hM6 := hM5.on hB6; clear hB6 hM5; (try unfold WV); go_frame))
      go_ret
      exact ⟨by rw [R.out] <;> rfl, ((hM4.below).trans (hM6.below.mono (hM4.below).size))⟩
set_option maxRecDepth 100000 in
set_option maxHeartbeats 8000000 in
theorem eOf_o (w : World) : Calls Tryd.prog 47 #[.agg (pcells 0 0 true)] w (SpotPost w 0 1 0) := by
  obtain ⟨n1, H1⟩ : ∃ n, Hid (n = 1) := ⟨1, Lib.hid rfl⟩
  have h1 : n1 < 18446744073709551616 := by rw [H1.out]; decide
  have mn1 : n1 < M256 := by rw [H1.out]; decide
  have E1 : (1 : Int) = (n1 : Int) := by rw [H1.out]; rfl
  replace E1 := Lib.hid E1
  have p1 : Hid (0 < n1 ∧ n1 < 65536) := Lib.hid (by rw [H1.out]; decide)
  have hM0 := mm_nil w
  (try unfold WV)
  go_enter Tryd.func47, Tryd.ntmps47
  go_wp2_with (first
    | ((with_reducible change wpList _ _ _ (Oper.mk (some 1) _ _ _ _ _ :: _) _ _); refine mmBox hM0 _ _ (pcells 0 0 true) rfl rfl rfl ?_; intro w1 hM1; clear hM0; go_frame)
    | ((with_reducible change wpList _ _ _ (Oper.mk (some 2) _ _ _ _ _ :: _) _ _); refine mmAlloc hM1 _ _ rfl rfl zero_Spot ?_; intro w2 hM2; clear hM1; go_frame)
    | ((with_reducible change wpList _ _ _ (Oper.mk (some 3) _ _ _ _ _ :: _) _ _); refine kFieldPoint2 _ _ rfl rfl rfl ?_; go_frame)
    | ((with_reducible change wpList _ _ _ (Oper.mk (some 4) _ _ _ _ _ :: _) _ _); refine kLoad1 _ _ _ _ _ _ _ _ rfl rfl rfl (hM2.get 1 rfl) Tryd.underlying4 rfl (pcells_at8 _ _ _) ?_; go_frame)
    | ((with_reducible change wpList _ _ _ (Oper.mk (some 5) _ _ _ _ _ :: _) _ _); refine kDig0 rfl rfl ?_; intro w3 x3 hN3 hB3; have hM3 := hM2.on hB3; clear hB3 hM2; have hM4 := mm_nil w3; go_frame)
    | ((with_reducible change wpList _ _ _ (Oper.mk (some 6) _ _ _ _ _ :: _) _ _); refine kDig1 n1 1 E1.out p1.out rfl rfl ?_; intro w5 x5 hN5 hB5; have hM5 := hM4.on hB5; clear hB5 hM4; have hM6 := mm_nil w5; go_frame)
    | ((with_reducible change wpList _ _ _ (Oper.mk (some 7) _ _ _ _ _ :: _) _ _); refine kDig0 rfl rfl ?_; intro w7 x7 hN7 hB7; have hM7 := hM6.on hB7; clear hB7 hM6; have hM8 := mm_nil w7; go_frame)
    | ((with_reducible change wpList _ _ _ (Oper.mk (some 8) _ _ _ _ _ :: _) _ _); refine kBuildSpot3 _ _ _ (x3) (x5) (x7) rfl rfl rfl rfl rfl (NumT.sl (((hN3.below hM5.below).below hM7.below).below hM8.below)) (NumT.sl ((hN5.below hM7.below).below hM8.below)) (NumT.sl (hN7.below hM8.below)) ?_; go_frame)
    | ((with_reducible change wpList _ _ _ (Oper.mk none (Op.store _ (Operand.tmp 2) (Operand.tmp 8)) _ _ _ _ :: _) _ _); have hJ := (Mm.join (Mm.join (Mm.join hM3 hM5) hM7) hM8); dsimp only [List.append, List.cons_append, List.nil_append] at hJ; refine mmStoreSp hJ 0 _ _ _ _ _ _ (#[x3, x5, x7]) rfl rfl rfl rfl rfl (info_SpotC _ _ _) rfl (spot_one (NumT.one (((hN3.below hM5.below).below hM7.below).below hM8.below)) (NumT.one ((hN5.below hM7.below).below hM8.below)) (NumT.one (hN7.below hM8.below))) ?_; intro w9 hM9 hW; have hT9_0_0 := NumT.wrote (((hN3.below hM5.below).below hM7.below).below hM8.below) (hJ.get 0 rfl) (spot_sl rfl rfl rfl) hW; have hT9_0_1 := NumT.wrote ((hN5.below hM7.below).below hM8.below) (hJ.get 0 rfl) (spot_sl rfl rfl rfl) hW; have hT9_0_2 := NumT.wrote (hN7.below hM8.below) (hJ.get 0 rfl) (spot_sl rfl rfl rfl) hW; dsimp only [List.set] at hM9; clear hJ hW; have hM10 := mm_nil w9; go_frame))
  exact result_row Tryd.results47 rfl ((hM9.get 0 rfl).on hM10.below) Tryd.underlying78 rfl (info_SpotC _ _ _) rfl ⟨_, _, _, rfl, (hT9_0_0.below hM10.below), H1.out ▸ (hT9_0_1.below hM10.below), (hT9_0_2.below hM10.below), ((hM9.below).trans (hM10.below.mono (hM9.below).size))⟩
set_option maxRecDepth 100000 in
set_option maxHeartbeats 8000000 in
theorem eOf_mk {x y : Nat} (lx : x < PP) (ly : y < PP) (w : World) : Calls Tryd.prog 47 #[.agg (pcells x y false)] w (SpotPost w x y 1) := by
  obtain ⟨m, Hm⟩ : ∃ m, Hid (m = PP) := ⟨_, Lib.hid rfl⟩
  have hm : Modu m := by rw [Hm.out]; exact modu_P
  have hP : PrimeIs true m := by rw [Hm.out]; exact rPrime_true
  have mx := lt_M lx
  have my := lt_M ly
  obtain ⟨n1, H1⟩ : ∃ n, Hid (n = 1) := ⟨1, Lib.hid rfl⟩
  have h1 : n1 < 18446744073709551616 := by rw [H1.out]; decide
  have mn1 : n1 < M256 := by rw [H1.out]; decide
  have E1 : (1 : Int) = (n1 : Int) := by rw [H1.out]; rfl
  replace E1 := Lib.hid E1
  have p1 : Hid (0 < n1 ∧ n1 < 65536) := Lib.hid (by rw [H1.out]; decide)
  obtain ⟨v11, Hv11, mv11⟩ := nameMod hm (x)
  obtain ⟨v14, Hv14, mv14⟩ := nameMod hm (y)
  have R1 := Lib.hid (show v11 = x by rw [← Hv11.out, Hm.out]; exact Nat.mod_eq_of_lt lx)
  have R2 := Lib.hid (show v14 = y by rw [← Hv14.out, Hm.out]; exact Nat.mod_eq_of_lt ly)
  have hM0 := mm_nil w
  (try unfold WV)
  go_enter Tryd.func47, Tryd.ntmps47
  go_wp2_with (first
    | ((with_reducible change wpList _ _ _ (Oper.mk (some 1) _ _ _ _ _ :: _) _ _); refine mmBox hM0 _ _ (pcells x y false) rfl rfl rfl ?_; intro w1 hM1; clear hM0; go_frame)
    | ((with_reducible change wpList _ _ _ (Oper.mk (some 2) _ _ _ _ _ :: _) _ _); refine mmAlloc hM1 _ _ rfl rfl zero_Spot ?_; intro w2 hM2; clear hM1; go_frame)
    | ((with_reducible change wpList _ _ _ (Oper.mk (some 3) _ _ _ _ _ :: _) _ _); refine kFieldPoint2 _ _ rfl rfl rfl ?_; go_frame)
    | ((with_reducible change wpList _ _ _ (Oper.mk (some 4) _ _ _ _ _ :: _) _ _); refine kLoad1 _ _ _ _ _ _ _ _ rfl rfl rfl (hM2.get 1 rfl) Tryd.underlying4 rfl (pcells_at8 _ _ _) ?_; go_frame))
  refine region_symT 8 _ [] [] [.val (.pointer (some ⟨w.heap.size, 0, none⟩)), .val (.agg (wcells x)), .prop (fun w v => NumT w v (v11)) (fun _ _ _ hb h => h.below hb), .val (.pointer (some ⟨w.heap.size, 4, none⟩)), .val (.agg (wcells y)), .prop (fun w v => NumT w v (v14)) (fun _ _ _ hb h => h.below hb), .prop (fun w v => NumT w v (n1)) (fun _ _ _ hb h => h.below hb), .prop (fun w v => SpotIs w v v11 v14 n1) (fun _ _ _ hb h => h.below hb)] rfl (by kernel_rfl) (by kernel_rfl) (by kernel_rfl) (by kernel_rfl) rfl (by intro s hs; cases hs) (steps_all ⟨?_, ?_, ?_, ?_, ?_, ?_, ?_, ?_, trivial⟩) ?_
  · exact fun A W sz ot hbel ap dp => kFieldPoint0 _ _ rfl rfl (sO ot 1) (sE ap sz rfl)
  · exact fun A W sz ot hbel ap dp => kLoadAs _ _ _ _ _ 4 _ _ _ rfl rfl (sD dp 0 .data) ((hM2.get 1 rfl).on hbel) Tryd.underlying24 rfl info_Wide (by rw [pcells_size]; decide) (pcells_at0 _ _ _) (sE ap sz rfl)
  · intro A W sz ot hbel ap dp
    refine kCall1 70 _ _ _ rfl rfl (by kernel_rfl) (sD dp 1 .data) ?_
    refine (enum_as hm hP mx Hv11.out W).mono ?_
    rintro e r ⟨xx, rfl, hNx, hBc⟩
    exact ⟨_, rfl, (sV ap sz hBc hNx)⟩
  · exact fun A W sz ot hbel ap dp => kFieldPoint1 _ _ rfl rfl (sO ot 1) (sE ap sz rfl)
  · exact fun A W sz ot hbel ap dp => kLoadAs _ _ _ _ _ 4 _ _ _ rfl rfl (sD dp 3 .data) ((hM2.get 1 rfl).on hbel) Tryd.underlying24 rfl info_Wide (by rw [pcells_size]; decide) (pcells_at4 _ _ _) (sE ap sz rfl)
  · intro A W sz ot hbel ap dp
    refine kCall1 70 _ _ _ rfl rfl (by kernel_rfl) (sD dp 4 .data) ?_
    refine (enum_as hm hP my Hv14.out W).mono ?_
    rintro e r ⟨xx, rfl, hNx, hBc⟩
    exact ⟨_, rfl, (sV ap sz hBc hNx)⟩
  · intro A W sz ot hbel ap dp
    refine kDig1 n1 1 E1.out p1.out rfl rfl ?_
    intro r xx hNx hBc
    exact (sV ap sz hBc hNx)
  · intro A W sz ot hbel ap dp
    have hS11 := (show NumT W (A.tmps.getD 11 undef) (v11) from (sD dp 2 .data))
    have hS14 := (show NumT W (A.tmps.getD 14 undef) (v14) from (sD dp 5 .data))
    have hS15 := (show NumT W (A.tmps.getD 15 undef) (n1) from (sD dp 6 .data))
    exact kBuildSpot3 _ _ _ (A.tmps.getD 11 undef) (A.tmps.getD 14 undef) (A.tmps.getD 15 undef) rfl rfl rfl rfl rfl hS11.sl hS14.sl hS15.sl (sE ap sz ⟨_, _, _, rfl, hS11, hS14, hS15⟩)
  intro w3 hB3
  dsimp only [AllV]
  intro x3_11 hN3_11
  intro x3_14 hN3_14
  intro x3_15 hN3_15
  intro x3_16 hS3_16
  obtain ⟨xa3_16, xb3_16, xc3_16, rfl, hNa3_16, hNb3_16, hNc3_16⟩ := hS3_16
  intro hap
  dsimp only [putAll, List.take, List.drop]
  go_frame
  have hM3 := hM2.on hB3
  clear hB3 hM2 hap
  have hM4 := mm_nil w3
  go_wp2_with (first
    | ((with_reducible change wpList _ _ _ (Oper.mk none (Op.store _ (Operand.tmp 2) (Operand.tmp 16)) _ _ _ _ :: _) _ _); have hJ := (Mm.join hM3 hM4); dsimp only [List.append, List.cons_append, List.nil_append] at hJ; refine mmStoreSp hJ 0 _ _ _ _ _ _ (#[xa3_16, xb3_16, xc3_16]) rfl rfl rfl rfl rfl (info_SpotC _ _ _) rfl (spot_one (NumT.one (hNa3_16.below hM4.below)) (NumT.one (hNb3_16.below hM4.below)) (NumT.one (hNc3_16.below hM4.below))) ?_; intro w5 hM5 hW; have hT5_0_0 := NumT.wrote (hNa3_16.below hM4.below) (hJ.get 0 rfl) (spot_sl rfl rfl rfl) hW; have hT5_0_1 := NumT.wrote (hNb3_16.below hM4.below) (hJ.get 0 rfl) (spot_sl rfl rfl rfl) hW; have hT5_0_2 := NumT.wrote (hNc3_16.below hM4.below) (hJ.get 0 rfl) (spot_sl rfl rfl rfl) hW; dsimp only [List.set] at hM5; clear hJ hW; have hM6 := mm_nil w5; go_frame))
  exact result_row Tryd.results47 rfl ((hM5.get 0 rfl).on hM6.below) Tryd.underlying78 rfl (info_SpotC _ _ _) rfl ⟨_, _, _, rfl, R1.out ▸ (hT5_0_0.below hM6.below), R2.out ▸ (hT5_0_1.below hM6.below), H1.out ▸ (hT5_0_2.below hM6.below), ((hM5.below).trans (hM6.below.mono (hM5.below).size))⟩
set_option maxRecDepth 100000 in
set_option maxHeartbeats 8000000 in
theorem eSum_nat {x1 y1 z1 x2 y2 z2 : Nat} (lx1 : x1 < PP) (ly1 : y1 < PP) (lz1 : z1 < PP) (lx2 : x2 < PP) (ly2 : y2 < PP) (lz2 : z2 < PP) {a1 b1 c1 a2 b2 c2 : Value} (w : World) (ha1 : NumT w a1 x1) (hb1 : NumT w b1 y1) (hc1 : NumT w c1 z1) (ha2 : NumT w a2 x2) (hb2 : NumT w b2 y2) (hc2 : NumT w c2 z2) :
    Calls Tryd.prog 48 #[.agg #[a1, b1, c1], .agg #[a2, b2, c2]] w (SpotPost w (Spot.sum ⟨FP x1, FP y1, FP z1⟩ ⟨FP x2, FP y2, FP z2⟩ : Cv.Spot PP).X.val (Spot.sum ⟨FP x1, FP y1, FP z1⟩ ⟨FP x2, FP y2, FP z2⟩ : Cv.Spot PP).Y.val (Spot.sum ⟨FP x1, FP y1, FP z1⟩ ⟨FP x2, FP y2, FP z2⟩ : Cv.Spot PP).Z.val) := by
  obtain ⟨m, Hm⟩ : ∃ m, Hid (m = PP) := ⟨_, Lib.hid rfl⟩
  have hm : Modu m := by rw [Hm.out]; exact modu_P
  have hP : PrimeIs true m := by rw [Hm.out]; exact rPrime_true
  have mx1 := lt_M lx1
  have my1 := lt_M ly1
  have mz1 := lt_M lz1
  have mx2 := lt_M lx2
  have my2 := lt_M ly2
  have mz2 := lt_M lz2
  obtain ⟨n21, H21⟩ : ∃ n, Hid (n = 21) := ⟨21, Lib.hid rfl⟩
  have h21 : n21 < 18446744073709551616 := by rw [H21.out]; decide
  have mn21 : n21 < M256 := by rw [H21.out]; decide
  have E21 : (21 : Int) = (n21 : Int) := by rw [H21.out]; rfl
  replace E21 := Lib.hid E21
  have p21 : Hid (0 < n21 ∧ n21 < 65536) := Lib.hid (by rw [H21.out]; decide)
  obtain ⟨v20, Hv20, mv20⟩ := nameMod hm (x1 * x2)
  obtain ⟨v25, Hv25, mv25⟩ := nameMod hm (y1 * y2)
  obtain ⟨v30, Hv30, mv30⟩ := nameMod hm (z1 * z2)
  obtain ⟨v35, Hv35, mv35⟩ := nameMod hm (x1 * y2)
  obtain ⟨v40, Hv40, mv40⟩ := nameMod hm (x2 * y1)
  obtain ⟨v41, Hv41, mv41⟩ := nameMod hm (v35 + v40)
  obtain ⟨v46, Hv46, mv46⟩ := nameMod hm (y1 * z2)
  obtain ⟨v51, Hv51, mv51⟩ := nameMod hm (y2 * z1)
  obtain ⟨v52, Hv52, mv52⟩ := nameMod hm (v46 + v51)
  obtain ⟨v57, Hv57, mv57⟩ := nameMod hm (x1 * z2)
  obtain ⟨v62, Hv62, mv62⟩ := nameMod hm (x2 * z1)
  obtain ⟨v63, Hv63, mv63⟩ := nameMod hm (v57 + v62)
  obtain ⟨v68, Hv68, mv68⟩ := nameMod hm (n21 * v30)
  obtain ⟨v69, Hv69, mv69⟩ := nameMod hm (v25 + v68)
  obtain ⟨v73, Hv73, mv73⟩ := nameMod hm (n21 * v30)
  obtain ⟨v74, Hv74, mv74⟩ := nameMod hm (v25 + m - v73)
  obtain ⟨v77, Hv77, mv77⟩ := nameMod hm (v20 + v20)
  obtain ⟨v79, Hv79, mv79⟩ := nameMod hm (v77 + v20)
  obtain ⟨v82, Hv82, mv82⟩ := nameMod hm (n21 * v63)
  obtain ⟨v85, Hv85, mv85⟩ := nameMod hm (v41 * v74)
  obtain ⟨v88, Hv88, mv88⟩ := nameMod hm (v52 * v82)
  obtain ⟨v89, Hv89, mv89⟩ := nameMod hm (v85 + m - v88)
  obtain ⟨v92, Hv92, mv92⟩ := nameMod hm (v69 * v74)
  obtain ⟨v95, Hv95, mv95⟩ := nameMod hm (v82 * v79)
  obtain ⟨v96, Hv96, mv96⟩ := nameMod hm (v92 + v95)
  obtain ⟨v99, Hv99, mv99⟩ := nameMod hm (v52 * v69)
  obtain ⟨v102, Hv102, mv102⟩ := nameMod hm (v79 * v41)
  obtain ⟨v103, Hv103, mv103⟩ := nameMod hm (v99 + v102)
  have Ev20 := FPm_mul Hm.out Hv20.out
  have Ev25 := FPm_mul Hm.out Hv25.out
  have Ev30 := FPm_mul Hm.out Hv30.out
  have Ev35 := FPm_mul Hm.out Hv35.out
  have Ev40 := FPm_mul Hm.out Hv40.out
  have Ev41 := FPm_add Hm.out Hv41.out
  have Ev46 := FPm_mul Hm.out Hv46.out
  have Ev51 := FPm_mul Hm.out Hv51.out
  have Ev52 := FPm_add Hm.out Hv52.out
  have Ev57 := FPm_mul Hm.out Hv57.out
  have Ev62 := FPm_mul Hm.out Hv62.out
  have Ev63 := FPm_add Hm.out Hv63.out
  have Ev68 := FPm_mul Hm.out Hv68.out
  have Ev69 := FPm_add Hm.out Hv69.out
  have Ev73 := FPm_mul Hm.out Hv73.out
  have Ev77 := FPm_add Hm.out Hv77.out
  have Ev79 := FPm_add Hm.out Hv79.out
  have Ev82 := FPm_mul Hm.out Hv82.out
  have Ev85 := FPm_mul Hm.out Hv85.out
  have Ev88 := FPm_mul Hm.out Hv88.out
  have Ev92 := FPm_mul Hm.out Hv92.out
  have Ev95 := FPm_mul Hm.out Hv95.out
  have Ev96 := FPm_add Hm.out Hv96.out
  have Lv96 := FPm_lt Hm.out Hv96.out
  have Ev99 := FPm_mul Hm.out Hv99.out
  have Ev102 := FPm_mul Hm.out Hv102.out
  have Ev103 := FPm_add Hm.out Hv103.out
  have Lv103 := FPm_lt Hm.out Hv103.out
  have F21 : FP n21 = 21 := by rw [H21.out]; rfl
  have Ev74 := FPm_sub2 Hm.out (by rw [← Hv73.out]; exact Nat.mod_lt _ hm.pos) Hv74.out
  have Ev89 := FPm_sub2 Hm.out (by rw [← Hv88.out]; exact Nat.mod_lt _ hm.pos) Hv89.out
  have Lv89 := FPm_lt Hm.out Hv89.out
  have R0 := Lib.hid (val_of Lv89 (show FP v89 = (Spot.sum ⟨FP x1, FP y1, FP z1⟩ ⟨FP x2, FP y2, FP z2⟩ : Cv.Spot PP).X by simp only [Ev89, Ev85, Ev41, Ev35, Ev40, Ev74, Ev25, Ev73, F21, Ev30, Ev88, Ev52, Ev46, Ev51, Ev82, Ev63, Ev57, Ev62]; rfl))
  have R1 := Lib.hid (val_of Lv96 (show FP v96 = (Spot.sum ⟨FP x1, FP y1, FP z1⟩ ⟨FP x2, FP y2, FP z2⟩ : Cv.Spot PP).Y by simp only [Ev96, Ev92, Ev69, Ev25, Ev68, F21, Ev30, Ev74, Ev73, Ev95, Ev82, Ev63, Ev57, Ev62, Ev79, Ev77, Ev20]; rfl))
  have R2 := Lib.hid (val_of Lv103 (show FP v103 = (Spot.sum ⟨FP x1, FP y1, FP z1⟩ ⟨FP x2, FP y2, FP z2⟩ : Cv.Spot PP).Z by simp only [Ev103, Ev99, Ev52, Ev46, Ev51, Ev69, Ev25, Ev68, F21, Ev30, Ev102, Ev79, Ev77, Ev20, Ev41, Ev35, Ev40]; rfl))
  clear Ev20 Ev25 Ev30 Ev35 Ev40 Ev41 Ev46 Ev51 Ev52 Ev57 Ev62 Ev63 Ev68 Ev69 Ev73 Ev77 Ev79 Ev82 Ev85 Ev88 Ev92 Ev95 Ev96 Lv96 Ev99 Ev102 Ev103 Lv103 F21 Ev74 Ev89 Lv89
  have hM0 := mm_nil w
  (try unfold WV)
  go_enter Tryd.func48, Tryd.ntmps48
  go_wp2_with (first
    | ((with_reducible change wpList _ _ _ (Oper.mk (some 2) _ _ _ _ _ :: _) _ _); refine mmBox hM0 _ _ (#[a1, b1, c1]) rfl rfl rfl ?_; intro w1 hM1; clear hM0; go_frame)
    | ((with_reducible change wpList _ _ _ (Oper.mk (some 3) _ _ _ _ _ :: _) _ _); refine mmBox hM1 _ _ (#[a2, b2, c2]) rfl rfl rfl ?_; intro w2 hM2; clear hM1; go_frame)
    | ((with_reducible change wpList _ _ _ (Oper.mk (some 4) _ _ _ _ _ :: _) _ _); refine mmAlloc hM2 _ _ rfl rfl zero_Spot ?_; intro w3 hM3; clear hM2; go_frame))
  refine region_symT 18 _ [] [] [.val (.pointer (some ⟨w.heap.size, 0, none⟩)), .val (a1), .val (.pointer (some ⟨w1.heap.size, 0, none⟩)), .val (a2), .prop (fun w v => NumT w v (v20)) (fun _ _ _ hb h => h.below hb), .val (.pointer (some ⟨w.heap.size, 1, none⟩)), .val (b1), .val (.pointer (some ⟨w1.heap.size, 1, none⟩)), .val (b2), .prop (fun w v => NumT w v (v25)) (fun _ _ _ hb h => h.below hb), .val (.pointer (some ⟨w.heap.size, 2, none⟩)), .val (c1), .val (.pointer (some ⟨w1.heap.size, 2, none⟩)), .val (c2), .prop (fun w v => NumT w v (v30)) (fun _ _ _ hb h => h.below hb), .prop (fun w v => NumT w v (v20)) (fun _ _ _ hb h => h.below hb), .prop (fun w v => NumT w v (v25)) (fun _ _ _ hb h => h.below hb), .prop (fun w v => NumT w v (v30)) (fun _ _ _ hb h => h.below hb)] rfl (by kernel_rfl) (by kernel_rfl) (by kernel_rfl) (by kernel_rfl) rfl (by intro s hs; cases hs) (steps_all ⟨?_, ?_, ?_, ?_, ?_, ?_, ?_, ?_, ?_, ?_, ?_, ?_, ?_, ?_, ?_, ?_, ?_, ?_, trivial⟩) ?_
  · exact fun A W sz ot hbel ap dp => kFieldSpot0 _ _ rfl rfl (sO ot 2) (sE ap sz rfl)
  · exact fun A W sz ot hbel ap dp => kLoad1 _ _ _ _ _ _ _ _ rfl rfl (sD dp 0 .data) ((hM3.get 2 rfl).on hbel) Tryd.underlying27 rfl rfl (sE ap sz rfl)
  · exact fun A W sz ot hbel ap dp => kFieldSpot0 _ _ rfl rfl (sO ot 3) (sE ap sz rfl)
  · exact fun A W sz ot hbel ap dp => kLoad1 _ _ _ _ _ _ _ _ rfl rfl (sD dp 2 .data) ((hM3.get 1 rfl).on hbel) Tryd.underlying27 rfl rfl (sE ap sz rfl)
  · intro A W sz ot hbel ap dp
    refine kCall2 71 _ _ _ _ _ rfl rfl (by kernel_rfl) (sD dp 1 .data) (sD dp 3 .data) ?_
    refine (emul_as hm hP (((ha1.below hM3.below).below hbel).n16 mx1) (((ha2.below hM3.below).below hbel).n16 mx2) Hv20.out).mono ?_
    rintro e r ⟨xx, rfl, hNx, hBc⟩
    exact ⟨_, rfl, (sV ap sz hBc hNx)⟩
  · exact fun A W sz ot hbel ap dp => kFieldSpot1 _ _ rfl rfl (sO ot 2) (sE ap sz rfl)
  · exact fun A W sz ot hbel ap dp => kLoad1 _ _ _ _ _ _ _ _ rfl rfl (sD dp 5 .data) ((hM3.get 2 rfl).on hbel) Tryd.underlying27 rfl rfl (sE ap sz rfl)
  · exact fun A W sz ot hbel ap dp => kFieldSpot1 _ _ rfl rfl (sO ot 3) (sE ap sz rfl)
  · exact fun A W sz ot hbel ap dp => kLoad1 _ _ _ _ _ _ _ _ rfl rfl (sD dp 7 .data) ((hM3.get 1 rfl).on hbel) Tryd.underlying27 rfl rfl (sE ap sz rfl)
  · intro A W sz ot hbel ap dp
    refine kCall2 71 _ _ _ _ _ rfl rfl (by kernel_rfl) (sD dp 6 .data) (sD dp 8 .data) ?_
    refine (emul_as hm hP (((hb1.below hM3.below).below hbel).n16 my1) (((hb2.below hM3.below).below hbel).n16 my2) Hv25.out).mono ?_
    rintro e r ⟨xx, rfl, hNx, hBc⟩
    exact ⟨_, rfl, (sV ap sz hBc hNx)⟩
  · exact fun A W sz ot hbel ap dp => kFieldSpot2 _ _ rfl rfl (sO ot 2) (sE ap sz rfl)
  · exact fun A W sz ot hbel ap dp => kLoad1 _ _ _ _ _ _ _ _ rfl rfl (sD dp 10 .data) ((hM3.get 2 rfl).on hbel) Tryd.underlying27 rfl rfl (sE ap sz rfl)
  · exact fun A W sz ot hbel ap dp => kFieldSpot2 _ _ rfl rfl (sO ot 3) (sE ap sz rfl)
  · exact fun A W sz ot hbel ap dp => kLoad1 _ _ _ _ _ _ _ _ rfl rfl (sD dp 12 .data) ((hM3.get 1 rfl).on hbel) Tryd.underlying27 rfl rfl (sE ap sz rfl)
  · intro A W sz ot hbel ap dp
    refine kCall2 71 _ _ _ _ _ rfl rfl (by kernel_rfl) (sD dp 11 .data) (sD dp 13 .data) ?_
    refine (emul_as hm hP (((hc1.below hM3.below).below hbel).n16 mz1) (((hc2.below hM3.below).below hbel).n16 mz2) Hv30.out).mono ?_
    rintro e r ⟨xx, rfl, hNx, hBc⟩
    exact ⟨_, rfl, (sV ap sz hBc hNx)⟩
  · intro A W sz ot hbel ap dp
    have hN := (sD dp 4 .data)
    exact kAssignV _ (A.tmps.getD 20 undef) rfl rfl rfl (sE ap sz hN)
  · intro A W sz ot hbel ap dp
    have hN := (sD dp 9 .data)
    exact kAssignV _ (A.tmps.getD 25 undef) rfl rfl rfl (sE ap sz hN)
  · intro A W sz ot hbel ap dp
    have hN := (sD dp 14 .data)
    exact kAssignV _ (A.tmps.getD 30 undef) rfl rfl rfl (sE ap sz hN)
  intro w4 hB4
  dsimp only [AllV]
  intro x4_20 hN4_20
  intro x4_25 hN4_25
  intro x4_30 hN4_30
  intro x4_5 hN4_5
  intro x4_6 hN4_6
  intro x4_7 hN4_7
  intro hap
  dsimp only [putAll, List.take, List.drop]
  go_frame
  have hM4 := hM3.on hB4
  clear hB4 hM3 hap
  have hM5 := mm_nil w4
  go_wp2_with fail
  refine region_symT 12 _ [] [] [.val (.pointer (some ⟨w.heap.size, 0, none⟩)), .val (a1), .val (.pointer (some ⟨w1.heap.size, 1, none⟩)), .val (b2), .prop (fun w v => NumT w v (v35)) (fun _ _ _ hb h => h.below hb), .val (.pointer (some ⟨w1.heap.size, 0, none⟩)), .val (a2), .val (.pointer (some ⟨w.heap.size, 1, none⟩)), .val (b1), .prop (fun w v => NumT w v (v40)) (fun _ _ _ hb h => h.below hb), .prop (fun w v => NumT w v (v41)) (fun _ _ _ hb h => h.below hb), .prop (fun w v => NumT w v (v41)) (fun _ _ _ hb h => h.below hb)] rfl (by kernel_rfl) (by kernel_rfl) (by kernel_rfl) (by kernel_rfl) rfl (by intro s hs; cases hs) (steps_all ⟨?_, ?_, ?_, ?_, ?_, ?_, ?_, ?_, ?_, ?_, ?_, ?_, trivial⟩) ?_
  · exact fun A W sz ot hbel ap dp => kFieldSpot0 _ _ rfl rfl (sO ot 2) (sE ap sz rfl)
  · exact fun A W sz ot hbel ap dp => kLoad1 _ _ _ _ _ _ _ _ rfl rfl (sD dp 0 .data) (((hM4.get 2 rfl).on hM5.below).on hbel) Tryd.underlying27 rfl rfl (sE ap sz rfl)
  · exact fun A W sz ot hbel ap dp => kFieldSpot1 _ _ rfl rfl (sO ot 3) (sE ap sz rfl)
  · exact fun A W sz ot hbel ap dp => kLoad1 _ _ _ _ _ _ _ _ rfl rfl (sD dp 2 .data) (((hM4.get 1 rfl).on hM5.below).on hbel) Tryd.underlying27 rfl rfl (sE ap sz rfl)
  · intro A W sz ot hbel ap dp
    refine kCall2 71 _ _ _ _ _ rfl rfl (by kernel_rfl) (sD dp 1 .data) (sD dp 3 .data) ?_
    refine (emul_as hm hP ((((ha1.below hM4.below).below hM5.below).below hbel).n16 mx1) ((((hb2.below hM4.below).below hM5.below).below hbel).n16 my2) Hv35.out).mono ?_
    rintro e r ⟨xx, rfl, hNx, hBc⟩
    exact ⟨_, rfl, (sV ap sz hBc hNx)⟩
  · exact fun A W sz ot hbel ap dp => kFieldSpot0 _ _ rfl rfl (sO ot 3) (sE ap sz rfl)
  · exact fun A W sz ot hbel ap dp => kLoad1 _ _ _ _ _ _ _ _ rfl rfl (sD dp 5 .data) (((hM4.get 1 rfl).on hM5.below).on hbel) Tryd.underlying27 rfl rfl (sE ap sz rfl)
  · exact fun A W sz ot hbel ap dp => kFieldSpot1 _ _ rfl rfl (sO ot 2) (sE ap sz rfl)
  · exact fun A W sz ot hbel ap dp => kLoad1 _ _ _ _ _ _ _ _ rfl rfl (sD dp 7 .data) (((hM4.get 2 rfl).on hM5.below).on hbel) Tryd.underlying27 rfl rfl (sE ap sz rfl)
  · intro A W sz ot hbel ap dp
    refine kCall2 71 _ _ _ _ _ rfl rfl (by kernel_rfl) (sD dp 6 .data) (sD dp 8 .data) ?_
    refine (emul_as hm hP ((((ha2.below hM4.below).below hM5.below).below hbel).n16 mx2) ((((hb1.below hM4.below).below hM5.below).below hbel).n16 my1) Hv40.out).mono ?_
    rintro e r ⟨xx, rfl, hNx, hBc⟩
    exact ⟨_, rfl, (sV ap sz hBc hNx)⟩
  · intro A W sz ot hbel ap dp
    have hN35 := (show NumT W (A.tmps.getD 35 undef) (v35) from (sD dp 4 .data))
    have hN40 := (show NumT W (A.tmps.getD 40 undef) (v40) from (sD dp 9 .data))
    refine kCall2 72 _ _ _ _ _ rfl rfl (by kernel_rfl) (rfl : A.eval (Operand.tmp 35) = A.tmps.getD 35 undef) (rfl : A.eval (Operand.tmp 40) = A.tmps.getD 40 undef) ?_
    refine (eadd_as hm hP (hN35.n16 mv35) (hN40.n16 mv40) Hv41.out).mono ?_
    rintro e r ⟨xx, rfl, hNx, hBc⟩
    exact ⟨_, rfl, (sV ap sz hBc hNx)⟩
  · intro A W sz ot hbel ap dp
    have hN := (sD dp 10 .data)
    exact kAssignV _ (A.tmps.getD 41 undef) rfl rfl rfl (sE ap sz hN)
  intro w6 hB6
  dsimp only [AllV]
  intro x6_35 hN6_35
  intro x6_40 hN6_40
  intro x6_41 hN6_41
  intro x6_8 hN6_8
  intro hap
  dsimp only [putAll, List.take, List.drop]
  go_frame
  have hM6 := hM5.on hB6
  clear hB6 hM5 hap
  have hM7 := mm_nil w6
  go_wp2_with fail
  refine region_symT 12 _ [] [] [.val (.pointer (some ⟨w.heap.size, 1, none⟩)), .val (b1), .val (.pointer (some ⟨w1.heap.size, 2, none⟩)), .val (c2), .prop (fun w v => NumT w v (v46)) (fun _ _ _ hb h => h.below hb), .val (.pointer (some ⟨w1.heap.size, 1, none⟩)), .val (b2), .val (.pointer (some ⟨w.heap.size, 2, none⟩)), .val (c1), .prop (fun w v => NumT w v (v51)) (fun _ _ _ hb h => h.below hb), .prop (fun w v => NumT w v (v52)) (fun _ _ _ hb h => h.below hb), .prop (fun w v => NumT w v (v52)) (fun _ _ _ hb h => h.below hb)] rfl (by kernel_rfl) (by kernel_rfl) (by kernel_rfl) (by kernel_rfl) rfl (by intro s hs; cases hs) (steps_all ⟨?_, ?_, ?_, ?_, ?_, ?_, ?_, ?_, ?_, ?_, ?_, ?_, trivial⟩) ?_
  · exact fun A W sz ot hbel ap dp => kFieldSpot1 _ _ rfl rfl (sO ot 2) (sE ap sz rfl)
  · exact fun A W sz ot hbel ap dp => kLoad1 _ _ _ _ _ _ _ _ rfl rfl (sD dp 0 .data) ((((hM4.get 2 rfl).on hM6.below).on hM7.below).on hbel) Tryd.underlying27 rfl rfl (sE ap sz rfl)
  · exact fun A W sz ot hbel ap dp => kFieldSpot2 _ _ rfl rfl (sO ot 3) (sE ap sz rfl)
  · exact fun A W sz ot hbel ap dp => kLoad1 _ _ _ _ _ _ _ _ rfl rfl (sD dp 2 .data) ((((hM4.get 1 rfl).on hM6.below).on hM7.below).on hbel) Tryd.underlying27 rfl rfl (sE ap sz rfl)
  · intro A W sz ot hbel ap dp
    refine kCall2 71 _ _ _ _ _ rfl rfl (by kernel_rfl) (sD dp 1 .data) (sD dp 3 .data) ?_
    refine (emul_as hm hP (((((hb1.below hM4.below).below hM6.below).below hM7.below).below hbel).n16 my1) (((((hc2.below hM4.below).below hM6.below).below hM7.below).below hbel).n16 mz2) Hv46.out).mono ?_
    rintro e r ⟨xx, rfl, hNx, hBc⟩
    exact ⟨_, rfl, (sV ap sz hBc hNx)⟩
  · exact fun A W sz ot hbel ap dp => kFieldSpot1 _ _ rfl rfl (sO ot 3) (sE ap sz rfl)
  · exact fun A W sz ot hbel ap dp => kLoad1 _ _ _ _ _ _ _ _ rfl rfl (sD dp 5 .data) ((((hM4.get 1 rfl).on hM6.below).on hM7.below).on hbel) Tryd.underlying27 rfl rfl (sE ap sz rfl)
  · exact fun A W sz ot hbel ap dp => kFieldSpot2 _ _ rfl rfl (sO ot 2) (sE ap sz rfl)
  · exact fun A W sz ot hbel ap dp => kLoad1 _ _ _ _ _ _ _ _ rfl rfl (sD dp 7 .data) ((((hM4.get 2 rfl).on hM6.below).on hM7.below).on hbel) Tryd.underlying27 rfl rfl (sE ap sz rfl)
  · intro A W sz ot hbel ap dp
    refine kCall2 71 _ _ _ _ _ rfl rfl (by kernel_rfl) (sD dp 6 .data) (sD dp 8 .data) ?_
    refine (emul_as hm hP (((((hb2.below hM4.below).below hM6.below).below hM7.below).below hbel).n16 my2) (((((hc1.below hM4.below).below hM6.below).below hM7.below).below hbel).n16 mz1) Hv51.out).mono ?_
    rintro e r ⟨xx, rfl, hNx, hBc⟩
    exact ⟨_, rfl, (sV ap sz hBc hNx)⟩
  · intro A W sz ot hbel ap dp
    have hN46 := (show NumT W (A.tmps.getD 46 undef) (v46) from (sD dp 4 .data))
    have hN51 := (show NumT W (A.tmps.getD 51 undef) (v51) from (sD dp 9 .data))
    refine kCall2 72 _ _ _ _ _ rfl rfl (by kernel_rfl) (rfl : A.eval (Operand.tmp 46) = A.tmps.getD 46 undef) (rfl : A.eval (Operand.tmp 51) = A.tmps.getD 51 undef) ?_
    refine (eadd_as hm hP (hN46.n16 mv46) (hN51.n16 mv51) Hv52.out).mono ?_
    rintro e r ⟨xx, rfl, hNx, hBc⟩
    exact ⟨_, rfl, (sV ap sz hBc hNx)⟩
  · intro A W sz ot hbel ap dp
    have hN := (sD dp 10 .data)
    exact kAssignV _ (A.tmps.getD 52 undef) rfl rfl rfl (sE ap sz hN)
  intro w8 hB8
  dsimp only [AllV]
  intro x8_46 hN8_46
  intro x8_51 hN8_51
  intro x8_52 hN8_52
  intro x8_9 hN8_9
  intro hap
  dsimp only [putAll, List.take, List.drop]
  go_frame
  have hM8 := hM7.on hB8
  clear hB8 hM7 hap
  have hM9 := mm_nil w8
  go_wp2_with fail
  refine region_symT 12 _ [] [] [.val (.pointer (some ⟨w.heap.size, 0, none⟩)), .val (a1), .val (.pointer (some ⟨w1.heap.size, 2, none⟩)), .val (c2), .prop (fun w v => NumT w v (v57)) (fun _ _ _ hb h => h.below hb), .val (.pointer (some ⟨w1.heap.size, 0, none⟩)), .val (a2), .val (.pointer (some ⟨w.heap.size, 2, none⟩)), .val (c1), .prop (fun w v => NumT w v (v62)) (fun _ _ _ hb h => h.below hb), .prop (fun w v => NumT w v (v63)) (fun _ _ _ hb h => h.below hb), .prop (fun w v => NumT w v (v63)) (fun _ _ _ hb h => h.below hb)] rfl (by kernel_rfl) (by kernel_rfl) (by kernel_rfl) (by kernel_rfl) rfl (by intro s hs; cases hs) (steps_all ⟨?_, ?_, ?_, ?_, ?_, ?_, ?_, ?_, ?_, ?_, ?_, ?_, trivial⟩) ?_
  · exact fun A W sz ot hbel ap dp => kFieldSpot0 _ _ rfl rfl (sO ot 2) (sE ap sz rfl)
  · exact fun A W sz ot hbel ap dp => kLoad1 _ _ _ _ _ _ _ _ rfl rfl (sD dp 0 .data) (((((hM4.get 2 rfl).on hM6.below).on hM8.below).on hM9.below).on hbel) Tryd.underlying27 rfl rfl (sE ap sz rfl)
  · exact fun A W sz ot hbel ap dp => kFieldSpot2 _ _ rfl rfl (sO ot 3) (sE ap sz rfl)
  · exact fun A W sz ot hbel ap dp => kLoad1 _ _ _ _ _ _ _ _ rfl rfl (sD dp 2 .data) (((((hM4.get 1 rfl).on hM6.below).on hM8.below).on hM9.below).on hbel) Tryd.underlying27 rfl rfl (sE ap sz rfl)
  · intro A W sz ot hbel ap dp
    refine kCall2 71 _ _ _ _ _ rfl rfl (by kernel_rfl) (sD dp 1 .data) (sD dp 3 .data) ?_
    refine (emul_as hm hP ((((((ha1.below hM4.below).below hM6.below).below hM8.below).below hM9.below).below hbel).n16 mx1) ((((((hc2.below hM4.below).below hM6.below).below hM8.below).below hM9.below).below hbel).n16 mz2) Hv57.out).mono ?_
    rintro e r ⟨xx, rfl, hNx, hBc⟩
    exact ⟨_, rfl, (sV ap sz hBc hNx)⟩
  · exact fun A W sz ot hbel ap dp => kFieldSpot0 _ _ rfl rfl (sO ot 3) (sE ap sz rfl)
  · exact fun A W sz ot hbel ap dp => kLoad1 _ _ _ _ _ _ _ _ rfl rfl (sD dp 5 .data) (((((hM4.get 1 rfl).on hM6.below).on hM8.below).on hM9.below).on hbel) Tryd.underlying27 rfl rfl (sE ap sz rfl)
  · exact fun A W sz ot hbel ap dp => kFieldSpot2 _ _ rfl rfl (sO ot 2) (sE ap sz rfl)
  · exact fun A W sz ot hbel ap dp => kLoad1 _ _ _ _ _ _ _ _ rfl rfl (sD dp 7 .data) (((((hM4.get 2 rfl).on hM6.below).on hM8.below).on hM9.below).on hbel) Tryd.underlying27 rfl rfl (sE ap sz rfl)
  · intro A W sz ot hbel ap dp
    refine kCall2 71 _ _ _ _ _ rfl rfl (by kernel_rfl) (sD dp 6 .data) (sD dp 8 .data) ?_
    refine (emul_as hm hP ((((((ha2.below hM4.below).below hM6.below).below hM8.below).below hM9.below).below hbel).n16 mx2) ((((((hc1.below hM4.below).below hM6.below).below hM8.below).below hM9.below).below hbel).n16 mz1) Hv62.out).mono ?_
    rintro e r ⟨xx, rfl, hNx, hBc⟩
    exact ⟨_, rfl, (sV ap sz hBc hNx)⟩
  · intro A W sz ot hbel ap dp
    have hN57 := (show NumT W (A.tmps.getD 57 undef) (v57) from (sD dp 4 .data))
    have hN62 := (show NumT W (A.tmps.getD 62 undef) (v62) from (sD dp 9 .data))
    refine kCall2 72 _ _ _ _ _ rfl rfl (by kernel_rfl) (rfl : A.eval (Operand.tmp 57) = A.tmps.getD 57 undef) (rfl : A.eval (Operand.tmp 62) = A.tmps.getD 62 undef) ?_
    refine (eadd_as hm hP (hN57.n16 mv57) (hN62.n16 mv62) Hv63.out).mono ?_
    rintro e r ⟨xx, rfl, hNx, hBc⟩
    exact ⟨_, rfl, (sV ap sz hBc hNx)⟩
  · intro A W sz ot hbel ap dp
    have hN := (sD dp 10 .data)
    exact kAssignV _ (A.tmps.getD 63 undef) rfl rfl rfl (sE ap sz hN)
  intro w10 hB10
  dsimp only [AllV]
  intro x10_57 hN10_57
  intro x10_62 hN10_62
  intro x10_63 hN10_63
  intro x10_10 hN10_10
  intro hap
  dsimp only [putAll, List.take, List.drop]
  go_frame
  have hM10 := hM9.on hB10
  clear hB10 hM9 hap
  have hM11 := mm_nil w10
  go_wp2_with (first
    | ((with_reducible change wpList _ _ _ (Oper.mk (some 64) _ _ _ _ _ :: _) _ _); refine kDig1 n21 21 E21.out p21.out rfl rfl ?_; intro w12 x12 hN12 hB12; have hM12 := hM11.on hB12; clear hB12 hM11; have hM13 := mm_nil w12; go_frame)
    | (go_at_call 71; (with_reducible change Calls _ _ #[x12, x4_7] _ _); refine (emul_as hm hP ((hN12.below hM13.below).n16 mn21) ((((((hN4_7.below hM6.below).below hM8.below).below hM10.below).below hM12.below).below hM13.below).n16 mv30) Hv68.out).mono ?_; rintro e w14 ⟨x14, rfl, hN14, hB14⟩; have hM14 := hM13.on hB14; clear hB14 hM13; have hM15 := mm_nil w14; go_frame)
    | (go_at_call 72; (with_reducible change Calls _ _ #[x4_6, x14] _ _); refine (eadd_as hm hP (((((((hN4_6.below hM6.below).below hM8.below).below hM10.below).below hM12.below).below hM14.below).below hM15.below).n16 mv25) ((hN14.below hM15.below).n16 mv68) Hv69.out).mono ?_; rintro e w16 ⟨x16, rfl, hN16, hB16⟩; have hM16 := hM15.on hB16; clear hB16 hM15; have hM17 := mm_nil w16; go_frame)
    | (go_at_call 71; (with_reducible change Calls _ _ #[x12, x4_7] _ _); refine (emul_as hm hP ((((hN12.below hM14.below).below hM16.below).below hM17.below).n16 mn21) ((((((((hN4_7.below hM6.below).below hM8.below).below hM10.below).below hM12.below).below hM14.below).below hM16.below).below hM17.below).n16 mv30) Hv73.out).mono ?_; rintro e w18 ⟨x18, rfl, hN18, hB18⟩; have hM18 := hM17.on hB18; clear hB18 hM17; have hM19 := mm_nil w18; go_frame)
    | (go_at_call 73; (with_reducible change Calls _ _ #[x4_6, x18] _ _); refine (esub_as hm hP (((((((((hN4_6.below hM6.below).below hM8.below).below hM10.below).below hM12.below).below hM14.below).below hM16.below).below hM18.below).below hM19.below).n16 mv25) ((hN18.below hM19.below).n16 mv73) (by rw [← Hv73.out]; exact Nat.mod_lt _ hm.pos) Hv74.out).mono ?_; rintro e w20 ⟨x20, rfl, hN20, hB20⟩; have hM20 := hM19.on hB20; clear hB20 hM19; have hM21 := mm_nil w20; go_frame)
    | (go_at_call 72; (with_reducible change Calls _ _ #[x4_5, x4_5] _ _); refine (eadd_as hm hP ((((((((((hN4_5.below hM6.below).below hM8.below).below hM10.below).below hM12.below).below hM14.below).below hM16.below).below hM18.below).below hM20.below).below hM21.below).n16 mv20) ((((((((((hN4_5.below hM6.below).below hM8.below).below hM10.below).below hM12.below).below hM14.below).below hM16.below).below hM18.below).below hM20.below).below hM21.below).n16 mv20) Hv77.out).mono ?_; rintro e w22 ⟨x22, rfl, hN22, hB22⟩; have hM22 := hM21.on hB22; clear hB22 hM21; have hM23 := mm_nil w22; go_frame)
    | (go_at_call 72; (with_reducible change Calls _ _ #[x22, x4_5] _ _); refine (eadd_as hm hP ((hN22.below hM23.below).n16 mv77) (((((((((((hN4_5.below hM6.below).below hM8.below).below hM10.below).below hM12.below).below hM14.below).below hM16.below).below hM18.below).below hM20.below).below hM22.below).below hM23.below).n16 mv20) Hv79.out).mono ?_; rintro e w24 ⟨x24, rfl, hN24, hB24⟩; have hM24 := hM23.on hB24; clear hB24 hM23; have hM25 := mm_nil w24; go_frame)
    | (go_at_call 71; (with_reducible change Calls _ _ #[x12, x10_10] _ _); refine (emul_as hm hP ((((((((hN12.below hM14.below).below hM16.below).below hM18.below).below hM20.below).below hM22.below).below hM24.below).below hM25.below).n16 mn21) (((((((((hN10_10.below hM12.below).below hM14.below).below hM16.below).below hM18.below).below hM20.below).below hM22.below).below hM24.below).below hM25.below).n16 mv63) Hv82.out).mono ?_; rintro e w26 ⟨x26, rfl, hN26, hB26⟩; have hM26 := hM25.on hB26; clear hB26 hM25; have hM27 := mm_nil w26; go_frame)
    | (go_at_call 71; (with_reducible change Calls _ _ #[x6_8, x20] _ _); refine (emul_as hm hP ((((((((((((hN6_8.below hM8.below).below hM10.below).below hM12.below).below hM14.below).below hM16.below).below hM18.below).below hM20.below).below hM22.below).below hM24.below).below hM26.below).below hM27.below).n16 mv41) (((((hN20.below hM22.below).below hM24.below).below hM26.below).below hM27.below).n16 mv74) Hv85.out).mono ?_; rintro e w28 ⟨x28, rfl, hN28, hB28⟩; have hM28 := hM27.on hB28; clear hB28 hM27; have hM29 := mm_nil w28; go_frame)
    | (go_at_call 71; (with_reducible change Calls _ _ #[x8_9, x26] _ _); refine (emul_as hm hP ((((((((((((hN8_9.below hM10.below).below hM12.below).below hM14.below).below hM16.below).below hM18.below).below hM20.below).below hM22.below).below hM24.below).below hM26.below).below hM28.below).below hM29.below).n16 mv52) (((hN26.below hM28.below).below hM29.below).n16 mv82) Hv88.out).mono ?_; rintro e w30 ⟨x30, rfl, hN30, hB30⟩; have hM30 := hM29.on hB30; clear hB30 hM29; have hM31 := mm_nil w30; go_frame)
    | (go_at_call 73; (with_reducible change Calls _ _ #[x28, x30] _ _); refine (esub_as hm hP (((hN28.below hM30.below).below hM31.below).n16 mv85) ((hN30.below hM31.below).n16 mv88) (by rw [← Hv88.out]; exact Nat.mod_lt _ hm.pos) Hv89.out).mono ?_; rintro e w32 ⟨x32, rfl, hN32, hB32⟩; have hM32 := hM31.on hB32; clear hB32 hM31; have hM33 := mm_nil w32; go_frame)
    | (go_at_call 71; (with_reducible change Calls _ _ #[x16, x20] _ _); refine (emul_as hm hP ((((((((((hN16.below hM18.below).below hM20.below).below hM22.below).below hM24.below).below hM26.below).below hM28.below).below hM30.below).below hM32.below).below hM33.below).n16 mv69) ((((((((hN20.below hM22.below).below hM24.below).below hM26.below).below hM28.below).below hM30.below).below hM32.below).below hM33.below).n16 mv74) Hv92.out).mono ?_; rintro e w34 ⟨x34, rfl, hN34, hB34⟩; have hM34 := hM33.on hB34; clear hB34 hM33; have hM35 := mm_nil w34; go_frame)
    | (go_at_call 71; (with_reducible change Calls _ _ #[x26, x24] _ _); refine (emul_as hm hP ((((((hN26.below hM28.below).below hM30.below).below hM32.below).below hM34.below).below hM35.below).n16 mv82) (((((((hN24.below hM26.below).below hM28.below).below hM30.below).below hM32.below).below hM34.below).below hM35.below).n16 mv79) Hv95.out).mono ?_; rintro e w36 ⟨x36, rfl, hN36, hB36⟩; have hM36 := hM35.on hB36; clear hB36 hM35; have hM37 := mm_nil w36; go_frame)
    | (go_at_call 72; (with_reducible change Calls _ _ #[x34, x36] _ _); refine (eadd_as hm hP (((hN34.below hM36.below).below hM37.below).n16 mv92) ((hN36.below hM37.below).n16 mv95) Hv96.out).mono ?_; rintro e w38 ⟨x38, rfl, hN38, hB38⟩; have hM38 := hM37.on hB38; clear hB38 hM37; have hM39 := mm_nil w38; go_frame)
    | (go_at_call 71; (with_reducible change Calls _ _ #[x8_9, x16] _ _); refine (emul_as hm hP (((((((((((((((((hN8_9.below hM10.below).below hM12.below).below hM14.below).below hM16.below).below hM18.below).below hM20.below).below hM22.below).below hM24.below).below hM26.below).below hM28.below).below hM30.below).below hM32.below).below hM34.below).below hM36.below).below hM38.below).below hM39.below).n16 mv52) (((((((((((((hN16.below hM18.below).below hM20.below).below hM22.below).below hM24.below).below hM26.below).below hM28.below).below hM30.below).below hM32.below).below hM34.below).below hM36.below).below hM38.below).below hM39.below).n16 mv69) Hv99.out).mono ?_; rintro e w40 ⟨x40, rfl, hN40, hB40⟩; have hM40 := hM39.on hB40; clear hB40 hM39; have hM41 := mm_nil w40; go_frame)
    | (go_at_call 71; (with_reducible change Calls _ _ #[x24, x6_8] _ _); refine (emul_as hm hP ((((((((((hN24.below hM26.below).below hM28.below).below hM30.below).below hM32.below).below hM34.below).below hM36.below).below hM38.below).below hM40.below).below hM41.below).n16 mv79) (((((((((((((((((((hN6_8.below hM8.below).below hM10.below).below hM12.below).below hM14.below).below hM16.below).below hM18.below).below hM20.below).below hM22.below).below hM24.below).below hM26.below).below hM28.below).below hM30.below).below hM32.below).below hM34.below).below hM36.below).below hM38.below).below hM40.below).below hM41.below).n16 mv41) Hv102.out).mono ?_; rintro e w42 ⟨x42, rfl, hN42, hB42⟩; have hM42 := hM41.on hB42; clear hB42 hM41; have hM43 := mm_nil w42; go_frame)
    | (go_at_call 72; (with_reducible change Calls _ _ #[x40, x42] _ _); refine (eadd_as hm hP (((hN40.below hM42.below).below hM43.below).n16 mv99) ((hN42.below hM43.below).n16 mv102) Hv103.out).mono ?_; rintro e w44 ⟨x44, rfl, hN44, hB44⟩; have hM44 := hM43.on hB44; clear hB44 hM43; have hM45 := mm_nil w44; go_frame)
    | ((with_reducible change wpList _ _ _ (Oper.mk (some 104) _ _ _ _ _ :: _) _ _); refine kBuildSpot3 _ _ _ (x32) (x38) (x44) rfl rfl rfl rfl rfl (NumT.sl (((((((hN32.below hM34.below).below hM36.below).below hM38.below).below hM40.below).below hM42.below).below hM44.below).below hM45.below)) (NumT.sl ((((hN38.below hM40.below).below hM42.below).below hM44.below).below hM45.below)) (NumT.sl (hN44.below hM45.below)) ?_; go_frame)
    | ((with_reducible change wpList _ _ _ (Oper.mk none (Op.store _ (Operand.tmp 4) (Operand.tmp 104)) _ _ _ _ :: _) _ _); have hJ := (Mm.join (Mm.join (Mm.join (Mm.join (Mm.join (Mm.join (Mm.join (Mm.join (Mm.join (Mm.join (Mm.join (Mm.join (Mm.join (Mm.join (Mm.join (Mm.join (Mm.join (Mm.join (Mm.join (Mm.join (Mm.join hM4 hM6) hM8) hM10) hM12) hM14) hM16) hM18) hM20) hM22) hM24) hM26) hM28) hM30) hM32) hM34) hM36) hM38) hM40) hM42) hM44) hM45); dsimp only [List.append, List.cons_append, List.nil_append] at hJ; refine mmStoreSp hJ 0 _ _ _ _ _ _ (#[x32, x38, x44]) rfl rfl rfl rfl rfl (info_SpotC _ _ _) rfl (spot_one (NumT.one (((((((hN32.below hM34.below).below hM36.below).below hM38.below).below hM40.below).below hM42.below).below hM44.below).below hM45.below)) (NumT.one ((((hN38.below hM40.below).below hM42.below).below hM44.below).below hM45.below)) (NumT.one (hN44.below hM45.below))) ?_; intro w46 hM46 hW; have hT46_0_0 := NumT.wrote (((((((hN32.below hM34.below).below hM36.below).below hM38.below).below hM40.below).below hM42.below).below hM44.below).below hM45.below) (hJ.get 0 rfl) (spot_sl rfl rfl rfl) hW; have hT46_0_1 := NumT.wrote ((((hN38.below hM40.below).below hM42.below).below hM44.below).below hM45.below) (hJ.get 0 rfl) (spot_sl rfl rfl rfl) hW; have hT46_0_2 := NumT.wrote (hN44.below hM45.below) (hJ.get 0 rfl) (spot_sl rfl rfl rfl) hW; have hT46_1_0 := NumT.wrote ((((((((((((((((((((((ha2.below hM4.below).below hM6.below).below hM8.below).below hM10.below).below hM12.below).below hM14.below).below hM16.below).below hM18.below).below hM20.below).below hM22.below).below hM24.below).below hM26.below).below hM28.below).below hM30.below).below hM32.below).below hM34.below).below hM36.below).below hM38.below).below hM40.below).below hM42.below).below hM44.below).below hM45.below) (hJ.get 0 rfl) (spot_sl rfl rfl rfl) hW; have hT46_1_1 := NumT.wrote ((((((((((((((((((((((hb2.below hM4.below).below hM6.below).below hM8.below).below hM10.below).below hM12.below).below hM14.below).below hM16.below).below hM18.below).below hM20.below).below hM22.below).below hM24.below).below hM26.below).below hM28.below).below hM30.below).below hM32.below).below hM34.below).below hM36.below).below hM38.below).below hM40.below).below hM42.below).below hM44.below).below hM45.below) (hJ.get 0 rfl) (spot_sl rfl rfl rfl) hW; have hT46_1_2 := NumT.wrote ((((((((((((((((((((((hc2.below hM4.below).below hM6.below).below hM8.below).below hM10.below).below hM12.below).below hM14.below).below hM16.below).below hM18.below).below hM20.below).below hM22.below).below hM24.below).below hM26.below).below hM28.below).below hM30.below).below hM32.below).below hM34.below).below hM36.below).below hM38.below).below hM40.below).below hM42.below).below hM44.below).below hM45.below) (hJ.get 0 rfl) (spot_sl rfl rfl rfl) hW; have hT46_2_0 := NumT.wrote ((((((((((((((((((((((ha1.below hM4.below).below hM6.below).below hM8.below).below hM10.below).below hM12.below).below hM14.below).below hM16.below).below hM18.below).below hM20.below).below hM22.below).below hM24.below).below hM26.below).below hM28.below).below hM30.below).below hM32.below).below hM34.below).below hM36.below).below hM38.below).below hM40.below).below hM42.below).below hM44.below).below hM45.below) (hJ.get 0 rfl) (spot_sl rfl rfl rfl) hW; have hT46_2_1 := NumT.wrote ((((((((((((((((((((((hb1.below hM4.below).below hM6.below).below hM8.below).below hM10.below).below hM12.below).below hM14.below).below hM16.below).below hM18.below).below hM20.below).below hM22.below).below hM24.below).below hM26.below).below hM28.below).below hM30.below).below hM32.below).below hM34.below).below hM36.below).below hM38.below).below hM40.below).below hM42.below).below hM44.below).below hM45.below) (hJ.get 0 rfl) (spot_sl rfl rfl rfl) hW; have hT46_2_2 := NumT.wrote ((((((((((((((((((((((hc1.below hM4.below).below hM6.below).below hM8.below).below hM10.below).below hM12.below).below hM14.below).below hM16.below).below hM18.below).below hM20.below).below hM22.below).below hM24.below).below hM26.below).below hM28.below).below hM30.below).below hM32.below).below hM34.below).below hM36.below).below hM38.below).below hM40.below).below hM42.below).below hM44.below).below hM45.below) (hJ.get 0 rfl) (spot_sl rfl rfl rfl) hW; dsimp only [List.set] at hM46; clear hJ hW; have hM47 := mm_nil w46; go_frame))
  exact result_row Tryd.results48 rfl ((hM46.get 0 rfl).on hM47.below) Tryd.underlying78 rfl (info_SpotC _ _ _) rfl ⟨_, _, _, rfl, R0.out ▸ (hT46_0_0.below hM47.below), R1.out ▸ (hT46_0_1.below hM47.below), R2.out ▸ (hT46_0_2.below hM47.below), ((hM46.below).trans (hM47.below.mono (hM46.below).size))⟩
def spotPt (s : Cv.Spot PP) : Pt PP := if s.Z = 0 then .o else .mk (s.X * ivP s.Z) (s.Y * ivP s.Z)
theorem spotPt_rep {s : Cv.Spot PP} {p : Pt PP} (h : Rep s p) : spotPt s = p := by
  unfold spotPt
  cases p with
  | o => rw [if_pos h.2.1]
  | mk x y =>
    rw [if_neg h.1]
    obtain ⟨h1, h2⟩ := goodP.rep_point h
    rw [← h1, ← h2]
set_option maxRecDepth 100000 in
set_option maxHeartbeats 8000000 in
theorem ePoint_nat {x y z : Nat} (lx : x < PP) (ly : y < PP) (lz : z < PP) {a b c : Value} (w : World) (ha : NumT w a x) (hb : NumT w b y) (hc : NumT w c z) :
    Calls Tryd.prog 49 #[.agg #[a, b, c]] w fun e w' => e = .returned (.agg (ptc (spotPt ⟨FP x, FP y, FP z⟩))) ∧ Below w.heap.size w w' := by
  obtain ⟨m, Hm⟩ : ∃ m, Hid (m = PP) := ⟨_, Lib.hid rfl⟩
  have hm : Modu m := by rw [Hm.out]; exact modu_P
  have hP : PrimeIs true m := by rw [Hm.out]; exact rPrime_true
  have mx := lt_M lx
  have my := lt_M ly
  have mz := lt_M lz
  have hc0 := hc
  obtain ⟨ll, hd, hD, hv, hT⟩ := hc0
  obtain ⟨zl, Hzl⟩ : ∃ n, Hid ((ll.map VU).length = n) := ⟨_, Lib.hid rfl⟩
  have hzl : zl = 0 ↔ z = 0 := by
    rw [← Hzl.out, List.length_map]
    constructor
    · intro h; rw [← hv, List.length_eq_zero_iff.1 h]; rfl
    · intro h; rw [tr_zero hT (hv.trans h)]; rfl
  clear hd hv hT
  by_cases hz : z = 0
  · have R := Lib.hid (show Value.agg (pcells 0 0 true) = .agg (ptc (spotPt ⟨FP x, FP y, FP z⟩)) by unfold spotPt; rw [if_pos (show FP z = 0 by rw [hz]; rfl)]; rfl)
    have F7 := Lib.hid (show decide ((zl : Int) = 0) = true by rw [hzl.2 hz]; rfl)
    clear hzl hz
    have hM0 := mm_nil w
    (try unfold WV)
    go_enter Tryd.func49, Tryd.ntmps49
    go_wp2_with (first
      | ((with_reducible change wpList _ _ _ (Oper.mk (some 1) _ _ _ _ _ :: _) _ _); refine mmBox hM0 _ _ (#[a, b, c]) rfl rfl rfl ?_; intro w1 hM1; clear hM0; go_frame)
      | ((with_reducible change wpList _ _ _ (Oper.mk (some 2) _ _ _ _ _ :: _) _ _); refine mmAlloc hM1 _ _ rfl rfl zero_Point ?_; intro w2 hM2; clear hM1; go_frame)
      | ((with_reducible change wpList _ _ _ (Oper.mk (some 4) _ _ _ _ _ :: _) _ _); refine kFieldSpot2 _ _ rfl rfl rfl ?_; go_frame)
      | ((with_reducible change wpList _ _ _ (Oper.mk (some 5) _ _ _ _ _ :: _) _ _); refine kLoad1 _ _ _ _ _ _ _ _ rfl rfl rfl (hM2.get 1 rfl) Tryd.underlying27 rfl rfl ?_; go_frame)
      | ((with_reducible change wpList _ _ _ (Oper.mk (some 6) _ _ _ _ _ :: _) _ _); refine kLenN _ _ _ _ _ zl rfl rfl rfl ((hD.below hM2.below)) Hzl.out Tryd.underlying27 ?_; go_frame)
      | ((with_reducible change wpList _ _ _ (Oper.mk (some 7) _ _ _ _ _ :: _) _ _); refine kEqlI _ _ _ _ .i64 ((zl : Int)) (0) true rfl rfl rfl rfl (F7.out) ?_; go_frame)
      | ((with_reducible change wpList _ _ _ (Oper.mk (some 8) _ _ _ _ _ :: _) _ _); refine kBuildPointN rfl rfl ?_; go_frame)
      | ((with_reducible change wpList _ _ _ (Oper.mk none (Op.store _ (Operand.tmp 2) (Operand.tmp 8)) _ _ _ _ :: _) _ _); refine mmStoreAt hM2 0 _ _ _ _ _ _ (pcells 0 0 true) rfl rfl rfl rfl rfl (info_PointC _ _ _) (by simp only [pcells_size]) (pcells_one _ _ _) ?_; intro w3 hM3; dsimp only [List.set] at hM3; clear hM2; go_frame))
    exact result_row Tryd.results49 rfl (hM3.get 0 rfl) Tryd.underlying30 rfl (info_PointC _ _ _) rfl ⟨by rw [R.out], hM3.below⟩
  · have hzf : FP z ≠ 0 := fun e => hz (val_of lz e)
    have F7 := Lib.hid (show decide ((zl : Int) = 0) = false from decide_eq_false fun e => hz (hzl.1 (by omega)))
    clear hzl hz
    obtain ⟨v11, Hv11, mv11⟩ := nameMod hm (z ^ (m - 2))
    obtain ⟨v15, Hv15, mv15⟩ := nameMod hm (x * v11)
    obtain ⟨v20, Hv20, mv20⟩ := nameMod hm (y * v11)
    have Ev11 := FPm_inv Hm.out Hv11.out
    have Ev15 := FPm_mul Hm.out Hv15.out
    have Lv15 := FPm_lt Hm.out Hv15.out
    have Ev20 := FPm_mul Hm.out Hv20.out
    have Lv20 := FPm_lt Hm.out Hv20.out
    have R := Lib.hid (show Value.agg (pcells v15 v20 false) = .agg (ptc (spotPt ⟨FP x, FP y, FP z⟩)) by
      unfold spotPt; rw [if_neg hzf]
      have R1 := val_of Lv15 (show FP v15 = FP x * ivP (FP z) by simp only [Ev15, Ev11])
      have R2 := val_of Lv20 (show FP v20 = FP y * ivP (FP z) by simp only [Ev20, Ev11])
      rw [R1, R2]; rfl)
    clear hzf Ev11 Ev15 Lv15 Ev20 Lv20
    have hM0 := mm_nil w
    (try unfold WV)
    go_enter Tryd.func49, Tryd.ntmps49
    go_wp2_with (first
      | ((with_reducible change wpList _ _ _ (Oper.mk (some 1) _ _ _ _ _ :: _) _ _); refine mmBox hM0 _ _ (#[a, b, c]) rfl rfl rfl ?_; intro w1 hM1; clear hM0; go_frame)
      | ((with_reducible change wpList _ _ _ (Oper.mk (some 2) _ _ _ _ _ :: _) _ _); refine mmAlloc hM1 _ _ rfl rfl zero_Point ?_; intro w2 hM2; clear hM1; go_frame)
      | ((with_reducible change wpList _ _ _ (Oper.mk (some 4) _ _ _ _ _ :: _) _ _); refine kFieldSpot2 _ _ rfl rfl rfl ?_; go_frame)
      | ((with_reducible change wpList _ _ _ (Oper.mk (some 5) _ _ _ _ _ :: _) _ _); refine kLoad1 _ _ _ _ _ _ _ _ rfl rfl rfl (hM2.get 1 rfl) Tryd.underlying27 rfl rfl ?_; go_frame)
      | ((with_reducible change wpList _ _ _ (Oper.mk (some 6) _ _ _ _ _ :: _) _ _); refine kLenN _ _ _ _ _ zl rfl rfl rfl ((hD.below hM2.below)) Hzl.out Tryd.underlying27 ?_; go_frame)
      | ((with_reducible change wpList _ _ _ (Oper.mk (some 7) _ _ _ _ _ :: _) _ _); refine kEqlI _ _ _ _ .i64 ((zl : Int)) (0) false rfl rfl rfl rfl (F7.out) ?_; go_frame)
      | ((with_reducible change wpList _ _ _ (Oper.mk (some 9) _ _ _ _ _ :: _) _ _); refine kFieldSpot2 _ _ rfl rfl rfl ?_; go_frame)
      | ((with_reducible change wpList _ _ _ (Oper.mk (some 10) _ _ _ _ _ :: _) _ _); refine kLoad1 _ _ _ _ _ _ _ _ rfl rfl rfl (hM2.get 1 rfl) Tryd.underlying27 rfl rfl ?_; go_frame)
      | (go_at_call 42; (with_reducible change Calls _ _ #[c, Value.bool true] _ _); refine (rInv_as hm hP ((hc.below hM2.below).n16 mz) Hv11.out).mono ?_; rintro e w3 ⟨x3, rfl, hN3, hB3⟩; have hM3 := hM2.on hB3; clear hB3 hM2; have hM4 := mm_nil w3; go_frame))
    refine region_symT 11 _ [] [] [.val (.pointer (some ⟨w.heap.size, 0, none⟩)), .val (a), .val (x3), .prop (fun w v => NumT w v (v15)) (fun _ _ _ hb h => h.below hb), .val (.agg (wcells v15)), .val (.pointer (some ⟨w.heap.size, 1, none⟩)), .val (b), .val (x3), .prop (fun w v => NumT w v (v20)) (fun _ _ _ hb h => h.below hb), .val (.agg (wcells v20)), .val (.agg (pcells v15 v20 false))] rfl (by kernel_rfl) (by kernel_rfl) (by kernel_rfl) (by kernel_rfl) rfl (by intro s hs; cases hs) (steps_all ⟨?_, ?_, ?_, ?_, ?_, ?_, ?_, ?_, ?_, ?_, ?_, trivial⟩) ?_
    · exact fun A W sz ot hbel ap dp => kFieldSpot0 _ _ rfl rfl (sO ot 1) (sE ap sz rfl)
    · exact fun A W sz ot hbel ap dp => kLoad1 _ _ _ _ _ _ _ _ rfl rfl (sD dp 0 .data) (((hM3.get 1 rfl).on hM4.below).on hbel) Tryd.underlying27 rfl rfl (sE ap sz rfl)
    · exact fun A W sz ot hbel ap dp => kMoveV _ _ rfl rfl (sO ot 3) (sE ap sz rfl)
    · intro A W sz ot hbel ap dp
      refine kCall2 71 _ _ _ _ _ rfl rfl (by kernel_rfl) (sD dp 1 .data) (sD dp 2 .data) ?_
      refine (emul_as hm hP ((((ha.below hM3.below).below hM4.below).below hbel).n16 mx) (((hN3.below hM4.below).below hbel).n16 mv11) Hv15.out).mono ?_
      rintro e r ⟨xx, rfl, hNx, hBc⟩
      exact ⟨_, rfl, (sV ap sz hBc hNx)⟩
    · intro A W sz ot hbel ap dp
      have hN15 := (show NumT W (A.tmps.getD 15 undef) (v15) from (sD dp 3 .data))
      exact sCall1 9 rfl (rfl : A.eval (Operand.tmp 15) = A.tmps.getD 15 undef) (sC (dWide_numT hN15) ap sz (fun _ => rfl))
    · exact fun A W sz ot hbel ap dp => kFieldSpot1 _ _ rfl rfl (sO ot 1) (sE ap sz rfl)
    · exact fun A W sz ot hbel ap dp => kLoad1 _ _ _ _ _ _ _ _ rfl rfl (sD dp 5 .data) (((hM3.get 1 rfl).on hM4.below).on hbel) Tryd.underlying27 rfl rfl (sE ap sz rfl)
    · exact fun A W sz ot hbel ap dp => kMoveV _ _ rfl rfl (sO ot 3) (sE ap sz rfl)
    · intro A W sz ot hbel ap dp
      refine kCall2 71 _ _ _ _ _ rfl rfl (by kernel_rfl) (sD dp 6 .data) (sD dp 7 .data) ?_
      refine (emul_as hm hP ((((hb.below hM3.below).below hM4.below).below hbel).n16 my) (((hN3.below hM4.below).below hbel).n16 mv11) Hv20.out).mono ?_
      rintro e r ⟨xx, rfl, hNx, hBc⟩
      exact ⟨_, rfl, (sV ap sz hBc hNx)⟩
    · intro A W sz ot hbel ap dp
      have hN20 := (show NumT W (A.tmps.getD 20 undef) (v20) from (sD dp 8 .data))
      exact sCall1 9 rfl (rfl : A.eval (Operand.tmp 20) = A.tmps.getD 20 undef) (sC (dWide_numT hN20) ap sz (fun _ => rfl))
    · exact fun A W sz ot hbel ap dp => kBuildPoint2 _ _ v15 v20 rfl rfl (sD dp 4 .data) (sD dp 9 .data) (sE ap sz rfl)
    intro w5 hB5
    dsimp only [AllV]
    intro x5_15 hN5_15
    intro x5_20 hN5_20
    intro hap
    dsimp only [putAll, List.take, List.drop]
    go_frame
    have hM5 := hM4.on hB5
    clear hB5 hM4 hap
    have hM6 := mm_nil w5
    go_wp2_with (first
      | ((with_reducible change wpList _ _ _ (Oper.mk none (Op.store _ (Operand.tmp 2) (Operand.tmp 22)) _ _ _ _ :: _) _ _); have hJ := (Mm.join (Mm.join hM3 hM5) hM6); dsimp only [List.append, List.cons_append, List.nil_append] at hJ; refine mmStoreAt hJ 0 _ _ _ _ _ _ (pcells v15 v20 false) rfl rfl rfl rfl rfl (info_PointC _ _ _) (by simp only [pcells_size]) (pcells_one _ _ _) ?_; intro w7 hM7; dsimp only [List.set] at hM7; clear hJ; go_frame))
    exact result_row Tryd.results49 rfl (hM7.get 0 rfl) Tryd.underlying30 rfl (info_PointC _ _ _) rfl ⟨by rw [R.out], hM7.below⟩
end Go.Proofs.YtfgffjmpjoipeaaDoor
