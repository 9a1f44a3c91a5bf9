/-
  Contracts of package curve, by numbers.
-/
import Derived.Test.YtfgffjmpjoipeaaDoorCvCells
import Derived.Test.YtfgffjmpjoipeaaDoorCvJac
namespace Go.Proofs.YtfgffjmpjoipeaaDoor
open Go Go.RowKit

open Cv
set_option maxRecDepth 100000 in
set_option maxHeartbeats 8000000 in
theorem squareAt_as {m x v : Nat} (hm : Modu m) (mx : x < M256) (hv : (x * x % m * x % m + 7) % m = v) (w : World) (hG : Glob 3 m w) :
    Calls Tryd.prog 75 #[WV x] w fun e w' => e = .returned (WV v) ∧ Below w.heap.size w w' := by
  obtain ⟨n7, H7⟩ : ∃ n, Hid (n = 7) := ⟨7, Lib.hid rfl⟩
  have h7 : n7 < 18446744073709551616 := by rw [H7.out]; decide
  have mn7 : n7 < M256 := by rw [H7.out]; decide
  have E7 : (7 : Int) = (n7 : Int) := by rw [H7.out]; rfl
  replace E7 := Lib.hid E7
  obtain ⟨v10, Hv10, mv10⟩ := nameMod hm (x * x)
  obtain ⟨v12, Hv12, mv12⟩ := nameMod hm (v10 * x)
  obtain ⟨v14, Hv14, mv14⟩ := nameMod hm (v12 + n7)
  have hM0 := mm_nil w
  (try unfold WV)
  go_enter Tryd.func75, Tryd.ntmps75
  go_wp2_with (first
    | ((with_reducible change wpList _ _ _ (Oper.mk (some 1) _ _ _ _ _ :: _) _ _); refine mmBox hM0 _ _ (wcells x) rfl rfl rfl ?_; intro w1 hM1; clear hM0; go_frame)
    | ((with_reducible change wpList _ _ _ (Oper.mk (some 2) _ _ _ _ _ :: _) _ _); refine mmAlloc hM1 _ _ rfl rfl zero_Wide ?_; intro w2 hM2; clear hM1; go_frame)
    | (go_at_call 74; refine (fP_any m _ (hG.below hM2.below)).mono ?_; rintro e w3 ⟨rfl, hR3, hB3⟩; have hM3 := hM2.new hR3 hB3; clear hB3 hR3 hM2; go_frame))
  refine region_symT 10 _ [] [] [.val (.pointer (some ⟨w2.heap.size, 0, none⟩)), .val (.pointer (some ⟨w2.heap.size, 0, none⟩)), .val (.pointer (some ⟨w2.heap.size, 0, none⟩)), .val (.agg (wcells x)), .val (.agg (wcells x)), .val (.agg (wcells v10)), .val (.agg (wcells x)), .val (.agg (wcells v12)), .val (.agg (wcells n7)), .val (.agg (wcells v14))] rfl (by kernel_rfl) (by kernel_rfl) (by kernel_rfl) (by kernel_rfl) rfl (by intro s hs; cases hs) (steps_all ⟨?_, ?_, ?_, ?_, ?_, ?_, ?_, ?_, ?_, ?_, trivial⟩) ?_
  · exact fun A W sz ot hbel ap dp => kMoveV _ _ rfl rfl (sO ot 3) (sE ap sz rfl)
  · exact fun A W sz ot hbel ap dp => kMoveV _ _ rfl rfl (sO ot 3) (sE ap sz rfl)
  · exact fun A W sz ot hbel ap dp => kMoveV _ _ rfl rfl (sO ot 3) (sE ap sz rfl)
  · exact fun A W sz ot hbel ap dp => kLoadRow _ _ _ _ _ _ rfl rfl (sO ot 1) ((hM3.get 2 rfl).on hbel) Tryd.underlying24 rfl (info_WideC _) (sE ap sz rfl)
  · exact fun A W sz ot hbel ap dp => kLoadRow _ _ _ _ _ _ rfl rfl (sO ot 1) ((hM3.get 2 rfl).on hbel) Tryd.underlying24 rfl (info_WideC _) (sE ap sz rfl)
  · exact fun A W sz ot hbel ap dp => sCall3 34 rfl (sD dp 2 .data) (sD dp 3 .data) (sD dp 4 .data) (sC (fMul_as hm (w2.heap.size) mx mx Hv10.out W ((hM3.get 0 rfl).on hbel)) ap sz (fun _ => rfl))
  · exact fun A W sz ot hbel ap dp => kLoadRow _ _ _ _ _ _ rfl rfl (sO ot 1) ((hM3.get 2 rfl).on hbel) Tryd.underlying24 rfl (info_WideC _) (sE ap sz rfl)
  · exact fun A W sz ot hbel ap dp => sCall3 34 rfl (sD dp 1 .data) (sD dp 5 .data) (sD dp 6 .data) (sC (fMul_as hm (w2.heap.size) mv10 mx Hv12.out W ((hM3.get 0 rfl).on hbel)) ap sz (fun _ => rfl))
  · exact fun A W sz ot hbel ap dp => sCall1 13 rfl rfl (sC (wOf_lit n7 7 h7 E7.out W) ap sz (fun _ => rfl))
  · exact fun A W sz ot hbel ap dp => sCall3 32 rfl (sD dp 0 .data) (sD dp 7 .data) (sD dp 8 .data) (sC (fAdd_as hm (w2.heap.size) mv12 mn7 Hv14.out.symm W ((hM3.get 0 rfl).on hbel)) ap sz (fun _ => rfl))
  intro w4 hB4
  dsimp only [AllV]
  intro hap
  dsimp only [putAll, List.take, List.drop]
  go_frame
  have hM4 := hM3.on hB4
  clear hB4 hM3 hap
  go_wp2_with (first
    | ((with_reducible change wpList _ _ _ (Oper.mk none (Op.store _ (Operand.tmp 2) (Operand.tmp 14)) _ _ _ _ :: _) _ _); refine mmStoreAt hM4 1 _ _ _ _ _ _ (wcells v14) rfl rfl rfl rfl rfl (info_WideC _) (by simp only [wcells_size]) (wcells_one _) ?_; intro w5 hM5; dsimp only [List.set] at hM5; clear hM4; go_frame))
  exact result_row Tryd.results75 rfl (hM5.get 1 rfl) Tryd.underlying24 rfl (info_WideC _) rfl ⟨by rw [← hv, ← Hv14.out, ← Hv12.out, ← Hv10.out, H7.out], hM5.below⟩
theorem FPm_mul {m a b v : Nat} (Hm : m = PP) (h : a * b % m = v) : FP v = FP a * FP b := by subst h; subst Hm; rw [FP_mod, FP_mul]
theorem FPm_add {m a b v : Nat} (Hm : m = PP) (h : (a + b) % m = v) : FP v = FP a + FP b := by subst h; subst Hm; rw [FP_mod, FP_add]
theorem FPm_sub {m a b v : Nat} (Hm : m = PP) (h : (a % m + m - b % m) % m = v) : FP v = FP a - FP b := by subst h; subst Hm; rw [FP_mod, FP_sub]
theorem FPm_inv {m a v : Nat} (Hm : m = PP) (h : a ^ (m - 2) % m = v) : FP v = ivP (FP a) := by subst h; subst Hm; rw [FP_mod, FP_inv]
theorem FPm_lt {m e v : Nat} (Hm : m = PP) (h : e % m = v) : v < PP := by subst h; subst Hm; exact Nat.mod_lt _ (by decide)
theorem val_of {v : Nat} {x : Fin PP} (hv : v < PP) (h : FP v = x) : v = x.val := by subst h; exact (Nat.mod_eq_of_lt hv).symm
theorem val_lt (x : Fin PP) : x.val < M256 := Nat.lt_trans x.isLt (by decide)
theorem lt_M {v : Nat} (h : v < PP) : v < M256 := Nat.lt_trans h (by decide)
/-- a point's cells -/
def ptc : Pt PP → Array Value
  | .o => pcells 0 0 true
  | .mk x y => pcells x.val y.val false
def jc (a : Jac PP) : Array Value := scells a.x.val a.y.val a.z.val
theorem ptc_size (p : Pt PP) : (ptc p).size = 9 := by cases p <;> rfl
theorem ptc_one (p : Pt PP) : ∀ v ∈ ptc p, v.oneCell' = true := by cases p <;> exact pcells_one _ _ _
theorem info_ptc (p : Pt PP) : (Tryd.prog.info? 30).map (·.size) = some (ptc p).size := by rw [ptc_size]; exact info_Point
theorem jc_size (a : Jac PP) : (jc a).size = 12 := rfl
theorem jc_one (a : Jac PP) : ∀ v ∈ jc a, v.oneCell' = true := scells_one _ _ _
theorem info_jc (a : Jac PP) : (Tryd.prog.info? 100).map (·.size) = some (jc a).size := info_scaled
theorem FP_zero_iff {v : Nat} (hv : v < PP) : v % M256 = 0 % M256 ↔ FP v = 0 := by
  rw [Nat.mod_eq_of_lt (lt_M hv)]
  constructor
  · intro h; rw [h]; rfl
  · intro h; exact val_of hv h
set_option maxRecDepth 100000 in
set_option maxHeartbeats 8000000 in
theorem twice_nat {m x y z : Nat} (Hm0 : m = PP) (lx : x < PP) (ly : y < PP) (lz : z < PP) (w : World) (hG : Glob 3 m w) :
    Calls Tryd.prog 77 #[.agg (scells x y z)] w fun e w' => e = .returned (.agg (jc (Jac.twice ⟨FP x, FP y, FP z⟩))) ∧ Below w.heap.size w w' := by
  have Hm := Lib.hid Hm0
  have hm : Modu m := by rw [Hm.out]; exact modu_P
  clear Hm0
  have mx := lt_M lx
  have my := lt_M ly
  have mz := lt_M lz
  obtain ⟨n2, H2⟩ : ∃ n, Hid (n = 2) := ⟨2, Lib.hid rfl⟩
  have h2 : n2 < 18446744073709551616 := by rw [H2.out]; decide
  have mn2 : n2 < M256 := by rw [H2.out]; decide
  have E2 : (2 : Int) = (n2 : Int) := by rw [H2.out]; rfl
  replace E2 := Lib.hid E2
  obtain ⟨n3, H3⟩ : ∃ n, Hid (n = 3) := ⟨3, Lib.hid rfl⟩
  have h3 : n3 < 18446744073709551616 := by rw [H3.out]; decide
  have mn3 : n3 < M256 := by rw [H3.out]; decide
  have E3 : (3 : Int) = (n3 : Int) := by rw [H3.out]; rfl
  replace E3 := Lib.hid E3
  obtain ⟨n4, H4⟩ : ∃ n, Hid (n = 4) := ⟨4, Lib.hid rfl⟩
  have h4 : n4 < 18446744073709551616 := by rw [H4.out]; decide
  have mn4 : n4 < M256 := by rw [H4.out]; decide
  have E4 : (4 : Int) = (n4 : Int) := by rw [H4.out]; rfl
  replace E4 := Lib.hid E4
  obtain ⟨n8, H8⟩ : ∃ n, Hid (n = 8) := ⟨8, Lib.hid rfl⟩
  have h8 : n8 < 18446744073709551616 := by rw [H8.out]; decide
  have mn8 : n8 < M256 := by rw [H8.out]; decide
  have E8 : (8 : Int) = (n8 : Int) := by rw [H8.out]; rfl
  replace E8 := Lib.hid E8
  obtain ⟨v16, Hv16, mv16⟩ := nameMod hm (x * x)
  obtain ⟨v22, Hv22, mv22⟩ := nameMod hm (y * y)
  obtain ⟨v26, Hv26, mv26⟩ := nameMod hm (n3 * v16)
  obtain ⟨v33, Hv33, mv33⟩ := nameMod hm (x * v22)
  obtain ⟨v34, Hv34, mv34⟩ := nameMod hm (n4 * v33)
  obtain ⟨v39, Hv39, mv39⟩ := nameMod hm (v26 * v26)
  obtain ⟨v43, Hv43, mv43⟩ := nameMod hm (v34 + v34)
  obtain ⟨v44, Hv44, mv44⟩ := nameMod hm (v39 % m + m - v43 % m)
  obtain ⟨v51, Hv51, mv51⟩ := nameMod hm (v34 % m + m - v44 % m)
  obtain ⟨v52, Hv52, mv52⟩ := nameMod hm (v26 * v51)
  obtain ⟨v58, Hv58, mv58⟩ := nameMod hm (v22 * v22)
  obtain ⟨v59, Hv59, mv59⟩ := nameMod hm (n8 * v58)
  obtain ⟨v60, Hv60, mv60⟩ := nameMod hm (v52 % m + m - v59 % m)
  obtain ⟨v70, Hv70, mv70⟩ := nameMod hm (y * z)
  obtain ⟨v71, Hv71, mv71⟩ := nameMod hm (n2 * v70)
  have Ev16 := FPm_mul Hm.out Hv16.out
  have Ev22 := FPm_mul Hm.out Hv22.out
  have Ev26 := FPm_mul Hm.out Hv26.out
  have Ev33 := FPm_mul Hm.out Hv33.out
  have Ev34 := FPm_mul Hm.out Hv34.out
  have Ev39 := FPm_mul Hm.out Hv39.out
  have Ev43 := FPm_add Hm.out Hv43.out
  have Ev44 := FPm_sub Hm.out Hv44.out
  have Lv44 := FPm_lt Hm.out Hv44.out
  have Ev51 := FPm_sub Hm.out Hv51.out
  have Ev52 := FPm_mul Hm.out Hv52.out
  have Ev58 := FPm_mul Hm.out Hv58.out
  have Ev59 := FPm_mul Hm.out Hv59.out
  have Ev60 := FPm_sub Hm.out Hv60.out
  have Lv60 := FPm_lt Hm.out Hv60.out
  have Ev70 := FPm_mul Hm.out Hv70.out
  have Ev71 := FPm_mul Hm.out Hv71.out
  have Lv71 := FPm_lt Hm.out Hv71.out
  have F2 : FP n2 = 2 := by rw [H2.out]; rfl
  have F3 : FP n3 = 3 := by rw [H3.out]; rfl
  have F4 : FP n4 = 4 := by rw [H4.out]; rfl
  have F8 : FP n8 = 8 := by rw [H8.out]; rfl
  have RX : v44 = (Jac.twice ⟨FP x, FP y, FP z⟩).x.val := val_of Lv44 (by simp only [Ev44, Ev39, Ev26, F3, Ev16, Ev43, Ev34, F4, Ev33, Ev22]; rfl)
  have RY : v60 = (Jac.twice ⟨FP x, FP y, FP z⟩).y.val := val_of Lv60 (by simp only [Ev60, Ev52, Ev26, F3, Ev16, Ev51, Ev34, F4, Ev33, Ev22, Ev44, Ev39, Ev43, Ev59, F8, Ev58]; rfl)
  have RZ : v71 = (Jac.twice ⟨FP x, FP y, FP z⟩).z.val := val_of Lv71 (by simp only [Ev71, F2, Ev70]; rfl)
  have R := Lib.hid (show Value.agg (scells v44 v60 v71) = .agg (jc (Jac.twice ⟨FP x, FP y, FP z⟩)) by rw [RX, RY, RZ]; rfl)
  clear Ev16 Ev22 Ev26 Ev33 Ev34 Ev39 Ev43 Ev44 Lv44 Ev51 Ev52 Ev58 Ev59 Ev60 Lv60 Ev70 Ev71 Lv71 F2 F3 F4 F8 RX RY RZ
  have hM0 := mm_nil w
  (try unfold WV)
  go_enter Tryd.func77, Tryd.ntmps77
  go_wp2_with (first
    | ((with_reducible change wpList _ _ _ (Oper.mk (some 1) _ _ _ _ _ :: _) _ _); refine mmBox hM0 _ _ (scells x y z) rfl rfl rfl ?_; intro w1 hM1; clear hM0; go_frame)
    | ((with_reducible change wpList _ _ _ (Oper.mk (some 2) _ _ _ _ _ :: _) _ _); refine mmAlloc hM1 _ _ rfl rfl zero_scaled ?_; intro w2 hM2; clear hM1; go_frame)
    | (go_at_call 74; refine (fP_any m _ (hG.below hM2.below)).mono ?_; rintro e w3 ⟨rfl, hR3, hB3⟩; have hM3 := hM2.new hR3 hB3; clear hB3 hR3 hM2; go_frame))
  refine region_symT 14 _ [12, 13] [4, 5] [.val (.pointer (some ⟨w2.heap.size, 0, none⟩)), .val (.pointer (some ⟨w.heap.size, 0, none⟩)), .val (.agg (wcells x)), .val (.pointer (some ⟨w.heap.size, 0, none⟩)), .val (.agg (wcells x)), .val (.agg (wcells v16)), .val (.pointer (some ⟨w2.heap.size, 0, none⟩)), .val (.pointer (some ⟨w.heap.size, 4, none⟩)), .val (.agg (wcells y)), .val (.pointer (some ⟨w.heap.size, 4, none⟩)), .val (.agg (wcells y)), .val (.agg (wcells v22)), .hold w3.heap.size 24 (wcells 0), .hold w3.heap.size 24 (wcells 0)] rfl (by kernel_rfl) (by kernel_rfl) (by kernel_rfl) (by kernel_rfl) rfl (by intro s hs; simp only [List.mem_cons, List.not_mem_nil, or_false] at hs; rcases hs with rfl | rfl <;> rfl) (steps_all ⟨?_, ?_, ?_, ?_, ?_, ?_, ?_, ?_, ?_, ?_, ?_, ?_, ?_, ?_, trivial⟩) ?_
  · exact fun A W sz ot hbel ap dp => kMoveV _ _ rfl rfl (sO ot 3) (sE ap sz rfl)
  · exact fun A W sz ot hbel ap dp => kFieldScaled0 _ _ rfl rfl (sO ot 1) (sE ap sz rfl)
  · exact fun A W sz ot hbel ap dp => kLoadAs _ _ _ _ _ 4 _ _ _ rfl rfl (sD dp 1 .data) ((hM3.get 2 rfl).on hbel) Tryd.underlying24 rfl info_Wide (by rw [scells_size]; decide) (scells_at0 _ _ _) (sE ap sz rfl)
  · exact fun A W sz ot hbel ap dp => kFieldScaled0 _ _ rfl rfl (sO ot 1) (sE ap sz rfl)
  · exact fun A W sz ot hbel ap dp => kLoadAs _ _ _ _ _ 4 _ _ _ rfl rfl (sD dp 3 .data) ((hM3.get 2 rfl).on hbel) Tryd.underlying24 rfl info_Wide (by rw [scells_size]; decide) (scells_at0 _ _ _) (sE ap sz rfl)
  · exact fun A W sz ot hbel ap dp => sCall3 34 rfl (sD dp 0 .data) (sD dp 2 .data) (sD dp 4 .data) (sC (fMul_as hm (w2.heap.size) mx mx Hv16.out W ((hM3.get 0 rfl).on hbel)) ap sz (fun _ => rfl))
  · exact fun A W sz ot hbel ap dp => kMoveV _ _ rfl rfl (sO ot 3) (sE ap sz rfl)
  · exact fun A W sz ot hbel ap dp => kFieldScaled1 _ _ rfl rfl (sO ot 1) (sE ap sz rfl)
  · exact fun A W sz ot hbel ap dp => kLoadAs _ _ _ _ _ 4 _ _ _ rfl rfl (sD dp 7 .data) ((hM3.get 2 rfl).on hbel) Tryd.underlying24 rfl info_Wide (by rw [scells_size]; decide) (scells_at4 _ _ _) (sE ap sz rfl)
  · exact fun A W sz ot hbel ap dp => kFieldScaled1 _ _ rfl rfl (sO ot 1) (sE ap sz rfl)
  · exact fun A W sz ot hbel ap dp => kLoadAs _ _ _ _ _ 4 _ _ _ rfl rfl (sD dp 9 .data) ((hM3.get 2 rfl).on hbel) Tryd.underlying24 rfl info_Wide (by rw [scells_size]; decide) (scells_at4 _ _ _) (sE ap sz rfl)
  · exact fun A W sz ot hbel ap dp => sCall3 34 rfl (sD dp 6 .data) (sD dp 8 .data) (sD dp 10 .data) (sC (fMul_as hm (w2.heap.size) my my Hv22.out W ((hM3.get 0 rfl).on hbel)) ap sz (fun _ => rfl))
  · intro A W sz ot hbel ap dp
    refine kAllocL _ _ rfl rfl zero_Wide ?_
    intro r hR hl hBc
    exact (sA ap sz hl hBc ⟨_, rfl, hbel.size, hR⟩ rfl)
  · intro A W sz ot hbel ap dp
    refine kAllocL _ _ rfl rfl zero_Wide ?_
    intro r hR hl hBc
    exact (sA ap sz hl hBc ⟨_, rfl, hbel.size, hR⟩ rfl)
  intro w4 hB4
  dsimp only [AllV]
  intro g4_4 hg4_4 hR4_4
  intro g4_5 hg4_5 hR4_5
  intro hap
  dsimp only [putAll, List.take, List.drop]
  go_frame
  have hM4 := hM3.on hB4
  replace hM4 := hM4.cons hR4_4 (Nat.le_trans hM3.size hg4_4) (fun p hp => by have := hM3.lt hp; omega)
  have hne4_5_4_4 : g4_5 ≠ g4_4 := fun e => hap 13 (by simp) 12 (by simp) (by decide) g4_5 rfl (by rw [e]; rfl)
  replace hM4 := hM4.cons hR4_5 (Nat.le_trans hM3.size hg4_5) (List.forall_mem_cons.2 ⟨hne4_5_4_4, fun p hp => by have := hM3.lt hp; omega⟩)
  clear hB4 hM3 hap hg4_4 hR4_4 hg4_5 hR4_5
  go_wp2_with (first
    | ((with_reducible change wpList _ _ _ (Oper.mk none (Op.store _ (Operand.tmp 4) (Operand.tmp 16)) _ _ _ _ :: _) _ _); refine mmStoreAt hM4 1 _ _ _ _ _ _ (wcells v16) rfl rfl rfl rfl rfl (info_WideC _) (by simp only [wcells_size]) (wcells_one _) ?_; intro w5 hM5; dsimp only [List.set] at hM5; clear hM4; go_frame)
    | ((with_reducible change wpList _ _ _ (Oper.mk none (Op.store _ (Operand.tmp 5) (Operand.tmp 22)) _ _ _ _ :: _) _ _); refine mmStoreAt hM5 0 _ _ _ _ _ _ (wcells v22) rfl rfl rfl rfl rfl (info_WideC _) (by simp only [wcells_size]) (wcells_one _) ?_; intro w6 hM6; dsimp only [List.set] at hM6; clear hM5; go_frame))
  refine region_symT 5 _ [4] [6] [.val (.pointer (some ⟨w2.heap.size, 0, none⟩)), .val (.agg (wcells n3)), .val (.agg (wcells v16)), .val (.agg (wcells v26)), .hold w6.heap.size 24 (wcells 0)] rfl (by kernel_rfl) (by kernel_rfl) (by kernel_rfl) (by kernel_rfl) rfl (by intro s hs; simp only [List.mem_cons, List.not_mem_nil, or_false] at hs; rcases hs with rfl <;> rfl) (steps_all ⟨?_, ?_, ?_, ?_, ?_, trivial⟩) ?_
  · exact fun A W sz ot hbel ap dp => kMoveV _ _ rfl rfl (sO ot 3) (sE ap sz rfl)
  · exact fun A W sz ot hbel ap dp => sCall1 13 rfl rfl (sC (wOf_lit n3 3 h3 E3.out W) ap sz (fun _ => rfl))
  · exact fun A W sz ot hbel ap dp => kLoadRow _ _ _ _ _ _ rfl rfl (sO ot 4) ((hM6.get 1 rfl).on hbel) Tryd.underlying24 rfl (info_WideC _) (sE ap sz rfl)
  · exact fun A W sz ot hbel ap dp => sCall3 34 rfl (sD dp 0 .data) (sD dp 1 .data) (sD dp 2 .data) (sC (fMul_as hm (w2.heap.size) mn3 mv16 Hv26.out W ((hM6.get 2 rfl).on hbel)) ap sz (fun _ => rfl))
  · intro A W sz ot hbel ap dp
    refine kAllocL _ _ rfl rfl zero_Wide ?_
    intro r hR hl hBc
    exact (sA ap sz hl hBc ⟨_, rfl, hbel.size, hR⟩ rfl)
  intro w7 hB7
  dsimp only [AllV]
  intro g7_6 hg7_6 hR7_6
  intro hap
  dsimp only [putAll, List.take, List.drop]
  go_frame
  have hM7 := hM6.on hB7
  replace hM7 := hM7.cons hR7_6 (Nat.le_trans hM6.size hg7_6) (fun p hp => by have := hM6.lt hp; omega)
  clear hB7 hM6 hap hg7_6 hR7_6
  go_wp2_with (first
    | ((with_reducible change wpList _ _ _ (Oper.mk none (Op.store _ (Operand.tmp 6) (Operand.tmp 26)) _ _ _ _ :: _) _ _); refine mmStoreAt hM7 0 _ _ _ _ _ _ (wcells v26) rfl rfl rfl rfl rfl (info_WideC _) (by simp only [wcells_size]) (wcells_one _) ?_; intro w8 hM8; dsimp only [List.set] at hM8; clear hM7; go_frame))
  refine region_symT 9 _ [8] [7] [.val (.pointer (some ⟨w2.heap.size, 0, none⟩)), .val (.agg (wcells n4)), .val (.pointer (some ⟨w2.heap.size, 0, none⟩)), .val (.pointer (some ⟨w.heap.size, 0, none⟩)), .val (.agg (wcells x)), .val (.agg (wcells v22)), .val (.agg (wcells v33)), .val (.agg (wcells v34)), .hold w8.heap.size 24 (wcells 0)] rfl (by kernel_rfl) (by kernel_rfl) (by kernel_rfl) (by kernel_rfl) rfl (by intro s hs; simp only [List.mem_cons, List.not_mem_nil, or_false] at hs; rcases hs with rfl <;> rfl) (steps_all ⟨?_, ?_, ?_, ?_, ?_, ?_, ?_, ?_, ?_, trivial⟩) ?_
  · exact fun A W sz ot hbel ap dp => kMoveV _ _ rfl rfl (sO ot 3) (sE ap sz rfl)
  · exact fun A W sz ot hbel ap dp => sCall1 13 rfl rfl (sC (wOf_lit n4 4 h4 E4.out W) ap sz (fun _ => rfl))
  · exact fun A W sz ot hbel ap dp => kMoveV _ _ rfl rfl (sO ot 3) (sE ap sz rfl)
  · exact fun A W sz ot hbel ap dp => kFieldScaled0 _ _ rfl rfl (sO ot 1) (sE ap sz rfl)
  · exact fun A W sz ot hbel ap dp => kLoadAs _ _ _ _ _ 4 _ _ _ rfl rfl (sD dp 3 .data) ((hM8.get 5 rfl).on hbel) Tryd.underlying24 rfl info_Wide (by rw [scells_size]; decide) (scells_at0 _ _ _) (sE ap sz rfl)
  · exact fun A W sz ot hbel ap dp => kLoadRow _ _ _ _ _ _ rfl rfl (sO ot 5) ((hM8.get 1 rfl).on hbel) Tryd.underlying24 rfl (info_WideC _) (sE ap sz rfl)
  · exact fun A W sz ot hbel ap dp => sCall3 34 rfl (sD dp 2 .data) (sD dp 4 .data) (sD dp 5 .data) (sC (fMul_as hm (w2.heap.size) mx mv22 Hv33.out W ((hM8.get 3 rfl).on hbel)) ap sz (fun _ => rfl))
  · exact fun A W sz ot hbel ap dp => sCall3 34 rfl (sD dp 0 .data) (sD dp 1 .data) (sD dp 6 .data) (sC (fMul_as hm (w2.heap.size) mn4 mv33 Hv34.out W ((hM8.get 3 rfl).on hbel)) ap sz (fun _ => rfl))
  · intro A W sz ot hbel ap dp
    refine kAllocL _ _ rfl rfl zero_Wide ?_
    intro r hR hl hBc
    exact (sA ap sz hl hBc ⟨_, rfl, hbel.size, hR⟩ rfl)
  intro w9 hB9
  dsimp only [AllV]
  intro g9_7 hg9_7 hR9_7
  intro hap
  dsimp only [putAll, List.take, List.drop]
  go_frame
  have hM9 := hM8.on hB9
  replace hM9 := hM9.cons hR9_7 (Nat.le_trans hM8.size hg9_7) (fun p hp => by have := hM8.lt hp; omega)
  clear hB9 hM8 hap hg9_7 hR9_7
  go_wp2_with (first
    | ((with_reducible change wpList _ _ _ (Oper.mk none (Op.store _ (Operand.tmp 7) (Operand.tmp 34)) _ _ _ _ :: _) _ _); refine mmStoreAt hM9 0 _ _ _ _ _ _ (wcells v34) rfl rfl rfl rfl rfl (info_WideC _) (by simp only [wcells_size]) (wcells_one _) ?_; intro w10 hM10; dsimp only [List.set] at hM10; clear hM9; go_frame))
  refine region_symT 11 _ [10] [8] [.val (.pointer (some ⟨w2.heap.size, 0, none⟩)), .val (.pointer (some ⟨w2.heap.size, 0, none⟩)), .val (.agg (wcells v26)), .val (.agg (wcells v26)), .val (.agg (wcells v39)), .val (.pointer (some ⟨w2.heap.size, 0, none⟩)), .val (.agg (wcells v34)), .val (.agg (wcells v34)), .val (.agg (wcells v43)), .val (.agg (wcells v44)), .hold w10.heap.size 24 (wcells 0)] rfl (by kernel_rfl) (by kernel_rfl) (by kernel_rfl) (by kernel_rfl) rfl (by intro s hs; simp only [List.mem_cons, List.not_mem_nil, or_false] at hs; rcases hs with rfl <;> rfl) (steps_all ⟨?_, ?_, ?_, ?_, ?_, ?_, ?_, ?_, ?_, ?_, ?_, trivial⟩) ?_
  · exact fun A W sz ot hbel ap dp => kMoveV _ _ rfl rfl (sO ot 3) (sE ap sz rfl)
  · exact fun A W sz ot hbel ap dp => kMoveV _ _ rfl rfl (sO ot 3) (sE ap sz rfl)
  · exact fun A W sz ot hbel ap dp => kLoadRow _ _ _ _ _ _ rfl rfl (sO ot 6) ((hM10.get 1 rfl).on hbel) Tryd.underlying24 rfl (info_WideC _) (sE ap sz rfl)
  · exact fun A W sz ot hbel ap dp => kLoadRow _ _ _ _ _ _ rfl rfl (sO ot 6) ((hM10.get 1 rfl).on hbel) Tryd.underlying24 rfl (info_WideC _) (sE ap sz rfl)
  · exact fun A W sz ot hbel ap dp => sCall3 34 rfl (sD dp 1 .data) (sD dp 2 .data) (sD dp 3 .data) (sC (fMul_as hm (w2.heap.size) mv26 mv26 Hv39.out W ((hM10.get 4 rfl).on hbel)) ap sz (fun _ => rfl))
  · exact fun A W sz ot hbel ap dp => kMoveV _ _ rfl rfl (sO ot 3) (sE ap sz rfl)
  · exact fun A W sz ot hbel ap dp => kLoadRow _ _ _ _ _ _ rfl rfl (sO ot 7) ((hM10.get 0 rfl).on hbel) Tryd.underlying24 rfl (info_WideC _) (sE ap sz rfl)
  · exact fun A W sz ot hbel ap dp => kLoadRow _ _ _ _ _ _ rfl rfl (sO ot 7) ((hM10.get 0 rfl).on hbel) Tryd.underlying24 rfl (info_WideC _) (sE ap sz rfl)
  · exact fun A W sz ot hbel ap dp => sCall3 32 rfl (sD dp 5 .data) (sD dp 6 .data) (sD dp 7 .data) (sC (fAdd_as hm (w2.heap.size) mv34 mv34 Hv43.out.symm W ((hM10.get 4 rfl).on hbel)) ap sz (fun _ => rfl))
  · exact fun A W sz ot hbel ap dp => sCall3 36 rfl (sD dp 0 .data) (sD dp 4 .data) (sD dp 8 .data) (sC (fSub_as hm (w2.heap.size) mv39 mv43 Hv44.out W ((hM10.get 4 rfl).on hbel)) ap sz (fun _ => rfl))
  · intro A W sz ot hbel ap dp
    refine kAllocL _ _ rfl rfl zero_Wide ?_
    intro r hR hl hBc
    exact (sA ap sz hl hBc ⟨_, rfl, hbel.size, hR⟩ rfl)
  intro w11 hB11
  dsimp only [AllV]
  intro g11_8 hg11_8 hR11_8
  intro hap
  dsimp only [putAll, List.take, List.drop]
  go_frame
  have hM11 := hM10.on hB11
  replace hM11 := hM11.cons hR11_8 (Nat.le_trans hM10.size hg11_8) (fun p hp => by have := hM10.lt hp; omega)
  clear hB11 hM10 hap hg11_8 hR11_8
  go_wp2_with (first
    | ((with_reducible change wpList _ _ _ (Oper.mk none (Op.store _ (Operand.tmp 8) (Operand.tmp 44)) _ _ _ _ :: _) _ _); refine mmStoreAt hM11 0 _ _ _ _ _ _ (wcells v44) rfl rfl rfl rfl rfl (info_WideC _) (by simp only [wcells_size]) (wcells_one _) ?_; intro w12 hM12; dsimp only [List.set] at hM12; clear hM11; go_frame))
  refine region_symT 17 _ [16] [9] [.val (.pointer (some ⟨w2.heap.size, 0, none⟩)), .val (.pointer (some ⟨w2.heap.size, 0, none⟩)), .val (.agg (wcells v26)), .val (.pointer (some ⟨w2.heap.size, 0, none⟩)), .val (.agg (wcells v34)), .val (.agg (wcells v44)), .val (.agg (wcells v51)), .val (.agg (wcells v52)), .val (.pointer (some ⟨w2.heap.size, 0, none⟩)), .val (.agg (wcells n8)), .val (.pointer (some ⟨w2.heap.size, 0, none⟩)), .val (.agg (wcells v22)), .val (.agg (wcells v22)), .val (.agg (wcells v58)), .val (.agg (wcells v59)), .val (.agg (wcells v60)), .hold w12.heap.size 24 (wcells 0)] rfl (by kernel_rfl) (by kernel_rfl) (by kernel_rfl) (by kernel_rfl) rfl (by intro s hs; simp only [List.mem_cons, List.not_mem_nil, or_false] at hs; rcases hs with rfl <;> rfl) (steps_all ⟨?_, ?_, ?_, ?_, ?_, ?_, ?_, ?_, ?_, ?_, ?_, ?_, ?_, ?_, ?_, ?_, ?_, trivial⟩) ?_
  · exact fun A W sz ot hbel ap dp => kMoveV _ _ rfl rfl (sO ot 3) (sE ap sz rfl)
  · exact fun A W sz ot hbel ap dp => kMoveV _ _ rfl rfl (sO ot 3) (sE ap sz rfl)
  · exact fun A W sz ot hbel ap dp => kLoadRow _ _ _ _ _ _ rfl rfl (sO ot 6) ((hM12.get 2 rfl).on hbel) Tryd.underlying24 rfl (info_WideC _) (sE ap sz rfl)
  · exact fun A W sz ot hbel ap dp => kMoveV _ _ rfl rfl (sO ot 3) (sE ap sz rfl)
  · exact fun A W sz ot hbel ap dp => kLoadRow _ _ _ _ _ _ rfl rfl (sO ot 7) ((hM12.get 1 rfl).on hbel) Tryd.underlying24 rfl (info_WideC _) (sE ap sz rfl)
  · exact fun A W sz ot hbel ap dp => kLoadRow _ _ _ _ _ _ rfl rfl (sO ot 8) ((hM12.get 0 rfl).on hbel) Tryd.underlying24 rfl (info_WideC _) (sE ap sz rfl)
  · exact fun A W sz ot hbel ap dp => sCall3 36 rfl (sD dp 3 .data) (sD dp 4 .data) (sD dp 5 .data) (sC (fSub_as hm (w2.heap.size) mv34 mv44 Hv51.out W ((hM12.get 5 rfl).on hbel)) ap sz (fun _ => rfl))
  · exact fun A W sz ot hbel ap dp => sCall3 34 rfl (sD dp 1 .data) (sD dp 2 .data) (sD dp 6 .data) (sC (fMul_as hm (w2.heap.size) mv26 mv51 Hv52.out W ((hM12.get 5 rfl).on hbel)) ap sz (fun _ => rfl))
  · exact fun A W sz ot hbel ap dp => kMoveV _ _ rfl rfl (sO ot 3) (sE ap sz rfl)
  · exact fun A W sz ot hbel ap dp => sCall1 13 rfl rfl (sC (wOf_lit n8 8 h8 E8.out W) ap sz (fun _ => rfl))
  · exact fun A W sz ot hbel ap dp => kMoveV _ _ rfl rfl (sO ot 3) (sE ap sz rfl)
  · exact fun A W sz ot hbel ap dp => kLoadRow _ _ _ _ _ _ rfl rfl (sO ot 5) ((hM12.get 3 rfl).on hbel) Tryd.underlying24 rfl (info_WideC _) (sE ap sz rfl)
  · exact fun A W sz ot hbel ap dp => kLoadRow _ _ _ _ _ _ rfl rfl (sO ot 5) ((hM12.get 3 rfl).on hbel) Tryd.underlying24 rfl (info_WideC _) (sE ap sz rfl)
  · exact fun A W sz ot hbel ap dp => sCall3 34 rfl (sD dp 10 .data) (sD dp 11 .data) (sD dp 12 .data) (sC (fMul_as hm (w2.heap.size) mv22 mv22 Hv58.out W ((hM12.get 5 rfl).on hbel)) ap sz (fun _ => rfl))
  · exact fun A W sz ot hbel ap dp => sCall3 34 rfl (sD dp 8 .data) (sD dp 9 .data) (sD dp 13 .data) (sC (fMul_as hm (w2.heap.size) mn8 mv58 Hv59.out W ((hM12.get 5 rfl).on hbel)) ap sz (fun _ => rfl))
  · exact fun A W sz ot hbel ap dp => sCall3 36 rfl (sD dp 0 .data) (sD dp 7 .data) (sD dp 14 .data) (sC (fSub_as hm (w2.heap.size) mv52 mv59 Hv60.out W ((hM12.get 5 rfl).on hbel)) ap sz (fun _ => rfl))
  · intro A W sz ot hbel ap dp
    refine kAllocL _ _ rfl rfl zero_Wide ?_
    intro r hR hl hBc
    exact (sA ap sz hl hBc ⟨_, rfl, hbel.size, hR⟩ rfl)
  intro w13 hB13
  dsimp only [AllV]
  intro g13_9 hg13_9 hR13_9
  intro hap
  dsimp only [putAll, List.take, List.drop]
  go_frame
  have hM13 := hM12.on hB13
  replace hM13 := hM13.cons hR13_9 (Nat.le_trans hM12.size hg13_9) (fun p hp => by have := hM12.lt hp; omega)
  clear hB13 hM12 hap hg13_9 hR13_9
  go_wp2_with (first
    | ((with_reducible change wpList _ _ _ (Oper.mk none (Op.store _ (Operand.tmp 9) (Operand.tmp 60)) _ _ _ _ :: _) _ _); refine mmStoreAt hM13 0 _ _ _ _ _ _ (wcells v60) rfl rfl rfl rfl rfl (info_WideC _) (by simp only [wcells_size]) (wcells_one _) ?_; intro w14 hM14; dsimp only [List.set] at hM14; clear hM13; go_frame))
  refine region_symT 12 _ [] [] [.val (.agg (wcells v44)), .val (.agg (wcells v60)), .val (.pointer (some ⟨w2.heap.size, 0, none⟩)), .val (.agg (wcells n2)), .val (.pointer (some ⟨w2.heap.size, 0, none⟩)), .val (.pointer (some ⟨w.heap.size, 4, none⟩)), .val (.agg (wcells y)), .val (.pointer (some ⟨w.heap.size, 8, none⟩)), .val (.agg (wcells z)), .val (.agg (wcells v70)), .val (.agg (wcells v71)), .val (.agg (scells v44 v60 v71))] rfl (by kernel_rfl) (by kernel_rfl) (by kernel_rfl) (by kernel_rfl) rfl (by intro s hs; cases hs) (steps_all ⟨?_, ?_, ?_, ?_, ?_, ?_, ?_, ?_, ?_, ?_, ?_, ?_, trivial⟩) ?_
  · exact fun A W sz ot hbel ap dp => kLoadRow _ _ _ _ _ _ rfl rfl (sO ot 8) ((hM14.get 1 rfl).on hbel) Tryd.underlying24 rfl (info_WideC _) (sE ap sz rfl)
  · exact fun A W sz ot hbel ap dp => kLoadRow _ _ _ _ _ _ rfl rfl (sO ot 9) ((hM14.get 0 rfl).on hbel) Tryd.underlying24 rfl (info_WideC _) (sE ap sz rfl)
  · exact fun A W sz ot hbel ap dp => kMoveV _ _ rfl rfl (sO ot 3) (sE ap sz rfl)
  · exact fun A W sz ot hbel ap dp => sCall1 13 rfl rfl (sC (wOf_lit n2 2 h2 E2.out W) ap sz (fun _ => rfl))
  · exact fun A W sz ot hbel ap dp => kMoveV _ _ rfl rfl (sO ot 3) (sE ap sz rfl)
  · exact fun A W sz ot hbel ap dp => kFieldScaled1 _ _ rfl rfl (sO ot 1) (sE ap sz rfl)
  · exact fun A W sz ot hbel ap dp => kLoadAs _ _ _ _ _ 4 _ _ _ rfl rfl (sD dp 5 .data) ((hM14.get 8 rfl).on hbel) Tryd.underlying24 rfl info_Wide (by rw [scells_size]; decide) (scells_at4 _ _ _) (sE ap sz rfl)
  · exact fun A W sz ot hbel ap dp => kFieldScaled2 _ _ rfl rfl (sO ot 1) (sE ap sz rfl)
  · exact fun A W sz ot hbel ap dp => kLoadAs _ _ _ _ _ 4 _ _ _ rfl rfl (sD dp 7 .data) ((hM14.get 8 rfl).on hbel) Tryd.underlying24 rfl info_Wide (by rw [scells_size]; decide) (scells_at8 _ _ _) (sE ap sz rfl)
  · exact fun A W sz ot hbel ap dp => sCall3 34 rfl (sD dp 4 .data) (sD dp 6 .data) (sD dp 8 .data) (sC (fMul_as hm (w2.heap.size) my mz Hv70.out W ((hM14.get 6 rfl).on hbel)) ap sz (fun _ => rfl))
  · exact fun A W sz ot hbel ap dp => sCall3 34 rfl (sD dp 2 .data) (sD dp 3 .data) (sD dp 9 .data) (sC (fMul_as hm (w2.heap.size) mn2 mv70 Hv71.out W ((hM14.get 6 rfl).on hbel)) ap sz (fun _ => rfl))
  · exact fun A W sz ot hbel ap dp => kBuildScaled3 _ _ _ v44 v60 v71 rfl rfl (sD dp 0 .data) (sD dp 1 .data) (sD dp 10 .data) (sE ap sz rfl)
  intro w15 hB15
  dsimp only [AllV]
  intro hap
  dsimp only [putAll, List.take, List.drop]
  go_frame
  have hM15 := hM14.on hB15
  clear hB15 hM14 hap
  go_wp2_with (first
    | ((with_reducible change wpList _ _ _ (Oper.mk none (Op.store _ (Operand.tmp 2) (Operand.tmp 72)) _ _ _ _ :: _) _ _); refine mmStoreAt hM15 7 _ _ _ _ _ _ (scells v44 v60 v71) rfl rfl rfl rfl rfl (info_scaledC _ _ _) (by simp only [scells_size]) (scells_one _ _ _) ?_; intro w16 hM16; dsimp only [List.set] at hM16; clear hM15; go_frame))
  exact result_row Tryd.results77 rfl (hM16.get 7 rfl) Tryd.underlying100 rfl (info_scaledC _ _ _) rfl ⟨by rw [R.out], hM16.below⟩
set_option maxRecDepth 100000 in
set_option maxHeartbeats 8000000 in
theorem point_nat {x y z : Nat} (lx : x < PP) (ly : y < PP) (lz : z < PP) (w : World) (hG : Glob 3 PP w) (hO : GlobP 2 0 0 true w) :
    Calls Tryd.prog 80 #[.agg (scells x y z)] w fun e w' => e = .returned (.agg (ptc (Jac.pt ivP ⟨FP x, FP y, FP z⟩))) ∧ Below w.heap.size w w' := by
  obtain ⟨m, Hm⟩ : ∃ m, Hid (m = PP) := ⟨_, Lib.hid rfl⟩
  have hm : Modu m := by rw [Hm.out]; exact modu_P
  rw [← Hm.out] at hG
  have mx := lt_M lx
  have my := lt_M ly
  have mz := lt_M lz
  by_cases hz : z = 0
  · have R := Lib.hid (show Value.agg (pcells 0 0 true) = .agg (ptc (Jac.pt ivP ⟨FP x, FP y, FP z⟩)) by unfold Jac.pt; rw [if_pos (show FP z = 0 by rw [hz]; rfl)]; rfl)
    have hz0 := Lib.hid (show z % m = 0 by rw [hz]; exact Nat.zero_mod _)
    clear hz
    have hM0 := mm_nil w
    (try unfold WV)
    go_enter Tryd.func80, Tryd.ntmps80
    go_wp2_with (first
      | ((with_reducible change wpList _ _ _ (Oper.mk (some 1) _ _ _ _ _ :: _) _ _); refine mmBox hM0 _ _ (scells x y z) rfl rfl rfl ?_; intro w1 hM1; clear hM0; go_frame)
      | ((with_reducible change wpList _ _ _ (Oper.mk (some 2) _ _ _ _ _ :: _) _ _); refine mmAlloc hM1 _ _ rfl rfl zero_Point ?_; intro w2 hM2; clear hM1; go_frame)
      | (go_at_call 74; refine (fP_any m _ (hG.below hM2.below)).mono ?_; rintro e w3 ⟨rfl, hR3, hB3⟩; have hM3 := hM2.new hR3 hB3; clear hB3 hR3 hM2; go_frame)
      | ((with_reducible change wpList _ _ _ (Oper.mk (some 10) _ _ _ _ _ :: _) _ _); refine kFieldScaled2 _ _ rfl rfl rfl ?_; go_frame)
      | ((with_reducible change wpList _ _ _ (Oper.mk (some 11) _ _ _ _ _ :: _) _ _); refine kLoadAs _ _ _ _ _ 4 _ _ _ rfl rfl rfl (hM3.get 2 rfl) Tryd.underlying24 rfl info_Wide (by rw [scells_size]; decide) (scells_at8 _ _ _) ?_; go_frame)
      | (go_at_call 58; (with_reducible change Calls _ _ #[Value.pointer (some ⟨w2.heap.size, 0, none⟩), Value.agg (wcells z)] _ _); refine (fInv_zero hm z (w2.heap.size) mz hz0.out _ (hM3.get 0 rfl)).mono ?_; rintro e w4 ⟨rfl, hB4⟩; have hM4 := hM3.on hB4; clear hB4 hM3; (try unfold WV); go_frame)
      | ((with_reducible change wpList _ _ _ (Oper.mk (some 4) _ _ _ _ _ :: _) _ _); refine mmAlloc hM4 _ _ rfl rfl zero_Wide ?_; intro w5 hM5; clear hM4; go_frame)
      | ((with_reducible change wpList _ _ _ (Oper.mk none (Op.store _ (Operand.tmp 4) (Operand.tmp 13)) _ _ _ _ :: _) _ _); refine mmStoreAt hM5 0 _ _ _ _ _ _ (wcells 0) rfl rfl rfl rfl rfl (info_WideC _) (by simp only [wcells_size]) (wcells_one _) ?_; intro w6 hM6; dsimp only [List.set] at hM6; clear hM5; go_frame)
      | ((with_reducible change wpList _ _ _ (Oper.mk (some 16) _ _ _ _ _ :: _) _ _); refine kNeqI _ _ _ _ .i64 (31) (0) true rfl rfl rfl rfl (by decide) ?_; go_frame)
      | ((with_reducible change wpList _ _ _ (Oper.mk (some 17) _ _ _ _ _ :: _) _ _); refine kLoadGP _ _ _ _ _ rfl rfl rfl (hO.below hM6.below) ?_; go_frame)
      | ((with_reducible change wpList _ _ _ (Oper.mk none (Op.store _ (Operand.tmp 2) (Operand.tmp 17)) _ _ _ _ :: _) _ _); refine mmStoreAt hM6 2 _ _ _ _ _ _ (pcells 0 0 true) rfl rfl rfl rfl rfl (info_PointC _ _ _) (by simp only [pcells_size]) (pcells_one _ _ _) ?_; intro w7 hM7; dsimp only [List.set] at hM7; clear hM6; go_frame))
    exact result_row Tryd.results80 rfl (hM7.get 2 rfl) Tryd.underlying30 rfl (info_PointC _ _ _) rfl ⟨by rw [← R.out], hM7.below⟩
  · have hne := Lib.hid (show z % m ≠ 0 by rw [Hm.out, Nat.mod_eq_of_lt lz]; exact hz)
    have hzf : FP z ≠ 0 := fun e => hz (val_of lz e)
    obtain ⟨v12, Hv12, mv12⟩ := nameMod hm (z ^ (m - 2))
    obtain ⟨v21, Hv21, mv21⟩ := nameMod hm (v12 * v12)
    obtain ⟨v26, Hv26, mv26⟩ := nameMod hm (x * v21)
    obtain ⟨v33, Hv33, mv33⟩ := nameMod hm (v21 * v12)
    obtain ⟨v34, Hv34, mv34⟩ := nameMod hm (y * v33)
    have Ev12 := FPm_inv Hm.out Hv12.out
    have Ev21 := FPm_mul Hm.out Hv21.out
    have Ev26 := FPm_mul Hm.out Hv26.out
    have Lv26 := FPm_lt Hm.out Hv26.out
    have Ev33 := FPm_mul Hm.out Hv33.out
    have Ev34 := FPm_mul Hm.out Hv34.out
    have Lv34 := FPm_lt Hm.out Hv34.out
    have R := Lib.hid (show Value.agg (pcells v26 v34 false) = .agg (ptc (Jac.pt ivP ⟨FP x, FP y, FP z⟩)) by unfold Jac.pt; rw [if_neg hzf]; rw [val_of Lv26 (show FP v26 = FP x * (ivP (FP z) * ivP (FP z)) by simp only [Ev26, Ev21, Ev12]), val_of Lv34 (show FP v34 = FP y * (ivP (FP z) * ivP (FP z) * ivP (FP z)) by simp only [Ev34, Ev33, Ev21, Ev12])]; rfl)
    clear hz hzf Ev12 Ev21 Ev26 Lv26 Ev33 Ev34 Lv34
    have hM0 := mm_nil w
    (try unfold WV)
    go_enter Tryd.func80, Tryd.ntmps80
    go_wp2_with (first
      | ((with_reducible change wpList _ _ _ (Oper.mk (some 1) _ _ _ _ _ :: _) _ _); refine mmBox hM0 _ _ (scells x y z) rfl rfl rfl ?_; intro w1 hM1; clear hM0; go_frame)
      | ((with_reducible change wpList _ _ _ (Oper.mk (some 2) _ _ _ _ _ :: _) _ _); refine mmAlloc hM1 _ _ rfl rfl zero_Point ?_; intro w2 hM2; clear hM1; go_frame)
      | (go_at_call 74; refine (fP_any m _ (hG.below hM2.below)).mono ?_; rintro e w3 ⟨rfl, hR3, hB3⟩; have hM3 := hM2.new hR3 hB3; clear hB3 hR3 hM2; go_frame)
      | ((with_reducible change wpList _ _ _ (Oper.mk (some 10) _ _ _ _ _ :: _) _ _); refine kFieldScaled2 _ _ rfl rfl rfl ?_; go_frame)
      | ((with_reducible change wpList _ _ _ (Oper.mk (some 11) _ _ _ _ _ :: _) _ _); refine kLoadAs _ _ _ _ _ 4 _ _ _ rfl rfl rfl (hM3.get 2 rfl) Tryd.underlying24 rfl info_Wide (by rw [scells_size]; decide) (scells_at8 _ _ _) ?_; go_frame)
      | (go_at_call 58; (with_reducible change Calls _ _ #[Value.pointer (some ⟨w2.heap.size, 0, none⟩), Value.agg (wcells z)] _ _); refine (fInv_as hm (w2.heap.size) mz hne.out Hv12.out _ (hM3.get 0 rfl)).mono ?_; rintro e w4 ⟨rfl, hB4⟩; have hM4 := hM3.on hB4; clear hB4 hM3; (try unfold WV); go_frame)
      | ((with_reducible change wpList _ _ _ (Oper.mk (some 4) _ _ _ _ _ :: _) _ _); refine mmAlloc hM4 _ _ rfl rfl zero_Wide ?_; intro w5 hM5; clear hM4; go_frame)
      | ((with_reducible change wpList _ _ _ (Oper.mk none (Op.store _ (Operand.tmp 4) (Operand.tmp 13)) _ _ _ _ :: _) _ _); refine mmStoreAt hM5 0 _ _ _ _ _ _ (wcells v12) rfl rfl rfl rfl rfl (info_WideC _) (by simp only [wcells_size]) (wcells_one _) ?_; intro w6 hM6; dsimp only [List.set] at hM6; clear hM5; go_frame)
      | ((with_reducible change wpList _ _ _ (Oper.mk (some 16) _ _ _ _ _ :: _) _ _); refine kNeqI _ _ _ _ .i64 (0) (0) false rfl rfl rfl rfl (by decide) ?_; go_frame)
      | ((with_reducible change wpList _ _ _ (Oper.mk (some 19) _ _ _ _ _ :: _) _ _); refine kLoadRow _ _ _ _ _ _ rfl rfl rfl (hM6.get 0 rfl) Tryd.underlying24 rfl (info_WideC _) ?_; go_frame)
      | ((with_reducible change wpList _ _ _ (Oper.mk (some 20) _ _ _ _ _ :: _) _ _); refine kLoadRow _ _ _ _ _ _ rfl rfl rfl (hM6.get 0 rfl) Tryd.underlying24 rfl (info_WideC _) ?_; go_frame)
      | (go_at_call 34; (with_reducible change Calls _ _ #[Value.pointer (some ⟨w2.heap.size, 0, none⟩), Value.agg (wcells v12), Value.agg (wcells v12)] _ _); refine (fMul_as hm (w2.heap.size) mv12 mv12 Hv21.out _ (hM6.get 1 rfl)).mono ?_; rintro e w7 ⟨rfl, hB7⟩; have hM7 := hM6.on hB7; clear hB7 hM6; (try unfold WV); go_frame)
      | ((with_reducible change wpList _ _ _ (Oper.mk (some 6) _ _ _ _ _ :: _) _ _); refine mmAlloc hM7 _ _ rfl rfl zero_Wide ?_; intro w8 hM8; clear hM7; go_frame)
      | ((with_reducible change wpList _ _ _ (Oper.mk none (Op.store _ (Operand.tmp 6) (Operand.tmp 21)) _ _ _ _ :: _) _ _); refine mmStoreAt hM8 0 _ _ _ _ _ _ (wcells v21) rfl rfl rfl rfl rfl (info_WideC _) (by simp only [wcells_size]) (wcells_one _) ?_; intro w9 hM9; dsimp only [List.set] at hM9; clear hM8; go_frame))
    refine region_symT 14 _ [] [] [.val (.pointer (some ⟨w2.heap.size, 0, none⟩)), .val (.pointer (some ⟨w.heap.size, 0, none⟩)), .val (.agg (wcells x)), .val (.agg (wcells v21)), .val (.agg (wcells v26)), .val (.pointer (some ⟨w2.heap.size, 0, none⟩)), .val (.pointer (some ⟨w.heap.size, 4, none⟩)), .val (.agg (wcells y)), .val (.pointer (some ⟨w2.heap.size, 0, none⟩)), .val (.agg (wcells v21)), .val (.agg (wcells v12)), .val (.agg (wcells v33)), .val (.agg (wcells v34)), .val (.agg (pcells v26 v34 false))] rfl (by kernel_rfl) (by kernel_rfl) (by kernel_rfl) (by kernel_rfl) rfl (by intro s hs; cases hs) (steps_all ⟨?_, ?_, ?_, ?_, ?_, ?_, ?_, ?_, ?_, ?_, ?_, ?_, ?_, ?_, trivial⟩) ?_
    · exact fun A W sz ot hbel ap dp => kMoveV _ _ rfl rfl (sO ot 3) (sE ap sz rfl)
    · exact fun A W sz ot hbel ap dp => kFieldScaled0 _ _ rfl rfl (sO ot 1) (sE ap sz rfl)
    · exact fun A W sz ot hbel ap dp => kLoadAs _ _ _ _ _ 4 _ _ _ rfl rfl (sD dp 1 .data) ((hM9.get 4 rfl).on hbel) Tryd.underlying24 rfl info_Wide (by rw [scells_size]; decide) (scells_at0 _ _ _) (sE ap sz rfl)
    · exact fun A W sz ot hbel ap dp => kLoadRow _ _ _ _ _ _ rfl rfl (sO ot 6) ((hM9.get 0 rfl).on hbel) Tryd.underlying24 rfl (info_WideC _) (sE ap sz rfl)
    · exact fun A W sz ot hbel ap dp => sCall3 34 rfl (sD dp 0 .data) (sD dp 2 .data) (sD dp 3 .data) (sC (fMul_as hm (w2.heap.size) mx mv21 Hv26.out W ((hM9.get 2 rfl).on hbel)) ap sz (fun _ => rfl))
    · exact fun A W sz ot hbel ap dp => kMoveV _ _ rfl rfl (sO ot 3) (sE ap sz rfl)
    · exact fun A W sz ot hbel ap dp => kFieldScaled1 _ _ rfl rfl (sO ot 1) (sE ap sz rfl)
    · exact fun A W sz ot hbel ap dp => kLoadAs _ _ _ _ _ 4 _ _ _ rfl rfl (sD dp 6 .data) ((hM9.get 4 rfl).on hbel) Tryd.underlying24 rfl info_Wide (by rw [scells_size]; decide) (scells_at4 _ _ _) (sE ap sz rfl)
    · exact fun A W sz ot hbel ap dp => kMoveV _ _ rfl rfl (sO ot 3) (sE ap sz rfl)
    · exact fun A W sz ot hbel ap dp => kLoadRow _ _ _ _ _ _ rfl rfl (sO ot 6) ((hM9.get 0 rfl).on hbel) Tryd.underlying24 rfl (info_WideC _) (sE ap sz rfl)
    · exact fun A W sz ot hbel ap dp => kLoadRow _ _ _ _ _ _ rfl rfl (sO ot 4) ((hM9.get 1 rfl).on hbel) Tryd.underlying24 rfl (info_WideC _) (sE ap sz rfl)
    · exact fun A W sz ot hbel ap dp => sCall3 34 rfl (sD dp 8 .data) (sD dp 9 .data) (sD dp 10 .data) (sC (fMul_as hm (w2.heap.size) mv21 mv12 Hv33.out W ((hM9.get 2 rfl).on hbel)) ap sz (fun _ => rfl))
    · exact fun A W sz ot hbel ap dp => sCall3 34 rfl (sD dp 5 .data) (sD dp 7 .data) (sD dp 11 .data) (sC (fMul_as hm (w2.heap.size) my mv33 Hv34.out W ((hM9.get 2 rfl).on hbel)) ap sz (fun _ => rfl))
    · exact fun A W sz ot hbel ap dp => kBuildPoint2 _ _ v26 v34 rfl rfl (sD dp 4 .data) (sD dp 12 .data) (sE ap sz rfl)
    intro w10 hB10
    dsimp only [AllV]
    intro hap
    dsimp only [putAll, List.take, List.drop]
    go_frame
    have hM10 := hM9.on hB10
    clear hB10 hM9 hap
    go_wp2_with (first
      | ((with_reducible change wpList _ _ _ (Oper.mk none (Op.store _ (Operand.tmp 2) (Operand.tmp 35)) _ _ _ _ :: _) _ _); refine mmStoreAt hM10 3 _ _ _ _ _ _ (pcells v26 v34 false) rfl rfl rfl rfl rfl (info_PointC _ _ _) (by simp only [pcells_size]) (pcells_one _ _ _) ?_; intro w11 hM11; dsimp only [List.set] at hM11; clear hM10; go_frame))
    exact result_row Tryd.results80 rfl (hM11.get 3 rfl) Tryd.underlying30 rfl (info_PointC _ _ _) rfl ⟨by rw [← R.out], hM11.below⟩
theorem eqP_yes {x y x' y' : Nat} {p p' : Bool} (h : x = x' ∧ y = y' ∧ p = p') : decide (x % M256 = x' % M256 ∧ y % M256 = y' % M256 ∧ p = p') = true := by obtain ⟨rfl, rfl, rfl⟩ := h; simp
theorem eqP_none {x y x' y' : Nat} : decide (x % M256 = x' % M256 ∧ y % M256 = y' % M256 ∧ false = true) = false := by simp
theorem eqP_no {x y x' y' : Nat} {p p' : Bool} (hx : x < M256) (hy : y < M256) (hx' : x' < M256) (hy' : y' < M256) (h : ¬(x = x' ∧ y = y' ∧ p = p')) : decide (x % M256 = x' % M256 ∧ y % M256 = y' % M256 ∧ p = p') = false := by
  rw [Nat.mod_eq_of_lt hx, Nat.mod_eq_of_lt hy, Nat.mod_eq_of_lt hx', Nat.mod_eq_of_lt hy']; exact decide_eq_false h
theorem eqW_zero {v : Nat} {b : Bool} (hv : v < PP) (h : decide (FP v = 0) = b) : decide (v % M256 = 0 % M256) = b := by
  rw [← h]; exact decide_eq_decide.2 (FP_zero_iff hv)
set_option maxRecDepth 100000 in
set_option maxHeartbeats 8000000 in
theorem plus_o {x y z : Nat} (w : World) (hO : GlobP 2 0 0 true w) :
    Calls Tryd.prog 79 #[.agg (scells x y z), .agg (pcells 0 0 true)] w fun e w' => e = .returned (.agg (scells x y z)) ∧ Below w.heap.size w w' := by
  have F18 := Lib.hid (eqP_yes (x := 0) (y := 0) (p := true) ⟨rfl, rfl, rfl⟩)
  have hM0 := mm_nil w
  (try unfold WV)
  go_enter Tryd.func79, Tryd.ntmps79
  go_wp2_with (first
    | ((with_reducible change wpList _ _ _ (Oper.mk (some 2) _ _ _ _ _ :: _) _ _); refine mmBox hM0 _ _ (scells x y z) rfl rfl rfl ?_; intro w1 hM1; clear hM0; go_frame)
    | ((with_reducible change wpList _ _ _ (Oper.mk (some 3) _ _ _ _ _ :: _) _ _); refine mmBox hM1 _ _ (pcells 0 0 true) rfl rfl rfl ?_; intro w2 hM2; clear hM1; go_frame)
    | ((with_reducible change wpList _ _ _ (Oper.mk (some 4) _ _ _ _ _ :: _) _ _); refine mmAlloc hM2 _ _ rfl rfl zero_scaled ?_; intro w3 hM3; clear hM2; go_frame)
    | ((with_reducible change wpList _ _ _ (Oper.mk (some 15) _ _ _ _ _ :: _) _ _); refine kBuildW0 rfl rfl ?_; go_frame)
    | ((with_reducible change wpList _ _ _ (Oper.mk (some 5) _ _ _ _ _ :: _) _ _); refine mmAlloc hM3 _ _ rfl rfl zero_Wide ?_; intro w4 hM4; clear hM3; go_frame)
    | ((with_reducible change wpList _ _ _ (Oper.mk none (Op.store _ (Operand.tmp 5) (Operand.tmp 15)) _ _ _ _ :: _) _ _); refine mmStoreAt hM4 0 _ _ _ _ _ _ (wcells 0) rfl rfl rfl rfl rfl (info_WideC _) (by simp only [wcells_size]) (wcells_one _) ?_; intro w5 hM5; dsimp only [List.set] at hM5; clear hM4; go_frame)
    | ((with_reducible change wpList _ _ _ (Oper.mk (some 16) _ _ _ _ _ :: _) _ _); refine kLoadRow _ _ _ _ _ _ rfl rfl rfl (hM5.get 2 rfl) Tryd.underlying30 rfl (info_PointC _ _ _) ?_; go_frame)
    | ((with_reducible change wpList _ _ _ (Oper.mk (some 17) _ _ _ _ _ :: _) _ _); refine kLoadGP _ _ _ _ _ rfl rfl rfl (hO.below hM5.below) ?_; go_frame)
    | ((with_reducible change wpList _ _ _ (Oper.mk (some 18) _ _ _ _ _ :: _) _ _); refine kEqlP _ _ _ 0 0 true 0 0 true true rfl rfl rfl rfl (F18.out) ?_; go_frame)
    | ((with_reducible change wpList _ _ _ (Oper.mk (some 19) _ _ _ _ _ :: _) _ _); refine kLoadRow _ _ _ _ _ _ rfl rfl rfl (hM5.get 3 rfl) Tryd.underlying100 rfl (info_scaledC _ _ _) ?_; go_frame)
    | ((with_reducible change wpList _ _ _ (Oper.mk none (Op.store _ (Operand.tmp 4) (Operand.tmp 19)) _ _ _ _ :: _) _ _); refine mmStoreAt hM5 1 _ _ _ _ _ _ (scells x y z) rfl rfl rfl rfl rfl (info_scaledC _ _ _) (by simp only [scells_size]) (scells_one _ _ _) ?_; intro w6 hM6; dsimp only [List.set] at hM6; clear hM5; go_frame))
  exact result_row Tryd.results79 rfl (hM6.get 1 rfl) Tryd.underlying100 rfl (info_scaledC _ _ _) rfl ⟨rfl, hM6.below⟩
set_option maxRecDepth 100000 in
set_option maxHeartbeats 8000000 in
theorem plus_first {x y z u v : Nat} (lx : x < PP) (ly : y < PP) (lz : z < PP) (lu : u < PP) (lv : v < PP) (hz : z = 0) (w : World) (_hG : Glob 3 PP w) (hO : GlobP 2 0 0 true w) :
    Calls Tryd.prog 79 #[.agg (scells x y z), .agg (pcells u v false)] w fun e w' => e = .returned (.agg (jc ⟨FP u, FP v, 1⟩)) ∧ Below w.heap.size w w' := by
  have mx := lt_M lx
  have my := lt_M ly
  have mz := lt_M lz
  have mu := lt_M lu
  have mv := lt_M lv
  obtain ⟨n1, H1⟩ : ∃ n, Hid (n = 1) := ⟨1, Lib.hid rfl⟩
  have h1 : n1 < 18446744073709551616 := by rw [H1.out]; decide
  have mn1 : n1 < M256 := by rw [H1.out]; decide
  have E1 : (1 : Int) = (n1 : Int) := by rw [H1.out]; rfl
  replace E1 := Lib.hid E1
  have F18 := Lib.hid (eqP_none (x := u) (y := v) (x' := 0) (y' := 0))
  have F23 := Lib.hid (eqlW_yes hz)
  have R := Lib.hid (show Value.agg (scells u v n1) = .agg (jc ⟨FP u, FP v, 1⟩) by rw [H1.out]; unfold jc; rw [← val_of lu rfl, ← val_of lv rfl]; rfl)
  clear hz
  have hM0 := mm_nil w
  (try unfold WV)
  go_enter Tryd.func79, Tryd.ntmps79
  go_wp2_with (first
    | ((with_reducible change wpList _ _ _ (Oper.mk (some 2) _ _ _ _ _ :: _) _ _); refine mmBox hM0 _ _ (scells x y z) rfl rfl rfl ?_; intro w1 hM1; clear hM0; go_frame)
    | ((with_reducible change wpList _ _ _ (Oper.mk (some 3) _ _ _ _ _ :: _) _ _); refine mmBox hM1 _ _ (pcells u v false) rfl rfl rfl ?_; intro w2 hM2; clear hM1; go_frame)
    | ((with_reducible change wpList _ _ _ (Oper.mk (some 4) _ _ _ _ _ :: _) _ _); refine mmAlloc hM2 _ _ rfl rfl zero_scaled ?_; intro w3 hM3; clear hM2; go_frame)
    | ((with_reducible change wpList _ _ _ (Oper.mk (some 15) _ _ _ _ _ :: _) _ _); refine kBuildW0 rfl rfl ?_; go_frame)
    | ((with_reducible change wpList _ _ _ (Oper.mk (some 5) _ _ _ _ _ :: _) _ _); refine mmAlloc hM3 _ _ rfl rfl zero_Wide ?_; intro w4 hM4; clear hM3; go_frame)
    | ((with_reducible change wpList _ _ _ (Oper.mk none (Op.store _ (Operand.tmp 5) (Operand.tmp 15)) _ _ _ _ :: _) _ _); refine mmStoreAt hM4 0 _ _ _ _ _ _ (wcells 0) rfl rfl rfl rfl rfl (info_WideC _) (by simp only [wcells_size]) (wcells_one _) ?_; intro w5 hM5; dsimp only [List.set] at hM5; clear hM4; go_frame)
    | ((with_reducible change wpList _ _ _ (Oper.mk (some 16) _ _ _ _ _ :: _) _ _); refine kLoadRow _ _ _ _ _ _ rfl rfl rfl (hM5.get 2 rfl) Tryd.underlying30 rfl (info_PointC _ _ _) ?_; go_frame)
    | ((with_reducible change wpList _ _ _ (Oper.mk (some 17) _ _ _ _ _ :: _) _ _); refine kLoadGP _ _ _ _ _ rfl rfl rfl (hO.below hM5.below) ?_; go_frame)
    | ((with_reducible change wpList _ _ _ (Oper.mk (some 18) _ _ _ _ _ :: _) _ _); refine kEqlP _ _ _ u v false 0 0 true false rfl rfl rfl rfl (F18.out) ?_; go_frame)
    | ((with_reducible change wpList _ _ _ (Oper.mk (some 20) _ _ _ _ _ :: _) _ _); refine kFieldScaled2 _ _ rfl rfl rfl ?_; go_frame)
    | ((with_reducible change wpList _ _ _ (Oper.mk (some 21) _ _ _ _ _ :: _) _ _); refine kLoadAs _ _ _ _ _ 4 _ _ _ rfl rfl rfl (hM5.get 3 rfl) Tryd.underlying24 rfl info_Wide (by rw [scells_size]; decide) (scells_at8 _ _ _) ?_; go_frame)
    | ((with_reducible change wpList _ _ _ (Oper.mk (some 22) _ _ _ _ _ :: _) _ _); refine kLoadRow _ _ _ _ _ _ rfl rfl rfl (hM5.get 0 rfl) Tryd.underlying24 rfl (info_WideC _) ?_; go_frame)
    | ((with_reducible change wpList _ _ _ (Oper.mk (some 23) _ _ _ _ _ :: _) _ _); refine kEqlW _ _ _ (z) (0) true rfl rfl rfl rfl (F23.out) ?_; go_frame))
  refine region_symT 6 _ [] [] [.val (.pointer (some ⟨w1.heap.size, 0, none⟩)), .val (.agg (wcells u)), .val (.pointer (some ⟨w1.heap.size, 4, none⟩)), .val (.agg (wcells v)), .val (.agg (wcells n1)), .val (.agg (scells u v n1))] rfl (by kernel_rfl) (by kernel_rfl) (by kernel_rfl) (by kernel_rfl) rfl (by intro s hs; cases hs) (steps_all ⟨?_, ?_, ?_, ?_, ?_, ?_, trivial⟩) ?_
  · exact fun A W sz ot hbel ap dp => kFieldPoint0 _ _ rfl rfl (sO ot 3) (sE ap sz rfl)
  · exact fun A W sz ot hbel ap dp => kLoadAs _ _ _ _ _ 4 _ _ _ rfl rfl (sD dp 0 .data) ((hM5.get 2 rfl).on hbel) Tryd.underlying24 rfl info_Wide (by rw [pcells_size]; decide) (pcells_at0 _ _ _) (sE ap sz rfl)
  · exact fun A W sz ot hbel ap dp => kFieldPoint1 _ _ rfl rfl (sO ot 3) (sE ap sz rfl)
  · exact fun A W sz ot hbel ap dp => kLoadAs _ _ _ _ _ 4 _ _ _ rfl rfl (sD dp 2 .data) ((hM5.get 2 rfl).on hbel) Tryd.underlying24 rfl info_Wide (by rw [pcells_size]; decide) (pcells_at4 _ _ _) (sE ap sz rfl)
  · exact fun A W sz ot hbel ap dp => sCall1 13 rfl rfl (sC (wOf_lit n1 1 h1 E1.out W) ap sz (fun _ => rfl))
  · exact fun A W sz ot hbel ap dp => kBuildScaled3 _ _ _ u v n1 rfl rfl (sD dp 1 .data) (sD dp 3 .data) (sD dp 4 .data) (sE ap sz rfl)
  intro w6 hB6
  dsimp only [AllV]
  intro hap
  dsimp only [putAll, List.take, List.drop]
  go_frame
  have hM6 := hM5.on hB6
  clear hB6 hM5 hap
  go_wp2_with (first
    | ((with_reducible change wpList _ _ _ (Oper.mk none (Op.store _ (Operand.tmp 4) (Operand.tmp 29)) _ _ _ _ :: _) _ _); refine mmStoreAt hM6 1 _ _ _ _ _ _ (scells u v n1) rfl rfl rfl rfl rfl (info_scaledC _ _ _) (by simp only [scells_size]) (scells_one _ _ _) ?_; intro w7 hM7; dsimp only [List.set] at hM7; clear hM6; go_frame))
  exact result_row Tryd.results79 rfl (hM7.get 1 rfl) Tryd.underlying100 rfl (info_scaledC _ _ _) rfl ⟨by rw [R.out], hM7.below⟩
set_option maxRecDepth 100000 in
set_option maxHeartbeats 8000000 in
theorem plus_same {x y z u v : Nat} (lx : x < PP) (ly : y < PP) (lz : z < PP) (lu : u < PP) (lv : v < PP) (hz : FP z ≠ 0) (ha : (⟨FP x, FP y, FP z⟩ : Jac PP).along (FP u) = 0) (hu : (⟨FP x, FP y, FP z⟩ : Jac PP).up (FP v) = 0) (w : World) (hG : Glob 3 PP w) (hO : GlobP 2 0 0 true w) :
    Calls Tryd.prog 79 #[.agg (scells x y z), .agg (pcells u v false)] w fun e w' => e = .returned (.agg (jc (Jac.twice ⟨FP x, FP y, FP z⟩))) ∧ Below w.heap.size w w' := by
  obtain ⟨m, Hm⟩ : ∃ m, Hid (m = PP) := ⟨_, Lib.hid rfl⟩
  have hm : Modu m := by rw [Hm.out]; exact modu_P
  rw [← Hm.out] at hG
  have mx := lt_M lx
  have my := lt_M ly
  have mz := lt_M lz
  have mu := lt_M lu
  have mv := lt_M lv
  have F18 := Lib.hid (eqP_none (x := u) (y := v) (x' := 0) (y' := 0))
  have F23 := Lib.hid (show decide (z % M256 = 0 % M256) = false from eqW_zero lz (decide_eq_false hz))
  obtain ⟨v36, Hv36, mv36⟩ := nameMod hm (z * z)
  obtain ⟨v42, Hv42, mv42⟩ := nameMod hm (u * v36)
  obtain ⟨v45, Hv45, mv45⟩ := nameMod hm (v42 % m + m - x % m)
  obtain ⟨v54, Hv54, mv54⟩ := nameMod hm (v36 * z)
  obtain ⟨v55, Hv55, mv55⟩ := nameMod hm (v * v54)
  obtain ⟨v58, Hv58, mv58⟩ := nameMod hm (v55 % m + m - y % m)
  have Ev36 := FPm_mul Hm.out Hv36.out
  have Ev42 := FPm_mul Hm.out Hv42.out
  have Ev45 := FPm_sub Hm.out Hv45.out
  have Lv45 := FPm_lt Hm.out Hv45.out
  have Ev54 := FPm_mul Hm.out Hv54.out
  have Ev55 := FPm_mul Hm.out Hv55.out
  have Ev58 := FPm_sub Hm.out Hv58.out
  have Lv58 := FPm_lt Hm.out Hv58.out
  have RA : FP v45 = (⟨FP x, FP y, FP z⟩ : Jac PP).along (FP u) := by simp only [Ev45, Ev42, Ev36]; rfl
  have RU : FP v58 = (⟨FP x, FP y, FP z⟩ : Jac PP).up (FP v) := by simp only [Ev58, Ev55, Ev54, Ev36]; rfl
  have F61 := Lib.hid (show decide (v45 % M256 = 0 % M256) = true from eqW_zero Lv45 (by rw [RA]; exact decide_eq_true ha))
  have F65 := Lib.hid (show decide (v58 % M256 = 0 % M256) = true from eqW_zero Lv58 (by rw [RU]; exact decide_eq_true hu))
  clear RA RU hz ha hu Ev36 Ev42 Ev45 Lv45 Ev54 Ev55 Ev58 Lv58
  have hM0 := mm_nil w
  (try unfold WV)
  go_enter Tryd.func79, Tryd.ntmps79
  go_wp2_with (first
    | ((with_reducible change wpList _ _ _ (Oper.mk (some 2) _ _ _ _ _ :: _) _ _); refine mmBox hM0 _ _ (scells x y z) rfl rfl rfl ?_; intro w1 hM1; clear hM0; go_frame)
    | ((with_reducible change wpList _ _ _ (Oper.mk (some 3) _ _ _ _ _ :: _) _ _); refine mmBox hM1 _ _ (pcells u v false) rfl rfl rfl ?_; intro w2 hM2; clear hM1; go_frame)
    | ((with_reducible change wpList _ _ _ (Oper.mk (some 4) _ _ _ _ _ :: _) _ _); refine mmAlloc hM2 _ _ rfl rfl zero_scaled ?_; intro w3 hM3; clear hM2; go_frame)
    | ((with_reducible change wpList _ _ _ (Oper.mk (some 15) _ _ _ _ _ :: _) _ _); refine kBuildW0 rfl rfl ?_; go_frame)
    | ((with_reducible change wpList _ _ _ (Oper.mk (some 5) _ _ _ _ _ :: _) _ _); refine mmAlloc hM3 _ _ rfl rfl zero_Wide ?_; intro w4 hM4; clear hM3; go_frame)
    | ((with_reducible change wpList _ _ _ (Oper.mk none (Op.store _ (Operand.tmp 5) (Operand.tmp 15)) _ _ _ _ :: _) _ _); refine mmStoreAt hM4 0 _ _ _ _ _ _ (wcells 0) rfl rfl rfl rfl rfl (info_WideC _) (by simp only [wcells_size]) (wcells_one _) ?_; intro w5 hM5; dsimp only [List.set] at hM5; clear hM4; go_frame)
    | ((with_reducible change wpList _ _ _ (Oper.mk (some 16) _ _ _ _ _ :: _) _ _); refine kLoadRow _ _ _ _ _ _ rfl rfl rfl (hM5.get 2 rfl) Tryd.underlying30 rfl (info_PointC _ _ _) ?_; go_frame)
    | ((with_reducible change wpList _ _ _ (Oper.mk (some 17) _ _ _ _ _ :: _) _ _); refine kLoadGP _ _ _ _ _ rfl rfl rfl (hO.below hM5.below) ?_; go_frame)
    | ((with_reducible change wpList _ _ _ (Oper.mk (some 18) _ _ _ _ _ :: _) _ _); refine kEqlP _ _ _ u v false 0 0 true false rfl rfl rfl rfl (F18.out) ?_; go_frame)
    | ((with_reducible change wpList _ _ _ (Oper.mk (some 20) _ _ _ _ _ :: _) _ _); refine kFieldScaled2 _ _ rfl rfl rfl ?_; go_frame)
    | ((with_reducible change wpList _ _ _ (Oper.mk (some 21) _ _ _ _ _ :: _) _ _); refine kLoadAs _ _ _ _ _ 4 _ _ _ rfl rfl rfl (hM5.get 3 rfl) Tryd.underlying24 rfl info_Wide (by rw [scells_size]; decide) (scells_at8 _ _ _) ?_; go_frame)
    | ((with_reducible change wpList _ _ _ (Oper.mk (some 22) _ _ _ _ _ :: _) _ _); refine kLoadRow _ _ _ _ _ _ rfl rfl rfl (hM5.get 0 rfl) Tryd.underlying24 rfl (info_WideC _) ?_; go_frame)
    | ((with_reducible change wpList _ _ _ (Oper.mk (some 23) _ _ _ _ _ :: _) _ _); refine kEqlW _ _ _ (z) (0) false rfl rfl rfl rfl (F23.out) ?_; go_frame)
    | (go_at_call 74; refine (fP_any m _ (hG.below hM5.below)).mono ?_; rintro e w6 ⟨rfl, hR6, hB6⟩; have hM6 := hM5.new hR6 hB6; clear hB6 hR6 hM5; go_frame)
    | ((with_reducible change wpList _ _ _ (Oper.mk (some 32) _ _ _ _ _ :: _) _ _); refine kFieldScaled2 _ _ rfl rfl rfl ?_; go_frame)
    | ((with_reducible change wpList _ _ _ (Oper.mk (some 33) _ _ _ _ _ :: _) _ _); refine kLoadAs _ _ _ _ _ 4 _ _ _ rfl rfl rfl (hM6.get 4 rfl) Tryd.underlying24 rfl info_Wide (by rw [scells_size]; decide) (scells_at8 _ _ _) ?_; go_frame)
    | ((with_reducible change wpList _ _ _ (Oper.mk (some 34) _ _ _ _ _ :: _) _ _); refine kFieldScaled2 _ _ rfl rfl rfl ?_; go_frame)
    | ((with_reducible change wpList _ _ _ (Oper.mk (some 35) _ _ _ _ _ :: _) _ _); refine kLoadAs _ _ _ _ _ 4 _ _ _ rfl rfl rfl (hM6.get 4 rfl) Tryd.underlying24 rfl info_Wide (by rw [scells_size]; decide) (scells_at8 _ _ _) ?_; go_frame)
    | (go_at_call 34; (with_reducible change Calls _ _ #[Value.pointer (some ⟨w5.heap.size, 0, none⟩), Value.agg (wcells z), Value.agg (wcells z)] _ _); refine (fMul_as hm (w5.heap.size) mz mz Hv36.out _ (hM6.get 0 rfl)).mono ?_; rintro e w7 ⟨rfl, hB7⟩; have hM7 := hM6.on hB7; clear hB7 hM6; (try unfold WV); go_frame)
    | ((with_reducible change wpList _ _ _ (Oper.mk (some 7) _ _ _ _ _ :: _) _ _); refine mmAlloc hM7 _ _ rfl rfl zero_Wide ?_; intro w8 hM8; clear hM7; go_frame)
    | ((with_reducible change wpList _ _ _ (Oper.mk none (Op.store _ (Operand.tmp 7) (Operand.tmp 36)) _ _ _ _ :: _) _ _); refine mmStoreAt hM8 0 _ _ _ _ _ _ (wcells v36) rfl rfl rfl rfl rfl (info_WideC _) (by simp only [wcells_size]) (wcells_one _) ?_; intro w9 hM9; dsimp only [List.set] at hM9; clear hM8; go_frame))
  refine region_symT 10 _ [9] [8] [.val (.pointer (some ⟨w5.heap.size, 0, none⟩)), .val (.pointer (some ⟨w5.heap.size, 0, none⟩)), .val (.pointer (some ⟨w1.heap.size, 0, none⟩)), .val (.agg (wcells u)), .val (.agg (wcells v36)), .val (.agg (wcells v42)), .val (.pointer (some ⟨w.heap.size, 0, none⟩)), .val (.agg (wcells x)), .val (.agg (wcells v45)), .hold w9.heap.size 24 (wcells 0)] rfl (by kernel_rfl) (by kernel_rfl) (by kernel_rfl) (by kernel_rfl) rfl (by intro s hs; simp only [List.mem_cons, List.not_mem_nil, or_false] at hs; rcases hs with rfl <;> rfl) (steps_all ⟨?_, ?_, ?_, ?_, ?_, ?_, ?_, ?_, ?_, ?_, trivial⟩) ?_
  · exact fun A W sz ot hbel ap dp => kMoveV _ _ rfl rfl (sO ot 6) (sE ap sz rfl)
  · exact fun A W sz ot hbel ap dp => kMoveV _ _ rfl rfl (sO ot 6) (sE ap sz rfl)
  · exact fun A W sz ot hbel ap dp => kFieldPoint0 _ _ rfl rfl (sO ot 3) (sE ap sz rfl)
  · exact fun A W sz ot hbel ap dp => kLoadAs _ _ _ _ _ 4 _ _ _ rfl rfl (sD dp 2 .data) ((hM9.get 4 rfl).on hbel) Tryd.underlying24 rfl info_Wide (by rw [pcells_size]; decide) (pcells_at0 _ _ _) (sE ap sz rfl)
  · exact fun A W sz ot hbel ap dp => kLoadRow _ _ _ _ _ _ rfl rfl (sO ot 7) ((hM9.get 0 rfl).on hbel) Tryd.underlying24 rfl (info_WideC _) (sE ap sz rfl)
  · exact fun A W sz ot hbel ap dp => sCall3 34 rfl (sD dp 1 .data) (sD dp 3 .data) (sD dp 4 .data) (sC (fMul_as hm (w5.heap.size) mu mv36 Hv42.out W ((hM9.get 1 rfl).on hbel)) ap sz (fun _ => rfl))
  · exact fun A W sz ot hbel ap dp => kFieldScaled0 _ _ rfl rfl (sO ot 2) (sE ap sz rfl)
  · exact fun A W sz ot hbel ap dp => kLoadAs _ _ _ _ _ 4 _ _ _ rfl rfl (sD dp 6 .data) ((hM9.get 5 rfl).on hbel) Tryd.underlying24 rfl info_Wide (by rw [scells_size]; decide) (scells_at0 _ _ _) (sE ap sz rfl)
  · exact fun A W sz ot hbel ap dp => sCall3 36 rfl (sD dp 0 .data) (sD dp 5 .data) (sD dp 7 .data) (sC (fSub_as hm (w5.heap.size) mv42 mx Hv45.out W ((hM9.get 1 rfl).on hbel)) ap sz (fun _ => rfl))
  · intro A W sz ot hbel ap dp
    refine kAllocL _ _ rfl rfl zero_Wide ?_
    intro r hR hl hBc
    exact (sA ap sz hl hBc ⟨_, rfl, hbel.size, hR⟩ rfl)
  intro w10 hB10
  dsimp only [AllV]
  intro g10_8 hg10_8 hR10_8
  intro hap
  dsimp only [putAll, List.take, List.drop]
  go_frame
  have hM10 := hM9.on hB10
  replace hM10 := hM10.cons hR10_8 (Nat.le_trans hM9.size hg10_8) (fun p hp => by have := hM9.lt hp; omega)
  clear hB10 hM9 hap hg10_8 hR10_8
  go_wp2_with (first
    | ((with_reducible change wpList _ _ _ (Oper.mk none (Op.store _ (Operand.tmp 8) (Operand.tmp 45)) _ _ _ _ :: _) _ _); refine mmStoreAt hM10 0 _ _ _ _ _ _ (wcells v45) rfl rfl rfl rfl rfl (info_WideC _) (by simp only [wcells_size]) (wcells_one _) ?_; intro w11 hM11; dsimp only [List.set] at hM11; clear hM10; go_frame))
  refine region_symT 14 _ [13] [9] [.val (.pointer (some ⟨w5.heap.size, 0, none⟩)), .val (.pointer (some ⟨w5.heap.size, 0, none⟩)), .val (.pointer (some ⟨w1.heap.size, 4, none⟩)), .val (.agg (wcells v)), .val (.pointer (some ⟨w5.heap.size, 0, none⟩)), .val (.agg (wcells v36)), .val (.pointer (some ⟨w.heap.size, 8, none⟩)), .val (.agg (wcells z)), .val (.agg (wcells v54)), .val (.agg (wcells v55)), .val (.pointer (some ⟨w.heap.size, 4, none⟩)), .val (.agg (wcells y)), .val (.agg (wcells v58)), .hold w11.heap.size 24 (wcells 0)] rfl (by kernel_rfl) (by kernel_rfl) (by kernel_rfl) (by kernel_rfl) rfl (by intro s hs; simp only [List.mem_cons, List.not_mem_nil, or_false] at hs; rcases hs with rfl <;> rfl) (steps_all ⟨?_, ?_, ?_, ?_, ?_, ?_, ?_, ?_, ?_, ?_, ?_, ?_, ?_, ?_, trivial⟩) ?_
  · exact fun A W sz ot hbel ap dp => kMoveV _ _ rfl rfl (sO ot 6) (sE ap sz rfl)
  · exact fun A W sz ot hbel ap dp => kMoveV _ _ rfl rfl (sO ot 6) (sE ap sz rfl)
  · exact fun A W sz ot hbel ap dp => kFieldPoint1 _ _ rfl rfl (sO ot 3) (sE ap sz rfl)
  · exact fun A W sz ot hbel ap dp => kLoadAs _ _ _ _ _ 4 _ _ _ rfl rfl (sD dp 2 .data) ((hM11.get 5 rfl).on hbel) Tryd.underlying24 rfl info_Wide (by rw [pcells_size]; decide) (pcells_at4 _ _ _) (sE ap sz rfl)
  · exact fun A W sz ot hbel ap dp => kMoveV _ _ rfl rfl (sO ot 6) (sE ap sz rfl)
  · exact fun A W sz ot hbel ap dp => kLoadRow _ _ _ _ _ _ rfl rfl (sO ot 7) ((hM11.get 1 rfl).on hbel) Tryd.underlying24 rfl (info_WideC _) (sE ap sz rfl)
  · exact fun A W sz ot hbel ap dp => kFieldScaled2 _ _ rfl rfl (sO ot 2) (sE ap sz rfl)
  · exact fun A W sz ot hbel ap dp => kLoadAs _ _ _ _ _ 4 _ _ _ rfl rfl (sD dp 6 .data) ((hM11.get 6 rfl).on hbel) Tryd.underlying24 rfl info_Wide (by rw [scells_size]; decide) (scells_at8 _ _ _) (sE ap sz rfl)
  · exact fun A W sz ot hbel ap dp => sCall3 34 rfl (sD dp 4 .data) (sD dp 5 .data) (sD dp 7 .data) (sC (fMul_as hm (w5.heap.size) mv36 mz Hv54.out W ((hM11.get 2 rfl).on hbel)) ap sz (fun _ => rfl))
  · exact fun A W sz ot hbel ap dp => sCall3 34 rfl (sD dp 1 .data) (sD dp 3 .data) (sD dp 8 .data) (sC (fMul_as hm (w5.heap.size) mv mv54 Hv55.out W ((hM11.get 2 rfl).on hbel)) ap sz (fun _ => rfl))
  · exact fun A W sz ot hbel ap dp => kFieldScaled1 _ _ rfl rfl (sO ot 2) (sE ap sz rfl)
  · exact fun A W sz ot hbel ap dp => kLoadAs _ _ _ _ _ 4 _ _ _ rfl rfl (sD dp 10 .data) ((hM11.get 6 rfl).on hbel) Tryd.underlying24 rfl info_Wide (by rw [scells_size]; decide) (scells_at4 _ _ _) (sE ap sz rfl)
  · exact fun A W sz ot hbel ap dp => sCall3 36 rfl (sD dp 0 .data) (sD dp 9 .data) (sD dp 11 .data) (sC (fSub_as hm (w5.heap.size) mv55 my Hv58.out W ((hM11.get 2 rfl).on hbel)) ap sz (fun _ => rfl))
  · intro A W sz ot hbel ap dp
    refine kAllocL _ _ rfl rfl zero_Wide ?_
    intro r hR hl hBc
    exact (sA ap sz hl hBc ⟨_, rfl, hbel.size, hR⟩ rfl)
  intro w12 hB12
  dsimp only [AllV]
  intro g12_9 hg12_9 hR12_9
  intro hap
  dsimp only [putAll, List.take, List.drop]
  go_frame
  have hM12 := hM11.on hB12
  replace hM12 := hM12.cons hR12_9 (Nat.le_trans hM11.size hg12_9) (fun p hp => by have := hM11.lt hp; omega)
  clear hB12 hM11 hap hg12_9 hR12_9
  go_wp2_with (first
    | ((with_reducible change wpList _ _ _ (Oper.mk none (Op.store _ (Operand.tmp 9) (Operand.tmp 58)) _ _ _ _ :: _) _ _); refine mmStoreAt hM12 0 _ _ _ _ _ _ (wcells v58) rfl rfl rfl rfl rfl (info_WideC _) (by simp only [wcells_size]) (wcells_one _) ?_; intro w13 hM13; dsimp only [List.set] at hM13; clear hM12; go_frame)
    | ((with_reducible change wpList _ _ _ (Oper.mk (some 59) _ _ _ _ _ :: _) _ _); refine kLoadRow _ _ _ _ _ _ rfl rfl rfl (hM13.get 1 rfl) Tryd.underlying24 rfl (info_WideC _) ?_; go_frame)
    | ((with_reducible change wpList _ _ _ (Oper.mk (some 60) _ _ _ _ _ :: _) _ _); refine kLoadRow _ _ _ _ _ _ rfl rfl rfl (hM13.get 4 rfl) Tryd.underlying24 rfl (info_WideC _) ?_; go_frame)
    | ((with_reducible change wpList _ _ _ (Oper.mk (some 61) _ _ _ _ _ :: _) _ _); refine kEqlW _ _ _ (v45) (0) true rfl rfl rfl rfl (F61.out) ?_; go_frame)
    | ((with_reducible change wpList _ _ _ (Oper.mk (some 63) _ _ _ _ _ :: _) _ _); refine kLoadRow _ _ _ _ _ _ rfl rfl rfl (hM13.get 0 rfl) Tryd.underlying24 rfl (info_WideC _) ?_; go_frame)
    | ((with_reducible change wpList _ _ _ (Oper.mk (some 64) _ _ _ _ _ :: _) _ _); refine kLoadRow _ _ _ _ _ _ rfl rfl rfl (hM13.get 4 rfl) Tryd.underlying24 rfl (info_WideC _) ?_; go_frame)
    | ((with_reducible change wpList _ _ _ (Oper.mk (some 65) _ _ _ _ _ :: _) _ _); refine kEqlW _ _ _ (v58) (0) true rfl rfl rfl rfl (F65.out) ?_; go_frame)
    | ((with_reducible change wpList _ _ _ (Oper.mk (some 67) _ _ _ _ _ :: _) _ _); refine kLoadRow _ _ _ _ _ _ rfl rfl rfl (hM13.get 7 rfl) Tryd.underlying100 rfl (info_scaledC _ _ _) ?_; go_frame)
    | (go_at_call 77; (with_reducible change Calls _ _ #[Value.agg (scells x y z)] _ _); refine (twice_nat Hm.out lx ly lz _ (hG.below hM13.below)).mono ?_; rintro e w14 ⟨rfl, hB14⟩; have hM14 := hM13.on hB14; clear hB14 hM13; (try unfold WV); go_frame)
    | ((with_reducible change wpList _ _ _ (Oper.mk none (Op.store _ (Operand.tmp 4) (Operand.tmp 68)) _ _ _ _ :: _) _ _); refine mmStoreAt hM14 5 _ _ _ _ _ _ (jc (Jac.twice ⟨FP x, FP y, FP z⟩)) rfl rfl rfl rfl rfl (info_jc _) (by simp only [jc_size, scells_size]) (jc_one _) ?_; intro w15 hM15; dsimp only [List.set] at hM15; clear hM14; go_frame))
  exact result_row Tryd.results79 rfl (hM15.get 5 rfl) Tryd.underlying100 rfl (info_jc _) rfl ⟨rfl, hM15.below⟩
set_option maxRecDepth 100000 in
set_option maxHeartbeats 8000000 in
theorem plus_across {x y z u v : Nat} (lx : x < PP) (ly : y < PP) (lz : z < PP) (lu : u < PP) (lv : v < PP) (hz : FP z ≠ 0) (ha : (⟨FP x, FP y, FP z⟩ : Jac PP).along (FP u) = 0) (hu : (⟨FP x, FP y, FP z⟩ : Jac PP).up (FP v) ≠ 0) (w : World) (hG : Glob 3 PP w) (hO : GlobP 2 0 0 true w) :
    Calls Tryd.prog 79 #[.agg (scells x y z), .agg (pcells u v false)] w fun e w' => e = .returned (.agg (jc (Jac.chord ⟨FP x, FP y, FP z⟩ (FP u) (FP v)))) ∧ Below w.heap.size w w' := by
  obtain ⟨m, Hm⟩ : ∃ m, Hid (m = PP) := ⟨_, Lib.hid rfl⟩
  have hm : Modu m := by rw [Hm.out]; exact modu_P
  rw [← Hm.out] at hG
  have mx := lt_M lx
  have my := lt_M ly
  have mz := lt_M lz
  have mu := lt_M lu
  have mv := lt_M lv
  have F18 := Lib.hid (eqP_none (x := u) (y := v) (x' := 0) (y' := 0))
  have F23 := Lib.hid (show decide (z % M256 = 0 % M256) = false from eqW_zero lz (decide_eq_false hz))
  obtain ⟨v36, Hv36, mv36⟩ := nameMod hm (z * z)
  obtain ⟨v42, Hv42, mv42⟩ := nameMod hm (u * v36)
  obtain ⟨v45, Hv45, mv45⟩ := nameMod hm (v42 % m + m - x % m)
  obtain ⟨v54, Hv54, mv54⟩ := nameMod hm (v36 * z)
  obtain ⟨v55, Hv55, mv55⟩ := nameMod hm (v * v54)
  obtain ⟨v58, Hv58, mv58⟩ := nameMod hm (v55 % m + m - y % m)
  obtain ⟨v72, Hv72, mv72⟩ := nameMod hm (v45 * v45)
  obtain ⟨v76, Hv76, mv76⟩ := nameMod hm (v72 * v45)
  obtain ⟨v81, Hv81, mv81⟩ := nameMod hm (x * v72)
  obtain ⟨v87, Hv87, mv87⟩ := nameMod hm (v58 * v58)
  obtain ⟨v89, Hv89, mv89⟩ := nameMod hm (v87 % m + m - v76 % m)
  obtain ⟨v93, Hv93, mv93⟩ := nameMod hm (v81 + v81)
  obtain ⟨v94, Hv94, mv94⟩ := nameMod hm (v89 % m + m - v93 % m)
  obtain ⟨v101, Hv101, mv101⟩ := nameMod hm (v81 % m + m - v94 % m)
  obtain ⟨v102, Hv102, mv102⟩ := nameMod hm (v58 * v101)
  obtain ⟨v107, Hv107, mv107⟩ := nameMod hm (y * v76)
  obtain ⟨v108, Hv108, mv108⟩ := nameMod hm (v102 % m + m - v107 % m)
  obtain ⟨v115, Hv115, mv115⟩ := nameMod hm (z * v45)
  have Ev36 := FPm_mul Hm.out Hv36.out
  have Ev42 := FPm_mul Hm.out Hv42.out
  have Ev45 := FPm_sub Hm.out Hv45.out
  have Lv45 := FPm_lt Hm.out Hv45.out
  have Ev54 := FPm_mul Hm.out Hv54.out
  have Ev55 := FPm_mul Hm.out Hv55.out
  have Ev58 := FPm_sub Hm.out Hv58.out
  have Lv58 := FPm_lt Hm.out Hv58.out
  have Ev72 := FPm_mul Hm.out Hv72.out
  have Ev76 := FPm_mul Hm.out Hv76.out
  have Ev81 := FPm_mul Hm.out Hv81.out
  have Ev87 := FPm_mul Hm.out Hv87.out
  have Ev89 := FPm_sub Hm.out Hv89.out
  have Ev93 := FPm_add Hm.out Hv93.out
  have Ev94 := FPm_sub Hm.out Hv94.out
  have Lv94 := FPm_lt Hm.out Hv94.out
  have Ev101 := FPm_sub Hm.out Hv101.out
  have Ev102 := FPm_mul Hm.out Hv102.out
  have Ev107 := FPm_mul Hm.out Hv107.out
  have Ev108 := FPm_sub Hm.out Hv108.out
  have Lv108 := FPm_lt Hm.out Hv108.out
  have Ev115 := FPm_mul Hm.out Hv115.out
  have Lv115 := FPm_lt Hm.out Hv115.out
  have RA : FP v45 = (⟨FP x, FP y, FP z⟩ : Jac PP).along (FP u) := by simp only [Ev45, Ev42, Ev36]; rfl
  have RU : FP v58 = (⟨FP x, FP y, FP z⟩ : Jac PP).up (FP v) := by simp only [Ev58, Ev55, Ev54, Ev36]; rfl
  have F61 := Lib.hid (show decide (v45 % M256 = 0 % M256) = true from eqW_zero Lv45 (by rw [RA]; exact decide_eq_true ha))
  have F65 := Lib.hid (show decide (v58 % M256 = 0 % M256) = false from eqW_zero Lv58 (by rw [RU]; exact decide_eq_false hu))
  have RX : v94 = (Jac.chord ⟨FP x, FP y, FP z⟩ (FP u) (FP v)).x.val := val_of Lv94 (by simp only [Ev94, Ev89, Ev87, Ev58, Ev55, Ev54, Ev36, Ev76, Ev72, Ev45, Ev42, Ev93, Ev81]; rfl)
  have RY : v108 = (Jac.chord ⟨FP x, FP y, FP z⟩ (FP u) (FP v)).y.val := val_of Lv108 (by simp only [Ev108, Ev102, Ev58, Ev55, Ev54, Ev36, Ev101, Ev81, Ev72, Ev45, Ev42, Ev94, Ev89, Ev87, Ev76, Ev93, Ev107]; rfl)
  have RZ : v115 = (Jac.chord ⟨FP x, FP y, FP z⟩ (FP u) (FP v)).z.val := val_of Lv115 (by simp only [Ev115, Ev45, Ev42, Ev36]; rfl)
  have R := Lib.hid (show Value.agg (scells v94 v108 v115) = .agg (jc (Jac.chord ⟨FP x, FP y, FP z⟩ (FP u) (FP v))) by rw [RX, RY, RZ]; rfl)
  clear RX RY RZ
  clear RA RU hz ha hu Ev36 Ev42 Ev45 Lv45 Ev54 Ev55 Ev58 Lv58 Ev72 Ev76 Ev81 Ev87 Ev89 Ev93 Ev94 Lv94 Ev101 Ev102 Ev107 Ev108 Lv108 Ev115 Lv115
  have hM0 := mm_nil w
  (try unfold WV)
  go_enter Tryd.func79, Tryd.ntmps79
  go_wp2_with (first
    | ((with_reducible change wpList _ _ _ (Oper.mk (some 2) _ _ _ _ _ :: _) _ _); refine mmBox hM0 _ _ (scells x y z) rfl rfl rfl ?_; intro w1 hM1; clear hM0; go_frame)
    | ((with_reducible change wpList _ _ _ (Oper.mk (some 3) _ _ _ _ _ :: _) _ _); refine mmBox hM1 _ _ (pcells u v false) rfl rfl rfl ?_; intro w2 hM2; clear hM1; go_frame)
    | ((with_reducible change wpList _ _ _ (Oper.mk (some 4) _ _ _ _ _ :: _) _ _); refine mmAlloc hM2 _ _ rfl rfl zero_scaled ?_; intro w3 hM3; clear hM2; go_frame)
    | ((with_reducible change wpList _ _ _ (Oper.mk (some 15) _ _ _ _ _ :: _) _ _); refine kBuildW0 rfl rfl ?_; go_frame)
    | ((with_reducible change wpList _ _ _ (Oper.mk (some 5) _ _ _ _ _ :: _) _ _); refine mmAlloc hM3 _ _ rfl rfl zero_Wide ?_; intro w4 hM4; clear hM3; go_frame)
    | ((with_reducible change wpList _ _ _ (Oper.mk none (Op.store _ (Operand.tmp 5) (Operand.tmp 15)) _ _ _ _ :: _) _ _); refine mmStoreAt hM4 0 _ _ _ _ _ _ (wcells 0) rfl rfl rfl rfl rfl (info_WideC _) (by simp only [wcells_size]) (wcells_one _) ?_; intro w5 hM5; dsimp only [List.set] at hM5; clear hM4; go_frame)
    | ((with_reducible change wpList _ _ _ (Oper.mk (some 16) _ _ _ _ _ :: _) _ _); refine kLoadRow _ _ _ _ _ _ rfl rfl rfl (hM5.get 2 rfl) Tryd.underlying30 rfl (info_PointC _ _ _) ?_; go_frame)
    | ((with_reducible change wpList _ _ _ (Oper.mk (some 17) _ _ _ _ _ :: _) _ _); refine kLoadGP _ _ _ _ _ rfl rfl rfl (hO.below hM5.below) ?_; go_frame)
    | ((with_reducible change wpList _ _ _ (Oper.mk (some 18) _ _ _ _ _ :: _) _ _); refine kEqlP _ _ _ u v false 0 0 true false rfl rfl rfl rfl (F18.out) ?_; go_frame)
    | ((with_reducible change wpList _ _ _ (Oper.mk (some 20) _ _ _ _ _ :: _) _ _); refine kFieldScaled2 _ _ rfl rfl rfl ?_; go_frame)
    | ((with_reducible change wpList _ _ _ (Oper.mk (some 21) _ _ _ _ _ :: _) _ _); refine kLoadAs _ _ _ _ _ 4 _ _ _ rfl rfl rfl (hM5.get 3 rfl) Tryd.underlying24 rfl info_Wide (by rw [scells_size]; decide) (scells_at8 _ _ _) ?_; go_frame)
    | ((with_reducible change wpList _ _ _ (Oper.mk (some 22) _ _ _ _ _ :: _) _ _); refine kLoadRow _ _ _ _ _ _ rfl rfl rfl (hM5.get 0 rfl) Tryd.underlying24 rfl (info_WideC _) ?_; go_frame)
    | ((with_reducible change wpList _ _ _ (Oper.mk (some 23) _ _ _ _ _ :: _) _ _); refine kEqlW _ _ _ (z) (0) false rfl rfl rfl rfl (F23.out) ?_; go_frame)
    | (go_at_call 74; refine (fP_any m _ (hG.below hM5.below)).mono ?_; rintro e w6 ⟨rfl, hR6, hB6⟩; have hM6 := hM5.new hR6 hB6; clear hB6 hR6 hM5; go_frame)
    | ((with_reducible change wpList _ _ _ (Oper.mk (some 32) _ _ _ _ _ :: _) _ _); refine kFieldScaled2 _ _ rfl rfl rfl ?_; go_frame)
    | ((with_reducible change wpList _ _ _ (Oper.mk (some 33) _ _ _ _ _ :: _) _ _); refine kLoadAs _ _ _ _ _ 4 _ _ _ rfl rfl rfl (hM6.get 4 rfl) Tryd.underlying24 rfl info_Wide (by rw [scells_size]; decide) (scells_at8 _ _ _) ?_; go_frame)
    | ((with_reducible change wpList _ _ _ (Oper.mk (some 34) _ _ _ _ _ :: _) _ _); refine kFieldScaled2 _ _ rfl rfl rfl ?_; go_frame)
    | ((with_reducible change wpList _ _ _ (Oper.mk (some 35) _ _ _ _ _ :: _) _ _); refine kLoadAs _ _ _ _ _ 4 _ _ _ rfl rfl rfl (hM6.get 4 rfl) Tryd.underlying24 rfl info_Wide (by rw [scells_size]; decide) (scells_at8 _ _ _) ?_; go_frame)
    | (go_at_call 34; (with_reducible change Calls _ _ #[Value.pointer (some ⟨w5.heap.size, 0, none⟩), Value.agg (wcells z), Value.agg (wcells z)] _ _); refine (fMul_as hm (w5.heap.size) mz mz Hv36.out _ (hM6.get 0 rfl)).mono ?_; rintro e w7 ⟨rfl, hB7⟩; have hM7 := hM6.on hB7; clear hB7 hM6; (try unfold WV); go_frame)
    | ((with_reducible change wpList _ _ _ (Oper.mk (some 7) _ _ _ _ _ :: _) _ _); refine mmAlloc hM7 _ _ rfl rfl zero_Wide ?_; intro w8 hM8; clear hM7; go_frame)
    | ((with_reducible change wpList _ _ _ (Oper.mk none (Op.store _ (Operand.tmp 7) (Operand.tmp 36)) _ _ _ _ :: _) _ _); refine mmStoreAt hM8 0 _ _ _ _ _ _ (wcells v36) rfl rfl rfl rfl rfl (info_WideC _) (by simp only [wcells_size]) (wcells_one _) ?_; intro w9 hM9; dsimp only [List.set] at hM9; clear hM8; go_frame))
  refine region_symT 10 _ [9] [8] [.val (.pointer (some ⟨w5.heap.size, 0, none⟩)), .val (.pointer (some ⟨w5.heap.size, 0, none⟩)), .val (.pointer (some ⟨w1.heap.size, 0, none⟩)), .val (.agg (wcells u)), .val (.agg (wcells v36)), .val (.agg (wcells v42)), .val (.pointer (some ⟨w.heap.size, 0, none⟩)), .val (.agg (wcells x)), .val (.agg (wcells v45)), .hold w9.heap.size 24 (wcells 0)] rfl (by kernel_rfl) (by kernel_rfl) (by kernel_rfl) (by kernel_rfl) rfl (by intro s hs; simp only [List.mem_cons, List.not_mem_nil, or_false] at hs; rcases hs with rfl <;> rfl) (steps_all ⟨?_, ?_, ?_, ?_, ?_, ?_, ?_, ?_, ?_, ?_, trivial⟩) ?_
  · exact fun A W sz ot hbel ap dp => kMoveV _ _ rfl rfl (sO ot 6) (sE ap sz rfl)
  · exact fun A W sz ot hbel ap dp => kMoveV _ _ rfl rfl (sO ot 6) (sE ap sz rfl)
  · exact fun A W sz ot hbel ap dp => kFieldPoint0 _ _ rfl rfl (sO ot 3) (sE ap sz rfl)
  · exact fun A W sz ot hbel ap dp => kLoadAs _ _ _ _ _ 4 _ _ _ rfl rfl (sD dp 2 .data) ((hM9.get 4 rfl).on hbel) Tryd.underlying24 rfl info_Wide (by rw [pcells_size]; decide) (pcells_at0 _ _ _) (sE ap sz rfl)
  · exact fun A W sz ot hbel ap dp => kLoadRow _ _ _ _ _ _ rfl rfl (sO ot 7) ((hM9.get 0 rfl).on hbel) Tryd.underlying24 rfl (info_WideC _) (sE ap sz rfl)
  · exact fun A W sz ot hbel ap dp => sCall3 34 rfl (sD dp 1 .data) (sD dp 3 .data) (sD dp 4 .data) (sC (fMul_as hm (w5.heap.size) mu mv36 Hv42.out W ((hM9.get 1 rfl).on hbel)) ap sz (fun _ => rfl))
  · exact fun A W sz ot hbel ap dp => kFieldScaled0 _ _ rfl rfl (sO ot 2) (sE ap sz rfl)
  · exact fun A W sz ot hbel ap dp => kLoadAs _ _ _ _ _ 4 _ _ _ rfl rfl (sD dp 6 .data) ((hM9.get 5 rfl).on hbel) Tryd.underlying24 rfl info_Wide (by rw [scells_size]; decide) (scells_at0 _ _ _) (sE ap sz rfl)
  · exact fun A W sz ot hbel ap dp => sCall3 36 rfl (sD dp 0 .data) (sD dp 5 .data) (sD dp 7 .data) (sC (fSub_as hm (w5.heap.size) mv42 mx Hv45.out W ((hM9.get 1 rfl).on hbel)) ap sz (fun _ => rfl))
  · intro A W sz ot hbel ap dp
    refine kAllocL _ _ rfl rfl zero_Wide ?_
    intro r hR hl hBc
    exact (sA ap sz hl hBc ⟨_, rfl, hbel.size, hR⟩ rfl)
  intro w10 hB10
  dsimp only [AllV]
  intro g10_8 hg10_8 hR10_8
  intro hap
  dsimp only [putAll, List.take, List.drop]
  go_frame
  have hM10 := hM9.on hB10
  replace hM10 := hM10.cons hR10_8 (Nat.le_trans hM9.size hg10_8) (fun p hp => by have := hM9.lt hp; omega)
  clear hB10 hM9 hap hg10_8 hR10_8
  go_wp2_with (first
    | ((with_reducible change wpList _ _ _ (Oper.mk none (Op.store _ (Operand.tmp 8) (Operand.tmp 45)) _ _ _ _ :: _) _ _); refine mmStoreAt hM10 0 _ _ _ _ _ _ (wcells v45) rfl rfl rfl rfl rfl (info_WideC _) (by simp only [wcells_size]) (wcells_one _) ?_; intro w11 hM11; dsimp only [List.set] at hM11; clear hM10; go_frame))
  refine region_symT 14 _ [13] [9] [.val (.pointer (some ⟨w5.heap.size, 0, none⟩)), .val (.pointer (some ⟨w5.heap.size, 0, none⟩)), .val (.pointer (some ⟨w1.heap.size, 4, none⟩)), .val (.agg (wcells v)), .val (.pointer (some ⟨w5.heap.size, 0, none⟩)), .val (.agg (wcells v36)), .val (.pointer (some ⟨w.heap.size, 8, none⟩)), .val (.agg (wcells z)), .val (.agg (wcells v54)), .val (.agg (wcells v55)), .val (.pointer (some ⟨w.heap.size, 4, none⟩)), .val (.agg (wcells y)), .val (.agg (wcells v58)), .hold w11.heap.size 24 (wcells 0)] rfl (by kernel_rfl) (by kernel_rfl) (by kernel_rfl) (by kernel_rfl) rfl (by intro s hs; simp only [List.mem_cons, List.not_mem_nil, or_false] at hs; rcases hs with rfl <;> rfl) (steps_all ⟨?_, ?_, ?_, ?_, ?_, ?_, ?_, ?_, ?_, ?_, ?_, ?_, ?_, ?_, trivial⟩) ?_
  · exact fun A W sz ot hbel ap dp => kMoveV _ _ rfl rfl (sO ot 6) (sE ap sz rfl)
  · exact fun A W sz ot hbel ap dp => kMoveV _ _ rfl rfl (sO ot 6) (sE ap sz rfl)
  · exact fun A W sz ot hbel ap dp => kFieldPoint1 _ _ rfl rfl (sO ot 3) (sE ap sz rfl)
  · exact fun A W sz ot hbel ap dp => kLoadAs _ _ _ _ _ 4 _ _ _ rfl rfl (sD dp 2 .data) ((hM11.get 5 rfl).on hbel) Tryd.underlying24 rfl info_Wide (by rw [pcells_size]; decide) (pcells_at4 _ _ _) (sE ap sz rfl)
  · exact fun A W sz ot hbel ap dp => kMoveV _ _ rfl rfl (sO ot 6) (sE ap sz rfl)
  · exact fun A W sz ot hbel ap dp => kLoadRow _ _ _ _ _ _ rfl rfl (sO ot 7) ((hM11.get 1 rfl).on hbel) Tryd.underlying24 rfl (info_WideC _) (sE ap sz rfl)
  · exact fun A W sz ot hbel ap dp => kFieldScaled2 _ _ rfl rfl (sO ot 2) (sE ap sz rfl)
  · exact fun A W sz ot hbel ap dp => kLoadAs _ _ _ _ _ 4 _ _ _ rfl rfl (sD dp 6 .data) ((hM11.get 6 rfl).on hbel) Tryd.underlying24 rfl info_Wide (by rw [scells_size]; decide) (scells_at8 _ _ _) (sE ap sz rfl)
  · exact fun A W sz ot hbel ap dp => sCall3 34 rfl (sD dp 4 .data) (sD dp 5 .data) (sD dp 7 .data) (sC (fMul_as hm (w5.heap.size) mv36 mz Hv54.out W ((hM11.get 2 rfl).on hbel)) ap sz (fun _ => rfl))
  · exact fun A W sz ot hbel ap dp => sCall3 34 rfl (sD dp 1 .data) (sD dp 3 .data) (sD dp 8 .data) (sC (fMul_as hm (w5.heap.size) mv mv54 Hv55.out W ((hM11.get 2 rfl).on hbel)) ap sz (fun _ => rfl))
  · exact fun A W sz ot hbel ap dp => kFieldScaled1 _ _ rfl rfl (sO ot 2) (sE ap sz rfl)
  · exact fun A W sz ot hbel ap dp => kLoadAs _ _ _ _ _ 4 _ _ _ rfl rfl (sD dp 10 .data) ((hM11.get 6 rfl).on hbel) Tryd.underlying24 rfl info_Wide (by rw [scells_size]; decide) (scells_at4 _ _ _) (sE ap sz rfl)
  · exact fun A W sz ot hbel ap dp => sCall3 36 rfl (sD dp 0 .data) (sD dp 9 .data) (sD dp 11 .data) (sC (fSub_as hm (w5.heap.size) mv55 my Hv58.out W ((hM11.get 2 rfl).on hbel)) ap sz (fun _ => rfl))
  · intro A W sz ot hbel ap dp
    refine kAllocL _ _ rfl rfl zero_Wide ?_
    intro r hR hl hBc
    exact (sA ap sz hl hBc ⟨_, rfl, hbel.size, hR⟩ rfl)
  intro w12 hB12
  dsimp only [AllV]
  intro g12_9 hg12_9 hR12_9
  intro hap
  dsimp only [putAll, List.take, List.drop]
  go_frame
  have hM12 := hM11.on hB12
  replace hM12 := hM12.cons hR12_9 (Nat.le_trans hM11.size hg12_9) (fun p hp => by have := hM11.lt hp; omega)
  clear hB12 hM11 hap hg12_9 hR12_9
  go_wp2_with (first
    | ((with_reducible change wpList _ _ _ (Oper.mk none (Op.store _ (Operand.tmp 9) (Operand.tmp 58)) _ _ _ _ :: _) _ _); refine mmStoreAt hM12 0 _ _ _ _ _ _ (wcells v58) rfl rfl rfl rfl rfl (info_WideC _) (by simp only [wcells_size]) (wcells_one _) ?_; intro w13 hM13; dsimp only [List.set] at hM13; clear hM12; go_frame)
    | ((with_reducible change wpList _ _ _ (Oper.mk (some 59) _ _ _ _ _ :: _) _ _); refine kLoadRow _ _ _ _ _ _ rfl rfl rfl (hM13.get 1 rfl) Tryd.underlying24 rfl (info_WideC _) ?_; go_frame)
    | ((with_reducible change wpList _ _ _ (Oper.mk (some 60) _ _ _ _ _ :: _) _ _); refine kLoadRow _ _ _ _ _ _ rfl rfl rfl (hM13.get 4 rfl) Tryd.underlying24 rfl (info_WideC _) ?_; go_frame)
    | ((with_reducible change wpList _ _ _ (Oper.mk (some 61) _ _ _ _ _ :: _) _ _); refine kEqlW _ _ _ (v45) (0) true rfl rfl rfl rfl (F61.out) ?_; go_frame)
    | ((with_reducible change wpList _ _ _ (Oper.mk (some 63) _ _ _ _ _ :: _) _ _); refine kLoadRow _ _ _ _ _ _ rfl rfl rfl (hM13.get 0 rfl) Tryd.underlying24 rfl (info_WideC _) ?_; go_frame)
    | ((with_reducible change wpList _ _ _ (Oper.mk (some 64) _ _ _ _ _ :: _) _ _); refine kLoadRow _ _ _ _ _ _ rfl rfl rfl (hM13.get 4 rfl) Tryd.underlying24 rfl (info_WideC _) ?_; go_frame)
    | ((with_reducible change wpList _ _ _ (Oper.mk (some 65) _ _ _ _ _ :: _) _ _); refine kEqlW _ _ _ (v58) (0) false rfl rfl rfl rfl (F65.out) ?_; go_frame)
    | ((with_reducible change wpList _ _ _ (Oper.mk (some 70) _ _ _ _ _ :: _) _ _); refine kLoadRow _ _ _ _ _ _ rfl rfl rfl (hM13.get 1 rfl) Tryd.underlying24 rfl (info_WideC _) ?_; go_frame)
    | ((with_reducible change wpList _ _ _ (Oper.mk (some 71) _ _ _ _ _ :: _) _ _); refine kLoadRow _ _ _ _ _ _ rfl rfl rfl (hM13.get 1 rfl) Tryd.underlying24 rfl (info_WideC _) ?_; go_frame)
    | (go_at_call 34; (with_reducible change Calls _ _ #[Value.pointer (some ⟨w5.heap.size, 0, none⟩), Value.agg (wcells v45), Value.agg (wcells v45)] _ _); refine (fMul_as hm (w5.heap.size) mv45 mv45 Hv72.out _ (hM13.get 3 rfl)).mono ?_; rintro e w14 ⟨rfl, hB14⟩; have hM14 := hM13.on hB14; clear hB14 hM13; (try unfold WV); go_frame)
    | ((with_reducible change wpList _ _ _ (Oper.mk (some 10) _ _ _ _ _ :: _) _ _); refine mmAlloc hM14 _ _ rfl rfl zero_Wide ?_; intro w15 hM15; clear hM14; go_frame)
    | ((with_reducible change wpList _ _ _ (Oper.mk none (Op.store _ (Operand.tmp 10) (Operand.tmp 72)) _ _ _ _ :: _) _ _); refine mmStoreAt hM15 0 _ _ _ _ _ _ (wcells v72) rfl rfl rfl rfl rfl (info_WideC _) (by simp only [wcells_size]) (wcells_one _) ?_; intro w16 hM16; dsimp only [List.set] at hM16; clear hM15; go_frame))
  refine region_symT 11 _ [9, 10] [11, 12] [.val (.pointer (some ⟨w5.heap.size, 0, none⟩)), .val (.agg (wcells v72)), .val (.agg (wcells v45)), .val (.agg (wcells v76)), .val (.pointer (some ⟨w5.heap.size, 0, none⟩)), .val (.pointer (some ⟨w.heap.size, 0, none⟩)), .val (.agg (wcells x)), .val (.agg (wcells v72)), .val (.agg (wcells v81)), .hold w16.heap.size 24 (wcells 0), .hold w16.heap.size 24 (wcells 0)] rfl (by kernel_rfl) (by kernel_rfl) (by kernel_rfl) (by kernel_rfl) rfl (by intro s hs; simp only [List.mem_cons, List.not_mem_nil, or_false] at hs; rcases hs with rfl | rfl <;> rfl) (steps_all ⟨?_, ?_, ?_, ?_, ?_, ?_, ?_, ?_, ?_, ?_, ?_, trivial⟩) ?_
  · exact fun A W sz ot hbel ap dp => kMoveV _ _ rfl rfl (sO ot 6) (sE ap sz rfl)
  · exact fun A W sz ot hbel ap dp => kLoadRow _ _ _ _ _ _ rfl rfl (sO ot 10) ((hM16.get 0 rfl).on hbel) Tryd.underlying24 rfl (info_WideC _) (sE ap sz rfl)
  · exact fun A W sz ot hbel ap dp => kLoadRow _ _ _ _ _ _ rfl rfl (sO ot 8) ((hM16.get 2 rfl).on hbel) Tryd.underlying24 rfl (info_WideC _) (sE ap sz rfl)
  · exact fun A W sz ot hbel ap dp => sCall3 34 rfl (sD dp 0 .data) (sD dp 1 .data) (sD dp 2 .data) (sC (fMul_as hm (w5.heap.size) mv72 mv45 Hv76.out W ((hM16.get 4 rfl).on hbel)) ap sz (fun _ => rfl))
  · exact fun A W sz ot hbel ap dp => kMoveV _ _ rfl rfl (sO ot 6) (sE ap sz rfl)
  · exact fun A W sz ot hbel ap dp => kFieldScaled0 _ _ rfl rfl (sO ot 2) (sE ap sz rfl)
  · exact fun A W sz ot hbel ap dp => kLoadAs _ _ _ _ _ 4 _ _ _ rfl rfl (sD dp 5 .data) ((hM16.get 8 rfl).on hbel) Tryd.underlying24 rfl info_Wide (by rw [scells_size]; decide) (scells_at0 _ _ _) (sE ap sz rfl)
  · exact fun A W sz ot hbel ap dp => kLoadRow _ _ _ _ _ _ rfl rfl (sO ot 10) ((hM16.get 0 rfl).on hbel) Tryd.underlying24 rfl (info_WideC _) (sE ap sz rfl)
  · exact fun A W sz ot hbel ap dp => sCall3 34 rfl (sD dp 4 .data) (sD dp 6 .data) (sD dp 7 .data) (sC (fMul_as hm (w5.heap.size) mx mv72 Hv81.out W ((hM16.get 4 rfl).on hbel)) ap sz (fun _ => rfl))
  · intro A W sz ot hbel ap dp
    refine kAllocL _ _ rfl rfl zero_Wide ?_
    intro r hR hl hBc
    exact (sA ap sz hl hBc ⟨_, rfl, hbel.size, hR⟩ rfl)
  · intro A W sz ot hbel ap dp
    refine kAllocL _ _ rfl rfl zero_Wide ?_
    intro r hR hl hBc
    exact (sA ap sz hl hBc ⟨_, rfl, hbel.size, hR⟩ rfl)
  intro w17 hB17
  dsimp only [AllV]
  intro g17_11 hg17_11 hR17_11
  intro g17_12 hg17_12 hR17_12
  intro hap
  dsimp only [putAll, List.take, List.drop]
  go_frame
  have hM17 := hM16.on hB17
  replace hM17 := hM17.cons hR17_11 (Nat.le_trans hM16.size hg17_11) (fun p hp => by have := hM16.lt hp; omega)
  have hne17_12_17_11 : g17_12 ≠ g17_11 := fun e => hap 10 (by simp) 9 (by simp) (by decide) g17_12 rfl (by rw [e]; rfl)
  replace hM17 := hM17.cons hR17_12 (Nat.le_trans hM16.size hg17_12) (List.forall_mem_cons.2 ⟨hne17_12_17_11, fun p hp => by have := hM16.lt hp; omega⟩)
  clear hB17 hM16 hap hg17_11 hR17_11 hg17_12 hR17_12
  go_wp2_with (first
    | ((with_reducible change wpList _ _ _ (Oper.mk none (Op.store _ (Operand.tmp 11) (Operand.tmp 76)) _ _ _ _ :: _) _ _); refine mmStoreAt hM17 1 _ _ _ _ _ _ (wcells v76) rfl rfl rfl rfl rfl (info_WideC _) (by simp only [wcells_size]) (wcells_one _) ?_; intro w18 hM18; dsimp only [List.set] at hM18; clear hM17; go_frame)
    | ((with_reducible change wpList _ _ _ (Oper.mk none (Op.store _ (Operand.tmp 12) (Operand.tmp 81)) _ _ _ _ :: _) _ _); refine mmStoreAt hM18 0 _ _ _ _ _ _ (wcells v81) rfl rfl rfl rfl rfl (info_WideC _) (by simp only [wcells_size]) (wcells_one _) ?_; intro w19 hM19; dsimp only [List.set] at hM19; clear hM18; go_frame))
  refine region_symT 14 _ [13] [13] [.val (.pointer (some ⟨w5.heap.size, 0, none⟩)), .val (.pointer (some ⟨w5.heap.size, 0, none⟩)), .val (.pointer (some ⟨w5.heap.size, 0, none⟩)), .val (.agg (wcells v58)), .val (.agg (wcells v58)), .val (.agg (wcells v87)), .val (.agg (wcells v76)), .val (.agg (wcells v89)), .val (.pointer (some ⟨w5.heap.size, 0, none⟩)), .val (.agg (wcells v81)), .val (.agg (wcells v81)), .val (.agg (wcells v93)), .val (.agg (wcells v94)), .hold w19.heap.size 24 (wcells 0)] rfl (by kernel_rfl) (by kernel_rfl) (by kernel_rfl) (by kernel_rfl) rfl (by intro s hs; simp only [List.mem_cons, List.not_mem_nil, or_false] at hs; rcases hs with rfl <;> rfl) (steps_all ⟨?_, ?_, ?_, ?_, ?_, ?_, ?_, ?_, ?_, ?_, ?_, ?_, ?_, ?_, trivial⟩) ?_
  · exact fun A W sz ot hbel ap dp => kMoveV _ _ rfl rfl (sO ot 6) (sE ap sz rfl)
  · exact fun A W sz ot hbel ap dp => kMoveV _ _ rfl rfl (sO ot 6) (sE ap sz rfl)
  · exact fun A W sz ot hbel ap dp => kMoveV _ _ rfl rfl (sO ot 6) (sE ap sz rfl)
  · exact fun A W sz ot hbel ap dp => kLoadRow _ _ _ _ _ _ rfl rfl (sO ot 9) ((hM19.get 3 rfl).on hbel) Tryd.underlying24 rfl (info_WideC _) (sE ap sz rfl)
  · exact fun A W sz ot hbel ap dp => kLoadRow _ _ _ _ _ _ rfl rfl (sO ot 9) ((hM19.get 3 rfl).on hbel) Tryd.underlying24 rfl (info_WideC _) (sE ap sz rfl)
  · exact fun A W sz ot hbel ap dp => sCall3 34 rfl (sD dp 2 .data) (sD dp 3 .data) (sD dp 4 .data) (sC (fMul_as hm (w5.heap.size) mv58 mv58 Hv87.out W ((hM19.get 6 rfl).on hbel)) ap sz (fun _ => rfl))
  · exact fun A W sz ot hbel ap dp => kLoadRow _ _ _ _ _ _ rfl rfl (sO ot 11) ((hM19.get 1 rfl).on hbel) Tryd.underlying24 rfl (info_WideC _) (sE ap sz rfl)
  · exact fun A W sz ot hbel ap dp => sCall3 36 rfl (sD dp 1 .data) (sD dp 5 .data) (sD dp 6 .data) (sC (fSub_as hm (w5.heap.size) mv87 mv76 Hv89.out W ((hM19.get 6 rfl).on hbel)) ap sz (fun _ => rfl))
  · exact fun A W sz ot hbel ap dp => kMoveV _ _ rfl rfl (sO ot 6) (sE ap sz rfl)
  · exact fun A W sz ot hbel ap dp => kLoadRow _ _ _ _ _ _ rfl rfl (sO ot 12) ((hM19.get 0 rfl).on hbel) Tryd.underlying24 rfl (info_WideC _) (sE ap sz rfl)
  · exact fun A W sz ot hbel ap dp => kLoadRow _ _ _ _ _ _ rfl rfl (sO ot 12) ((hM19.get 0 rfl).on hbel) Tryd.underlying24 rfl (info_WideC _) (sE ap sz rfl)
  · exact fun A W sz ot hbel ap dp => sCall3 32 rfl (sD dp 8 .data) (sD dp 9 .data) (sD dp 10 .data) (sC (fAdd_as hm (w5.heap.size) mv81 mv81 Hv93.out.symm W ((hM19.get 6 rfl).on hbel)) ap sz (fun _ => rfl))
  · exact fun A W sz ot hbel ap dp => sCall3 36 rfl (sD dp 0 .data) (sD dp 7 .data) (sD dp 11 .data) (sC (fSub_as hm (w5.heap.size) mv89 mv93 Hv94.out W ((hM19.get 6 rfl).on hbel)) ap sz (fun _ => rfl))
  · intro A W sz ot hbel ap dp
    refine kAllocL _ _ rfl rfl zero_Wide ?_
    intro r hR hl hBc
    exact (sA ap sz hl hBc ⟨_, rfl, hbel.size, hR⟩ rfl)
  intro w20 hB20
  dsimp only [AllV]
  intro g20_13 hg20_13 hR20_13
  intro hap
  dsimp only [putAll, List.take, List.drop]
  go_frame
  have hM20 := hM19.on hB20
  replace hM20 := hM20.cons hR20_13 (Nat.le_trans hM19.size hg20_13) (fun p hp => by have := hM19.lt hp; omega)
  clear hB20 hM19 hap hg20_13 hR20_13
  go_wp2_with (first
    | ((with_reducible change wpList _ _ _ (Oper.mk none (Op.store _ (Operand.tmp 13) (Operand.tmp 94)) _ _ _ _ :: _) _ _); refine mmStoreAt hM20 0 _ _ _ _ _ _ (wcells v94) rfl rfl rfl rfl rfl (info_WideC _) (by simp only [wcells_size]) (wcells_one _) ?_; intro w21 hM21; dsimp only [List.set] at hM21; clear hM20; go_frame))
  refine region_symT 15 _ [14] [14] [.val (.pointer (some ⟨w5.heap.size, 0, none⟩)), .val (.pointer (some ⟨w5.heap.size, 0, none⟩)), .val (.agg (wcells v58)), .val (.pointer (some ⟨w5.heap.size, 0, none⟩)), .val (.agg (wcells v81)), .val (.agg (wcells v94)), .val (.agg (wcells v101)), .val (.agg (wcells v102)), .val (.pointer (some ⟨w5.heap.size, 0, none⟩)), .val (.pointer (some ⟨w.heap.size, 4, none⟩)), .val (.agg (wcells y)), .val (.agg (wcells v76)), .val (.agg (wcells v107)), .val (.agg (wcells v108)), .hold w21.heap.size 24 (wcells 0)] rfl (by kernel_rfl) (by kernel_rfl) (by kernel_rfl) (by kernel_rfl) rfl (by intro s hs; simp only [List.mem_cons, List.not_mem_nil, or_false] at hs; rcases hs with rfl <;> rfl) (steps_all ⟨?_, ?_, ?_, ?_, ?_, ?_, ?_, ?_, ?_, ?_, ?_, ?_, ?_, ?_, ?_, trivial⟩) ?_
  · exact fun A W sz ot hbel ap dp => kMoveV _ _ rfl rfl (sO ot 6) (sE ap sz rfl)
  · exact fun A W sz ot hbel ap dp => kMoveV _ _ rfl rfl (sO ot 6) (sE ap sz rfl)
  · exact fun A W sz ot hbel ap dp => kLoadRow _ _ _ _ _ _ rfl rfl (sO ot 9) ((hM21.get 4 rfl).on hbel) Tryd.underlying24 rfl (info_WideC _) (sE ap sz rfl)
  · exact fun A W sz ot hbel ap dp => kMoveV _ _ rfl rfl (sO ot 6) (sE ap sz rfl)
  · exact fun A W sz ot hbel ap dp => kLoadRow _ _ _ _ _ _ rfl rfl (sO ot 12) ((hM21.get 1 rfl).on hbel) Tryd.underlying24 rfl (info_WideC _) (sE ap sz rfl)
  · exact fun A W sz ot hbel ap dp => kLoadRow _ _ _ _ _ _ rfl rfl (sO ot 13) ((hM21.get 0 rfl).on hbel) Tryd.underlying24 rfl (info_WideC _) (sE ap sz rfl)
  · exact fun A W sz ot hbel ap dp => sCall3 36 rfl (sD dp 3 .data) (sD dp 4 .data) (sD dp 5 .data) (sC (fSub_as hm (w5.heap.size) mv81 mv94 Hv101.out W ((hM21.get 7 rfl).on hbel)) ap sz (fun _ => rfl))
  · exact fun A W sz ot hbel ap dp => sCall3 34 rfl (sD dp 1 .data) (sD dp 2 .data) (sD dp 6 .data) (sC (fMul_as hm (w5.heap.size) mv58 mv101 Hv102.out W ((hM21.get 7 rfl).on hbel)) ap sz (fun _ => rfl))
  · exact fun A W sz ot hbel ap dp => kMoveV _ _ rfl rfl (sO ot 6) (sE ap sz rfl)
  · exact fun A W sz ot hbel ap dp => kFieldScaled1 _ _ rfl rfl (sO ot 2) (sE ap sz rfl)
  · exact fun A W sz ot hbel ap dp => kLoadAs _ _ _ _ _ 4 _ _ _ rfl rfl (sD dp 9 .data) ((hM21.get 11 rfl).on hbel) Tryd.underlying24 rfl info_Wide (by rw [scells_size]; decide) (scells_at4 _ _ _) (sE ap sz rfl)
  · exact fun A W sz ot hbel ap dp => kLoadRow _ _ _ _ _ _ rfl rfl (sO ot 11) ((hM21.get 2 rfl).on hbel) Tryd.underlying24 rfl (info_WideC _) (sE ap sz rfl)
  · exact fun A W sz ot hbel ap dp => sCall3 34 rfl (sD dp 8 .data) (sD dp 10 .data) (sD dp 11 .data) (sC (fMul_as hm (w5.heap.size) my mv76 Hv107.out W ((hM21.get 7 rfl).on hbel)) ap sz (fun _ => rfl))
  · exact fun A W sz ot hbel ap dp => sCall3 36 rfl (sD dp 0 .data) (sD dp 7 .data) (sD dp 12 .data) (sC (fSub_as hm (w5.heap.size) mv102 mv107 Hv108.out W ((hM21.get 7 rfl).on hbel)) ap sz (fun _ => rfl))
  · intro A W sz ot hbel ap dp
    refine kAllocL _ _ rfl rfl zero_Wide ?_
    intro r hR hl hBc
    exact (sA ap sz hl hBc ⟨_, rfl, hbel.size, hR⟩ rfl)
  intro w22 hB22
  dsimp only [AllV]
  intro g22_14 hg22_14 hR22_14
  intro hap
  dsimp only [putAll, List.take, List.drop]
  go_frame
  have hM22 := hM21.on hB22
  replace hM22 := hM22.cons hR22_14 (Nat.le_trans hM21.size hg22_14) (fun p hp => by have := hM21.lt hp; omega)
  clear hB22 hM21 hap hg22_14 hR22_14
  go_wp2_with (first
    | ((with_reducible change wpList _ _ _ (Oper.mk none (Op.store _ (Operand.tmp 14) (Operand.tmp 108)) _ _ _ _ :: _) _ _); refine mmStoreAt hM22 0 _ _ _ _ _ _ (wcells v108) rfl rfl rfl rfl rfl (info_WideC _) (by simp only [wcells_size]) (wcells_one _) ?_; intro w23 hM23; dsimp only [List.set] at hM23; clear hM22; go_frame))
  refine region_symT 8 _ [] [] [.val (.agg (wcells v94)), .val (.agg (wcells v108)), .val (.pointer (some ⟨w5.heap.size, 0, none⟩)), .val (.pointer (some ⟨w.heap.size, 8, none⟩)), .val (.agg (wcells z)), .val (.agg (wcells v45)), .val (.agg (wcells v115)), .val (.agg (scells v94 v108 v115))] rfl (by kernel_rfl) (by kernel_rfl) (by kernel_rfl) (by kernel_rfl) rfl (by intro s hs; cases hs) (steps_all ⟨?_, ?_, ?_, ?_, ?_, ?_, ?_, ?_, trivial⟩) ?_
  · exact fun A W sz ot hbel ap dp => kLoadRow _ _ _ _ _ _ rfl rfl (sO ot 13) ((hM23.get 1 rfl).on hbel) Tryd.underlying24 rfl (info_WideC _) (sE ap sz rfl)
  · exact fun A W sz ot hbel ap dp => kLoadRow _ _ _ _ _ _ rfl rfl (sO ot 14) ((hM23.get 0 rfl).on hbel) Tryd.underlying24 rfl (info_WideC _) (sE ap sz rfl)
  · exact fun A W sz ot hbel ap dp => kMoveV _ _ rfl rfl (sO ot 6) (sE ap sz rfl)
  · exact fun A W sz ot hbel ap dp => kFieldScaled2 _ _ rfl rfl (sO ot 2) (sE ap sz rfl)
  · exact fun A W sz ot hbel ap dp => kLoadAs _ _ _ _ _ 4 _ _ _ rfl rfl (sD dp 3 .data) ((hM23.get 12 rfl).on hbel) Tryd.underlying24 rfl info_Wide (by rw [scells_size]; decide) (scells_at8 _ _ _) (sE ap sz rfl)
  · exact fun A W sz ot hbel ap dp => kLoadRow _ _ _ _ _ _ rfl rfl (sO ot 8) ((hM23.get 6 rfl).on hbel) Tryd.underlying24 rfl (info_WideC _) (sE ap sz rfl)
  · exact fun A W sz ot hbel ap dp => sCall3 34 rfl (sD dp 2 .data) (sD dp 4 .data) (sD dp 5 .data) (sC (fMul_as hm (w5.heap.size) mz mv45 Hv115.out W ((hM23.get 8 rfl).on hbel)) ap sz (fun _ => rfl))
  · exact fun A W sz ot hbel ap dp => kBuildScaled3 _ _ _ v94 v108 v115 rfl rfl (sD dp 0 .data) (sD dp 1 .data) (sD dp 6 .data) (sE ap sz rfl)
  intro w24 hB24
  dsimp only [AllV]
  intro hap
  dsimp only [putAll, List.take, List.drop]
  go_frame
  have hM24 := hM23.on hB24
  clear hB24 hM23 hap
  go_wp2_with (first
    | ((with_reducible change wpList _ _ _ (Oper.mk none (Op.store _ (Operand.tmp 4) (Operand.tmp 116)) _ _ _ _ :: _) _ _); refine mmStoreAt hM24 10 _ _ _ _ _ _ (scells v94 v108 v115) rfl rfl rfl rfl rfl (info_scaledC _ _ _) (by simp only [scells_size]) (scells_one _ _ _) ?_; intro w25 hM25; dsimp only [List.set] at hM25; clear hM24; go_frame))
  exact result_row Tryd.results79 rfl (hM25.get 10 rfl) Tryd.underlying100 rfl (info_scaledC _ _ _) rfl ⟨by rw [R.out], hM25.below⟩
set_option maxRecDepth 100000 in
set_option maxHeartbeats 8000000 in
theorem plus_chord {x y z u v : Nat} (lx : x < PP) (ly : y < PP) (lz : z < PP) (lu : u < PP) (lv : v < PP) (hz : FP z ≠ 0) (ha : (⟨FP x, FP y, FP z⟩ : Jac PP).along (FP u) ≠ 0) (w : World) (hG : Glob 3 PP w) (hO : GlobP 2 0 0 true w) :
    Calls Tryd.prog 79 #[.agg (scells x y z), .agg (pcells u v false)] w fun e w' => e = .returned (.agg (jc (Jac.chord ⟨FP x, FP y, FP z⟩ (FP u) (FP v)))) ∧ Below w.heap.size w w' := by
  obtain ⟨m, Hm⟩ : ∃ m, Hid (m = PP) := ⟨_, Lib.hid rfl⟩
  have hm : Modu m := by rw [Hm.out]; exact modu_P
  rw [← Hm.out] at hG
  have mx := lt_M lx
  have my := lt_M ly
  have mz := lt_M lz
  have mu := lt_M lu
  have mv := lt_M lv
  have F18 := Lib.hid (eqP_none (x := u) (y := v) (x' := 0) (y' := 0))
  have F23 := Lib.hid (show decide (z % M256 = 0 % M256) = false from eqW_zero lz (decide_eq_false hz))
  obtain ⟨v36, Hv36, mv36⟩ := nameMod hm (z * z)
  obtain ⟨v42, Hv42, mv42⟩ := nameMod hm (u * v36)
  obtain ⟨v45, Hv45, mv45⟩ := nameMod hm (v42 % m + m - x % m)
  obtain ⟨v54, Hv54, mv54⟩ := nameMod hm (v36 * z)
  obtain ⟨v55, Hv55, mv55⟩ := nameMod hm (v * v54)
  obtain ⟨v58, Hv58, mv58⟩ := nameMod hm (v55 % m + m - y % m)
  obtain ⟨v72, Hv72, mv72⟩ := nameMod hm (v45 * v45)
  obtain ⟨v76, Hv76, mv76⟩ := nameMod hm (v72 * v45)
  obtain ⟨v81, Hv81, mv81⟩ := nameMod hm (x * v72)
  obtain ⟨v87, Hv87, mv87⟩ := nameMod hm (v58 * v58)
  obtain ⟨v89, Hv89, mv89⟩ := nameMod hm (v87 % m + m - v76 % m)
  obtain ⟨v93, Hv93, mv93⟩ := nameMod hm (v81 + v81)
  obtain ⟨v94, Hv94, mv94⟩ := nameMod hm (v89 % m + m - v93 % m)
  obtain ⟨v101, Hv101, mv101⟩ := nameMod hm (v81 % m + m - v94 % m)
  obtain ⟨v102, Hv102, mv102⟩ := nameMod hm (v58 * v101)
  obtain ⟨v107, Hv107, mv107⟩ := nameMod hm (y * v76)
  obtain ⟨v108, Hv108, mv108⟩ := nameMod hm (v102 % m + m - v107 % m)
  obtain ⟨v115, Hv115, mv115⟩ := nameMod hm (z * v45)
  have Ev36 := FPm_mul Hm.out Hv36.out
  have Ev42 := FPm_mul Hm.out Hv42.out
  have Ev45 := FPm_sub Hm.out Hv45.out
  have Lv45 := FPm_lt Hm.out Hv45.out
  have Ev54 := FPm_mul Hm.out Hv54.out
  have Ev55 := FPm_mul Hm.out Hv55.out
  have Ev58 := FPm_sub Hm.out Hv58.out
  have Ev72 := FPm_mul Hm.out Hv72.out
  have Ev76 := FPm_mul Hm.out Hv76.out
  have Ev81 := FPm_mul Hm.out Hv81.out
  have Ev87 := FPm_mul Hm.out Hv87.out
  have Ev89 := FPm_sub Hm.out Hv89.out
  have Ev93 := FPm_add Hm.out Hv93.out
  have Ev94 := FPm_sub Hm.out Hv94.out
  have Lv94 := FPm_lt Hm.out Hv94.out
  have Ev101 := FPm_sub Hm.out Hv101.out
  have Ev102 := FPm_mul Hm.out Hv102.out
  have Ev107 := FPm_mul Hm.out Hv107.out
  have Ev108 := FPm_sub Hm.out Hv108.out
  have Lv108 := FPm_lt Hm.out Hv108.out
  have Ev115 := FPm_mul Hm.out Hv115.out
  have Lv115 := FPm_lt Hm.out Hv115.out
  have RA : FP v45 = (⟨FP x, FP y, FP z⟩ : Jac PP).along (FP u) := by simp only [Ev45, Ev42, Ev36]; rfl
  have RU : FP v58 = (⟨FP x, FP y, FP z⟩ : Jac PP).up (FP v) := by simp only [Ev58, Ev55, Ev54, Ev36]; rfl
  have F61 := Lib.hid (show decide (v45 % M256 = 0 % M256) = false from eqW_zero Lv45 (by rw [RA]; exact decide_eq_false ha))
  have RX : v94 = (Jac.chord ⟨FP x, FP y, FP z⟩ (FP u) (FP v)).x.val := val_of Lv94 (by simp only [Ev94, Ev89, Ev87, Ev58, Ev55, Ev54, Ev36, Ev76, Ev72, Ev45, Ev42, Ev93, Ev81]; rfl)
  have RY : v108 = (Jac.chord ⟨FP x, FP y, FP z⟩ (FP u) (FP v)).y.val := val_of Lv108 (by simp only [Ev108, Ev102, Ev58, Ev55, Ev54, Ev36, Ev101, Ev81, Ev72, Ev45, Ev42, Ev94, Ev89, Ev87, Ev76, Ev93, Ev107]; rfl)
  have RZ : v115 = (Jac.chord ⟨FP x, FP y, FP z⟩ (FP u) (FP v)).z.val := val_of Lv115 (by simp only [Ev115, Ev45, Ev42, Ev36]; rfl)
  have R := Lib.hid (show Value.agg (scells v94 v108 v115) = .agg (jc (Jac.chord ⟨FP x, FP y, FP z⟩ (FP u) (FP v))) by rw [RX, RY, RZ]; rfl)
  clear RX RY RZ
  clear RA RU hz ha Ev36 Ev42 Ev45 Lv45 Ev54 Ev55 Ev58 Ev72 Ev76 Ev81 Ev87 Ev89 Ev93 Ev94 Lv94 Ev101 Ev102 Ev107 Ev108 Lv108 Ev115 Lv115
  have hM0 := mm_nil w
  (try unfold WV)
  go_enter Tryd.func79, Tryd.ntmps79
  go_wp2_with (first
    | ((with_reducible change wpList _ _ _ (Oper.mk (some 2) _ _ _ _ _ :: _) _ _); refine mmBox hM0 _ _ (scells x y z) rfl rfl rfl ?_; intro w1 hM1; clear hM0; go_frame)
    | ((with_reducible change wpList _ _ _ (Oper.mk (some 3) _ _ _ _ _ :: _) _ _); refine mmBox hM1 _ _ (pcells u v false) rfl rfl rfl ?_; intro w2 hM2; clear hM1; go_frame)
    | ((with_reducible change wpList _ _ _ (Oper.mk (some 4) _ _ _ _ _ :: _) _ _); refine mmAlloc hM2 _ _ rfl rfl zero_scaled ?_; intro w3 hM3; clear hM2; go_frame)
    | ((with_reducible change wpList _ _ _ (Oper.mk (some 15) _ _ _ _ _ :: _) _ _); refine kBuildW0 rfl rfl ?_; go_frame)
    | ((with_reducible change wpList _ _ _ (Oper.mk (some 5) _ _ _ _ _ :: _) _ _); refine mmAlloc hM3 _ _ rfl rfl zero_Wide ?_; intro w4 hM4; clear hM3; go_frame)
    | ((with_reducible change wpList _ _ _ (Oper.mk none (Op.store _ (Operand.tmp 5) (Operand.tmp 15)) _ _ _ _ :: _) _ _); refine mmStoreAt hM4 0 _ _ _ _ _ _ (wcells 0) rfl rfl rfl rfl rfl (info_WideC _) (by simp only [wcells_size]) (wcells_one _) ?_; intro w5 hM5; dsimp only [List.set] at hM5; clear hM4; go_frame)
    | ((with_reducible change wpList _ _ _ (Oper.mk (some 16) _ _ _ _ _ :: _) _ _); refine kLoadRow _ _ _ _ _ _ rfl rfl rfl (hM5.get 2 rfl) Tryd.underlying30 rfl (info_PointC _ _ _) ?_; go_frame)
    | ((with_reducible change wpList _ _ _ (Oper.mk (some 17) _ _ _ _ _ :: _) _ _); refine kLoadGP _ _ _ _ _ rfl rfl rfl (hO.below hM5.below) ?_; go_frame)
    | ((with_reducible change wpList _ _ _ (Oper.mk (some 18) _ _ _ _ _ :: _) _ _); refine kEqlP _ _ _ u v false 0 0 true false rfl rfl rfl rfl (F18.out) ?_; go_frame)
    | ((with_reducible change wpList _ _ _ (Oper.mk (some 20) _ _ _ _ _ :: _) _ _); refine kFieldScaled2 _ _ rfl rfl rfl ?_; go_frame)
    | ((with_reducible change wpList _ _ _ (Oper.mk (some 21) _ _ _ _ _ :: _) _ _); refine kLoadAs _ _ _ _ _ 4 _ _ _ rfl rfl rfl (hM5.get 3 rfl) Tryd.underlying24 rfl info_Wide (by rw [scells_size]; decide) (scells_at8 _ _ _) ?_; go_frame)
    | ((with_reducible change wpList _ _ _ (Oper.mk (some 22) _ _ _ _ _ :: _) _ _); refine kLoadRow _ _ _ _ _ _ rfl rfl rfl (hM5.get 0 rfl) Tryd.underlying24 rfl (info_WideC _) ?_; go_frame)
    | ((with_reducible change wpList _ _ _ (Oper.mk (some 23) _ _ _ _ _ :: _) _ _); refine kEqlW _ _ _ (z) (0) false rfl rfl rfl rfl (F23.out) ?_; go_frame)
    | (go_at_call 74; refine (fP_any m _ (hG.below hM5.below)).mono ?_; rintro e w6 ⟨rfl, hR6, hB6⟩; have hM6 := hM5.new hR6 hB6; clear hB6 hR6 hM5; go_frame)
    | ((with_reducible change wpList _ _ _ (Oper.mk (some 32) _ _ _ _ _ :: _) _ _); refine kFieldScaled2 _ _ rfl rfl rfl ?_; go_frame)
    | ((with_reducible change wpList _ _ _ (Oper.mk (some 33) _ _ _ _ _ :: _) _ _); refine kLoadAs _ _ _ _ _ 4 _ _ _ rfl rfl rfl (hM6.get 4 rfl) Tryd.underlying24 rfl info_Wide (by rw [scells_size]; decide) (scells_at8 _ _ _) ?_; go_frame)
    | ((with_reducible change wpList _ _ _ (Oper.mk (some 34) _ _ _ _ _ :: _) _ _); refine kFieldScaled2 _ _ rfl rfl rfl ?_; go_frame)
    | ((with_reducible change wpList _ _ _ (Oper.mk (some 35) _ _ _ _ _ :: _) _ _); refine kLoadAs _ _ _ _ _ 4 _ _ _ rfl rfl rfl (hM6.get 4 rfl) Tryd.underlying24 rfl info_Wide (by rw [scells_size]; decide) (scells_at8 _ _ _) ?_; go_frame)
    | (go_at_call 34; (with_reducible change Calls _ _ #[Value.pointer (some ⟨w5.heap.size, 0, none⟩), Value.agg (wcells z), Value.agg (wcells z)] _ _); refine (fMul_as hm (w5.heap.size) mz mz Hv36.out _ (hM6.get 0 rfl)).mono ?_; rintro e w7 ⟨rfl, hB7⟩; have hM7 := hM6.on hB7; clear hB7 hM6; (try unfold WV); go_frame)
    | ((with_reducible change wpList _ _ _ (Oper.mk (some 7) _ _ _ _ _ :: _) _ _); refine mmAlloc hM7 _ _ rfl rfl zero_Wide ?_; intro w8 hM8; clear hM7; go_frame)
    | ((with_reducible change wpList _ _ _ (Oper.mk none (Op.store _ (Operand.tmp 7) (Operand.tmp 36)) _ _ _ _ :: _) _ _); refine mmStoreAt hM8 0 _ _ _ _ _ _ (wcells v36) rfl rfl rfl rfl rfl (info_WideC _) (by simp only [wcells_size]) (wcells_one _) ?_; intro w9 hM9; dsimp only [List.set] at hM9; clear hM8; go_frame))
  refine region_symT 10 _ [9] [8] [.val (.pointer (some ⟨w5.heap.size, 0, none⟩)), .val (.pointer (some ⟨w5.heap.size, 0, none⟩)), .val (.pointer (some ⟨w1.heap.size, 0, none⟩)), .val (.agg (wcells u)), .val (.agg (wcells v36)), .val (.agg (wcells v42)), .val (.pointer (some ⟨w.heap.size, 0, none⟩)), .val (.agg (wcells x)), .val (.agg (wcells v45)), .hold w9.heap.size 24 (wcells 0)] rfl (by kernel_rfl) (by kernel_rfl) (by kernel_rfl) (by kernel_rfl) rfl (by intro s hs; simp only [List.mem_cons, List.not_mem_nil, or_false] at hs; rcases hs with rfl <;> rfl) (steps_all ⟨?_, ?_, ?_, ?_, ?_, ?_, ?_, ?_, ?_, ?_, trivial⟩) ?_
  · exact fun A W sz ot hbel ap dp => kMoveV _ _ rfl rfl (sO ot 6) (sE ap sz rfl)
  · exact fun A W sz ot hbel ap dp => kMoveV _ _ rfl rfl (sO ot 6) (sE ap sz rfl)
  · exact fun A W sz ot hbel ap dp => kFieldPoint0 _ _ rfl rfl (sO ot 3) (sE ap sz rfl)
  · exact fun A W sz ot hbel ap dp => kLoadAs _ _ _ _ _ 4 _ _ _ rfl rfl (sD dp 2 .data) ((hM9.get 4 rfl).on hbel) Tryd.underlying24 rfl info_Wide (by rw [pcells_size]; decide) (pcells_at0 _ _ _) (sE ap sz rfl)
  · exact fun A W sz ot hbel ap dp => kLoadRow _ _ _ _ _ _ rfl rfl (sO ot 7) ((hM9.get 0 rfl).on hbel) Tryd.underlying24 rfl (info_WideC _) (sE ap sz rfl)
  · exact fun A W sz ot hbel ap dp => sCall3 34 rfl (sD dp 1 .data) (sD dp 3 .data) (sD dp 4 .data) (sC (fMul_as hm (w5.heap.size) mu mv36 Hv42.out W ((hM9.get 1 rfl).on hbel)) ap sz (fun _ => rfl))
  · exact fun A W sz ot hbel ap dp => kFieldScaled0 _ _ rfl rfl (sO ot 2) (sE ap sz rfl)
  · exact fun A W sz ot hbel ap dp => kLoadAs _ _ _ _ _ 4 _ _ _ rfl rfl (sD dp 6 .data) ((hM9.get 5 rfl).on hbel) Tryd.underlying24 rfl info_Wide (by rw [scells_size]; decide) (scells_at0 _ _ _) (sE ap sz rfl)
  · exact fun A W sz ot hbel ap dp => sCall3 36 rfl (sD dp 0 .data) (sD dp 5 .data) (sD dp 7 .data) (sC (fSub_as hm (w5.heap.size) mv42 mx Hv45.out W ((hM9.get 1 rfl).on hbel)) ap sz (fun _ => rfl))
  · intro A W sz ot hbel ap dp
    refine kAllocL _ _ rfl rfl zero_Wide ?_
    intro r hR hl hBc
    exact (sA ap sz hl hBc ⟨_, rfl, hbel.size, hR⟩ rfl)
  intro w10 hB10
  dsimp only [AllV]
  intro g10_8 hg10_8 hR10_8
  intro hap
  dsimp only [putAll, List.take, List.drop]
  go_frame
  have hM10 := hM9.on hB10
  replace hM10 := hM10.cons hR10_8 (Nat.le_trans hM9.size hg10_8) (fun p hp => by have := hM9.lt hp; omega)
  clear hB10 hM9 hap hg10_8 hR10_8
  go_wp2_with (first
    | ((with_reducible change wpList _ _ _ (Oper.mk none (Op.store _ (Operand.tmp 8) (Operand.tmp 45)) _ _ _ _ :: _) _ _); refine mmStoreAt hM10 0 _ _ _ _ _ _ (wcells v45) rfl rfl rfl rfl rfl (info_WideC _) (by simp only [wcells_size]) (wcells_one _) ?_; intro w11 hM11; dsimp only [List.set] at hM11; clear hM10; go_frame))
  refine region_symT 14 _ [13] [9] [.val (.pointer (some ⟨w5.heap.size, 0, none⟩)), .val (.pointer (some ⟨w5.heap.size, 0, none⟩)), .val (.pointer (some ⟨w1.heap.size, 4, none⟩)), .val (.agg (wcells v)), .val (.pointer (some ⟨w5.heap.size, 0, none⟩)), .val (.agg (wcells v36)), .val (.pointer (some ⟨w.heap.size, 8, none⟩)), .val (.agg (wcells z)), .val (.agg (wcells v54)), .val (.agg (wcells v55)), .val (.pointer (some ⟨w.heap.size, 4, none⟩)), .val (.agg (wcells y)), .val (.agg (wcells v58)), .hold w11.heap.size 24 (wcells 0)] rfl (by kernel_rfl) (by kernel_rfl) (by kernel_rfl) (by kernel_rfl) rfl (by intro s hs; simp only [List.mem_cons, List.not_mem_nil, or_false] at hs; rcases hs with rfl <;> rfl) (steps_all ⟨?_, ?_, ?_, ?_, ?_, ?_, ?_, ?_, ?_, ?_, ?_, ?_, ?_, ?_, trivial⟩) ?_
  · exact fun A W sz ot hbel ap dp => kMoveV _ _ rfl rfl (sO ot 6) (sE ap sz rfl)
  · exact fun A W sz ot hbel ap dp => kMoveV _ _ rfl rfl (sO ot 6) (sE ap sz rfl)
  · exact fun A W sz ot hbel ap dp => kFieldPoint1 _ _ rfl rfl (sO ot 3) (sE ap sz rfl)
  · exact fun A W sz ot hbel ap dp => kLoadAs _ _ _ _ _ 4 _ _ _ rfl rfl (sD dp 2 .data) ((hM11.get 5 rfl).on hbel) Tryd.underlying24 rfl info_Wide (by rw [pcells_size]; decide) (pcells_at4 _ _ _) (sE ap sz rfl)
  · exact fun A W sz ot hbel ap dp => kMoveV _ _ rfl rfl (sO ot 6) (sE ap sz rfl)
  · exact fun A W sz ot hbel ap dp => kLoadRow _ _ _ _ _ _ rfl rfl (sO ot 7) ((hM11.get 1 rfl).on hbel) Tryd.underlying24 rfl (info_WideC _) (sE ap sz rfl)
  · exact fun A W sz ot hbel ap dp => kFieldScaled2 _ _ rfl rfl (sO ot 2) (sE ap sz rfl)
  · exact fun A W sz ot hbel ap dp => kLoadAs _ _ _ _ _ 4 _ _ _ rfl rfl (sD dp 6 .data) ((hM11.get 6 rfl).on hbel) Tryd.underlying24 rfl info_Wide (by rw [scells_size]; decide) (scells_at8 _ _ _) (sE ap sz rfl)
  · exact fun A W sz ot hbel ap dp => sCall3 34 rfl (sD dp 4 .data) (sD dp 5 .data) (sD dp 7 .data) (sC (fMul_as hm (w5.heap.size) mv36 mz Hv54.out W ((hM11.get 2 rfl).on hbel)) ap sz (fun _ => rfl))
  · exact fun A W sz ot hbel ap dp => sCall3 34 rfl (sD dp 1 .data) (sD dp 3 .data) (sD dp 8 .data) (sC (fMul_as hm (w5.heap.size) mv mv54 Hv55.out W ((hM11.get 2 rfl).on hbel)) ap sz (fun _ => rfl))
  · exact fun A W sz ot hbel ap dp => kFieldScaled1 _ _ rfl rfl (sO ot 2) (sE ap sz rfl)
  · exact fun A W sz ot hbel ap dp => kLoadAs _ _ _ _ _ 4 _ _ _ rfl rfl (sD dp 10 .data) ((hM11.get 6 rfl).on hbel) Tryd.underlying24 rfl info_Wide (by rw [scells_size]; decide) (scells_at4 _ _ _) (sE ap sz rfl)
  · exact fun A W sz ot hbel ap dp => sCall3 36 rfl (sD dp 0 .data) (sD dp 9 .data) (sD dp 11 .data) (sC (fSub_as hm (w5.heap.size) mv55 my Hv58.out W ((hM11.get 2 rfl).on hbel)) ap sz (fun _ => rfl))
  · intro A W sz ot hbel ap dp
    refine kAllocL _ _ rfl rfl zero_Wide ?_
    intro r hR hl hBc
    exact (sA ap sz hl hBc ⟨_, rfl, hbel.size, hR⟩ rfl)
  intro w12 hB12
  dsimp only [AllV]
  intro g12_9 hg12_9 hR12_9
  intro hap
  dsimp only [putAll, List.take, List.drop]
  go_frame
  have hM12 := hM11.on hB12
  replace hM12 := hM12.cons hR12_9 (Nat.le_trans hM11.size hg12_9) (fun p hp => by have := hM11.lt hp; omega)
  clear hB12 hM11 hap hg12_9 hR12_9
  go_wp2_with (first
    | ((with_reducible change wpList _ _ _ (Oper.mk none (Op.store _ (Operand.tmp 9) (Operand.tmp 58)) _ _ _ _ :: _) _ _); refine mmStoreAt hM12 0 _ _ _ _ _ _ (wcells v58) rfl rfl rfl rfl rfl (info_WideC _) (by simp only [wcells_size]) (wcells_one _) ?_; intro w13 hM13; dsimp only [List.set] at hM13; clear hM12; go_frame)
    | ((with_reducible change wpList _ _ _ (Oper.mk (some 59) _ _ _ _ _ :: _) _ _); refine kLoadRow _ _ _ _ _ _ rfl rfl rfl (hM13.get 1 rfl) Tryd.underlying24 rfl (info_WideC _) ?_; go_frame)
    | ((with_reducible change wpList _ _ _ (Oper.mk (some 60) _ _ _ _ _ :: _) _ _); refine kLoadRow _ _ _ _ _ _ rfl rfl rfl (hM13.get 4 rfl) Tryd.underlying24 rfl (info_WideC _) ?_; go_frame)
    | ((with_reducible change wpList _ _ _ (Oper.mk (some 61) _ _ _ _ _ :: _) _ _); refine kEqlW _ _ _ (v45) (0) false rfl rfl rfl rfl (F61.out) ?_; go_frame)
    | ((with_reducible change wpList _ _ _ (Oper.mk (some 70) _ _ _ _ _ :: _) _ _); refine kLoadRow _ _ _ _ _ _ rfl rfl rfl (hM13.get 1 rfl) Tryd.underlying24 rfl (info_WideC _) ?_; go_frame)
    | ((with_reducible change wpList _ _ _ (Oper.mk (some 71) _ _ _ _ _ :: _) _ _); refine kLoadRow _ _ _ _ _ _ rfl rfl rfl (hM13.get 1 rfl) Tryd.underlying24 rfl (info_WideC _) ?_; go_frame)
    | (go_at_call 34; (with_reducible change Calls _ _ #[Value.pointer (some ⟨w5.heap.size, 0, none⟩), Value.agg (wcells v45), Value.agg (wcells v45)] _ _); refine (fMul_as hm (w5.heap.size) mv45 mv45 Hv72.out _ (hM13.get 3 rfl)).mono ?_; rintro e w14 ⟨rfl, hB14⟩; have hM14 := hM13.on hB14; clear hB14 hM13; (try unfold WV); go_frame)
    | ((with_reducible change wpList _ _ _ (Oper.mk (some 10) _ _ _ _ _ :: _) _ _); refine mmAlloc hM14 _ _ rfl rfl zero_Wide ?_; intro w15 hM15; clear hM14; go_frame)
    | ((with_reducible change wpList _ _ _ (Oper.mk none (Op.store _ (Operand.tmp 10) (Operand.tmp 72)) _ _ _ _ :: _) _ _); refine mmStoreAt hM15 0 _ _ _ _ _ _ (wcells v72) rfl rfl rfl rfl rfl (info_WideC _) (by simp only [wcells_size]) (wcells_one _) ?_; intro w16 hM16; dsimp only [List.set] at hM16; clear hM15; go_frame))
  refine region_symT 11 _ [9, 10] [11, 12] [.val (.pointer (some ⟨w5.heap.size, 0, none⟩)), .val (.agg (wcells v72)), .val (.agg (wcells v45)), .val (.agg (wcells v76)), .val (.pointer (some ⟨w5.heap.size, 0, none⟩)), .val (.pointer (some ⟨w.heap.size, 0, none⟩)), .val (.agg (wcells x)), .val (.agg (wcells v72)), .val (.agg (wcells v81)), .hold w16.heap.size 24 (wcells 0), .hold w16.heap.size 24 (wcells 0)] rfl (by kernel_rfl) (by kernel_rfl) (by kernel_rfl) (by kernel_rfl) rfl (by intro s hs; simp only [List.mem_cons, List.not_mem_nil, or_false] at hs; rcases hs with rfl | rfl <;> rfl) (steps_all ⟨?_, ?_, ?_, ?_, ?_, ?_, ?_, ?_, ?_, ?_, ?_, trivial⟩) ?_
  · exact fun A W sz ot hbel ap dp => kMoveV _ _ rfl rfl (sO ot 6) (sE ap sz rfl)
  · exact fun A W sz ot hbel ap dp => kLoadRow _ _ _ _ _ _ rfl rfl (sO ot 10) ((hM16.get 0 rfl).on hbel) Tryd.underlying24 rfl (info_WideC _) (sE ap sz rfl)
  · exact fun A W sz ot hbel ap dp => kLoadRow _ _ _ _ _ _ rfl rfl (sO ot 8) ((hM16.get 2 rfl).on hbel) Tryd.underlying24 rfl (info_WideC _) (sE ap sz rfl)
  · exact fun A W sz ot hbel ap dp => sCall3 34 rfl (sD dp 0 .data) (sD dp 1 .data) (sD dp 2 .data) (sC (fMul_as hm (w5.heap.size) mv72 mv45 Hv76.out W ((hM16.get 4 rfl).on hbel)) ap sz (fun _ => rfl))
  · exact fun A W sz ot hbel ap dp => kMoveV _ _ rfl rfl (sO ot 6) (sE ap sz rfl)
  · exact fun A W sz ot hbel ap dp => kFieldScaled0 _ _ rfl rfl (sO ot 2) (sE ap sz rfl)
  · exact fun A W sz ot hbel ap dp => kLoadAs _ _ _ _ _ 4 _ _ _ rfl rfl (sD dp 5 .data) ((hM16.get 8 rfl).on hbel) Tryd.underlying24 rfl info_Wide (by rw [scells_size]; decide) (scells_at0 _ _ _) (sE ap sz rfl)
  · exact fun A W sz ot hbel ap dp => kLoadRow _ _ _ _ _ _ rfl rfl (sO ot 10) ((hM16.get 0 rfl).on hbel) Tryd.underlying24 rfl (info_WideC _) (sE ap sz rfl)
  · exact fun A W sz ot hbel ap dp => sCall3 34 rfl (sD dp 4 .data) (sD dp 6 .data) (sD dp 7 .data) (sC (fMul_as hm (w5.heap.size) mx mv72 Hv81.out W ((hM16.get 4 rfl).on hbel)) ap sz (fun _ => rfl))
  · intro A W sz ot hbel ap dp
    refine kAllocL _ _ rfl rfl zero_Wide ?_
    intro r hR hl hBc
    exact (sA ap sz hl hBc ⟨_, rfl, hbel.size, hR⟩ rfl)
  · intro A W sz ot hbel ap dp
    refine kAllocL _ _ rfl rfl zero_Wide ?_
    intro r hR hl hBc
    exact (sA ap sz hl hBc ⟨_, rfl, hbel.size, hR⟩ rfl)
  intro w17 hB17
  dsimp only [AllV]
  intro g17_11 hg17_11 hR17_11
  intro g17_12 hg17_12 hR17_12
  intro hap
  dsimp only [putAll, List.take, List.drop]
  go_frame
  have hM17 := hM16.on hB17
  replace hM17 := hM17.cons hR17_11 (Nat.le_trans hM16.size hg17_11) (fun p hp => by have := hM16.lt hp; omega)
  have hne17_12_17_11 : g17_12 ≠ g17_11 := fun e => hap 10 (by simp) 9 (by simp) (by decide) g17_12 rfl (by rw [e]; rfl)
  replace hM17 := hM17.cons hR17_12 (Nat.le_trans hM16.size hg17_12) (List.forall_mem_cons.2 ⟨hne17_12_17_11, fun p hp => by have := hM16.lt hp; omega⟩)
  clear hB17 hM16 hap hg17_11 hR17_11 hg17_12 hR17_12
  go_wp2_with (first
    | ((with_reducible change wpList _ _ _ (Oper.mk none (Op.store _ (Operand.tmp 11) (Operand.tmp 76)) _ _ _ _ :: _) _ _); refine mmStoreAt hM17 1 _ _ _ _ _ _ (wcells v76) rfl rfl rfl rfl rfl (info_WideC _) (by simp only [wcells_size]) (wcells_one _) ?_; intro w18 hM18; dsimp only [List.set] at hM18; clear hM17; go_frame)
    | ((with_reducible change wpList _ _ _ (Oper.mk none (Op.store _ (Operand.tmp 12) (Operand.tmp 81)) _ _ _ _ :: _) _ _); refine mmStoreAt hM18 0 _ _ _ _ _ _ (wcells v81) rfl rfl rfl rfl rfl (info_WideC _) (by simp only [wcells_size]) (wcells_one _) ?_; intro w19 hM19; dsimp only [List.set] at hM19; clear hM18; go_frame))
  refine region_symT 14 _ [13] [13] [.val (.pointer (some ⟨w5.heap.size, 0, none⟩)), .val (.pointer (some ⟨w5.heap.size, 0, none⟩)), .val (.pointer (some ⟨w5.heap.size, 0, none⟩)), .val (.agg (wcells v58)), .val (.agg (wcells v58)), .val (.agg (wcells v87)), .val (.agg (wcells v76)), .val (.agg (wcells v89)), .val (.pointer (some ⟨w5.heap.size, 0, none⟩)), .val (.agg (wcells v81)), .val (.agg (wcells v81)), .val (.agg (wcells v93)), .val (.agg (wcells v94)), .hold w19.heap.size 24 (wcells 0)] rfl (by kernel_rfl) (by kernel_rfl) (by kernel_rfl) (by kernel_rfl) rfl (by intro s hs; simp only [List.mem_cons, List.not_mem_nil, or_false] at hs; rcases hs with rfl <;> rfl) (steps_all ⟨?_, ?_, ?_, ?_, ?_, ?_, ?_, ?_, ?_, ?_, ?_, ?_, ?_, ?_, trivial⟩) ?_
  · exact fun A W sz ot hbel ap dp => kMoveV _ _ rfl rfl (sO ot 6) (sE ap sz rfl)
  · exact fun A W sz ot hbel ap dp => kMoveV _ _ rfl rfl (sO ot 6) (sE ap sz rfl)
  · exact fun A W sz ot hbel ap dp => kMoveV _ _ rfl rfl (sO ot 6) (sE ap sz rfl)
  · exact fun A W sz ot hbel ap dp => kLoadRow _ _ _ _ _ _ rfl rfl (sO ot 9) ((hM19.get 3 rfl).on hbel) Tryd.underlying24 rfl (info_WideC _) (sE ap sz rfl)
  · exact fun A W sz ot hbel ap dp => kLoadRow _ _ _ _ _ _ rfl rfl (sO ot 9) ((hM19.get 3 rfl).on hbel) Tryd.underlying24 rfl (info_WideC _) (sE ap sz rfl)
  · exact fun A W sz ot hbel ap dp => sCall3 34 rfl (sD dp 2 .data) (sD dp 3 .data) (sD dp 4 .data) (sC (fMul_as hm (w5.heap.size) mv58 mv58 Hv87.out W ((hM19.get 6 rfl).on hbel)) ap sz (fun _ => rfl))
  · exact fun A W sz ot hbel ap dp => kLoadRow _ _ _ _ _ _ rfl rfl (sO ot 11) ((hM19.get 1 rfl).on hbel) Tryd.underlying24 rfl (info_WideC _) (sE ap sz rfl)
  · exact fun A W sz ot hbel ap dp => sCall3 36 rfl (sD dp 1 .data) (sD dp 5 .data) (sD dp 6 .data) (sC (fSub_as hm (w5.heap.size) mv87 mv76 Hv89.out W ((hM19.get 6 rfl).on hbel)) ap sz (fun _ => rfl))
  · exact fun A W sz ot hbel ap dp => kMoveV _ _ rfl rfl (sO ot 6) (sE ap sz rfl)
  · exact fun A W sz ot hbel ap dp => kLoadRow _ _ _ _ _ _ rfl rfl (sO ot 12) ((hM19.get 0 rfl).on hbel) Tryd.underlying24 rfl (info_WideC _) (sE ap sz rfl)
  · exact fun A W sz ot hbel ap dp => kLoadRow _ _ _ _ _ _ rfl rfl (sO ot 12) ((hM19.get 0 rfl).on hbel) Tryd.underlying24 rfl (info_WideC _) (sE ap sz rfl)
  · exact fun A W sz ot hbel ap dp => sCall3 32 rfl (sD dp 8 .data) (sD dp 9 .data) (sD dp 10 .data) (sC (fAdd_as hm (w5.heap.size) mv81 mv81 Hv93.out.symm W ((hM19.get 6 rfl).on hbel)) ap sz (fun _ => rfl))
  · exact fun A W sz ot hbel ap dp => sCall3 36 rfl (sD dp 0 .data) (sD dp 7 .data) (sD dp 11 .data) (sC (fSub_as hm (w5.heap.size) mv89 mv93 Hv94.out W ((hM19.get 6 rfl).on hbel)) ap sz (fun _ => rfl))
  · intro A W sz ot hbel ap dp
    refine kAllocL _ _ rfl rfl zero_Wide ?_
    intro r hR hl hBc
    exact (sA ap sz hl hBc ⟨_, rfl, hbel.size, hR⟩ rfl)
  intro w20 hB20
  dsimp only [AllV]
  intro g20_13 hg20_13 hR20_13
  intro hap
  dsimp only [putAll, List.take, List.drop]
  go_frame
  have hM20 := hM19.on hB20
  replace hM20 := hM20.cons hR20_13 (Nat.le_trans hM19.size hg20_13) (fun p hp => by have := hM19.lt hp; omega)
  clear hB20 hM19 hap hg20_13 hR20_13
  go_wp2_with (first
    | ((with_reducible change wpList _ _ _ (Oper.mk none (Op.store _ (Operand.tmp 13) (Operand.tmp 94)) _ _ _ _ :: _) _ _); refine mmStoreAt hM20 0 _ _ _ _ _ _ (wcells v94) rfl rfl rfl rfl rfl (info_WideC _) (by simp only [wcells_size]) (wcells_one _) ?_; intro w21 hM21; dsimp only [List.set] at hM21; clear hM20; go_frame))
  refine region_symT 15 _ [14] [14] [.val (.pointer (some ⟨w5.heap.size, 0, none⟩)), .val (.pointer (some ⟨w5.heap.size, 0, none⟩)), .val (.agg (wcells v58)), .val (.pointer (some ⟨w5.heap.size, 0, none⟩)), .val (.agg (wcells v81)), .val (.agg (wcells v94)), .val (.agg (wcells v101)), .val (.agg (wcells v102)), .val (.pointer (some ⟨w5.heap.size, 0, none⟩)), .val (.pointer (some ⟨w.heap.size, 4, none⟩)), .val (.agg (wcells y)), .val (.agg (wcells v76)), .val (.agg (wcells v107)), .val (.agg (wcells v108)), .hold w21.heap.size 24 (wcells 0)] rfl (by kernel_rfl) (by kernel_rfl) (by kernel_rfl) (by kernel_rfl) rfl (by intro s hs; simp only [List.mem_cons, List.not_mem_nil, or_false] at hs; rcases hs with rfl <;> rfl) (steps_all ⟨?_, ?_, ?_, ?_, ?_, ?_, ?_, ?_, ?_, ?_, ?_, ?_, ?_, ?_, ?_, trivial⟩) ?_
  · exact fun A W sz ot hbel ap dp => kMoveV _ _ rfl rfl (sO ot 6) (sE ap sz rfl)
  · exact fun A W sz ot hbel ap dp => kMoveV _ _ rfl rfl (sO ot 6) (sE ap sz rfl)
  · exact fun A W sz ot hbel ap dp => kLoadRow _ _ _ _ _ _ rfl rfl (sO ot 9) ((hM21.get 4 rfl).on hbel) Tryd.underlying24 rfl (info_WideC _) (sE ap sz rfl)
  · exact fun A W sz ot hbel ap dp => kMoveV _ _ rfl rfl (sO ot 6) (sE ap sz rfl)
  · exact fun A W sz ot hbel ap dp => kLoadRow _ _ _ _ _ _ rfl rfl (sO ot 12) ((hM21.get 1 rfl).on hbel) Tryd.underlying24 rfl (info_WideC _) (sE ap sz rfl)
  · exact fun A W sz ot hbel ap dp => kLoadRow _ _ _ _ _ _ rfl rfl (sO ot 13) ((hM21.get 0 rfl).on hbel) Tryd.underlying24 rfl (info_WideC _) (sE ap sz rfl)
  · exact fun A W sz ot hbel ap dp => sCall3 36 rfl (sD dp 3 .data) (sD dp 4 .data) (sD dp 5 .data) (sC (fSub_as hm (w5.heap.size) mv81 mv94 Hv101.out W ((hM21.get 7 rfl).on hbel)) ap sz (fun _ => rfl))
  · exact fun A W sz ot hbel ap dp => sCall3 34 rfl (sD dp 1 .data) (sD dp 2 .data) (sD dp 6 .data) (sC (fMul_as hm (w5.heap.size) mv58 mv101 Hv102.out W ((hM21.get 7 rfl).on hbel)) ap sz (fun _ => rfl))
  · exact fun A W sz ot hbel ap dp => kMoveV _ _ rfl rfl (sO ot 6) (sE ap sz rfl)
  · exact fun A W sz ot hbel ap dp => kFieldScaled1 _ _ rfl rfl (sO ot 2) (sE ap sz rfl)
  · exact fun A W sz ot hbel ap dp => kLoadAs _ _ _ _ _ 4 _ _ _ rfl rfl (sD dp 9 .data) ((hM21.get 11 rfl).on hbel) Tryd.underlying24 rfl info_Wide (by rw [scells_size]; decide) (scells_at4 _ _ _) (sE ap sz rfl)
  · exact fun A W sz ot hbel ap dp => kLoadRow _ _ _ _ _ _ rfl rfl (sO ot 11) ((hM21.get 2 rfl).on hbel) Tryd.underlying24 rfl (info_WideC _) (sE ap sz rfl)
  · exact fun A W sz ot hbel ap dp => sCall3 34 rfl (sD dp 8 .data) (sD dp 10 .data) (sD dp 11 .data) (sC (fMul_as hm (w5.heap.size) my mv76 Hv107.out W ((hM21.get 7 rfl).on hbel)) ap sz (fun _ => rfl))
  · exact fun A W sz ot hbel ap dp => sCall3 36 rfl (sD dp 0 .data) (sD dp 7 .data) (sD dp 12 .data) (sC (fSub_as hm (w5.heap.size) mv102 mv107 Hv108.out W ((hM21.get 7 rfl).on hbel)) ap sz (fun _ => rfl))
  · intro A W sz ot hbel ap dp
    refine kAllocL _ _ rfl rfl zero_Wide ?_
    intro r hR hl hBc
    exact (sA ap sz hl hBc ⟨_, rfl, hbel.size, hR⟩ rfl)
  intro w22 hB22
  dsimp only [AllV]
  intro g22_14 hg22_14 hR22_14
  intro hap
  dsimp only [putAll, List.take, List.drop]
  go_frame
  have hM22 := hM21.on hB22
  replace hM22 := hM22.cons hR22_14 (Nat.le_trans hM21.size hg22_14) (fun p hp => by have := hM21.lt hp; omega)
  clear hB22 hM21 hap hg22_14 hR22_14
  go_wp2_with (first
    | ((with_reducible change wpList _ _ _ (Oper.mk none (Op.store _ (Operand.tmp 14) (Operand.tmp 108)) _ _ _ _ :: _) _ _); refine mmStoreAt hM22 0 _ _ _ _ _ _ (wcells v108) rfl rfl rfl rfl rfl (info_WideC _) (by simp only [wcells_size]) (wcells_one _) ?_; intro w23 hM23; dsimp only [List.set] at hM23; clear hM22; go_frame))
  refine region_symT 8 _ [] [] [.val (.agg (wcells v94)), .val (.agg (wcells v108)), .val (.pointer (some ⟨w5.heap.size, 0, none⟩)), .val (.pointer (some ⟨w.heap.size, 8, none⟩)), .val (.agg (wcells z)), .val (.agg (wcells v45)), .val (.agg (wcells v115)), .val (.agg (scells v94 v108 v115))] rfl (by kernel_rfl) (by kernel_rfl) (by kernel_rfl) (by kernel_rfl) rfl (by intro s hs; cases hs) (steps_all ⟨?_, ?_, ?_, ?_, ?_, ?_, ?_, ?_, trivial⟩) ?_
  · exact fun A W sz ot hbel ap dp => kLoadRow _ _ _ _ _ _ rfl rfl (sO ot 13) ((hM23.get 1 rfl).on hbel) Tryd.underlying24 rfl (info_WideC _) (sE ap sz rfl)
  · exact fun A W sz ot hbel ap dp => kLoadRow _ _ _ _ _ _ rfl rfl (sO ot 14) ((hM23.get 0 rfl).on hbel) Tryd.underlying24 rfl (info_WideC _) (sE ap sz rfl)
  · exact fun A W sz ot hbel ap dp => kMoveV _ _ rfl rfl (sO ot 6) (sE ap sz rfl)
  · exact fun A W sz ot hbel ap dp => kFieldScaled2 _ _ rfl rfl (sO ot 2) (sE ap sz rfl)
  · exact fun A W sz ot hbel ap dp => kLoadAs _ _ _ _ _ 4 _ _ _ rfl rfl (sD dp 3 .data) ((hM23.get 12 rfl).on hbel) Tryd.underlying24 rfl info_Wide (by rw [scells_size]; decide) (scells_at8 _ _ _) (sE ap sz rfl)
  · exact fun A W sz ot hbel ap dp => kLoadRow _ _ _ _ _ _ rfl rfl (sO ot 8) ((hM23.get 6 rfl).on hbel) Tryd.underlying24 rfl (info_WideC _) (sE ap sz rfl)
  · exact fun A W sz ot hbel ap dp => sCall3 34 rfl (sD dp 2 .data) (sD dp 4 .data) (sD dp 5 .data) (sC (fMul_as hm (w5.heap.size) mz mv45 Hv115.out W ((hM23.get 8 rfl).on hbel)) ap sz (fun _ => rfl))
  · exact fun A W sz ot hbel ap dp => kBuildScaled3 _ _ _ v94 v108 v115 rfl rfl (sD dp 0 .data) (sD dp 1 .data) (sD dp 6 .data) (sE ap sz rfl)
  intro w24 hB24
  dsimp only [AllV]
  intro hap
  dsimp only [putAll, List.take, List.drop]
  go_frame
  have hM24 := hM23.on hB24
  clear hB24 hM23 hap
  go_wp2_with (first
    | ((with_reducible change wpList _ _ _ (Oper.mk none (Op.store _ (Operand.tmp 4) (Operand.tmp 116)) _ _ _ _ :: _) _ _); refine mmStoreAt hM24 10 _ _ _ _ _ _ (scells v94 v108 v115) rfl rfl rfl rfl rfl (info_scaledC _ _ _) (by simp only [scells_size]) (scells_one _ _ _) ?_; intro w25 hM25; dsimp only [List.set] at hM25; clear hM24; go_frame))
  exact result_row Tryd.results79 rfl (hM25.get 10 rfl) Tryd.underlying100 rfl (info_scaledC _ _ _) rfl ⟨by rw [R.out], hM25.below⟩
end Go.Proofs.YtfgffjmpjoipeaaDoor
