/-
  The reference of layer 4: Add, Neg and On by points; the statements' own 'of' and 'curveAlive'.
-/
import Derived.Test.YtfgffjmpjoipeaaDoorCvRef3
import Derived.Test.YtfgffjmpjoipeaaDoorCvBoth
namespace Go.Proofs.YtfgffjmpjoipeaaDoor
open Go Go.RowKit

open Cv
theorem eNeg_as {x y v : Nat} (my : y < M256) (p : Bool) (hv : (0 - FP y : Fin PP).val = v) (w : World) : Calls Tryd.prog 82 #[.agg (pcells x y p)] w fun e w' => e = .returned (.agg (pcells x v p)) ∧ Below w.heap.size w w' := hv ▸ eNeg_nat my p w
theorem eOn_pt {p : Pt PP} (h : p.On) (w : World) : Calls Tryd.prog 52 #[.agg (ptc p)] w fun e w' => e = .returned (.bool true) ∧ Below w.heap.size w w' := by
  obtain ⟨x, y, b, e, mx, my, ho⟩ := onB_pt h
  rw [e, ← ho]; exact eOn_any mx my b w
set_option maxRecDepth 100000 in
set_option maxHeartbeats 8000000 in
theorem eadd_o (q : Pt PP) (w : World) :
    Calls Tryd.prog 53 #[.agg (pcells 0 0 true), .agg (ptc q)] w fun e w' => e = .returned (.agg (ptc q)) ∧ Below w.heap.size w w' := by
  have hM0 := mm_nil w
  (try unfold WV)
  go_enter Tryd.func53, Tryd.ntmps53
  go_wp2_with (first
    | ((with_reducible change wpList _ _ _ (Oper.mk (some 2) _ _ _ _ _ :: _) _ _); refine mmBox hM0 _ _ (pcells 0 0 true) rfl rfl rfl ?_; intro w1 hM1; clear hM0; go_frame)
    | ((with_reducible change wpList _ _ _ (Oper.mk (some 3) _ _ _ _ _ :: _) _ _); refine mmBox hM1 _ _ (ptc q) rfl rfl rfl ?_; intro w2 hM2; clear hM1; go_frame)
    | ((with_reducible change wpList _ _ _ (Oper.mk (some 4) _ _ _ _ _ :: _) _ _); refine mmAlloc hM2 _ _ rfl rfl zero_Point ?_; intro w3 hM3; clear hM2; go_frame)
    | ((with_reducible change wpList _ _ _ (Oper.mk (some 11) _ _ _ _ _ :: _) _ _); refine kFieldPoint2 _ _ rfl rfl rfl ?_; go_frame)
    | ((with_reducible change wpList _ _ _ (Oper.mk (some 12) _ _ _ _ _ :: _) _ _); refine kLoad1 _ _ _ _ _ _ _ _ rfl rfl rfl (hM3.get 2 rfl) Tryd.underlying4 rfl (pcells_at8 _ _ _) ?_; go_frame)
    | ((with_reducible change wpList _ _ _ (Oper.mk (some 13) _ _ _ _ _ :: _) _ _); refine kLoadRow _ _ _ _ _ _ rfl rfl rfl (hM3.get 1 rfl) Tryd.underlying30 rfl (info_ptc _) ?_; go_frame)
    | ((with_reducible change wpList _ _ _ (Oper.mk none (Op.store _ (Operand.tmp 4) (Operand.tmp 13)) _ _ _ _ :: _) _ _); refine mmStoreAt hM3 0 _ _ _ _ _ _ (ptc q) rfl rfl rfl rfl rfl (info_ptc _) (by simp only [pcells_size, ptc_size]) (ptc_one _) ?_; intro w4 hM4; dsimp only [List.set] at hM4; clear hM3; go_frame))
  exact result_row Tryd.results53 rfl (hM4.get 0 rfl) Tryd.underlying30 rfl (info_ptc _) rfl ⟨rfl, hM4.below⟩
set_option maxRecDepth 100000 in
set_option maxHeartbeats 8000000 in
theorem eadd_no {x y : Nat} (w : World) :
    Calls Tryd.prog 53 #[.agg (pcells x y false), .agg (pcells 0 0 true)] w fun e w' => e = .returned (.agg (pcells x y false)) ∧ Below w.heap.size w w' := by
  have hM0 := mm_nil w
  (try unfold WV)
  go_enter Tryd.func53, Tryd.ntmps53
  go_wp2_with (first
    | ((with_reducible change wpList _ _ _ (Oper.mk (some 2) _ _ _ _ _ :: _) _ _); refine mmBox hM0 _ _ (pcells x y false) rfl rfl rfl ?_; intro w1 hM1; clear hM0; go_frame)
    | ((with_reducible change wpList _ _ _ (Oper.mk (some 3) _ _ _ _ _ :: _) _ _); refine mmBox hM1 _ _ (pcells 0 0 true) rfl rfl rfl ?_; intro w2 hM2; clear hM1; go_frame)
    | ((with_reducible change wpList _ _ _ (Oper.mk (some 4) _ _ _ _ _ :: _) _ _); refine mmAlloc hM2 _ _ rfl rfl zero_Point ?_; intro w3 hM3; clear hM2; go_frame)
    | ((with_reducible change wpList _ _ _ (Oper.mk (some 11) _ _ _ _ _ :: _) _ _); refine kFieldPoint2 _ _ rfl rfl rfl ?_; go_frame)
    | ((with_reducible change wpList _ _ _ (Oper.mk (some 12) _ _ _ _ _ :: _) _ _); refine kLoad1 _ _ _ _ _ _ _ _ rfl rfl rfl (hM3.get 2 rfl) Tryd.underlying4 rfl (pcells_at8 _ _ _) ?_; go_frame)
    | ((with_reducible change wpList _ _ _ (Oper.mk (some 14) _ _ _ _ _ :: _) _ _); refine kFieldPoint2 _ _ rfl rfl rfl ?_; go_frame)
    | ((with_reducible change wpList _ _ _ (Oper.mk (some 15) _ _ _ _ _ :: _) _ _); refine kLoad1 _ _ _ _ _ _ _ _ rfl rfl rfl (hM3.get 1 rfl) Tryd.underlying4 rfl (pcells_at8 _ _ _) ?_; go_frame)
    | ((with_reducible change wpList _ _ _ (Oper.mk (some 16) _ _ _ _ _ :: _) _ _); refine kLoadRow _ _ _ _ _ _ rfl rfl rfl (hM3.get 2 rfl) Tryd.underlying30 rfl (info_PointC _ _ _) ?_; go_frame)
    | ((with_reducible change wpList _ _ _ (Oper.mk none (Op.store _ (Operand.tmp 4) (Operand.tmp 16)) _ _ _ _ :: _) _ _); refine mmStoreAt hM3 0 _ _ _ _ _ _ (pcells x y false) rfl rfl rfl rfl rfl (info_PointC _ _ _) (by simp only [pcells_size]) (pcells_one _ _ _) ?_; intro w4 hM4; dsimp only [List.set] at hM4; clear hM3; go_frame))
  exact result_row Tryd.results53 rfl (hM4.get 0 rfl) Tryd.underlying30 rfl (info_PointC _ _ _) rfl ⟨rfl, hM4.below⟩
set_option maxRecDepth 100000 in
set_option maxHeartbeats 8000000 in
theorem eadd_across {x1 y1 x2 y2 : Nat} (lx1 : x1 < PP) (ly1 : y1 < PP) (lx2 : x2 < PP) (ly2 : y2 < PP) (hx : FP x2 = FP x1) (hy : FP y2 = 0 - FP y1) (w : World) :
    Calls Tryd.prog 53 #[.agg (pcells x1 y1 false), .agg (pcells x2 y2 false)] w fun e w' => e = .returned (.agg (ptc .o)) ∧ Below w.heap.size w w' := by
  have mx1 := lt_M lx1
  have my1 := lt_M ly1
  have mx2 := lt_M lx2
  have my2 := lt_M ly2
  obtain ⟨v19, Hv19⟩ : ∃ n, Hid ((0 - FP y1 : Fin PP).val = n) := ⟨_, Lib.hid rfl⟩
  have mv19 : v19 < M256 := by rw [← Hv19.out]; exact val_lt _
  have h1 := Lib.hid (FP_inj lx2 lx1 hx)
  have h2 := Lib.hid (show y2 = v19 by rw [← Hv19.out]; exact val_of ly2 hy)
  clear hx hy
  have hM0 := mm_nil w
  (try unfold WV)
  go_enter Tryd.func53, Tryd.ntmps53
  go_wp2_with (first
    | ((with_reducible change wpList _ _ _ (Oper.mk (some 2) _ _ _ _ _ :: _) _ _); refine mmBox hM0 _ _ (pcells x1 y1 false) rfl rfl rfl ?_; intro w1 hM1; clear hM0; go_frame)
    | ((with_reducible change wpList _ _ _ (Oper.mk (some 3) _ _ _ _ _ :: _) _ _); refine mmBox hM1 _ _ (pcells x2 y2 false) rfl rfl rfl ?_; intro w2 hM2; clear hM1; go_frame)
    | ((with_reducible change wpList _ _ _ (Oper.mk (some 4) _ _ _ _ _ :: _) _ _); refine mmAlloc hM2 _ _ rfl rfl zero_Point ?_; intro w3 hM3; clear hM2; go_frame)
    | ((with_reducible change wpList _ _ _ (Oper.mk (some 11) _ _ _ _ _ :: _) _ _); refine kFieldPoint2 _ _ rfl rfl rfl ?_; go_frame)
    | ((with_reducible change wpList _ _ _ (Oper.mk (some 12) _ _ _ _ _ :: _) _ _); refine kLoad1 _ _ _ _ _ _ _ _ rfl rfl rfl (hM3.get 2 rfl) Tryd.underlying4 rfl (pcells_at8 _ _ _) ?_; go_frame)
    | ((with_reducible change wpList _ _ _ (Oper.mk (some 14) _ _ _ _ _ :: _) _ _); refine kFieldPoint2 _ _ rfl rfl rfl ?_; go_frame)
    | ((with_reducible change wpList _ _ _ (Oper.mk (some 15) _ _ _ _ _ :: _) _ _); refine kLoad1 _ _ _ _ _ _ _ _ rfl rfl rfl (hM3.get 1 rfl) Tryd.underlying4 rfl (pcells_at8 _ _ _) ?_; go_frame))
  refine region_symT 4 _ [] [] [.val (.agg (pcells x2 y2 false)), .val (.agg (pcells x1 y1 false)), .val (.agg (pcells x1 v19 false)), .val (.bool true)] rfl (by kernel_rfl) (by kernel_rfl) (by kernel_rfl) (by kernel_rfl) rfl (by intro s hs; cases hs) (steps_all ⟨?_, ?_, ?_, ?_, trivial⟩) ?_
  · exact fun A W sz ot hbel ap dp => kLoadRow _ _ _ _ _ _ rfl rfl (sO ot 3) ((hM3.get 1 rfl).on hbel) Tryd.underlying30 rfl (info_PointC _ _ _) (sE ap sz rfl)
  · exact fun A W sz ot hbel ap dp => kLoadRow _ _ _ _ _ _ rfl rfl (sO ot 2) ((hM3.get 2 rfl).on hbel) Tryd.underlying30 rfl (info_PointC _ _ _) (sE ap sz rfl)
  · exact fun A W sz ot hbel ap dp => sCall1 82 rfl (sD dp 1 .data) (sC (eNeg_as my1 false Hv19.out W) ap sz (fun _ => rfl))
  · exact fun A W sz ot hbel ap dp => kEqlP _ _ _ x2 y2 false x1 v19 false true rfl rfl (sD dp 0 .data) (sD dp 2 .data) (eqP_yes ⟨h1.out, h2.out, rfl⟩) (sE ap sz rfl)
  intro w4 hB4
  dsimp only [AllV]
  intro hap
  dsimp only [putAll, List.take, List.drop]
  go_frame
  have hM4 := hM3.on hB4
  clear hB4 hM3 hap
  go_wp2_with (first
    | ((with_reducible change wpList _ _ _ (Oper.mk (some 21) _ _ _ _ _ :: _) _ _); refine kBuildPointN rfl rfl ?_; go_frame)
    | ((with_reducible change wpList _ _ _ (Oper.mk none (Op.store _ (Operand.tmp 4) (Operand.tmp 21)) _ _ _ _ :: _) _ _); refine mmStoreAt hM4 0 _ _ _ _ _ _ (pcells 0 0 true) rfl rfl rfl rfl rfl (info_PointC _ _ _) (by simp only [pcells_size]) (pcells_one _ _ _) ?_; intro w5 hM5; dsimp only [List.set] at hM5; clear hM4; go_frame))
  exact result_row Tryd.results53 rfl (hM5.get 0 rfl) Tryd.underlying30 rfl (info_PointC _ _ _) rfl ⟨rfl, hM5.below⟩
set_option maxRecDepth 100000 in
set_option maxHeartbeats 8000000 in
theorem eadd_same {x1 y1 : Nat} (lx1 : x1 < PP) (ly1 : y1 < PP) (hy : FP y1 + FP y1 ≠ 0) (w : World) :
    Calls Tryd.prog 53 #[.agg (pcells x1 y1 false), .agg (pcells x1 y1 false)] w fun e w' => e = .returned (.agg (ptc (Pt.rise ((FP x1 * FP x1 + FP x1 * FP x1 + FP x1 * FP x1) * ivP (FP y1 + FP y1)) (FP x1) (FP y1) (FP x1)))) ∧ Below w.heap.size w w' := by
  obtain ⟨m, Hm⟩ : ∃ m, Hid (m = PP) := ⟨_, Lib.hid rfl⟩
  have hm : Modu m := by rw [Hm.out]; exact modu_P
  have hP : PrimeIs true m := by rw [Hm.out]; exact rPrime_true
  have mx1 := lt_M lx1
  have my1 := lt_M ly1
  obtain ⟨v19, Hv19⟩ : ∃ n, Hid ((0 - FP y1 : Fin PP).val = n) := ⟨_, Lib.hid rfl⟩
  have mv19 : v19 < M256 := by rw [← Hv19.out]; exact val_lt _
  obtain ⟨v24, Hv24, mv24⟩ := nameMod hm (y1)
  obtain ⟨v27, Hv27, mv27⟩ := nameMod hm (y1)
  obtain ⟨v28, Hv28, mv28⟩ := nameMod hm (v24 + m - v27)
  obtain ⟨v31, Hv31, mv31⟩ := nameMod hm (x1)
  obtain ⟨v34, Hv34, mv34⟩ := nameMod hm (x1)
  obtain ⟨v35, Hv35, mv35⟩ := nameMod hm (v31 + m - v34)
  obtain ⟨v41, Hv41, mv41⟩ := nameMod hm (x1)
  obtain ⟨v44, Hv44, mv44⟩ := nameMod hm (x1)
  obtain ⟨v45, Hv45, mv45⟩ := nameMod hm (v41 * v44)
  obtain ⟨v48, Hv48, mv48⟩ := nameMod hm (v45 + v45)
  obtain ⟨v50, Hv50, mv50⟩ := nameMod hm (v48 + v45)
  obtain ⟨v53, Hv53, mv53⟩ := nameMod hm (y1)
  obtain ⟨v56, Hv56, mv56⟩ := nameMod hm (y1)
  obtain ⟨v57, Hv57, mv57⟩ := nameMod hm (v53 + v56)
  obtain ⟨v60, Hv60, mv60⟩ := nameMod hm (v57 ^ (m - 2))
  obtain ⟨v61, Hv61, mv61⟩ := nameMod hm (v50 * v60)
  obtain ⟨v64, Hv64, mv64⟩ := nameMod hm (v61 * v61)
  obtain ⟨v67, Hv67, mv67⟩ := nameMod hm (x1)
  obtain ⟨v68, Hv68, mv68⟩ := nameMod hm (v64 + m - v67)
  obtain ⟨v71, Hv71, mv71⟩ := nameMod hm (x1)
  obtain ⟨v72, Hv72, mv72⟩ := nameMod hm (v68 + m - v71)
  obtain ⟨v76, Hv76, mv76⟩ := nameMod hm (x1)
  obtain ⟨v78, Hv78, mv78⟩ := nameMod hm (v76 + m - v72)
  obtain ⟨v79, Hv79, mv79⟩ := nameMod hm (v61 * v78)
  obtain ⟨v82, Hv82, mv82⟩ := nameMod hm (y1)
  obtain ⟨v83, Hv83, mv83⟩ := nameMod hm (v79 + m - v82)
  have Ev45 := FPm_mul Hm.out Hv45.out
  have Lv45 := FPm_lt Hm.out Hv45.out
  have Ev48 := FPm_add Hm.out Hv48.out
  have Lv48 := FPm_lt Hm.out Hv48.out
  have Ev50 := FPm_add Hm.out Hv50.out
  have Lv50 := FPm_lt Hm.out Hv50.out
  have Ev57 := FPm_add Hm.out Hv57.out
  have Lv57 := FPm_lt Hm.out Hv57.out
  have Ev60 := FPm_inv Hm.out Hv60.out
  have Lv60 := FPm_lt Hm.out Hv60.out
  have Ev61 := FPm_mul Hm.out Hv61.out
  have Lv61 := FPm_lt Hm.out Hv61.out
  have Ev64 := FPm_mul Hm.out Hv64.out
  have Lv64 := FPm_lt Hm.out Hv64.out
  have Ev79 := FPm_mul Hm.out Hv79.out
  have Lv79 := FPm_lt Hm.out Hv79.out
  have Ev24 := FPm_mod Hm.out Hv24.out
  have Lv24 := FPm_lt Hm.out Hv24.out
  have Ev27 := FPm_mod Hm.out Hv27.out
  have Lv27 := FPm_lt Hm.out Hv27.out
  have Ev28 := FPm_sub2 Hm.out (by rw [← Hv27.out]; exact Nat.mod_lt _ hm.pos) Hv28.out
  have Lv28 := FPm_lt Hm.out Hv28.out
  have Ev31 := FPm_mod Hm.out Hv31.out
  have Lv31 := FPm_lt Hm.out Hv31.out
  have Ev34 := FPm_mod Hm.out Hv34.out
  have Lv34 := FPm_lt Hm.out Hv34.out
  have Ev35 := FPm_sub2 Hm.out (by rw [← Hv34.out]; exact Nat.mod_lt _ hm.pos) Hv35.out
  have Lv35 := FPm_lt Hm.out Hv35.out
  have Ev41 := FPm_mod Hm.out Hv41.out
  have Lv41 := FPm_lt Hm.out Hv41.out
  have Ev44 := FPm_mod Hm.out Hv44.out
  have Lv44 := FPm_lt Hm.out Hv44.out
  have Ev53 := FPm_mod Hm.out Hv53.out
  have Lv53 := FPm_lt Hm.out Hv53.out
  have Ev56 := FPm_mod Hm.out Hv56.out
  have Lv56 := FPm_lt Hm.out Hv56.out
  have Ev67 := FPm_mod Hm.out Hv67.out
  have Lv67 := FPm_lt Hm.out Hv67.out
  have Ev68 := FPm_sub2 Hm.out (by rw [← Hv67.out]; exact Nat.mod_lt _ hm.pos) Hv68.out
  have Lv68 := FPm_lt Hm.out Hv68.out
  have Ev71 := FPm_mod Hm.out Hv71.out
  have Lv71 := FPm_lt Hm.out Hv71.out
  have Ev72 := FPm_sub2 Hm.out (by rw [← Hv71.out]; exact Nat.mod_lt _ hm.pos) Hv72.out
  have Lv72 := FPm_lt Hm.out Hv72.out
  have Ev76 := FPm_mod Hm.out Hv76.out
  have Lv76 := FPm_lt Hm.out Hv76.out
  have Ev78 := FPm_sub2 Hm.out (by rw [← Hv72.out]; exact Nat.mod_lt _ hm.pos) Hv78.out
  have Lv78 := FPm_lt Hm.out Hv78.out
  have Ev82 := FPm_mod Hm.out Hv82.out
  have Lv82 := FPm_lt Hm.out Hv82.out
  have Ev83 := FPm_sub2 Hm.out (by rw [← Hv82.out]; exact Nat.mod_lt _ hm.pos) Hv83.out
  have Lv83 := FPm_lt Hm.out Hv83.out
  have h23 := Lib.hid (show y1 ≠ v19 from fun e => hy (by have h := FP_of_val (0 - FP y1); rw [Hv19.out, ← e] at h; rw [show FP y1 + FP y1 = FP y1 + (0 - FP y1) by rw [← h]]; clear h e hy Ev45 Lv45 Ev48 Lv48 Ev50 Lv50 Ev57 Lv57 Ev60 Lv60 Ev61 Lv61 Ev64 Lv64 Ev79 Lv79 Ev24 Lv24 Ev27 Lv27 Ev28 Lv28 Ev31 Lv31 Ev34 Lv34 Ev35 Lv35 Ev41 Lv41 Ev44 Lv44 Ev53 Lv53 Ev56 Lv56 Ev67 Lv67 Ev68 Lv68 Ev71 Lv71 Ev72 Lv72 Ev76 Lv76 Ev78 Lv78 Ev82 Lv82 Ev83 Lv83; grobner))
  have R := Lib.hid (show Value.agg (pcells v72 v83 false) = .agg (ptc (Pt.rise ((FP x1 * FP x1 + FP x1 * FP x1 + FP x1 * FP x1) * ivP (FP y1 + FP y1)) (FP x1) (FP y1) (FP x1))) by
    have R1 := val_of Lv72 (show FP v72 = ((FP x1 * FP x1 + FP x1 * FP x1 + FP x1 * FP x1) * ivP (FP y1 + FP y1)) * ((FP x1 * FP x1 + FP x1 * FP x1 + FP x1 * FP x1) * ivP (FP y1 + FP y1)) - FP x1 - FP x1 by simp only [Ev72, Ev68, Ev64, Ev61, Ev50, Ev48, Ev45, Ev41, Ev44, Ev60, Ev57, Ev53, Ev56, Ev67, Ev71])
    have R2 := val_of Lv83 (show FP v83 = ((FP x1 * FP x1 + FP x1 * FP x1 + FP x1 * FP x1) * ivP (FP y1 + FP y1)) * (FP x1 - (((FP x1 * FP x1 + FP x1 * FP x1 + FP x1 * FP x1) * ivP (FP y1 + FP y1)) * ((FP x1 * FP x1 + FP x1 * FP x1 + FP x1 * FP x1) * ivP (FP y1 + FP y1)) - FP x1 - FP x1)) - FP y1 by simp only [Ev83, Ev79, Ev61, Ev50, Ev48, Ev45, Ev41, Ev44, Ev60, Ev57, Ev53, Ev56, Ev78, Ev76, Ev72, Ev68, Ev64, Ev67, Ev71, Ev82])
    rw [R1, R2]; rfl)
  clear hy Ev45 Lv45 Ev48 Lv48 Ev50 Lv50 Ev57 Lv57 Ev60 Lv60 Ev61 Lv61 Ev64 Lv64 Ev79 Lv79 Ev24 Lv24 Ev27 Lv27 Ev28 Lv28 Ev31 Lv31 Ev34 Lv34 Ev35 Lv35 Ev41 Lv41 Ev44 Lv44 Ev53 Lv53 Ev56 Lv56 Ev67 Lv67 Ev68 Lv68 Ev71 Lv71 Ev72 Lv72 Ev76 Lv76 Ev78 Lv78 Ev82 Lv82 Ev83 Lv83
  have hM0 := mm_nil w
  (try unfold WV)
  go_enter Tryd.func53, Tryd.ntmps53
  go_wp2_with (first
    | ((with_reducible change wpList _ _ _ (Oper.mk (some 2) _ _ _ _ _ :: _) _ _); refine mmBox hM0 _ _ (pcells x1 y1 false) rfl rfl rfl ?_; intro w1 hM1; clear hM0; go_frame)
    | ((with_reducible change wpList _ _ _ (Oper.mk (some 3) _ _ _ _ _ :: _) _ _); refine mmBox hM1 _ _ (pcells x1 y1 false) rfl rfl rfl ?_; intro w2 hM2; clear hM1; go_frame)
    | ((with_reducible change wpList _ _ _ (Oper.mk (some 4) _ _ _ _ _ :: _) _ _); refine mmAlloc hM2 _ _ rfl rfl zero_Point ?_; intro w3 hM3; clear hM2; go_frame)
    | ((with_reducible change wpList _ _ _ (Oper.mk (some 11) _ _ _ _ _ :: _) _ _); refine kFieldPoint2 _ _ rfl rfl rfl ?_; go_frame)
    | ((with_reducible change wpList _ _ _ (Oper.mk (some 12) _ _ _ _ _ :: _) _ _); refine kLoad1 _ _ _ _ _ _ _ _ rfl rfl rfl (hM3.get 2 rfl) Tryd.underlying4 rfl (pcells_at8 _ _ _) ?_; go_frame)
    | ((with_reducible change wpList _ _ _ (Oper.mk (some 14) _ _ _ _ _ :: _) _ _); refine kFieldPoint2 _ _ rfl rfl rfl ?_; go_frame)
    | ((with_reducible change wpList _ _ _ (Oper.mk (some 15) _ _ _ _ _ :: _) _ _); refine kLoad1 _ _ _ _ _ _ _ _ rfl rfl rfl (hM3.get 1 rfl) Tryd.underlying4 rfl (pcells_at8 _ _ _) ?_; go_frame))
  refine region_symT 4 _ [] [] [.val (.agg (pcells x1 y1 false)), .val (.agg (pcells x1 y1 false)), .val (.agg (pcells x1 v19 false)), .val (.bool false)] rfl (by kernel_rfl) (by kernel_rfl) (by kernel_rfl) (by kernel_rfl) rfl (by intro s hs; cases hs) (steps_all ⟨?_, ?_, ?_, ?_, trivial⟩) ?_
  · exact fun A W sz ot hbel ap dp => kLoadRow _ _ _ _ _ _ rfl rfl (sO ot 3) ((hM3.get 1 rfl).on hbel) Tryd.underlying30 rfl (info_PointC _ _ _) (sE ap sz rfl)
  · exact fun A W sz ot hbel ap dp => kLoadRow _ _ _ _ _ _ rfl rfl (sO ot 2) ((hM3.get 2 rfl).on hbel) Tryd.underlying30 rfl (info_PointC _ _ _) (sE ap sz rfl)
  · exact fun A W sz ot hbel ap dp => sCall1 82 rfl (sD dp 1 .data) (sC (eNeg_as my1 false Hv19.out W) ap sz (fun _ => rfl))
  · exact fun A W sz ot hbel ap dp => kEqlP _ _ _ x1 y1 false x1 v19 false false rfl rfl (sD dp 0 .data) (sD dp 2 .data) (eqP_no mx1 my1 mx1 mv19 (fun e => h23.out e.2.1)) (sE ap sz rfl)
  intro w4 hB4
  dsimp only [AllV]
  intro hap
  dsimp only [putAll, List.take, List.drop]
  go_frame
  have hM4 := hM3.on hB4
  clear hB4 hM3 hap
  go_wp2_with fail
  refine region_symT 16 _ [] [] [.val (.pointer (some ⟨w1.heap.size, 4, none⟩)), .val (.agg (wcells y1)), .prop (fun w v => NumT w v (v24)) (fun _ _ _ hb h => h.below hb), .val (.pointer (some ⟨w.heap.size, 4, none⟩)), .val (.agg (wcells y1)), .prop (fun w v => NumT w v (v27)) (fun _ _ _ hb h => h.below hb), .prop (fun w v => NumT w v (v28)) (fun _ _ _ hb h => h.below hb), .val (.pointer (some ⟨w1.heap.size, 0, none⟩)), .val (.agg (wcells x1)), .prop (fun w v => NumT w v (v31)) (fun _ _ _ hb h => h.below hb), .val (.pointer (some ⟨w.heap.size, 0, none⟩)), .val (.agg (wcells x1)), .prop (fun w v => NumT w v (v34)) (fun _ _ _ hb h => h.below hb), .prop (fun w v => NumT w v (v35)) (fun _ _ _ hb h => h.below hb), .prop (fun w v => NumT w v (v28)) (fun _ _ _ hb h => h.below hb), .prop (fun w v => NumT w v (v35)) (fun _ _ _ hb h => h.below hb)] rfl (by kernel_rfl) (by kernel_rfl) (by kernel_rfl) (by kernel_rfl) rfl (by intro s hs; cases hs) (steps_all ⟨?_, ?_, ?_, ?_, ?_, ?_, ?_, ?_, ?_, ?_, ?_, ?_, ?_, ?_, ?_, ?_, trivial⟩) ?_
  · exact fun A W sz ot hbel ap dp => kFieldPoint1 _ _ rfl rfl (sO ot 3) (sE ap sz rfl)
  · exact fun A W sz ot hbel ap dp => kLoadAs _ _ _ _ _ 4 _ _ _ rfl rfl (sD dp 0 .data) ((hM4.get 1 rfl).on hbel) Tryd.underlying24 rfl info_Wide (by rw [pcells_size]; decide) (pcells_at4 _ _ _) (sE ap sz rfl)
  · intro A W sz ot hbel ap dp
    refine kCall1 70 _ _ _ rfl rfl (by kernel_rfl) (sD dp 1 .data) ?_
    refine (enum_as hm hP my1 Hv24.out W).mono ?_
    rintro e r ⟨xx, rfl, hNx, hBc⟩
    exact ⟨_, rfl, (sV ap sz hBc hNx)⟩
  · exact fun A W sz ot hbel ap dp => kFieldPoint1 _ _ rfl rfl (sO ot 2) (sE ap sz rfl)
  · exact fun A W sz ot hbel ap dp => kLoadAs _ _ _ _ _ 4 _ _ _ rfl rfl (sD dp 3 .data) ((hM4.get 2 rfl).on hbel) Tryd.underlying24 rfl info_Wide (by rw [pcells_size]; decide) (pcells_at4 _ _ _) (sE ap sz rfl)
  · intro A W sz ot hbel ap dp
    refine kCall1 70 _ _ _ rfl rfl (by kernel_rfl) (sD dp 4 .data) ?_
    refine (enum_as hm hP my1 Hv27.out W).mono ?_
    rintro e r ⟨xx, rfl, hNx, hBc⟩
    exact ⟨_, rfl, (sV ap sz hBc hNx)⟩
  · intro A W sz ot hbel ap dp
    have hN24 := (show NumT W (A.tmps.getD 24 undef) (v24) from (sD dp 2 .data))
    have hN27 := (show NumT W (A.tmps.getD 27 undef) (v27) from (sD dp 5 .data))
    refine kCall2 73 _ _ _ _ _ rfl rfl (by kernel_rfl) (rfl : A.eval (Operand.tmp 24) = A.tmps.getD 24 undef) (rfl : A.eval (Operand.tmp 27) = A.tmps.getD 27 undef) ?_
    refine (esub_as hm hP (hN24.n16 mv24) (hN27.n16 mv27) (by rw [← Hv27.out]; exact Nat.mod_lt _ hm.pos) Hv28.out).mono ?_
    rintro e r ⟨xx, rfl, hNx, hBc⟩
    exact ⟨_, rfl, (sV ap sz hBc hNx)⟩
  · exact fun A W sz ot hbel ap dp => kFieldPoint0 _ _ rfl rfl (sO ot 3) (sE ap sz rfl)
  · exact fun A W sz ot hbel ap dp => kLoadAs _ _ _ _ _ 4 _ _ _ rfl rfl (sD dp 7 .data) ((hM4.get 1 rfl).on hbel) Tryd.underlying24 rfl info_Wide (by rw [pcells_size]; decide) (pcells_at0 _ _ _) (sE ap sz rfl)
  · intro A W sz ot hbel ap dp
    refine kCall1 70 _ _ _ rfl rfl (by kernel_rfl) (sD dp 8 .data) ?_
    refine (enum_as hm hP mx1 Hv31.out W).mono ?_
    rintro e r ⟨xx, rfl, hNx, hBc⟩
    exact ⟨_, rfl, (sV ap sz hBc hNx)⟩
  · exact fun A W sz ot hbel ap dp => kFieldPoint0 _ _ rfl rfl (sO ot 2) (sE ap sz rfl)
  · exact fun A W sz ot hbel ap dp => kLoadAs _ _ _ _ _ 4 _ _ _ rfl rfl (sD dp 10 .data) ((hM4.get 2 rfl).on hbel) Tryd.underlying24 rfl info_Wide (by rw [pcells_size]; decide) (pcells_at0 _ _ _) (sE ap sz rfl)
  · intro A W sz ot hbel ap dp
    refine kCall1 70 _ _ _ rfl rfl (by kernel_rfl) (sD dp 11 .data) ?_
    refine (enum_as hm hP mx1 Hv34.out W).mono ?_
    rintro e r ⟨xx, rfl, hNx, hBc⟩
    exact ⟨_, rfl, (sV ap sz hBc hNx)⟩
  · intro A W sz ot hbel ap dp
    have hN31 := (show NumT W (A.tmps.getD 31 undef) (v31) from (sD dp 9 .data))
    have hN34 := (show NumT W (A.tmps.getD 34 undef) (v34) from (sD dp 12 .data))
    refine kCall2 73 _ _ _ _ _ rfl rfl (by kernel_rfl) (rfl : A.eval (Operand.tmp 31) = A.tmps.getD 31 undef) (rfl : A.eval (Operand.tmp 34) = A.tmps.getD 34 undef) ?_
    refine (esub_as hm hP (hN31.n16 mv31) (hN34.n16 mv34) (by rw [← Hv34.out]; exact Nat.mod_lt _ hm.pos) Hv35.out).mono ?_
    rintro e r ⟨xx, rfl, hNx, hBc⟩
    exact ⟨_, rfl, (sV ap sz hBc hNx)⟩
  · intro A W sz ot hbel ap dp
    have hN := (sD dp 6 .data)
    exact kAssignV _ (A.tmps.getD 28 undef) rfl rfl rfl (sE ap sz hN)
  · intro A W sz ot hbel ap dp
    have hN := (sD dp 13 .data)
    exact kAssignV _ (A.tmps.getD 35 undef) rfl rfl rfl (sE ap sz hN)
  intro w5 hB5
  dsimp only [AllV]
  intro x5_24 hN5_24
  intro x5_27 hN5_27
  intro x5_28 hN5_28
  intro x5_31 hN5_31
  intro x5_34 hN5_34
  intro x5_35 hN5_35
  intro x5_5 hN5_5
  intro x5_6 hN5_6
  intro hap
  dsimp only [putAll, List.take, List.drop]
  go_frame
  have hM5 := hM4.on hB5
  clear hB5 hM4 hap
  have hM6 := mm_nil w5
  go_wp2_with (first
    | ((with_reducible change wpList _ _ _ (Oper.mk (some 36) _ _ _ _ _ :: _) _ _); refine kLoadRow _ _ _ _ _ _ rfl rfl rfl ((hM5.get 2 rfl).on hM6.below) Tryd.underlying30 rfl (info_PointC _ _ _) ?_; go_frame)
    | ((with_reducible change wpList _ _ _ (Oper.mk (some 37) _ _ _ _ _ :: _) _ _); refine kLoadRow _ _ _ _ _ _ rfl rfl rfl ((hM5.get 1 rfl).on hM6.below) Tryd.underlying30 rfl (info_PointC _ _ _) ?_; go_frame)
    | ((with_reducible change wpList _ _ _ (Oper.mk (some 38) _ _ _ _ _ :: _) _ _); refine kEqlP _ _ _ x1 y1 false x1 y1 false true rfl rfl rfl rfl (eqP_yes ⟨rfl, rfl, rfl⟩) ?_; go_frame))
  refine region_symT 8 _ [] [] [.val (.pointer (some ⟨w.heap.size, 0, none⟩)), .val (.agg (wcells x1)), .prop (fun w v => NumT w v (v41)) (fun _ _ _ hb h => h.below hb), .val (.pointer (some ⟨w.heap.size, 0, none⟩)), .val (.agg (wcells x1)), .prop (fun w v => NumT w v (v44)) (fun _ _ _ hb h => h.below hb), .prop (fun w v => NumT w v (v45)) (fun _ _ _ hb h => h.below hb), .prop (fun w v => NumT w v (v45)) (fun _ _ _ hb h => h.below hb)] rfl (by kernel_rfl) (by kernel_rfl) (by kernel_rfl) (by kernel_rfl) rfl (by intro s hs; cases hs) (steps_all ⟨?_, ?_, ?_, ?_, ?_, ?_, ?_, ?_, trivial⟩) ?_
  · exact fun A W sz ot hbel ap dp => kFieldPoint0 _ _ rfl rfl (sO ot 2) (sE ap sz rfl)
  · exact fun A W sz ot hbel ap dp => kLoadAs _ _ _ _ _ 4 _ _ _ rfl rfl (sD dp 0 .data) (((hM5.get 2 rfl).on hM6.below).on hbel) Tryd.underlying24 rfl info_Wide (by rw [pcells_size]; decide) (pcells_at0 _ _ _) (sE ap sz rfl)
  · intro A W sz ot hbel ap dp
    refine kCall1 70 _ _ _ rfl rfl (by kernel_rfl) (sD dp 1 .data) ?_
    refine (enum_as hm hP mx1 Hv41.out W).mono ?_
    rintro e r ⟨xx, rfl, hNx, hBc⟩
    exact ⟨_, rfl, (sV ap sz hBc hNx)⟩
  · exact fun A W sz ot hbel ap dp => kFieldPoint0 _ _ rfl rfl (sO ot 2) (sE ap sz rfl)
  · exact fun A W sz ot hbel ap dp => kLoadAs _ _ _ _ _ 4 _ _ _ rfl rfl (sD dp 3 .data) (((hM5.get 2 rfl).on hM6.below).on hbel) Tryd.underlying24 rfl info_Wide (by rw [pcells_size]; decide) (pcells_at0 _ _ _) (sE ap sz rfl)
  · intro A W sz ot hbel ap dp
    refine kCall1 70 _ _ _ rfl rfl (by kernel_rfl) (sD dp 4 .data) ?_
    refine (enum_as hm hP mx1 Hv44.out W).mono ?_
    rintro e r ⟨xx, rfl, hNx, hBc⟩
    exact ⟨_, rfl, (sV ap sz hBc hNx)⟩
  · intro A W sz ot hbel ap dp
    have hN41 := (show NumT W (A.tmps.getD 41 undef) (v41) from (sD dp 2 .data))
    have hN44 := (show NumT W (A.tmps.getD 44 undef) (v44) from (sD dp 5 .data))
    refine kCall2 71 _ _ _ _ _ rfl rfl (by kernel_rfl) (rfl : A.eval (Operand.tmp 41) = A.tmps.getD 41 undef) (rfl : A.eval (Operand.tmp 44) = A.tmps.getD 44 undef) ?_
    refine (emul_as hm hP (hN41.n16 mv41) (hN44.n16 mv44) Hv45.out).mono ?_
    rintro e r ⟨xx, rfl, hNx, hBc⟩
    exact ⟨_, rfl, (sV ap sz hBc hNx)⟩
  · intro A W sz ot hbel ap dp
    have hN := (sD dp 6 .data)
    exact kAssignV _ (A.tmps.getD 45 undef) rfl rfl rfl (sE ap sz hN)
  intro w7 hB7
  dsimp only [AllV]
  intro x7_41 hN7_41
  intro x7_44 hN7_44
  intro x7_45 hN7_45
  intro x7_7 hN7_7
  intro hap
  dsimp only [putAll, List.take, List.drop]
  go_frame
  have hM7 := hM6.on hB7
  clear hB7 hM6 hap
  have hM8 := mm_nil w7
  go_wp2_with (first
    | (go_at_call 72; (with_reducible change Calls _ _ #[x7_7, x7_7] _ _); refine (eadd_as hm hP ((hN7_7.below hM8.below).n16 mv45) ((hN7_7.below hM8.below).n16 mv45) Hv48.out).mono ?_; rintro e w9 ⟨x9, rfl, hN9, hB9⟩; have hM9 := hM8.on hB9; clear hB9 hM8; have hM10 := mm_nil w9; go_frame)
    | (go_at_call 72; (with_reducible change Calls _ _ #[x9, x7_7] _ _); refine (eadd_as hm hP ((hN9.below hM10.below).n16 mv48) (((hN7_7.below hM9.below).below hM10.below).n16 mv45) Hv50.out).mono ?_; rintro e w11 ⟨x11, rfl, hN11, hB11⟩; have hM11 := hM10.on hB11; clear hB11 hM10; have hM12 := mm_nil w11; go_frame))
  refine region_symT 8 _ [] [] [.val (.pointer (some ⟨w.heap.size, 4, none⟩)), .val (.agg (wcells y1)), .prop (fun w v => NumT w v (v53)) (fun _ _ _ hb h => h.below hb), .val (.pointer (some ⟨w.heap.size, 4, none⟩)), .val (.agg (wcells y1)), .prop (fun w v => NumT w v (v56)) (fun _ _ _ hb h => h.below hb), .prop (fun w v => NumT w v (v57)) (fun _ _ _ hb h => h.below hb), .prop (fun w v => NumT w v (v57)) (fun _ _ _ hb h => h.below hb)] rfl (by kernel_rfl) (by kernel_rfl) (by kernel_rfl) (by kernel_rfl) rfl (by intro s hs; cases hs) (steps_all ⟨?_, ?_, ?_, ?_, ?_, ?_, ?_, ?_, trivial⟩) ?_
  · exact fun A W sz ot hbel ap dp => kFieldPoint1 _ _ rfl rfl (sO ot 2) (sE ap sz rfl)
  · exact fun A W sz ot hbel ap dp => kLoadAs _ _ _ _ _ 4 _ _ _ rfl rfl (sD dp 0 .data) ((((((hM5.get 2 rfl).on hM7.below).on hM9.below).on hM11.below).on hM12.below).on hbel) Tryd.underlying24 rfl info_Wide (by rw [pcells_size]; decide) (pcells_at4 _ _ _) (sE ap sz rfl)
  · intro A W sz ot hbel ap dp
    refine kCall1 70 _ _ _ rfl rfl (by kernel_rfl) (sD dp 1 .data) ?_
    refine (enum_as hm hP my1 Hv53.out W).mono ?_
    rintro e r ⟨xx, rfl, hNx, hBc⟩
    exact ⟨_, rfl, (sV ap sz hBc hNx)⟩
  · exact fun A W sz ot hbel ap dp => kFieldPoint1 _ _ rfl rfl (sO ot 2) (sE ap sz rfl)
  · exact fun A W sz ot hbel ap dp => kLoadAs _ _ _ _ _ 4 _ _ _ rfl rfl (sD dp 3 .data) ((((((hM5.get 2 rfl).on hM7.below).on hM9.below).on hM11.below).on hM12.below).on hbel) Tryd.underlying24 rfl info_Wide (by rw [pcells_size]; decide) (pcells_at4 _ _ _) (sE ap sz rfl)
  · intro A W sz ot hbel ap dp
    refine kCall1 70 _ _ _ rfl rfl (by kernel_rfl) (sD dp 4 .data) ?_
    refine (enum_as hm hP my1 Hv56.out W).mono ?_
    rintro e r ⟨xx, rfl, hNx, hBc⟩
    exact ⟨_, rfl, (sV ap sz hBc hNx)⟩
  · intro A W sz ot hbel ap dp
    have hN53 := (show NumT W (A.tmps.getD 53 undef) (v53) from (sD dp 2 .data))
    have hN56 := (show NumT W (A.tmps.getD 56 undef) (v56) from (sD dp 5 .data))
    refine kCall2 72 _ _ _ _ _ rfl rfl (by kernel_rfl) (rfl : A.eval (Operand.tmp 53) = A.tmps.getD 53 undef) (rfl : A.eval (Operand.tmp 56) = A.tmps.getD 56 undef) ?_
    refine (eadd_as hm hP (hN53.n16 mv53) (hN56.n16 mv56) Hv57.out).mono ?_
    rintro e r ⟨xx, rfl, hNx, hBc⟩
    exact ⟨_, rfl, (sV ap sz hBc hNx)⟩
  · intro A W sz ot hbel ap dp
    have hN := (sD dp 6 .data)
    exact kAssignV _ (A.tmps.getD 57 undef) rfl rfl rfl (sE ap sz hN)
  intro w13 hB13
  dsimp only [AllV]
  intro x13_53 hN13_53
  intro x13_56 hN13_56
  intro x13_57 hN13_57
  intro x13_6 hN13_6
  intro hap
  dsimp only [putAll, List.take, List.drop]
  go_frame
  have hM13 := hM12.on hB13
  clear hB13 hM12 hap
  have hM14 := mm_nil w13
  go_wp2_with (first
    | (go_at_call 42; (with_reducible change Calls _ _ #[x13_6, Value.bool true] _ _); refine (rInv_as hm hP ((hN13_6.below hM14.below).n16 mv57) Hv60.out).mono ?_; rintro e w15 ⟨x15, rfl, hN15, hB15⟩; have hM15 := hM14.on hB15; clear hB15 hM14; have hM16 := mm_nil w15; go_frame)
    | (go_at_call 71; (with_reducible change Calls _ _ #[x11, x15] _ _); refine (emul_as hm hP ((((hN11.below hM13.below).below hM15.below).below hM16.below).n16 mv50) ((hN15.below hM16.below).n16 mv60) Hv61.out).mono ?_; rintro e w17 ⟨x17, rfl, hN17, hB17⟩; have hM17 := hM16.on hB17; clear hB17 hM16; have hM18 := mm_nil w17; go_frame))
  refine region_symT 12 _ [] [] [.val (x17), .val (x17), .prop (fun w v => NumT w v (v64)) (fun _ _ _ hb h => h.below hb), .val (.pointer (some ⟨w.heap.size, 0, none⟩)), .val (.agg (wcells x1)), .prop (fun w v => NumT w v (v67)) (fun _ _ _ hb h => h.below hb), .prop (fun w v => NumT w v (v68)) (fun _ _ _ hb h => h.below hb), .val (.pointer (some ⟨w1.heap.size, 0, none⟩)), .val (.agg (wcells x1)), .prop (fun w v => NumT w v (v71)) (fun _ _ _ hb h => h.below hb), .prop (fun w v => NumT w v (v72)) (fun _ _ _ hb h => h.below hb), .prop (fun w v => NumT w v (v72)) (fun _ _ _ hb h => h.below hb)] rfl (by kernel_rfl) (by kernel_rfl) (by kernel_rfl) (by kernel_rfl) rfl (by intro s hs; cases hs) (steps_all ⟨?_, ?_, ?_, ?_, ?_, ?_, ?_, ?_, ?_, ?_, ?_, ?_, trivial⟩) ?_
  · exact fun A W sz ot hbel ap dp => kMoveV _ _ rfl rfl (sO ot 8) (sE ap sz rfl)
  · exact fun A W sz ot hbel ap dp => kMoveV _ _ rfl rfl (sO ot 8) (sE ap sz rfl)
  · intro A W sz ot hbel ap dp
    refine kCall2 71 _ _ _ _ _ rfl rfl (by kernel_rfl) (sD dp 0 .data) (sD dp 1 .data) ?_
    refine (emul_as hm hP (((hN17.below hM18.below).below hbel).n16 mv61) (((hN17.below hM18.below).below hbel).n16 mv61) Hv64.out).mono ?_
    rintro e r ⟨xx, rfl, hNx, hBc⟩
    exact ⟨_, rfl, (sV ap sz hBc hNx)⟩
  · exact fun A W sz ot hbel ap dp => kFieldPoint0 _ _ rfl rfl (sO ot 2) (sE ap sz rfl)
  · exact fun A W sz ot hbel ap dp => kLoadAs _ _ _ _ _ 4 _ _ _ rfl rfl (sD dp 3 .data) (((((((((hM5.get 2 rfl).on hM7.below).on hM9.below).on hM11.below).on hM13.below).on hM15.below).on hM17.below).on hM18.below).on hbel) Tryd.underlying24 rfl info_Wide (by rw [pcells_size]; decide) (pcells_at0 _ _ _) (sE ap sz rfl)
  · intro A W sz ot hbel ap dp
    refine kCall1 70 _ _ _ rfl rfl (by kernel_rfl) (sD dp 4 .data) ?_
    refine (enum_as hm hP mx1 Hv67.out W).mono ?_
    rintro e r ⟨xx, rfl, hNx, hBc⟩
    exact ⟨_, rfl, (sV ap sz hBc hNx)⟩
  · intro A W sz ot hbel ap dp
    have hN64 := (show NumT W (A.tmps.getD 64 undef) (v64) from (sD dp 2 .data))
    have hN67 := (show NumT W (A.tmps.getD 67 undef) (v67) from (sD dp 5 .data))
    refine kCall2 73 _ _ _ _ _ rfl rfl (by kernel_rfl) (rfl : A.eval (Operand.tmp 64) = A.tmps.getD 64 undef) (rfl : A.eval (Operand.tmp 67) = A.tmps.getD 67 undef) ?_
    refine (esub_as hm hP (hN64.n16 mv64) (hN67.n16 mv67) (by rw [← Hv67.out]; exact Nat.mod_lt _ hm.pos) Hv68.out).mono ?_
    rintro e r ⟨xx, rfl, hNx, hBc⟩
    exact ⟨_, rfl, (sV ap sz hBc hNx)⟩
  · exact fun A W sz ot hbel ap dp => kFieldPoint0 _ _ rfl rfl (sO ot 3) (sE ap sz rfl)
  · exact fun A W sz ot hbel ap dp => kLoadAs _ _ _ _ _ 4 _ _ _ rfl rfl (sD dp 7 .data) (((((((((hM5.get 1 rfl).on hM7.below).on hM9.below).on hM11.below).on hM13.below).on hM15.below).on hM17.below).on hM18.below).on hbel) Tryd.underlying24 rfl info_Wide (by rw [pcells_size]; decide) (pcells_at0 _ _ _) (sE ap sz rfl)
  · intro A W sz ot hbel ap dp
    refine kCall1 70 _ _ _ rfl rfl (by kernel_rfl) (sD dp 8 .data) ?_
    refine (enum_as hm hP mx1 Hv71.out W).mono ?_
    rintro e r ⟨xx, rfl, hNx, hBc⟩
    exact ⟨_, rfl, (sV ap sz hBc hNx)⟩
  · intro A W sz ot hbel ap dp
    have hN68 := (show NumT W (A.tmps.getD 68 undef) (v68) from (sD dp 6 .data))
    have hN71 := (show NumT W (A.tmps.getD 71 undef) (v71) from (sD dp 9 .data))
    refine kCall2 73 _ _ _ _ _ rfl rfl (by kernel_rfl) (rfl : A.eval (Operand.tmp 68) = A.tmps.getD 68 undef) (rfl : A.eval (Operand.tmp 71) = A.tmps.getD 71 undef) ?_
    refine (esub_as hm hP (hN68.n16 mv68) (hN71.n16 mv71) (by rw [← Hv71.out]; exact Nat.mod_lt _ hm.pos) Hv72.out).mono ?_
    rintro e r ⟨xx, rfl, hNx, hBc⟩
    exact ⟨_, rfl, (sV ap sz hBc hNx)⟩
  · intro A W sz ot hbel ap dp
    have hN := (sD dp 10 .data)
    exact kAssignV _ (A.tmps.getD 72 undef) rfl rfl rfl (sE ap sz hN)
  intro w19 hB19
  dsimp only [AllV]
  intro x19_64 hN19_64
  intro x19_67 hN19_67
  intro x19_68 hN19_68
  intro x19_71 hN19_71
  intro x19_72 hN19_72
  intro x19_9 hN19_9
  intro hap
  dsimp only [putAll, List.take, List.drop]
  go_frame
  have hM19 := hM18.on hB19
  clear hB19 hM18 hap
  have hM20 := mm_nil w19
  go_wp2_with fail
  refine region_symT 12 _ [] [] [.val (x17), .val (.pointer (some ⟨w.heap.size, 0, none⟩)), .val (.agg (wcells x1)), .prop (fun w v => NumT w v (v76)) (fun _ _ _ hb h => h.below hb), .val (x19_9), .prop (fun w v => NumT w v (v78)) (fun _ _ _ hb h => h.below hb), .prop (fun w v => NumT w v (v79)) (fun _ _ _ hb h => h.below hb), .val (.pointer (some ⟨w.heap.size, 4, none⟩)), .val (.agg (wcells y1)), .prop (fun w v => NumT w v (v82)) (fun _ _ _ hb h => h.below hb), .prop (fun w v => NumT w v (v83)) (fun _ _ _ hb h => h.below hb), .prop (fun w v => NumT w v (v83)) (fun _ _ _ hb h => h.below hb)] rfl (by kernel_rfl) (by kernel_rfl) (by kernel_rfl) (by kernel_rfl) rfl (by intro s hs; cases hs) (steps_all ⟨?_, ?_, ?_, ?_, ?_, ?_, ?_, ?_, ?_, ?_, ?_, ?_, trivial⟩) ?_
  · exact fun A W sz ot hbel ap dp => kMoveV _ _ rfl rfl (sO ot 8) (sE ap sz rfl)
  · exact fun A W sz ot hbel ap dp => kFieldPoint0 _ _ rfl rfl (sO ot 2) (sE ap sz rfl)
  · exact fun A W sz ot hbel ap dp => kLoadAs _ _ _ _ _ 4 _ _ _ rfl rfl (sD dp 1 .data) ((((((((((hM5.get 2 rfl).on hM7.below).on hM9.below).on hM11.below).on hM13.below).on hM15.below).on hM17.below).on hM19.below).on hM20.below).on hbel) Tryd.underlying24 rfl info_Wide (by rw [pcells_size]; decide) (pcells_at0 _ _ _) (sE ap sz rfl)
  · intro A W sz ot hbel ap dp
    refine kCall1 70 _ _ _ rfl rfl (by kernel_rfl) (sD dp 2 .data) ?_
    refine (enum_as hm hP mx1 Hv76.out W).mono ?_
    rintro e r ⟨xx, rfl, hNx, hBc⟩
    exact ⟨_, rfl, (sV ap sz hBc hNx)⟩
  · exact fun A W sz ot hbel ap dp => kMoveV _ _ rfl rfl (sO ot 9) (sE ap sz rfl)
  · intro A W sz ot hbel ap dp
    have hN76 := (show NumT W (A.tmps.getD 76 undef) (v76) from (sD dp 3 .data))
    refine kCall2 73 _ _ _ _ _ rfl rfl (by kernel_rfl) (rfl : A.eval (Operand.tmp 76) = A.tmps.getD 76 undef) (sD dp 4 .data) ?_
    refine (esub_as hm hP (hN76.n16 mv76) (((hN19_9.below hM20.below).below hbel).n16 mv72) (by rw [← Hv72.out]; exact Nat.mod_lt _ hm.pos) Hv78.out).mono ?_
    rintro e r ⟨xx, rfl, hNx, hBc⟩
    exact ⟨_, rfl, (sV ap sz hBc hNx)⟩
  · intro A W sz ot hbel ap dp
    have hN78 := (show NumT W (A.tmps.getD 78 undef) (v78) from (sD dp 5 .data))
    refine kCall2 71 _ _ _ _ _ rfl rfl (by kernel_rfl) (sD dp 0 .data) (rfl : A.eval (Operand.tmp 78) = A.tmps.getD 78 undef) ?_
    refine (emul_as hm hP ((((hN17.below hM19.below).below hM20.below).below hbel).n16 mv61) (hN78.n16 mv78) Hv79.out).mono ?_
    rintro e r ⟨xx, rfl, hNx, hBc⟩
    exact ⟨_, rfl, (sV ap sz hBc hNx)⟩
  · exact fun A W sz ot hbel ap dp => kFieldPoint1 _ _ rfl rfl (sO ot 2) (sE ap sz rfl)
  · exact fun A W sz ot hbel ap dp => kLoadAs _ _ _ _ _ 4 _ _ _ rfl rfl (sD dp 7 .data) ((((((((((hM5.get 2 rfl).on hM7.below).on hM9.below).on hM11.below).on hM13.below).on hM15.below).on hM17.below).on hM19.below).on hM20.below).on hbel) Tryd.underlying24 rfl info_Wide (by rw [pcells_size]; decide) (pcells_at4 _ _ _) (sE ap sz rfl)
  · intro A W sz ot hbel ap dp
    refine kCall1 70 _ _ _ rfl rfl (by kernel_rfl) (sD dp 8 .data) ?_
    refine (enum_as hm hP my1 Hv82.out W).mono ?_
    rintro e r ⟨xx, rfl, hNx, hBc⟩
    exact ⟨_, rfl, (sV ap sz hBc hNx)⟩
  · intro A W sz ot hbel ap dp
    have hN79 := (show NumT W (A.tmps.getD 79 undef) (v79) from (sD dp 6 .data))
    have hN82 := (show NumT W (A.tmps.getD 82 undef) (v82) from (sD dp 9 .data))
    refine kCall2 73 _ _ _ _ _ rfl rfl (by kernel_rfl) (rfl : A.eval (Operand.tmp 79) = A.tmps.getD 79 undef) (rfl : A.eval (Operand.tmp 82) = A.tmps.getD 82 undef) ?_
    refine (esub_as hm hP (hN79.n16 mv79) (hN82.n16 mv82) (by rw [← Hv82.out]; exact Nat.mod_lt _ hm.pos) Hv83.out).mono ?_
    rintro e r ⟨xx, rfl, hNx, hBc⟩
    exact ⟨_, rfl, (sV ap sz hBc hNx)⟩
  · intro A W sz ot hbel ap dp
    have hN := (sD dp 10 .data)
    exact kAssignV _ (A.tmps.getD 83 undef) rfl rfl rfl (sE ap sz hN)
  intro w21 hB21
  dsimp only [AllV]
  intro x21_76 hN21_76
  intro x21_78 hN21_78
  intro x21_79 hN21_79
  intro x21_82 hN21_82
  intro x21_83 hN21_83
  intro x21_10 hN21_10
  intro hap
  dsimp only [putAll, List.take, List.drop]
  go_frame
  have hM21 := hM20.on hB21
  clear hB21 hM20 hap
  have hM22 := mm_nil w21
  go_wp2_with (first
    | (go_at_call 9; (with_reducible change Calls _ _ #[x19_9] _ _); refine (dWide_numT ((hN19_9.below hM21.below).below hM22.below)).mono ?_; rintro e w23 ⟨rfl, hB23⟩; have hM23 := hM22.on hB23; clear hB23 hM22; (try unfold WV); go_frame)
    | (go_at_call 9; (with_reducible change Calls _ _ #[x21_10] _ _); refine (dWide_numT (hN21_10.below hM23.below)).mono ?_; rintro e w24 ⟨rfl, hB24⟩; have hM24 := hM23.on hB24; clear hB24 hM23; (try unfold WV); go_frame)
    | ((with_reducible change wpList _ _ _ (Oper.mk (some 88) _ _ _ _ _ :: _) _ _); refine kBuildPoint2 _ _ v72 v83 rfl rfl rfl rfl ?_; go_frame)
    | ((with_reducible change wpList _ _ _ (Oper.mk none (Op.store _ (Operand.tmp 4) (Operand.tmp 88)) _ _ _ _ :: _) _ _); have hJ := (Mm.join (Mm.join (Mm.join (Mm.join (Mm.join (Mm.join (Mm.join (Mm.join (Mm.join hM5 hM7) hM9) hM11) hM13) hM15) hM17) hM19) hM21) hM24); dsimp only [List.append, List.cons_append, List.nil_append] at hJ; refine mmStoreAt hJ 0 _ _ _ _ _ _ (pcells v72 v83 false) rfl rfl rfl rfl rfl (info_PointC _ _ _) (by simp only [pcells_size]) (pcells_one _ _ _) ?_; intro w25 hM25; dsimp only [List.set] at hM25; clear hJ; go_frame))
  exact result_row Tryd.results53 rfl (hM25.get 0 rfl) Tryd.underlying30 rfl (info_PointC _ _ _) rfl ⟨by rw [R.out] <;> rfl, hM25.below⟩
set_option maxRecDepth 100000 in
set_option maxHeartbeats 8000000 in
theorem eadd_other {x1 y1 x2 y2 : Nat} (lx1 : x1 < PP) (ly1 : y1 < PP) (lx2 : x2 < PP) (ly2 : y2 < PP) (hx : FP x2 - FP x1 ≠ 0) (w : World) :
    Calls Tryd.prog 53 #[.agg (pcells x1 y1 false), .agg (pcells x2 y2 false)] w fun e w' => e = .returned (.agg (ptc (Pt.rise ((FP y2 - FP y1) * ivP (FP x2 - FP x1)) (FP x1) (FP y1) (FP x2)))) ∧ Below w.heap.size w w' := by
  obtain ⟨m, Hm⟩ : ∃ m, Hid (m = PP) := ⟨_, Lib.hid rfl⟩
  have hm : Modu m := by rw [Hm.out]; exact modu_P
  have hP : PrimeIs true m := by rw [Hm.out]; exact rPrime_true
  have mx1 := lt_M lx1
  have my1 := lt_M ly1
  have mx2 := lt_M lx2
  have my2 := lt_M ly2
  obtain ⟨v19, Hv19⟩ : ∃ n, Hid ((0 - FP y1 : Fin PP).val = n) := ⟨_, Lib.hid rfl⟩
  have mv19 : v19 < M256 := by rw [← Hv19.out]; exact val_lt _
  obtain ⟨v24, Hv24, mv24⟩ := nameMod hm (y2)
  obtain ⟨v27, Hv27, mv27⟩ := nameMod hm (y1)
  obtain ⟨v28, Hv28, mv28⟩ := nameMod hm (v24 + m - v27)
  obtain ⟨v31, Hv31, mv31⟩ := nameMod hm (x2)
  obtain ⟨v34, Hv34, mv34⟩ := nameMod hm (x1)
  obtain ⟨v35, Hv35, mv35⟩ := nameMod hm (v31 + m - v34)
  obtain ⟨v60, Hv60, mv60⟩ := nameMod hm (v35 ^ (m - 2))
  obtain ⟨v61, Hv61, mv61⟩ := nameMod hm (v28 * v60)
  obtain ⟨v64, Hv64, mv64⟩ := nameMod hm (v61 * v61)
  obtain ⟨v67, Hv67, mv67⟩ := nameMod hm (x1)
  obtain ⟨v68, Hv68, mv68⟩ := nameMod hm (v64 + m - v67)
  obtain ⟨v71, Hv71, mv71⟩ := nameMod hm (x2)
  obtain ⟨v72, Hv72, mv72⟩ := nameMod hm (v68 + m - v71)
  obtain ⟨v76, Hv76, mv76⟩ := nameMod hm (x1)
  obtain ⟨v78, Hv78, mv78⟩ := nameMod hm (v76 + m - v72)
  obtain ⟨v79, Hv79, mv79⟩ := nameMod hm (v61 * v78)
  obtain ⟨v82, Hv82, mv82⟩ := nameMod hm (y1)
  obtain ⟨v83, Hv83, mv83⟩ := nameMod hm (v79 + m - v82)
  have Ev60 := FPm_inv Hm.out Hv60.out
  have Ev61 := FPm_mul Hm.out Hv61.out
  have Ev64 := FPm_mul Hm.out Hv64.out
  have Ev79 := FPm_mul Hm.out Hv79.out
  have Ev24 := FPm_mod Hm.out Hv24.out
  have Ev27 := FPm_mod Hm.out Hv27.out
  have Ev28 := FPm_sub2 Hm.out (by rw [← Hv27.out]; exact Nat.mod_lt _ hm.pos) Hv28.out
  have Ev31 := FPm_mod Hm.out Hv31.out
  have Ev34 := FPm_mod Hm.out Hv34.out
  have Ev35 := FPm_sub2 Hm.out (by rw [← Hv34.out]; exact Nat.mod_lt _ hm.pos) Hv35.out
  have Ev67 := FPm_mod Hm.out Hv67.out
  have Ev68 := FPm_sub2 Hm.out (by rw [← Hv67.out]; exact Nat.mod_lt _ hm.pos) Hv68.out
  have Ev71 := FPm_mod Hm.out Hv71.out
  have Ev72 := FPm_sub2 Hm.out (by rw [← Hv71.out]; exact Nat.mod_lt _ hm.pos) Hv72.out
  have Lv72 := FPm_lt Hm.out Hv72.out
  have Ev76 := FPm_mod Hm.out Hv76.out
  have Ev78 := FPm_sub2 Hm.out (by rw [← Hv72.out]; exact Nat.mod_lt _ hm.pos) Hv78.out
  have Ev82 := FPm_mod Hm.out Hv82.out
  have Ev83 := FPm_sub2 Hm.out (by rw [← Hv82.out]; exact Nat.mod_lt _ hm.pos) Hv83.out
  have Lv83 := FPm_lt Hm.out Hv83.out
  have h23 := Lib.hid (show x2 ≠ x1 from fun e => hx (by rw [e, Fin.sub_self]))
  have h38 := Lib.hid (show x1 ≠ x2 from fun e => hx (by rw [e, Fin.sub_self]))
  have R := Lib.hid (show Value.agg (pcells v72 v83 false) = .agg (ptc (Pt.rise ((FP y2 - FP y1) * ivP (FP x2 - FP x1)) (FP x1) (FP y1) (FP x2))) by
    have R1 := val_of Lv72 (show FP v72 = ((FP y2 - FP y1) * ivP (FP x2 - FP x1)) * ((FP y2 - FP y1) * ivP (FP x2 - FP x1)) - FP x1 - FP x2 by simp only [Ev72, Ev68, Ev64, Ev61, Ev28, Ev24, Ev27, Ev60, Ev35, Ev31, Ev34, Ev67, Ev71])
    have R2 := val_of Lv83 (show FP v83 = ((FP y2 - FP y1) * ivP (FP x2 - FP x1)) * (FP x1 - (((FP y2 - FP y1) * ivP (FP x2 - FP x1)) * ((FP y2 - FP y1) * ivP (FP x2 - FP x1)) - FP x1 - FP x2)) - FP y1 by simp only [Ev83, Ev79, Ev61, Ev28, Ev24, Ev27, Ev60, Ev35, Ev31, Ev34, Ev78, Ev76, Ev72, Ev68, Ev64, Ev67, Ev71, Ev82])
    rw [R1, R2]; rfl)
  clear hx Ev60 Ev61 Ev64 Ev79 Ev24 Ev27 Ev28 Ev31 Ev34 Ev35 Ev67 Ev68 Ev71 Ev72 Lv72 Ev76 Ev78 Ev82 Ev83 Lv83
  have hM0 := mm_nil w
  (try unfold WV)
  go_enter Tryd.func53, Tryd.ntmps53
  go_wp2_with (first
    | ((with_reducible change wpList _ _ _ (Oper.mk (some 2) _ _ _ _ _ :: _) _ _); refine mmBox hM0 _ _ (pcells x1 y1 false) rfl rfl rfl ?_; intro w1 hM1; clear hM0; go_frame)
    | ((with_reducible change wpList _ _ _ (Oper.mk (some 3) _ _ _ _ _ :: _) _ _); refine mmBox hM1 _ _ (pcells x2 y2 false) rfl rfl rfl ?_; intro w2 hM2; clear hM1; go_frame)
    | ((with_reducible change wpList _ _ _ (Oper.mk (some 4) _ _ _ _ _ :: _) _ _); refine mmAlloc hM2 _ _ rfl rfl zero_Point ?_; intro w3 hM3; clear hM2; go_frame)
    | ((with_reducible change wpList _ _ _ (Oper.mk (some 11) _ _ _ _ _ :: _) _ _); refine kFieldPoint2 _ _ rfl rfl rfl ?_; go_frame)
    | ((with_reducible change wpList _ _ _ (Oper.mk (some 12) _ _ _ _ _ :: _) _ _); refine kLoad1 _ _ _ _ _ _ _ _ rfl rfl rfl (hM3.get 2 rfl) Tryd.underlying4 rfl (pcells_at8 _ _ _) ?_; go_frame)
    | ((with_reducible change wpList _ _ _ (Oper.mk (some 14) _ _ _ _ _ :: _) _ _); refine kFieldPoint2 _ _ rfl rfl rfl ?_; go_frame)
    | ((with_reducible change wpList _ _ _ (Oper.mk (some 15) _ _ _ _ _ :: _) _ _); refine kLoad1 _ _ _ _ _ _ _ _ rfl rfl rfl (hM3.get 1 rfl) Tryd.underlying4 rfl (pcells_at8 _ _ _) ?_; go_frame))
  refine region_symT 4 _ [] [] [.val (.agg (pcells x2 y2 false)), .val (.agg (pcells x1 y1 false)), .val (.agg (pcells x1 v19 false)), .val (.bool false)] rfl (by kernel_rfl) (by kernel_rfl) (by kernel_rfl) (by kernel_rfl) rfl (by intro s hs; cases hs) (steps_all ⟨?_, ?_, ?_, ?_, trivial⟩) ?_
  · exact fun A W sz ot hbel ap dp => kLoadRow _ _ _ _ _ _ rfl rfl (sO ot 3) ((hM3.get 1 rfl).on hbel) Tryd.underlying30 rfl (info_PointC _ _ _) (sE ap sz rfl)
  · exact fun A W sz ot hbel ap dp => kLoadRow _ _ _ _ _ _ rfl rfl (sO ot 2) ((hM3.get 2 rfl).on hbel) Tryd.underlying30 rfl (info_PointC _ _ _) (sE ap sz rfl)
  · exact fun A W sz ot hbel ap dp => sCall1 82 rfl (sD dp 1 .data) (sC (eNeg_as my1 false Hv19.out W) ap sz (fun _ => rfl))
  · exact fun A W sz ot hbel ap dp => kEqlP _ _ _ x2 y2 false x1 v19 false false rfl rfl (sD dp 0 .data) (sD dp 2 .data) (eqP_no mx2 my2 mx1 mv19 (fun e => h23.out e.1)) (sE ap sz rfl)
  intro w4 hB4
  dsimp only [AllV]
  intro hap
  dsimp only [putAll, List.take, List.drop]
  go_frame
  have hM4 := hM3.on hB4
  clear hB4 hM3 hap
  go_wp2_with fail
  refine region_symT 16 _ [] [] [.val (.pointer (some ⟨w1.heap.size, 4, none⟩)), .val (.agg (wcells y2)), .prop (fun w v => NumT w v (v24)) (fun _ _ _ hb h => h.below hb), .val (.pointer (some ⟨w.heap.size, 4, none⟩)), .val (.agg (wcells y1)), .prop (fun w v => NumT w v (v27)) (fun _ _ _ hb h => h.below hb), .prop (fun w v => NumT w v (v28)) (fun _ _ _ hb h => h.below hb), .val (.pointer (some ⟨w1.heap.size, 0, none⟩)), .val (.agg (wcells x2)), .prop (fun w v => NumT w v (v31)) (fun _ _ _ hb h => h.below hb), .val (.pointer (some ⟨w.heap.size, 0, none⟩)), .val (.agg (wcells x1)), .prop (fun w v => NumT w v (v34)) (fun _ _ _ hb h => h.below hb), .prop (fun w v => NumT w v (v35)) (fun _ _ _ hb h => h.below hb), .prop (fun w v => NumT w v (v28)) (fun _ _ _ hb h => h.below hb), .prop (fun w v => NumT w v (v35)) (fun _ _ _ hb h => h.below hb)] rfl (by kernel_rfl) (by kernel_rfl) (by kernel_rfl) (by kernel_rfl) rfl (by intro s hs; cases hs) (steps_all ⟨?_, ?_, ?_, ?_, ?_, ?_, ?_, ?_, ?_, ?_, ?_, ?_, ?_, ?_, ?_, ?_, trivial⟩) ?_
  · exact fun A W sz ot hbel ap dp => kFieldPoint1 _ _ rfl rfl (sO ot 3) (sE ap sz rfl)
  · exact fun A W sz ot hbel ap dp => kLoadAs _ _ _ _ _ 4 _ _ _ rfl rfl (sD dp 0 .data) ((hM4.get 1 rfl).on hbel) Tryd.underlying24 rfl info_Wide (by rw [pcells_size]; decide) (pcells_at4 _ _ _) (sE ap sz rfl)
  · intro A W sz ot hbel ap dp
    refine kCall1 70 _ _ _ rfl rfl (by kernel_rfl) (sD dp 1 .data) ?_
    refine (enum_as hm hP my2 Hv24.out W).mono ?_
    rintro e r ⟨xx, rfl, hNx, hBc⟩
    exact ⟨_, rfl, (sV ap sz hBc hNx)⟩
  · exact fun A W sz ot hbel ap dp => kFieldPoint1 _ _ rfl rfl (sO ot 2) (sE ap sz rfl)
  · exact fun A W sz ot hbel ap dp => kLoadAs _ _ _ _ _ 4 _ _ _ rfl rfl (sD dp 3 .data) ((hM4.get 2 rfl).on hbel) Tryd.underlying24 rfl info_Wide (by rw [pcells_size]; decide) (pcells_at4 _ _ _) (sE ap sz rfl)
  · intro A W sz ot hbel ap dp
    refine kCall1 70 _ _ _ rfl rfl (by kernel_rfl) (sD dp 4 .data) ?_
    refine (enum_as hm hP my1 Hv27.out W).mono ?_
    rintro e r ⟨xx, rfl, hNx, hBc⟩
    exact ⟨_, rfl, (sV ap sz hBc hNx)⟩
  · intro A W sz ot hbel ap dp
    have hN24 := (show NumT W (A.tmps.getD 24 undef) (v24) from (sD dp 2 .data))
    have hN27 := (show NumT W (A.tmps.getD 27 undef) (v27) from (sD dp 5 .data))
    refine kCall2 73 _ _ _ _ _ rfl rfl (by kernel_rfl) (rfl : A.eval (Operand.tmp 24) = A.tmps.getD 24 undef) (rfl : A.eval (Operand.tmp 27) = A.tmps.getD 27 undef) ?_
    refine (esub_as hm hP (hN24.n16 mv24) (hN27.n16 mv27) (by rw [← Hv27.out]; exact Nat.mod_lt _ hm.pos) Hv28.out).mono ?_
    rintro e r ⟨xx, rfl, hNx, hBc⟩
    exact ⟨_, rfl, (sV ap sz hBc hNx)⟩
  · exact fun A W sz ot hbel ap dp => kFieldPoint0 _ _ rfl rfl (sO ot 3) (sE ap sz rfl)
  · exact fun A W sz ot hbel ap dp => kLoadAs _ _ _ _ _ 4 _ _ _ rfl rfl (sD dp 7 .data) ((hM4.get 1 rfl).on hbel) Tryd.underlying24 rfl info_Wide (by rw [pcells_size]; decide) (pcells_at0 _ _ _) (sE ap sz rfl)
  · intro A W sz ot hbel ap dp
    refine kCall1 70 _ _ _ rfl rfl (by kernel_rfl) (sD dp 8 .data) ?_
    refine (enum_as hm hP mx2 Hv31.out W).mono ?_
    rintro e r ⟨xx, rfl, hNx, hBc⟩
    exact ⟨_, rfl, (sV ap sz hBc hNx)⟩
  · exact fun A W sz ot hbel ap dp => kFieldPoint0 _ _ rfl rfl (sO ot 2) (sE ap sz rfl)
  · exact fun A W sz ot hbel ap dp => kLoadAs _ _ _ _ _ 4 _ _ _ rfl rfl (sD dp 10 .data) ((hM4.get 2 rfl).on hbel) Tryd.underlying24 rfl info_Wide (by rw [pcells_size]; decide) (pcells_at0 _ _ _) (sE ap sz rfl)
  · intro A W sz ot hbel ap dp
    refine kCall1 70 _ _ _ rfl rfl (by kernel_rfl) (sD dp 11 .data) ?_
    refine (enum_as hm hP mx1 Hv34.out W).mono ?_
    rintro e r ⟨xx, rfl, hNx, hBc⟩
    exact ⟨_, rfl, (sV ap sz hBc hNx)⟩
  · intro A W sz ot hbel ap dp
    have hN31 := (show NumT W (A.tmps.getD 31 undef) (v31) from (sD dp 9 .data))
    have hN34 := (show NumT W (A.tmps.getD 34 undef) (v34) from (sD dp 12 .data))
    refine kCall2 73 _ _ _ _ _ rfl rfl (by kernel_rfl) (rfl : A.eval (Operand.tmp 31) = A.tmps.getD 31 undef) (rfl : A.eval (Operand.tmp 34) = A.tmps.getD 34 undef) ?_
    refine (esub_as hm hP (hN31.n16 mv31) (hN34.n16 mv34) (by rw [← Hv34.out]; exact Nat.mod_lt _ hm.pos) Hv35.out).mono ?_
    rintro e r ⟨xx, rfl, hNx, hBc⟩
    exact ⟨_, rfl, (sV ap sz hBc hNx)⟩
  · intro A W sz ot hbel ap dp
    have hN := (sD dp 6 .data)
    exact kAssignV _ (A.tmps.getD 28 undef) rfl rfl rfl (sE ap sz hN)
  · intro A W sz ot hbel ap dp
    have hN := (sD dp 13 .data)
    exact kAssignV _ (A.tmps.getD 35 undef) rfl rfl rfl (sE ap sz hN)
  intro w5 hB5
  dsimp only [AllV]
  intro x5_24 hN5_24
  intro x5_27 hN5_27
  intro x5_28 hN5_28
  intro x5_31 hN5_31
  intro x5_34 hN5_34
  intro x5_35 hN5_35
  intro x5_5 hN5_5
  intro x5_6 hN5_6
  intro hap
  dsimp only [putAll, List.take, List.drop]
  go_frame
  have hM5 := hM4.on hB5
  clear hB5 hM4 hap
  have hM6 := mm_nil w5
  go_wp2_with (first
    | ((with_reducible change wpList _ _ _ (Oper.mk (some 36) _ _ _ _ _ :: _) _ _); refine kLoadRow _ _ _ _ _ _ rfl rfl rfl ((hM5.get 2 rfl).on hM6.below) Tryd.underlying30 rfl (info_PointC _ _ _) ?_; go_frame)
    | ((with_reducible change wpList _ _ _ (Oper.mk (some 37) _ _ _ _ _ :: _) _ _); refine kLoadRow _ _ _ _ _ _ rfl rfl rfl ((hM5.get 1 rfl).on hM6.below) Tryd.underlying30 rfl (info_PointC _ _ _) ?_; go_frame)
    | ((with_reducible change wpList _ _ _ (Oper.mk (some 38) _ _ _ _ _ :: _) _ _); refine kEqlP _ _ _ x1 y1 false x2 y2 false false rfl rfl rfl rfl (eqP_no mx1 my1 mx2 my2 (fun e => h38.out e.1)) ?_; go_frame)
    | (go_at_call 42; (with_reducible change Calls _ _ #[x5_6, Value.bool true] _ _); refine (rInv_as hm hP ((hN5_6.below hM6.below).n16 mv35) Hv60.out).mono ?_; rintro e w7 ⟨x7, rfl, hN7, hB7⟩; have hM7 := hM6.on hB7; clear hB7 hM6; have hM8 := mm_nil w7; go_frame)
    | (go_at_call 71; (with_reducible change Calls _ _ #[x5_5, x7] _ _); refine (emul_as hm hP (((hN5_5.below hM7.below).below hM8.below).n16 mv28) ((hN7.below hM8.below).n16 mv60) Hv61.out).mono ?_; rintro e w9 ⟨x9, rfl, hN9, hB9⟩; have hM9 := hM8.on hB9; clear hB9 hM8; have hM10 := mm_nil w9; go_frame))
  refine region_symT 12 _ [] [] [.val (x9), .val (x9), .prop (fun w v => NumT w v (v64)) (fun _ _ _ hb h => h.below hb), .val (.pointer (some ⟨w.heap.size, 0, none⟩)), .val (.agg (wcells x1)), .prop (fun w v => NumT w v (v67)) (fun _ _ _ hb h => h.below hb), .prop (fun w v => NumT w v (v68)) (fun _ _ _ hb h => h.below hb), .val (.pointer (some ⟨w1.heap.size, 0, none⟩)), .val (.agg (wcells x2)), .prop (fun w v => NumT w v (v71)) (fun _ _ _ hb h => h.below hb), .prop (fun w v => NumT w v (v72)) (fun _ _ _ hb h => h.below hb), .prop (fun w v => NumT w v (v72)) (fun _ _ _ hb h => h.below hb)] rfl (by kernel_rfl) (by kernel_rfl) (by kernel_rfl) (by kernel_rfl) rfl (by intro s hs; cases hs) (steps_all ⟨?_, ?_, ?_, ?_, ?_, ?_, ?_, ?_, ?_, ?_, ?_, ?_, trivial⟩) ?_
  · exact fun A W sz ot hbel ap dp => kMoveV _ _ rfl rfl (sO ot 8) (sE ap sz rfl)
  · exact fun A W sz ot hbel ap dp => kMoveV _ _ rfl rfl (sO ot 8) (sE ap sz rfl)
  · intro A W sz ot hbel ap dp
    refine kCall2 71 _ _ _ _ _ rfl rfl (by kernel_rfl) (sD dp 0 .data) (sD dp 1 .data) ?_
    refine (emul_as hm hP (((hN9.below hM10.below).below hbel).n16 mv61) (((hN9.below hM10.below).below hbel).n16 mv61) Hv64.out).mono ?_
    rintro e r ⟨xx, rfl, hNx, hBc⟩
    exact ⟨_, rfl, (sV ap sz hBc hNx)⟩
  · exact fun A W sz ot hbel ap dp => kFieldPoint0 _ _ rfl rfl (sO ot 2) (sE ap sz rfl)
  · exact fun A W sz ot hbel ap dp => kLoadAs _ _ _ _ _ 4 _ _ _ rfl rfl (sD dp 3 .data) (((((hM5.get 2 rfl).on hM7.below).on hM9.below).on hM10.below).on hbel) Tryd.underlying24 rfl info_Wide (by rw [pcells_size]; decide) (pcells_at0 _ _ _) (sE ap sz rfl)
  · intro A W sz ot hbel ap dp
    refine kCall1 70 _ _ _ rfl rfl (by kernel_rfl) (sD dp 4 .data) ?_
    refine (enum_as hm hP mx1 Hv67.out W).mono ?_
    rintro e r ⟨xx, rfl, hNx, hBc⟩
    exact ⟨_, rfl, (sV ap sz hBc hNx)⟩
  · intro A W sz ot hbel ap dp
    have hN64 := (show NumT W (A.tmps.getD 64 undef) (v64) from (sD dp 2 .data))
    have hN67 := (show NumT W (A.tmps.getD 67 undef) (v67) from (sD dp 5 .data))
    refine kCall2 73 _ _ _ _ _ rfl rfl (by kernel_rfl) (rfl : A.eval (Operand.tmp 64) = A.tmps.getD 64 undef) (rfl : A.eval (Operand.tmp 67) = A.tmps.getD 67 undef) ?_
    refine (esub_as hm hP (hN64.n16 mv64) (hN67.n16 mv67) (by rw [← Hv67.out]; exact Nat.mod_lt _ hm.pos) Hv68.out).mono ?_
    rintro e r ⟨xx, rfl, hNx, hBc⟩
    exact ⟨_, rfl, (sV ap sz hBc hNx)⟩
  · exact fun A W sz ot hbel ap dp => kFieldPoint0 _ _ rfl rfl (sO ot 3) (sE ap sz rfl)
  · exact fun A W sz ot hbel ap dp => kLoadAs _ _ _ _ _ 4 _ _ _ rfl rfl (sD dp 7 .data) (((((hM5.get 1 rfl).on hM7.below).on hM9.below).on hM10.below).on hbel) Tryd.underlying24 rfl info_Wide (by rw [pcells_size]; decide) (pcells_at0 _ _ _) (sE ap sz rfl)
  · intro A W sz ot hbel ap dp
    refine kCall1 70 _ _ _ rfl rfl (by kernel_rfl) (sD dp 8 .data) ?_
    refine (enum_as hm hP mx2 Hv71.out W).mono ?_
    rintro e r ⟨xx, rfl, hNx, hBc⟩
    exact ⟨_, rfl, (sV ap sz hBc hNx)⟩
  · intro A W sz ot hbel ap dp
    have hN68 := (show NumT W (A.tmps.getD 68 undef) (v68) from (sD dp 6 .data))
    have hN71 := (show NumT W (A.tmps.getD 71 undef) (v71) from (sD dp 9 .data))
    refine kCall2 73 _ _ _ _ _ rfl rfl (by kernel_rfl) (rfl : A.eval (Operand.tmp 68) = A.tmps.getD 68 undef) (rfl : A.eval (Operand.tmp 71) = A.tmps.getD 71 undef) ?_
    refine (esub_as hm hP (hN68.n16 mv68) (hN71.n16 mv71) (by rw [← Hv71.out]; exact Nat.mod_lt _ hm.pos) Hv72.out).mono ?_
    rintro e r ⟨xx, rfl, hNx, hBc⟩
    exact ⟨_, rfl, (sV ap sz hBc hNx)⟩
  · intro A W sz ot hbel ap dp
    have hN := (sD dp 10 .data)
    exact kAssignV _ (A.tmps.getD 72 undef) rfl rfl rfl (sE ap sz hN)
  intro w11 hB11
  dsimp only [AllV]
  intro x11_64 hN11_64
  intro x11_67 hN11_67
  intro x11_68 hN11_68
  intro x11_71 hN11_71
  intro x11_72 hN11_72
  intro x11_9 hN11_9
  intro hap
  dsimp only [putAll, List.take, List.drop]
  go_frame
  have hM11 := hM10.on hB11
  clear hB11 hM10 hap
  have hM12 := mm_nil w11
  go_wp2_with fail
  refine region_symT 12 _ [] [] [.val (x9), .val (.pointer (some ⟨w.heap.size, 0, none⟩)), .val (.agg (wcells x1)), .prop (fun w v => NumT w v (v76)) (fun _ _ _ hb h => h.below hb), .val (x11_9), .prop (fun w v => NumT w v (v78)) (fun _ _ _ hb h => h.below hb), .prop (fun w v => NumT w v (v79)) (fun _ _ _ hb h => h.below hb), .val (.pointer (some ⟨w.heap.size, 4, none⟩)), .val (.agg (wcells y1)), .prop (fun w v => NumT w v (v82)) (fun _ _ _ hb h => h.below hb), .prop (fun w v => NumT w v (v83)) (fun _ _ _ hb h => h.below hb), .prop (fun w v => NumT w v (v83)) (fun _ _ _ hb h => h.below hb)] rfl (by kernel_rfl) (by kernel_rfl) (by kernel_rfl) (by kernel_rfl) rfl (by intro s hs; cases hs) (steps_all ⟨?_, ?_, ?_, ?_, ?_, ?_, ?_, ?_, ?_, ?_, ?_, ?_, trivial⟩) ?_
  · exact fun A W sz ot hbel ap dp => kMoveV _ _ rfl rfl (sO ot 8) (sE ap sz rfl)
  · exact fun A W sz ot hbel ap dp => kFieldPoint0 _ _ rfl rfl (sO ot 2) (sE ap sz rfl)
  · exact fun A W sz ot hbel ap dp => kLoadAs _ _ _ _ _ 4 _ _ _ rfl rfl (sD dp 1 .data) ((((((hM5.get 2 rfl).on hM7.below).on hM9.below).on hM11.below).on hM12.below).on hbel) Tryd.underlying24 rfl info_Wide (by rw [pcells_size]; decide) (pcells_at0 _ _ _) (sE ap sz rfl)
  · intro A W sz ot hbel ap dp
    refine kCall1 70 _ _ _ rfl rfl (by kernel_rfl) (sD dp 2 .data) ?_
    refine (enum_as hm hP mx1 Hv76.out W).mono ?_
    rintro e r ⟨xx, rfl, hNx, hBc⟩
    exact ⟨_, rfl, (sV ap sz hBc hNx)⟩
  · exact fun A W sz ot hbel ap dp => kMoveV _ _ rfl rfl (sO ot 9) (sE ap sz rfl)
  · intro A W sz ot hbel ap dp
    have hN76 := (show NumT W (A.tmps.getD 76 undef) (v76) from (sD dp 3 .data))
    refine kCall2 73 _ _ _ _ _ rfl rfl (by kernel_rfl) (rfl : A.eval (Operand.tmp 76) = A.tmps.getD 76 undef) (sD dp 4 .data) ?_
    refine (esub_as hm hP (hN76.n16 mv76) (((hN11_9.below hM12.below).below hbel).n16 mv72) (by rw [← Hv72.out]; exact Nat.mod_lt _ hm.pos) Hv78.out).mono ?_
    rintro e r ⟨xx, rfl, hNx, hBc⟩
    exact ⟨_, rfl, (sV ap sz hBc hNx)⟩
  · intro A W sz ot hbel ap dp
    have hN78 := (show NumT W (A.tmps.getD 78 undef) (v78) from (sD dp 5 .data))
    refine kCall2 71 _ _ _ _ _ rfl rfl (by kernel_rfl) (sD dp 0 .data) (rfl : A.eval (Operand.tmp 78) = A.tmps.getD 78 undef) ?_
    refine (emul_as hm hP ((((hN9.below hM11.below).below hM12.below).below hbel).n16 mv61) (hN78.n16 mv78) Hv79.out).mono ?_
    rintro e r ⟨xx, rfl, hNx, hBc⟩
    exact ⟨_, rfl, (sV ap sz hBc hNx)⟩
  · exact fun A W sz ot hbel ap dp => kFieldPoint1 _ _ rfl rfl (sO ot 2) (sE ap sz rfl)
  · exact fun A W sz ot hbel ap dp => kLoadAs _ _ _ _ _ 4 _ _ _ rfl rfl (sD dp 7 .data) ((((((hM5.get 2 rfl).on hM7.below).on hM9.below).on hM11.below).on hM12.below).on hbel) Tryd.underlying24 rfl info_Wide (by rw [pcells_size]; decide) (pcells_at4 _ _ _) (sE ap sz rfl)
  · intro A W sz ot hbel ap dp
    refine kCall1 70 _ _ _ rfl rfl (by kernel_rfl) (sD dp 8 .data) ?_
    refine (enum_as hm hP my1 Hv82.out W).mono ?_
    rintro e r ⟨xx, rfl, hNx, hBc⟩
    exact ⟨_, rfl, (sV ap sz hBc hNx)⟩
  · intro A W sz ot hbel ap dp
    have hN79 := (show NumT W (A.tmps.getD 79 undef) (v79) from (sD dp 6 .data))
    have hN82 := (show NumT W (A.tmps.getD 82 undef) (v82) from (sD dp 9 .data))
    refine kCall2 73 _ _ _ _ _ rfl rfl (by kernel_rfl) (rfl : A.eval (Operand.tmp 79) = A.tmps.getD 79 undef) (rfl : A.eval (Operand.tmp 82) = A.tmps.getD 82 undef) ?_
    refine (esub_as hm hP (hN79.n16 mv79) (hN82.n16 mv82) (by rw [← Hv82.out]; exact Nat.mod_lt _ hm.pos) Hv83.out).mono ?_
    rintro e r ⟨xx, rfl, hNx, hBc⟩
    exact ⟨_, rfl, (sV ap sz hBc hNx)⟩
  · intro A W sz ot hbel ap dp
    have hN := (sD dp 10 .data)
    exact kAssignV _ (A.tmps.getD 83 undef) rfl rfl rfl (sE ap sz hN)
  intro w13 hB13
  dsimp only [AllV]
  intro x13_76 hN13_76
  intro x13_78 hN13_78
  intro x13_79 hN13_79
  intro x13_82 hN13_82
  intro x13_83 hN13_83
  intro x13_10 hN13_10
  intro hap
  dsimp only [putAll, List.take, List.drop]
  go_frame
  have hM13 := hM12.on hB13
  clear hB13 hM12 hap
  have hM14 := mm_nil w13
  go_wp2_with (first
    | (go_at_call 9; (with_reducible change Calls _ _ #[x11_9] _ _); refine (dWide_numT ((hN11_9.below hM13.below).below hM14.below)).mono ?_; rintro e w15 ⟨rfl, hB15⟩; have hM15 := hM14.on hB15; clear hB15 hM14; (try unfold WV); go_frame)
    | (go_at_call 9; (with_reducible change Calls _ _ #[x13_10] _ _); refine (dWide_numT (hN13_10.below hM15.below)).mono ?_; rintro e w16 ⟨rfl, hB16⟩; have hM16 := hM15.on hB16; clear hB16 hM15; (try unfold WV); go_frame)
    | ((with_reducible change wpList _ _ _ (Oper.mk (some 88) _ _ _ _ _ :: _) _ _); refine kBuildPoint2 _ _ v72 v83 rfl rfl rfl rfl ?_; go_frame)
    | ((with_reducible change wpList _ _ _ (Oper.mk none (Op.store _ (Operand.tmp 4) (Operand.tmp 88)) _ _ _ _ :: _) _ _); have hJ := (Mm.join (Mm.join (Mm.join (Mm.join (Mm.join hM5 hM7) hM9) hM11) hM13) hM16); dsimp only [List.append, List.cons_append, List.nil_append] at hJ; refine mmStoreAt hJ 0 _ _ _ _ _ _ (pcells v72 v83 false) rfl rfl rfl rfl rfl (info_PointC _ _ _) (by simp only [pcells_size]) (pcells_one _ _ _) ?_; intro w17 hM17; dsimp only [List.set] at hM17; clear hJ; go_frame))
  exact result_row Tryd.results53 rfl (hM17.get 0 rfl) Tryd.underlying30 rfl (info_PointC _ _ _) rfl ⟨by rw [R.out] <;> rfl, hM17.below⟩
theorem rise_thrice (X Y : Fin PP) : (X * X + X * X + X * X) * ivP (Y + Y) = 3 * X * X * ivP (2 * Y) := by
  rw [show Y + Y = 2 * Y by grobner, show X * X + X * X + X * X = 3 * X * X by grobner]
theorem eAdd_pt {p q : Pt PP} (hp : p.On) (hq : q.On) (w : World) :
    Calls Tryd.prog 53 #[.agg (ptc p), .agg (ptc q)] w fun e w' => e = .returned (.agg (ptc (Pt.add ivP p q))) ∧ Below w.heap.size w w' := by
  cases p with
  | o => exact eadd_o q w
  | mk x1 y1 =>
    cases q with
    | o => exact eadd_no w
    | mk x2 y2 =>
      have hp : y1 * y1 = x1 * x1 * x1 + 7 := hp
      have hq : y2 * y2 = x2 * x2 * x2 + 7 := hq
      unfold Pt.add
      simp only
      split
      · rename_i h
        exact eadd_across x1.isLt y1.isLt x2.isLt y2.isLt (by rw [FP_of_val, FP_of_val]; exact h.1) (by rw [FP_of_val, FP_of_val]; exact h.2) w
      · rename_i hn
        split
        · rename_i h
          obtain ⟨rfl, rfl⟩ := h
          have hy : y1 + y1 ≠ 0 := by rw [show y1 + y1 = 2 * y1 by grobner]; exact goodP.twice_ne (goodP.y_ne hp)
          have := eadd_same x1.isLt y1.isLt (by rw [FP_of_val]; exact hy) w
          rw [FP_of_val, FP_of_val, rise_thrice] at this; exact this
        · rename_i hs
          have hx : x1 ≠ x2 := fun e => by
            subst e
            rcases sq_same goodP (hp.trans hq.symm) with e | e
            · exact hs ⟨rfl, e⟩
            · exact hn ⟨rfl, e⟩
          have := eadd_other x1.isLt y1.isLt x2.isLt y2.isLt (by rw [FP_of_val, FP_of_val]; exact sub_ne hx) w
          rw [FP_of_val, FP_of_val, FP_of_val, FP_of_val] at this; exact this
/-- the point of a pick -/
def pick (k : Nat) (b : Bool) : Pt PP := if b then (Pt.times ivP gPt k).neg else Pt.times ivP gPt k
theorem pN_at (p : Pt PP) : (ptc p)[8]? = some (.bool (pN p)) := by cases p <;> rfl
theorem wcells_small (k : Nat) (hk : k < 65536) : wcells k = #[.int .u64 (k : Int), .int .u64 0, .int .u64 0, .int .u64 0] := by
  have e : ∀ j, j < 4 → (limb k j : Int) = if j = 0 then (k : Int) else 0 := fun j hj => by
    unfold limb
    rcases j with _ | j
    · rw [show P64 0 = 1 by decide, Nat.div_one, Nat.mod_eq_of_lt (by omega)]; rfl
    · have : k < P64 (j + 1) := by
        have h1 : P64 1 ≤ P64 (j + 1) := Nat.pow_le_pow_right (by decide) (by omega)
        have h2 : 65536 < P64 1 := by decide
        omega
      rw [Nat.div_eq_of_lt this]; simp
  rw [wcells_lit, e 0 (by decide), e 1 (by decide), e 2 (by decide), e 3 (by decide)]; rfl
theorem built_w1 (v : Int) : Tryd.prog.built 24 [(0, .int .u64 v)] = some #[.int .u64 v, .int .u64 0, .int .u64 0, .int .u64 0] := by kernel_rfl
section
variable {ops : Array Oper} {Q : Exit → Act → World → Prop} {rest : List Oper} {o : Oper} {a : Act} {w : World}
theorem kBuildW1 (x : Operand) (k : Nat) (hk : k < 65536) (ho : o.op = .build 24 #[(0, x)]) (hg : Region.wanted o (yielded ops a.tmps) = true) (hx : a.eval x = .int .u64 (k : Int)) (h : wpList Tryd.prog ops Q rest (a.put o.dst (.agg (wcells k))) w) : wpList Tryd.prog ops Q (o :: rest) a w :=
  kBuildAny _ _ #[(0, .int .u64 (k : Int))] _ ho hg (by simp [hx]) (by rw [wcells_small k hk]; exact built_w1 _) h
theorem kConvU16 (x : Operand) (k : Nat) (hk : k < 65536) (ho : o.op = .convert 50 22 x) (hg : Region.wanted o (yielded ops a.tmps) = true) (hx : a.eval x = .int .u16 (k : Int)) (h : wpList Tryd.prog ops Q rest (a.put o.dst (.int .u64 (k : Int))) w) : wpList Tryd.prog ops Q (o :: rest) a w := by
  refine kPure _ hg ?_ h
  unfold execOp
  have e : IntKind.u64.wrap (k : Int) = (k : Int) := by rw [IntKind.wrap_u64]; omega
  simp [ho, hx, convert, run_underlying Tryd.underlying22, run_underlying Tryd.underlying50, e, Conv.intToInt]
end
end Go.Proofs.YtfgffjmpjoipeaaDoor
