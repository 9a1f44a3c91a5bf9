/-
  The reference of layer 4: Add, Neg and On by points; the statements' own 'of' and 'curveAlive'.
-/
import Derived.Test.YtecibidncelebaaDoorCvRef3
import Derived.Test.YtecibidncelebaaDoorCvBoth
namespace Go.Proofs.YtecibidncelebaaDoor
open Go Go.RowKit

open Cv
theorem eNeg_as {x y v : Nat} (my : y < M256) (p : Bool) (hv : (0 - FP y : Fin PP).val = v) (w : World) : Calls Tryd.prog 23 #[.agg (pcells x y p)] w fun e w' => e = .returned (.agg (pcells x v p)) ∧ Below w.heap.size w w' := hv ▸ eNeg_nat my p w
theorem eNeg_pt (p : Pt PP) (w : World) : Calls Tryd.prog 23 #[.agg (ptc p)] w fun e w' => e = .returned (.agg (ptc p.neg)) ∧ Below w.heap.size w w' := by
  cases p with
  | o => exact eNeg_as (by decide) true (by decide) w
  | mk x y => exact eNeg_as (val_lt y) false (by rw [FP_of_val]) w
theorem eOn_pt {p : Pt PP} (h : p.On) (w : World) : Calls Tryd.prog 24 #[.agg (ptc p)] w fun e w' => e = .returned (.bool true) ∧ Below w.heap.size w w' := by
  obtain ⟨x, y, b, e, mx, my, ho⟩ := onB_pt h
  rw [e, ← ho]; exact eOn_any mx my b w
set_option maxRecDepth 100000 in
set_option maxHeartbeats 8000000 in
theorem eadd_o (q : Pt PP) (w : World) :
    Calls Tryd.prog 21 #[.agg (pcells 0 0 true), .agg (ptc q)] w fun e w' => e = .returned (.agg (ptc q)) ∧ Below w.heap.size w w' := by
  have hM0 := mm_nil w
  (try unfold WV)
  go_enter Tryd.func21, Tryd.ntmps21
  go_wp2_with (first
    | ((with_reducible change wpList _ _ _ (Oper.mk (some 2) _ _ _ _ _ :: _) _ _); refine mmBox hM0 _ _ (pcells 0 0 true) rfl rfl rfl ?_; intro w1 hM1; clear hM0; go_frame)
    | ((with_reducible change wpList _ _ _ (Oper.mk (some 3) _ _ _ _ _ :: _) _ _); refine mmBox hM1 _ _ (ptc q) rfl rfl rfl ?_; intro w2 hM2; clear hM1; go_frame)
    | ((with_reducible change wpList _ _ _ (Oper.mk (some 4) _ _ _ _ _ :: _) _ _); refine mmAlloc hM2 _ _ rfl rfl zero_Point ?_; intro w3 hM3; clear hM2; go_frame)
    | ((with_reducible change wpList _ _ _ (Oper.mk (some 11) _ _ _ _ _ :: _) _ _); refine kFieldPoint2 _ _ rfl rfl rfl ?_; go_frame)
    | ((with_reducible change wpList _ _ _ (Oper.mk (some 12) _ _ _ _ _ :: _) _ _); refine kLoad1 _ _ _ _ _ _ _ _ rfl rfl rfl (hM3.get 2 rfl) Tryd.underlying4 rfl (pcells_at8 _ _ _) ?_; go_frame)
    | ((with_reducible change wpList _ _ _ (Oper.mk (some 13) _ _ _ _ _ :: _) _ _); refine kLoadRow _ _ _ _ _ _ rfl rfl rfl (hM3.get 1 rfl) Tryd.underlying30 rfl (info_ptc _) ?_; go_frame)
    | ((with_reducible change wpList _ _ _ (Oper.mk none (Op.store _ (Operand.tmp 4) (Operand.tmp 13)) _ _ _ _ :: _) _ _); refine mmStoreAt hM3 0 _ _ _ _ _ _ (ptc q) rfl rfl rfl rfl rfl (info_ptc _) (by simp only [pcells_size, ptc_size]) (ptc_one _) ?_; intro w4 hM4; dsimp only [List.set] at hM4; clear hM3; go_frame))
  exact result_row Tryd.results21 rfl (hM4.get 0 rfl) Tryd.underlying30 rfl (info_ptc _) rfl ⟨rfl, hM4.below⟩
set_option maxRecDepth 100000 in
set_option maxHeartbeats 8000000 in
theorem eadd_no {x y : Nat} (w : World) :
    Calls Tryd.prog 21 #[.agg (pcells x y false), .agg (pcells 0 0 true)] w fun e w' => e = .returned (.agg (pcells x y false)) ∧ Below w.heap.size w w' := by
  have hM0 := mm_nil w
  (try unfold WV)
  go_enter Tryd.func21, Tryd.ntmps21
  go_wp2_with (first
    | ((with_reducible change wpList _ _ _ (Oper.mk (some 2) _ _ _ _ _ :: _) _ _); refine mmBox hM0 _ _ (pcells x y false) rfl rfl rfl ?_; intro w1 hM1; clear hM0; go_frame)
    | ((with_reducible change wpList _ _ _ (Oper.mk (some 3) _ _ _ _ _ :: _) _ _); refine mmBox hM1 _ _ (pcells 0 0 true) rfl rfl rfl ?_; intro w2 hM2; clear hM1; go_frame)
    | ((with_reducible change wpList _ _ _ (Oper.mk (some 4) _ _ _ _ _ :: _) _ _); refine mmAlloc hM2 _ _ rfl rfl zero_Point ?_; intro w3 hM3; clear hM2; go_frame)
    | ((with_reducible change wpList _ _ _ (Oper.mk (some 11) _ _ _ _ _ :: _) _ _); refine kFieldPoint2 _ _ rfl rfl rfl ?_; go_frame)
    | ((with_reducible change wpList _ _ _ (Oper.mk (some 12) _ _ _ _ _ :: _) _ _); refine kLoad1 _ _ _ _ _ _ _ _ rfl rfl rfl (hM3.get 2 rfl) Tryd.underlying4 rfl (pcells_at8 _ _ _) ?_; go_frame)
    | ((with_reducible change wpList _ _ _ (Oper.mk (some 14) _ _ _ _ _ :: _) _ _); refine kFieldPoint2 _ _ rfl rfl rfl ?_; go_frame)
    | ((with_reducible change wpList _ _ _ (Oper.mk (some 15) _ _ _ _ _ :: _) _ _); refine kLoad1 _ _ _ _ _ _ _ _ rfl rfl rfl (hM3.get 1 rfl) Tryd.underlying4 rfl (pcells_at8 _ _ _) ?_; go_frame)
    | ((with_reducible change wpList _ _ _ (Oper.mk (some 16) _ _ _ _ _ :: _) _ _); refine kLoadRow _ _ _ _ _ _ rfl rfl rfl (hM3.get 2 rfl) Tryd.underlying30 rfl (info_PointC _ _ _) ?_; go_frame)
    | ((with_reducible change wpList _ _ _ (Oper.mk none (Op.store _ (Operand.tmp 4) (Operand.tmp 16)) _ _ _ _ :: _) _ _); refine mmStoreAt hM3 0 _ _ _ _ _ _ (pcells x y false) rfl rfl rfl rfl rfl (info_PointC _ _ _) (by simp only [pcells_size]) (pcells_one _ _ _) ?_; intro w4 hM4; dsimp only [List.set] at hM4; clear hM3; go_frame))
  exact result_row Tryd.results21 rfl (hM4.get 0 rfl) Tryd.underlying30 rfl (info_PointC _ _ _) rfl ⟨rfl, hM4.below⟩
set_option maxRecDepth 100000 in
set_option maxHeartbeats 8000000 in
theorem eadd_across {x1 y1 x2 y2 : Nat} (lx1 : x1 < PP) (ly1 : y1 < PP) (lx2 : x2 < PP) (ly2 : y2 < PP) (hx : FP x2 = FP x1) (hy : FP y2 = 0 - FP y1) (w : World) :
    Calls Tryd.prog 21 #[.agg (pcells x1 y1 false), .agg (pcells x2 y2 false)] w fun e w' => e = .returned (.agg (ptc .o)) ∧ Below w.heap.size w w' := by
  have mx1 := lt_M lx1
  have my1 := lt_M ly1
  have mx2 := lt_M lx2
  have my2 := lt_M ly2
  obtain ⟨v19, Hv19⟩ : ∃ n, Hid ((0 - FP y1 : Fin PP).val = n) := ⟨_, Lib.hid rfl⟩
  have mv19 : v19 < M256 := by rw [← Hv19.out]; exact val_lt _
  have h1 := Lib.hid (FP_inj lx2 lx1 hx)
  have h2 := Lib.hid (show y2 = v19 by rw [← Hv19.out]; exact val_of ly2 hy)
  clear hx hy
  have hM0 := mm_nil w
  (try unfold WV)
  go_enter Tryd.func21, Tryd.ntmps21
  go_wp2_with (first
    | ((with_reducible change wpList _ _ _ (Oper.mk (some 2) _ _ _ _ _ :: _) _ _); refine mmBox hM0 _ _ (pcells x1 y1 false) rfl rfl rfl ?_; intro w1 hM1; clear hM0; go_frame)
    | ((with_reducible change wpList _ _ _ (Oper.mk (some 3) _ _ _ _ _ :: _) _ _); refine mmBox hM1 _ _ (pcells x2 y2 false) rfl rfl rfl ?_; intro w2 hM2; clear hM1; go_frame)
    | ((with_reducible change wpList _ _ _ (Oper.mk (some 4) _ _ _ _ _ :: _) _ _); refine mmAlloc hM2 _ _ rfl rfl zero_Point ?_; intro w3 hM3; clear hM2; go_frame)
    | ((with_reducible change wpList _ _ _ (Oper.mk (some 11) _ _ _ _ _ :: _) _ _); refine kFieldPoint2 _ _ rfl rfl rfl ?_; go_frame)
    | ((with_reducible change wpList _ _ _ (Oper.mk (some 12) _ _ _ _ _ :: _) _ _); refine kLoad1 _ _ _ _ _ _ _ _ rfl rfl rfl (hM3.get 2 rfl) Tryd.underlying4 rfl (pcells_at8 _ _ _) ?_; go_frame)
    | ((with_reducible change wpList _ _ _ (Oper.mk (some 14) _ _ _ _ _ :: _) _ _); refine kFieldPoint2 _ _ rfl rfl rfl ?_; go_frame)
    | ((with_reducible change wpList _ _ _ (Oper.mk (some 15) _ _ _ _ _ :: _) _ _); refine kLoad1 _ _ _ _ _ _ _ _ rfl rfl rfl (hM3.get 1 rfl) Tryd.underlying4 rfl (pcells_at8 _ _ _) ?_; go_frame))
  refine region_symT 4 _ [] [] [.val (.agg (pcells x2 y2 false)), .val (.agg (pcells x1 y1 false)), .val (.agg (pcells x1 v19 false)), .val (.bool true)] rfl (by kernel_rfl) (by kernel_rfl) (by kernel_rfl) (by kernel_rfl) rfl (by intro s hs; cases hs) (steps_all ⟨?_, ?_, ?_, ?_, trivial⟩) ?_
  · intro A W hsz hoth hbel hX hdep
    exact kLoadRow _ _ _ _ _ _ rfl rfl ((hoth 3 (free2_of (by kernel_rfl))).trans rfl) ((hM3.get 1 rfl).on hbel) Tryd.underlying30 rfl (info_PointC _ _ _) (symVT hX hsz rfl (show 17 < 89 by decide) rfl (Below.refl _ _) rfl)
  · intro A W hsz hoth hbel hX hdep
    exact kLoadRow _ _ _ _ _ _ rfl rfl ((hoth 2 (free2_of (by kernel_rfl))).trans rfl) ((hM3.get 2 rfl).on hbel) Tryd.underlying30 rfl (info_PointC _ _ _) (symVT hX hsz rfl (show 18 < 89 by decide) rfl (Below.refl _ _) rfl)
  · intro A W hsz hoth hbel hX hdep
    refine kCall1 23 _ _ _ rfl rfl (by kernel_rfl) (by have h := hdep ⟨1, .data⟩ (by simp) rfl; exact h) ?_
    refine (eNeg_as my1 false Hv19.out W).mono ?_
    rintro e r ⟨rfl, hBc⟩
    exact ⟨_, rfl, (symVT hX hsz rfl (show 19 < 89 by decide) rfl hBc rfl)⟩
  · intro A W hsz hoth hbel hX hdep
    exact kEqlP _ _ _ x2 y2 false x1 v19 false true rfl rfl (by have h := hdep ⟨0, .data⟩ (by simp) rfl; exact h) (by have h := hdep ⟨2, .data⟩ (by simp) rfl; exact h) (eqP_yes ⟨h1.out, h2.out, rfl⟩) (symVT hX hsz rfl (show 20 < 89 by decide) rfl (Below.refl _ _) rfl)
  intro w4 hB4
  dsimp only [AllV]
  intro hap
  dsimp only [putAll, List.take, List.drop]
  go_frame
  have hM4 := hM3.on hB4
  clear hB4 hM3 hap
  go_wp2_with (first
    | ((with_reducible change wpList _ _ _ (Oper.mk (some 21) _ _ _ _ _ :: _) _ _); refine kBuildPointN rfl rfl ?_; go_frame)
    | ((with_reducible change wpList _ _ _ (Oper.mk none (Op.store _ (Operand.tmp 4) (Operand.tmp 21)) _ _ _ _ :: _) _ _); refine mmStoreAt hM4 0 _ _ _ _ _ _ (pcells 0 0 true) rfl rfl rfl rfl rfl (info_PointC _ _ _) (by simp only [pcells_size]) (pcells_one _ _ _) ?_; intro w5 hM5; dsimp only [List.set] at hM5; clear hM4; go_frame))
  exact result_row Tryd.results21 rfl (hM5.get 0 rfl) Tryd.underlying30 rfl (info_PointC _ _ _) rfl ⟨rfl, hM5.below⟩
set_option maxRecDepth 100000 in
set_option maxHeartbeats 8000000 in
theorem eadd_same {x1 y1 : Nat} (lx1 : x1 < PP) (ly1 : y1 < PP) (hy : FP y1 + FP y1 ≠ 0) (w : World) :
    Calls Tryd.prog 21 #[.agg (pcells x1 y1 false), .agg (pcells x1 y1 false)] w fun e w' => e = .returned (.agg (ptc (Pt.rise ((FP x1 * FP x1 + FP x1 * FP x1 + FP x1 * FP x1) * ivP (FP y1 + FP y1)) (FP x1) (FP y1) (FP x1)))) ∧ Below w.heap.size w w' := by
  obtain ⟨m, Hm⟩ : ∃ m, Hid (m = PP) := ⟨_, Lib.hid rfl⟩
  have hm : Modu m := by rw [Hm.out]; exact modu_P
  have hP : PrimeIs true m := by rw [Hm.out]; exact rPrime_true
  have mx1 := lt_M lx1
  have my1 := lt_M ly1
  obtain ⟨v19, Hv19⟩ : ∃ n, Hid ((0 - FP y1 : Fin PP).val = n) := ⟨_, Lib.hid rfl⟩
  have mv19 : v19 < M256 := by rw [← Hv19.out]; exact val_lt _
  obtain ⟨v24, Hv24⟩ : ∃ n, Hid (y1 % m = n) := ⟨_, Lib.hid rfl⟩
  have mv24 : v24 < M256 := by rw [← Hv24.out]; exact hm.mod _
  obtain ⟨v27, Hv27⟩ : ∃ n, Hid (y1 % m = n) := ⟨_, Lib.hid rfl⟩
  have mv27 : v27 < M256 := by rw [← Hv27.out]; exact hm.mod _
  obtain ⟨v28, Hv28⟩ : ∃ n, Hid ((v24 + m - v27) % m = n) := ⟨_, Lib.hid rfl⟩
  have mv28 : v28 < M256 := by rw [← Hv28.out]; exact hm.mod _
  obtain ⟨v31, Hv31⟩ : ∃ n, Hid (x1 % m = n) := ⟨_, Lib.hid rfl⟩
  have mv31 : v31 < M256 := by rw [← Hv31.out]; exact hm.mod _
  obtain ⟨v34, Hv34⟩ : ∃ n, Hid (x1 % m = n) := ⟨_, Lib.hid rfl⟩
  have mv34 : v34 < M256 := by rw [← Hv34.out]; exact hm.mod _
  obtain ⟨v35, Hv35⟩ : ∃ n, Hid ((v31 + m - v34) % m = n) := ⟨_, Lib.hid rfl⟩
  have mv35 : v35 < M256 := by rw [← Hv35.out]; exact hm.mod _
  obtain ⟨v41, Hv41⟩ : ∃ n, Hid (x1 % m = n) := ⟨_, Lib.hid rfl⟩
  have mv41 : v41 < M256 := by rw [← Hv41.out]; exact hm.mod _
  obtain ⟨v44, Hv44⟩ : ∃ n, Hid (x1 % m = n) := ⟨_, Lib.hid rfl⟩
  have mv44 : v44 < M256 := by rw [← Hv44.out]; exact hm.mod _
  obtain ⟨v45, Hv45⟩ : ∃ n, Hid (v41 * v44 % m = n) := ⟨_, Lib.hid rfl⟩
  have mv45 : v45 < M256 := by rw [← Hv45.out]; exact hm.mod _
  obtain ⟨v48, Hv48⟩ : ∃ n, Hid ((v45 + v45) % m = n) := ⟨_, Lib.hid rfl⟩
  have mv48 : v48 < M256 := by rw [← Hv48.out]; exact hm.mod _
  obtain ⟨v50, Hv50⟩ : ∃ n, Hid ((v48 + v45) % m = n) := ⟨_, Lib.hid rfl⟩
  have mv50 : v50 < M256 := by rw [← Hv50.out]; exact hm.mod _
  obtain ⟨v53, Hv53⟩ : ∃ n, Hid (y1 % m = n) := ⟨_, Lib.hid rfl⟩
  have mv53 : v53 < M256 := by rw [← Hv53.out]; exact hm.mod _
  obtain ⟨v56, Hv56⟩ : ∃ n, Hid (y1 % m = n) := ⟨_, Lib.hid rfl⟩
  have mv56 : v56 < M256 := by rw [← Hv56.out]; exact hm.mod _
  obtain ⟨v57, Hv57⟩ : ∃ n, Hid ((v53 + v56) % m = n) := ⟨_, Lib.hid rfl⟩
  have mv57 : v57 < M256 := by rw [← Hv57.out]; exact hm.mod _
  obtain ⟨v60, Hv60⟩ : ∃ n, Hid (v57 ^ (m - 2) % m = n) := ⟨_, Lib.hid rfl⟩
  have mv60 : v60 < M256 := by rw [← Hv60.out]; exact hm.mod _
  obtain ⟨v61, Hv61⟩ : ∃ n, Hid (v50 * v60 % m = n) := ⟨_, Lib.hid rfl⟩
  have mv61 : v61 < M256 := by rw [← Hv61.out]; exact hm.mod _
  obtain ⟨v64, Hv64⟩ : ∃ n, Hid (v61 * v61 % m = n) := ⟨_, Lib.hid rfl⟩
  have mv64 : v64 < M256 := by rw [← Hv64.out]; exact hm.mod _
  obtain ⟨v67, Hv67⟩ : ∃ n, Hid (x1 % m = n) := ⟨_, Lib.hid rfl⟩
  have mv67 : v67 < M256 := by rw [← Hv67.out]; exact hm.mod _
  obtain ⟨v68, Hv68⟩ : ∃ n, Hid ((v64 + m - v67) % m = n) := ⟨_, Lib.hid rfl⟩
  have mv68 : v68 < M256 := by rw [← Hv68.out]; exact hm.mod _
  obtain ⟨v71, Hv71⟩ : ∃ n, Hid (x1 % m = n) := ⟨_, Lib.hid rfl⟩
  have mv71 : v71 < M256 := by rw [← Hv71.out]; exact hm.mod _
  obtain ⟨v72, Hv72⟩ : ∃ n, Hid ((v68 + m - v71) % m = n) := ⟨_, Lib.hid rfl⟩
  have mv72 : v72 < M256 := by rw [← Hv72.out]; exact hm.mod _
  obtain ⟨v76, Hv76⟩ : ∃ n, Hid (x1 % m = n) := ⟨_, Lib.hid rfl⟩
  have mv76 : v76 < M256 := by rw [← Hv76.out]; exact hm.mod _
  obtain ⟨v78, Hv78⟩ : ∃ n, Hid ((v76 + m - v72) % m = n) := ⟨_, Lib.hid rfl⟩
  have mv78 : v78 < M256 := by rw [← Hv78.out]; exact hm.mod _
  obtain ⟨v79, Hv79⟩ : ∃ n, Hid (v61 * v78 % m = n) := ⟨_, Lib.hid rfl⟩
  have mv79 : v79 < M256 := by rw [← Hv79.out]; exact hm.mod _
  obtain ⟨v82, Hv82⟩ : ∃ n, Hid (y1 % m = n) := ⟨_, Lib.hid rfl⟩
  have mv82 : v82 < M256 := by rw [← Hv82.out]; exact hm.mod _
  obtain ⟨v83, Hv83⟩ : ∃ n, Hid ((v79 + m - v82) % m = n) := ⟨_, Lib.hid rfl⟩
  have mv83 : v83 < M256 := by rw [← Hv83.out]; exact hm.mod _
  have Ev45 := FPm_mul Hm.out Hv45.out
  have Lv45 := FPm_lt Hm.out Hv45.out
  have Ev48 := FPm_add Hm.out Hv48.out
  have Lv48 := FPm_lt Hm.out Hv48.out
  have Ev50 := FPm_add Hm.out Hv50.out
  have Lv50 := FPm_lt Hm.out Hv50.out
  have Ev57 := FPm_add Hm.out Hv57.out
  have Lv57 := FPm_lt Hm.out Hv57.out
  have Ev60 := FPm_inv Hm.out Hv60.out
  have Lv60 := FPm_lt Hm.out Hv60.out
  have Ev61 := FPm_mul Hm.out Hv61.out
  have Lv61 := FPm_lt Hm.out Hv61.out
  have Ev64 := FPm_mul Hm.out Hv64.out
  have Lv64 := FPm_lt Hm.out Hv64.out
  have Ev79 := FPm_mul Hm.out Hv79.out
  have Lv79 := FPm_lt Hm.out Hv79.out
  have Ev24 := FPm_mod Hm.out Hv24.out
  have Lv24 := FPm_lt Hm.out Hv24.out
  have Ev27 := FPm_mod Hm.out Hv27.out
  have Lv27 := FPm_lt Hm.out Hv27.out
  have Ev28 := FPm_sub2 Hm.out (by rw [← Hv27.out]; exact Nat.mod_lt _ hm.pos) Hv28.out
  have Lv28 := FPm_lt Hm.out Hv28.out
  have Ev31 := FPm_mod Hm.out Hv31.out
  have Lv31 := FPm_lt Hm.out Hv31.out
  have Ev34 := FPm_mod Hm.out Hv34.out
  have Lv34 := FPm_lt Hm.out Hv34.out
  have Ev35 := FPm_sub2 Hm.out (by rw [← Hv34.out]; exact Nat.mod_lt _ hm.pos) Hv35.out
  have Lv35 := FPm_lt Hm.out Hv35.out
  have Ev41 := FPm_mod Hm.out Hv41.out
  have Lv41 := FPm_lt Hm.out Hv41.out
  have Ev44 := FPm_mod Hm.out Hv44.out
  have Lv44 := FPm_lt Hm.out Hv44.out
  have Ev53 := FPm_mod Hm.out Hv53.out
  have Lv53 := FPm_lt Hm.out Hv53.out
  have Ev56 := FPm_mod Hm.out Hv56.out
  have Lv56 := FPm_lt Hm.out Hv56.out
  have Ev67 := FPm_mod Hm.out Hv67.out
  have Lv67 := FPm_lt Hm.out Hv67.out
  have Ev68 := FPm_sub2 Hm.out (by rw [← Hv67.out]; exact Nat.mod_lt _ hm.pos) Hv68.out
  have Lv68 := FPm_lt Hm.out Hv68.out
  have Ev71 := FPm_mod Hm.out Hv71.out
  have Lv71 := FPm_lt Hm.out Hv71.out
  have Ev72 := FPm_sub2 Hm.out (by rw [← Hv71.out]; exact Nat.mod_lt _ hm.pos) Hv72.out
  have Lv72 := FPm_lt Hm.out Hv72.out
  have Ev76 := FPm_mod Hm.out Hv76.out
  have Lv76 := FPm_lt Hm.out Hv76.out
  have Ev78 := FPm_sub2 Hm.out (by rw [← Hv72.out]; exact Nat.mod_lt _ hm.pos) Hv78.out
  have Lv78 := FPm_lt Hm.out Hv78.out
  have Ev82 := FPm_mod Hm.out Hv82.out
  have Lv82 := FPm_lt Hm.out Hv82.out
  have Ev83 := FPm_sub2 Hm.out (by rw [← Hv82.out]; exact Nat.mod_lt _ hm.pos) Hv83.out
  have Lv83 := FPm_lt Hm.out Hv83.out
  have h23 := Lib.hid (show y1 ≠ v19 from fun e => hy (by have h := FP_of_val (0 - FP y1); rw [Hv19.out, ← e] at h; rw [show FP y1 + FP y1 = FP y1 + (0 - FP y1) by rw [← h]]; clear h e hy Ev45 Lv45 Ev48 Lv48 Ev50 Lv50 Ev57 Lv57 Ev60 Lv60 Ev61 Lv61 Ev64 Lv64 Ev79 Lv79 Ev24 Lv24 Ev27 Lv27 Ev28 Lv28 Ev31 Lv31 Ev34 Lv34 Ev35 Lv35 Ev41 Lv41 Ev44 Lv44 Ev53 Lv53 Ev56 Lv56 Ev67 Lv67 Ev68 Lv68 Ev71 Lv71 Ev72 Lv72 Ev76 Lv76 Ev78 Lv78 Ev82 Lv82 Ev83 Lv83; grobner))
  have R := Lib.hid (show Value.agg (pcells v72 v83 false) = .agg (ptc (Pt.rise ((FP x1 * FP x1 + FP x1 * FP x1 + FP x1 * FP x1) * ivP (FP y1 + FP y1)) (FP x1) (FP y1) (FP x1))) by
    have R1 := val_of Lv72 (show FP v72 = ((FP x1 * FP x1 + FP x1 * FP x1 + FP x1 * FP x1) * ivP (FP y1 + FP y1)) * ((FP x1 * FP x1 + FP x1 * FP x1 + FP x1 * FP x1) * ivP (FP y1 + FP y1)) - FP x1 - FP x1 by simp only [Ev72, Ev68, Ev64, Ev61, Ev50, Ev48, Ev45, Ev41, Ev44, Ev60, Ev57, Ev53, Ev56, Ev67, Ev71])
    have R2 := val_of Lv83 (show FP v83 = ((FP x1 * FP x1 + FP x1 * FP x1 + FP x1 * FP x1) * ivP (FP y1 + FP y1)) * (FP x1 - (((FP x1 * FP x1 + FP x1 * FP x1 + FP x1 * FP x1) * ivP (FP y1 + FP y1)) * ((FP x1 * FP x1 + FP x1 * FP x1 + FP x1 * FP x1) * ivP (FP y1 + FP y1)) - FP x1 - FP x1)) - FP y1 by simp only [Ev83, Ev79, Ev61, Ev50, Ev48, Ev45, Ev41, Ev44, Ev60, Ev57, Ev53, Ev56, Ev78, Ev76, Ev72, Ev68, Ev64, Ev67, Ev71, Ev82])
    rw [R1, R2]; rfl)
  clear hy Ev45 Lv45 Ev48 Lv48 Ev50 Lv50 Ev57 Lv57 Ev60 Lv60 Ev61 Lv61 Ev64 Lv64 Ev79 Lv79 Ev24 Lv24 Ev27 Lv27 Ev28 Lv28 Ev31 Lv31 Ev34 Lv34 Ev35 Lv35 Ev41 Lv41 Ev44 Lv44 Ev53 Lv53 Ev56 Lv56 Ev67 Lv67 Ev68 Lv68 Ev71 Lv71 Ev72 Lv72 Ev76 Lv76 Ev78 Lv78 Ev82 Lv82 Ev83 Lv83
  have hM0 := mm_nil w
  (try unfold WV)
  go_enter Tryd.func21, Tryd.ntmps21
  go_wp2_with (first
    | ((with_reducible change wpList _ _ _ (Oper.mk (some 2) _ _ _ _ _ :: _) _ _); refine mmBox hM0 _ _ (pcells x1 y1 false) rfl rfl rfl ?_; intro w1 hM1; clear hM0; go_frame)
    | ((with_reducible change wpList _ _ _ (Oper.mk (some 3) _ _ _ _ _ :: _) _ _); refine mmBox hM1 _ _ (pcells x1 y1 false) rfl rfl rfl ?_; intro w2 hM2; clear hM1; go_frame)
    | ((with_reducible change wpList _ _ _ (Oper.mk (some 4) _ _ _ _ _ :: _) _ _); refine mmAlloc hM2 _ _ rfl rfl zero_Point ?_; intro w3 hM3; clear hM2; go_frame)
    | ((with_reducible change wpList _ _ _ (Oper.mk (some 11) _ _ _ _ _ :: _) _ _); refine kFieldPoint2 _ _ rfl rfl rfl ?_; go_frame)
    | ((with_reducible change wpList _ _ _ (Oper.mk (some 12) _ _ _ _ _ :: _) _ _); refine kLoad1 _ _ _ _ _ _ _ _ rfl rfl rfl (hM3.get 2 rfl) Tryd.underlying4 rfl (pcells_at8 _ _ _) ?_; go_frame)
    | ((with_reducible change wpList _ _ _ (Oper.mk (some 14) _ _ _ _ _ :: _) _ _); refine kFieldPoint2 _ _ rfl rfl rfl ?_; go_frame)
    | ((with_reducible change wpList _ _ _ (Oper.mk (some 15) _ _ _ _ _ :: _) _ _); refine kLoad1 _ _ _ _ _ _ _ _ rfl rfl rfl (hM3.get 1 rfl) Tryd.underlying4 rfl (pcells_at8 _ _ _) ?_; go_frame))
  refine region_symT 4 _ [] [] [.val (.agg (pcells x1 y1 false)), .val (.agg (pcells x1 y1 false)), .val (.agg (pcells x1 v19 false)), .val (.bool false)] rfl (by kernel_rfl) (by kernel_rfl) (by kernel_rfl) (by kernel_rfl) rfl (by intro s hs; cases hs) (steps_all ⟨?_, ?_, ?_, ?_, trivial⟩) ?_
  · intro A W hsz hoth hbel hX hdep
    exact kLoadRow _ _ _ _ _ _ rfl rfl ((hoth 3 (free2_of (by kernel_rfl))).trans rfl) ((hM3.get 1 rfl).on hbel) Tryd.underlying30 rfl (info_PointC _ _ _) (symVT hX hsz rfl (show 17 < 89 by decide) rfl (Below.refl _ _) rfl)
  · intro A W hsz hoth hbel hX hdep
    exact kLoadRow _ _ _ _ _ _ rfl rfl ((hoth 2 (free2_of (by kernel_rfl))).trans rfl) ((hM3.get 2 rfl).on hbel) Tryd.underlying30 rfl (info_PointC _ _ _) (symVT hX hsz rfl (show 18 < 89 by decide) rfl (Below.refl _ _) rfl)
  · intro A W hsz hoth hbel hX hdep
    refine kCall1 23 _ _ _ rfl rfl (by kernel_rfl) (by have h := hdep ⟨1, .data⟩ (by simp) rfl; exact h) ?_
    refine (eNeg_as my1 false Hv19.out W).mono ?_
    rintro e r ⟨rfl, hBc⟩
    exact ⟨_, rfl, (symVT hX hsz rfl (show 19 < 89 by decide) rfl hBc rfl)⟩
  · intro A W hsz hoth hbel hX hdep
    exact kEqlP _ _ _ x1 y1 false x1 v19 false false rfl rfl (by have h := hdep ⟨0, .data⟩ (by simp) rfl; exact h) (by have h := hdep ⟨2, .data⟩ (by simp) rfl; exact h) (eqP_no mx1 my1 mx1 mv19 (fun e => h23.out e.2.1)) (symVT hX hsz rfl (show 20 < 89 by decide) rfl (Below.refl _ _) rfl)
  intro w4 hB4
  dsimp only [AllV]
  intro hap
  dsimp only [putAll, List.take, List.drop]
  go_frame
  have hM4 := hM3.on hB4
  clear hB4 hM3 hap
  go_wp2_with fail
  refine region_symT 16 _ [] [] [.val (.pointer (some ⟨w1.heap.size, 4, none⟩)), .val (.agg (wcells y1)), .prop (fun w v => NumT w v (v24)) (fun _ _ _ hb h => h.below hb), .val (.pointer (some ⟨w.heap.size, 4, none⟩)), .val (.agg (wcells y1)), .prop (fun w v => NumT w v (v27)) (fun _ _ _ hb h => h.below hb), .prop (fun w v => NumT w v (v28)) (fun _ _ _ hb h => h.below hb), .val (.pointer (some ⟨w1.heap.size, 0, none⟩)), .val (.agg (wcells x1)), .prop (fun w v => NumT w v (v31)) (fun _ _ _ hb h => h.below hb), .val (.pointer (some ⟨w.heap.size, 0, none⟩)), .val (.agg (wcells x1)), .prop (fun w v => NumT w v (v34)) (fun _ _ _ hb h => h.below hb), .prop (fun w v => NumT w v (v35)) (fun _ _ _ hb h => h.below hb), .prop (fun w v => NumT w v (v28)) (fun _ _ _ hb h => h.below hb), .prop (fun w v => NumT w v (v35)) (fun _ _ _ hb h => h.below hb)] rfl (by kernel_rfl) (by kernel_rfl) (by kernel_rfl) (by kernel_rfl) rfl (by intro s hs; cases hs) (steps_all ⟨?_, ?_, ?_, ?_, ?_, ?_, ?_, ?_, ?_, ?_, ?_, ?_, ?_, ?_, ?_, ?_, trivial⟩) ?_
  · intro A W hsz hoth hbel hX hdep
    exact kFieldPoint1 _ _ rfl rfl ((hoth 3 (free2_of (by kernel_rfl))).trans rfl) (symVT hX hsz rfl (show 22 < 89 by decide) rfl (Below.refl _ _) rfl)
  · intro A W hsz hoth hbel hX hdep
    exact kLoadAs _ _ _ _ _ 4 _ _ _ rfl rfl (by have h := hdep ⟨0, .data⟩ (by simp) rfl; exact h) ((hM4.get 1 rfl).on hbel) Tryd.underlying24 rfl info_Wide (by rw [pcells_size]; decide) (pcells_at4 _ _ _) (symVT hX hsz rfl (show 23 < 89 by decide) rfl (Below.refl _ _) rfl)
  · intro A W hsz hoth hbel hX hdep
    refine kCall1 40 _ _ _ rfl rfl (by kernel_rfl) (by have h := hdep ⟨1, .data⟩ (by simp) rfl; exact h) ?_
    refine (enum_as hm hP my1 Hv24.out W).mono ?_
    rintro e r ⟨xx, rfl, hNx, hBc⟩
    exact ⟨_, rfl, (symVT hX hsz rfl (show 24 < 89 by decide) rfl hBc hNx)⟩
  · intro A W hsz hoth hbel hX hdep
    exact kFieldPoint1 _ _ rfl rfl ((hoth 2 (free2_of (by kernel_rfl))).trans rfl) (symVT hX hsz rfl (show 25 < 89 by decide) rfl (Below.refl _ _) rfl)
  · intro A W hsz hoth hbel hX hdep
    exact kLoadAs _ _ _ _ _ 4 _ _ _ rfl rfl (by have h := hdep ⟨3, .data⟩ (by simp) rfl; exact h) ((hM4.get 2 rfl).on hbel) Tryd.underlying24 rfl info_Wide (by rw [pcells_size]; decide) (pcells_at4 _ _ _) (symVT hX hsz rfl (show 26 < 89 by decide) rfl (Below.refl _ _) rfl)
  · intro A W hsz hoth hbel hX hdep
    refine kCall1 40 _ _ _ rfl rfl (by kernel_rfl) (by have h := hdep ⟨4, .data⟩ (by simp) rfl; exact h) ?_
    refine (enum_as hm hP my1 Hv27.out W).mono ?_
    rintro e r ⟨xx, rfl, hNx, hBc⟩
    exact ⟨_, rfl, (symVT hX hsz rfl (show 27 < 89 by decide) rfl hBc hNx)⟩
  · intro A W hsz hoth hbel hX hdep
    have hN24 := (show NumT W (A.tmps.getD 24 undef) (v24) from (by have h := hdep ⟨2, .data⟩ (by simp) rfl; exact h))
    have hN27 := (show NumT W (A.tmps.getD 27 undef) (v27) from (by have h := hdep ⟨5, .data⟩ (by simp) rfl; exact h))
    refine kCall2 39 _ _ _ _ _ rfl rfl (by kernel_rfl) (rfl : A.eval (Operand.tmp 24) = A.tmps.getD 24 undef) (rfl : A.eval (Operand.tmp 27) = A.tmps.getD 27 undef) ?_
    refine (esub_as hm hP (hN24.n16 mv24) (hN27.n16 mv27) (by rw [← Hv27.out]; exact Nat.mod_lt _ hm.pos) Hv28.out).mono ?_
    rintro e r ⟨xx, rfl, hNx, hBc⟩
    exact ⟨_, rfl, (symVT hX hsz rfl (show 28 < 89 by decide) rfl hBc hNx)⟩
  · intro A W hsz hoth hbel hX hdep
    exact kFieldPoint0 _ _ rfl rfl ((hoth 3 (free2_of (by kernel_rfl))).trans rfl) (symVT hX hsz rfl (show 29 < 89 by decide) rfl (Below.refl _ _) rfl)
  · intro A W hsz hoth hbel hX hdep
    exact kLoadAs _ _ _ _ _ 4 _ _ _ rfl rfl (by have h := hdep ⟨7, .data⟩ (by simp) rfl; exact h) ((hM4.get 1 rfl).on hbel) Tryd.underlying24 rfl info_Wide (by rw [pcells_size]; decide) (pcells_at0 _ _ _) (symVT hX hsz rfl (show 30 < 89 by decide) rfl (Below.refl _ _) rfl)
  · intro A W hsz hoth hbel hX hdep
    refine kCall1 40 _ _ _ rfl rfl (by kernel_rfl) (by have h := hdep ⟨8, .data⟩ (by simp) rfl; exact h) ?_
    refine (enum_as hm hP mx1 Hv31.out W).mono ?_
    rintro e r ⟨xx, rfl, hNx, hBc⟩
    exact ⟨_, rfl, (symVT hX hsz rfl (show 31 < 89 by decide) rfl hBc hNx)⟩
  · intro A W hsz hoth hbel hX hdep
    exact kFieldPoint0 _ _ rfl rfl ((hoth 2 (free2_of (by kernel_rfl))).trans rfl) (symVT hX hsz rfl (show 32 < 89 by decide) rfl (Below.refl _ _) rfl)
  · intro A W hsz hoth hbel hX hdep
    exact kLoadAs _ _ _ _ _ 4 _ _ _ rfl rfl (by have h := hdep ⟨10, .data⟩ (by simp) rfl; exact h) ((hM4.get 2 rfl).on hbel) Tryd.underlying24 rfl info_Wide (by rw [pcells_size]; decide) (pcells_at0 _ _ _) (symVT hX hsz rfl (show 33 < 89 by decide) rfl (Below.refl _ _) rfl)
  · intro A W hsz hoth hbel hX hdep
    refine kCall1 40 _ _ _ rfl rfl (by kernel_rfl) (by have h := hdep ⟨11, .data⟩ (by simp) rfl; exact h) ?_
    refine (enum_as hm hP mx1 Hv34.out W).mono ?_
    rintro e r ⟨xx, rfl, hNx, hBc⟩
    exact ⟨_, rfl, (symVT hX hsz rfl (show 34 < 89 by decide) rfl hBc hNx)⟩
  · intro A W hsz hoth hbel hX hdep
    have hN31 := (show NumT W (A.tmps.getD 31 undef) (v31) from (by have h := hdep ⟨9, .data⟩ (by simp) rfl; exact h))
    have hN34 := (show NumT W (A.tmps.getD 34 undef) (v34) from (by have h := hdep ⟨12, .data⟩ (by simp) rfl; exact h))
    refine kCall2 39 _ _ _ _ _ rfl rfl (by kernel_rfl) (rfl : A.eval (Operand.tmp 31) = A.tmps.getD 31 undef) (rfl : A.eval (Operand.tmp 34) = A.tmps.getD 34 undef) ?_
    refine (esub_as hm hP (hN31.n16 mv31) (hN34.n16 mv34) (by rw [← Hv34.out]; exact Nat.mod_lt _ hm.pos) Hv35.out).mono ?_
    rintro e r ⟨xx, rfl, hNx, hBc⟩
    exact ⟨_, rfl, (symVT hX hsz rfl (show 35 < 89 by decide) rfl hBc hNx)⟩
  · intro A W hsz hoth hbel hX hdep
    have hN := (by have h := hdep ⟨6, .data⟩ (by simp) rfl; exact h)
    exact kAssignV _ (A.tmps.getD 28 undef) rfl rfl rfl (symVT hX hsz rfl (show 5 < 89 by decide) rfl (Below.refl _ _) hN)
  · intro A W hsz hoth hbel hX hdep
    have hN := (by have h := hdep ⟨13, .data⟩ (by simp) rfl; exact h)
    exact kAssignV _ (A.tmps.getD 35 undef) rfl rfl rfl (symVT hX hsz rfl (show 6 < 89 by decide) rfl (Below.refl _ _) hN)
  intro w5 hB5
  dsimp only [AllV]
  intro x5_24 hN5_24
  intro x5_27 hN5_27
  intro x5_28 hN5_28
  intro x5_31 hN5_31
  intro x5_34 hN5_34
  intro x5_35 hN5_35
  intro x5_5 hN5_5
  intro x5_6 hN5_6
  intro hap
  dsimp only [putAll, List.take, List.drop]
  go_frame
  have hM5 := hM4.on hB5
  clear hB5 hM4 hap
  have hM6 := mm_nil w5
  go_wp2_with (first
    | ((with_reducible change wpList _ _ _ (Oper.mk (some 36) _ _ _ _ _ :: _) _ _); refine kLoadRow _ _ _ _ _ _ rfl rfl rfl ((hM5.get 2 rfl).on hM6.below) Tryd.underlying30 rfl (info_PointC _ _ _) ?_; go_frame)
    | ((with_reducible change wpList _ _ _ (Oper.mk (some 37) _ _ _ _ _ :: _) _ _); refine kLoadRow _ _ _ _ _ _ rfl rfl rfl ((hM5.get 1 rfl).on hM6.below) Tryd.underlying30 rfl (info_PointC _ _ _) ?_; go_frame)
    | ((with_reducible change wpList _ _ _ (Oper.mk (some 38) _ _ _ _ _ :: _) _ _); refine kEqlP _ _ _ x1 y1 false x1 y1 false true rfl rfl rfl rfl (eqP_yes ⟨rfl, rfl, rfl⟩) ?_; go_frame))
  refine region_symT 8 _ [] [] [.val (.pointer (some ⟨w.heap.size, 0, none⟩)), .val (.agg (wcells x1)), .prop (fun w v => NumT w v (v41)) (fun _ _ _ hb h => h.below hb), .val (.pointer (some ⟨w.heap.size, 0, none⟩)), .val (.agg (wcells x1)), .prop (fun w v => NumT w v (v44)) (fun _ _ _ hb h => h.below hb), .prop (fun w v => NumT w v (v45)) (fun _ _ _ hb h => h.below hb), .prop (fun w v => NumT w v (v45)) (fun _ _ _ hb h => h.below hb)] rfl (by kernel_rfl) (by kernel_rfl) (by kernel_rfl) (by kernel_rfl) rfl (by intro s hs; cases hs) (steps_all ⟨?_, ?_, ?_, ?_, ?_, ?_, ?_, ?_, trivial⟩) ?_
  · intro A W hsz hoth hbel hX hdep
    exact kFieldPoint0 _ _ rfl rfl ((hoth 2 (free2_of (by kernel_rfl))).trans rfl) (symVT hX hsz rfl (show 39 < 89 by decide) rfl (Below.refl _ _) rfl)
  · intro A W hsz hoth hbel hX hdep
    exact kLoadAs _ _ _ _ _ 4 _ _ _ rfl rfl (by have h := hdep ⟨0, .data⟩ (by simp) rfl; exact h) (((hM5.get 2 rfl).on hM6.below).on hbel) Tryd.underlying24 rfl info_Wide (by rw [pcells_size]; decide) (pcells_at0 _ _ _) (symVT hX hsz rfl (show 40 < 89 by decide) rfl (Below.refl _ _) rfl)
  · intro A W hsz hoth hbel hX hdep
    refine kCall1 40 _ _ _ rfl rfl (by kernel_rfl) (by have h := hdep ⟨1, .data⟩ (by simp) rfl; exact h) ?_
    refine (enum_as hm hP mx1 Hv41.out W).mono ?_
    rintro e r ⟨xx, rfl, hNx, hBc⟩
    exact ⟨_, rfl, (symVT hX hsz rfl (show 41 < 89 by decide) rfl hBc hNx)⟩
  · intro A W hsz hoth hbel hX hdep
    exact kFieldPoint0 _ _ rfl rfl ((hoth 2 (free2_of (by kernel_rfl))).trans rfl) (symVT hX hsz rfl (show 42 < 89 by decide) rfl (Below.refl _ _) rfl)
  · intro A W hsz hoth hbel hX hdep
    exact kLoadAs _ _ _ _ _ 4 _ _ _ rfl rfl (by have h := hdep ⟨3, .data⟩ (by simp) rfl; exact h) (((hM5.get 2 rfl).on hM6.below).on hbel) Tryd.underlying24 rfl info_Wide (by rw [pcells_size]; decide) (pcells_at0 _ _ _) (symVT hX hsz rfl (show 43 < 89 by decide) rfl (Below.refl _ _) rfl)
  · intro A W hsz hoth hbel hX hdep
    refine kCall1 40 _ _ _ rfl rfl (by kernel_rfl) (by have h := hdep ⟨4, .data⟩ (by simp) rfl; exact h) ?_
    refine (enum_as hm hP mx1 Hv44.out W).mono ?_
    rintro e r ⟨xx, rfl, hNx, hBc⟩
    exact ⟨_, rfl, (symVT hX hsz rfl (show 44 < 89 by decide) rfl hBc hNx)⟩
  · intro A W hsz hoth hbel hX hdep
    have hN41 := (show NumT W (A.tmps.getD 41 undef) (v41) from (by have h := hdep ⟨2, .data⟩ (by simp) rfl; exact h))
    have hN44 := (show NumT W (A.tmps.getD 44 undef) (v44) from (by have h := hdep ⟨5, .data⟩ (by simp) rfl; exact h))
    refine kCall2 41 _ _ _ _ _ rfl rfl (by kernel_rfl) (rfl : A.eval (Operand.tmp 41) = A.tmps.getD 41 undef) (rfl : A.eval (Operand.tmp 44) = A.tmps.getD 44 undef) ?_
    refine (emul_as hm hP (hN41.n16 mv41) (hN44.n16 mv44) Hv45.out).mono ?_
    rintro e r ⟨xx, rfl, hNx, hBc⟩
    exact ⟨_, rfl, (symVT hX hsz rfl (show 45 < 89 by decide) rfl hBc hNx)⟩
  · intro A W hsz hoth hbel hX hdep
    have hN := (by have h := hdep ⟨6, .data⟩ (by simp) rfl; exact h)
    exact kAssignV _ (A.tmps.getD 45 undef) rfl rfl rfl (symVT hX hsz rfl (show 7 < 89 by decide) rfl (Below.refl _ _) hN)
  intro w7 hB7
  dsimp only [AllV]
  intro x7_41 hN7_41
  intro x7_44 hN7_44
  intro x7_45 hN7_45
  intro x7_7 hN7_7
  intro hap
  dsimp only [putAll, List.take, List.drop]
  go_frame
  have hM7 := hM6.on hB7
  clear hB7 hM6 hap
  have hM8 := mm_nil w7
  go_wp2_with (first
    | (go_at_call 42; (with_reducible change Calls _ _ #[x7_7, x7_7] _ _); refine (eadd_as hm hP ((hN7_7.below hM8.below).n16 mv45) ((hN7_7.below hM8.below).n16 mv45) Hv48.out).mono ?_; rintro e w9 ⟨x9, rfl, hN9, hB9⟩; have hM9 := hM8.on hB9; clear hB9 hM8; have hM10 := mm_nil w9; go_frame)
    | (go_at_call 42; (with_reducible change Calls _ _ #[x9, x7_7] _ _); refine (eadd_as hm hP ((hN9.below hM10.below).n16 mv48) (((hN7_7.below hM9.below).below hM10.below).n16 mv45) Hv50.out).mono ?_; rintro e w11 ⟨x11, rfl, hN11, hB11⟩; have hM11 := hM10.on hB11; clear hB11 hM10; have hM12 := mm_nil w11; go_frame))
  refine region_symT 8 _ [] [] [.val (.pointer (some ⟨w.heap.size, 4, none⟩)), .val (.agg (wcells y1)), .prop (fun w v => NumT w v (v53)) (fun _ _ _ hb h => h.below hb), .val (.pointer (some ⟨w.heap.size, 4, none⟩)), .val (.agg (wcells y1)), .prop (fun w v => NumT w v (v56)) (fun _ _ _ hb h => h.below hb), .prop (fun w v => NumT w v (v57)) (fun _ _ _ hb h => h.below hb), .prop (fun w v => NumT w v (v57)) (fun _ _ _ hb h => h.below hb)] rfl (by kernel_rfl) (by kernel_rfl) (by kernel_rfl) (by kernel_rfl) rfl (by intro s hs; cases hs) (steps_all ⟨?_, ?_, ?_, ?_, ?_, ?_, ?_, ?_, trivial⟩) ?_
  · intro A W hsz hoth hbel hX hdep
    exact kFieldPoint1 _ _ rfl rfl ((hoth 2 (free2_of (by kernel_rfl))).trans rfl) (symVT hX hsz rfl (show 51 < 89 by decide) rfl (Below.refl _ _) rfl)
  · intro A W hsz hoth hbel hX hdep
    exact kLoadAs _ _ _ _ _ 4 _ _ _ rfl rfl (by have h := hdep ⟨0, .data⟩ (by simp) rfl; exact h) ((((((hM5.get 2 rfl).on hM7.below).on hM9.below).on hM11.below).on hM12.below).on hbel) Tryd.underlying24 rfl info_Wide (by rw [pcells_size]; decide) (pcells_at4 _ _ _) (symVT hX hsz rfl (show 52 < 89 by decide) rfl (Below.refl _ _) rfl)
  · intro A W hsz hoth hbel hX hdep
    refine kCall1 40 _ _ _ rfl rfl (by kernel_rfl) (by have h := hdep ⟨1, .data⟩ (by simp) rfl; exact h) ?_
    refine (enum_as hm hP my1 Hv53.out W).mono ?_
    rintro e r ⟨xx, rfl, hNx, hBc⟩
    exact ⟨_, rfl, (symVT hX hsz rfl (show 53 < 89 by decide) rfl hBc hNx)⟩
  · intro A W hsz hoth hbel hX hdep
    exact kFieldPoint1 _ _ rfl rfl ((hoth 2 (free2_of (by kernel_rfl))).trans rfl) (symVT hX hsz rfl (show 54 < 89 by decide) rfl (Below.refl _ _) rfl)
  · intro A W hsz hoth hbel hX hdep
    exact kLoadAs _ _ _ _ _ 4 _ _ _ rfl rfl (by have h := hdep ⟨3, .data⟩ (by simp) rfl; exact h) ((((((hM5.get 2 rfl).on hM7.below).on hM9.below).on hM11.below).on hM12.below).on hbel) Tryd.underlying24 rfl info_Wide (by rw [pcells_size]; decide) (pcells_at4 _ _ _) (symVT hX hsz rfl (show 55 < 89 by decide) rfl (Below.refl _ _) rfl)
  · intro A W hsz hoth hbel hX hdep
    refine kCall1 40 _ _ _ rfl rfl (by kernel_rfl) (by have h := hdep ⟨4, .data⟩ (by simp) rfl; exact h) ?_
    refine (enum_as hm hP my1 Hv56.out W).mono ?_
    rintro e r ⟨xx, rfl, hNx, hBc⟩
    exact ⟨_, rfl, (symVT hX hsz rfl (show 56 < 89 by decide) rfl hBc hNx)⟩
  · intro A W hsz hoth hbel hX hdep
    have hN53 := (show NumT W (A.tmps.getD 53 undef) (v53) from (by have h := hdep ⟨2, .data⟩ (by simp) rfl; exact h))
    have hN56 := (show NumT W (A.tmps.getD 56 undef) (v56) from (by have h := hdep ⟨5, .data⟩ (by simp) rfl; exact h))
    refine kCall2 42 _ _ _ _ _ rfl rfl (by kernel_rfl) (rfl : A.eval (Operand.tmp 53) = A.tmps.getD 53 undef) (rfl : A.eval (Operand.tmp 56) = A.tmps.getD 56 undef) ?_
    refine (eadd_as hm hP (hN53.n16 mv53) (hN56.n16 mv56) Hv57.out).mono ?_
    rintro e r ⟨xx, rfl, hNx, hBc⟩
    exact ⟨_, rfl, (symVT hX hsz rfl (show 57 < 89 by decide) rfl hBc hNx)⟩
  · intro A W hsz hoth hbel hX hdep
    have hN := (by have h := hdep ⟨6, .data⟩ (by simp) rfl; exact h)
    exact kAssignV _ (A.tmps.getD 57 undef) rfl rfl rfl (symVT hX hsz rfl (show 6 < 89 by decide) rfl (Below.refl _ _) hN)
  intro w13 hB13
  dsimp only [AllV]
  intro x13_53 hN13_53
  intro x13_56 hN13_56
  intro x13_57 hN13_57
  intro x13_6 hN13_6
  intro hap
  dsimp only [putAll, List.take, List.drop]
  go_frame
  have hM13 := hM12.on hB13
  clear hB13 hM12 hap
  have hM14 := mm_nil w13
  go_wp2_with (first
    | (go_at_call 43; (with_reducible change Calls _ _ #[x13_6, Value.bool true] _ _); refine (rInv_as hm hP ((hN13_6.below hM14.below).n16 mv57) Hv60.out).mono ?_; rintro e w15 ⟨x15, rfl, hN15, hB15⟩; have hM15 := hM14.on hB15; clear hB15 hM14; have hM16 := mm_nil w15; go_frame)
    | (go_at_call 41; (with_reducible change Calls _ _ #[x11, x15] _ _); refine (emul_as hm hP ((((hN11.below hM13.below).below hM15.below).below hM16.below).n16 mv50) ((hN15.below hM16.below).n16 mv60) Hv61.out).mono ?_; rintro e w17 ⟨x17, rfl, hN17, hB17⟩; have hM17 := hM16.on hB17; clear hB17 hM16; have hM18 := mm_nil w17; go_frame))
  refine region_symT 12 _ [] [] [.val (x17), .val (x17), .prop (fun w v => NumT w v (v64)) (fun _ _ _ hb h => h.below hb), .val (.pointer (some ⟨w.heap.size, 0, none⟩)), .val (.agg (wcells x1)), .prop (fun w v => NumT w v (v67)) (fun _ _ _ hb h => h.below hb), .prop (fun w v => NumT w v (v68)) (fun _ _ _ hb h => h.below hb), .val (.pointer (some ⟨w1.heap.size, 0, none⟩)), .val (.agg (wcells x1)), .prop (fun w v => NumT w v (v71)) (fun _ _ _ hb h => h.below hb), .prop (fun w v => NumT w v (v72)) (fun _ _ _ hb h => h.below hb), .prop (fun w v => NumT w v (v72)) (fun _ _ _ hb h => h.below hb)] rfl (by kernel_rfl) (by kernel_rfl) (by kernel_rfl) (by kernel_rfl) rfl (by intro s hs; cases hs) (steps_all ⟨?_, ?_, ?_, ?_, ?_, ?_, ?_, ?_, ?_, ?_, ?_, ?_, trivial⟩) ?_
  · intro A W hsz hoth hbel hX hdep
    exact kMoveV _ (x17) rfl rfl ((hoth 8 (free2_of (by kernel_rfl))).trans rfl) (symVT hX hsz rfl (show 62 < 89 by decide) rfl (Below.refl _ _) rfl)
  · intro A W hsz hoth hbel hX hdep
    exact kMoveV _ (x17) rfl rfl ((hoth 8 (free2_of (by kernel_rfl))).trans rfl) (symVT hX hsz rfl (show 63 < 89 by decide) rfl (Below.refl _ _) rfl)
  · intro A W hsz hoth hbel hX hdep
    refine kCall2 41 _ _ _ _ _ rfl rfl (by kernel_rfl) (by have h := hdep ⟨0, .data⟩ (by simp) rfl; exact h) (by have h := hdep ⟨1, .data⟩ (by simp) rfl; exact h) ?_
    refine (emul_as hm hP (((hN17.below hM18.below).below hbel).n16 mv61) (((hN17.below hM18.below).below hbel).n16 mv61) Hv64.out).mono ?_
    rintro e r ⟨xx, rfl, hNx, hBc⟩
    exact ⟨_, rfl, (symVT hX hsz rfl (show 64 < 89 by decide) rfl hBc hNx)⟩
  · intro A W hsz hoth hbel hX hdep
    exact kFieldPoint0 _ _ rfl rfl ((hoth 2 (free2_of (by kernel_rfl))).trans rfl) (symVT hX hsz rfl (show 65 < 89 by decide) rfl (Below.refl _ _) rfl)
  · intro A W hsz hoth hbel hX hdep
    exact kLoadAs _ _ _ _ _ 4 _ _ _ rfl rfl (by have h := hdep ⟨3, .data⟩ (by simp) rfl; exact h) (((((((((hM5.get 2 rfl).on hM7.below).on hM9.below).on hM11.below).on hM13.below).on hM15.below).on hM17.below).on hM18.below).on hbel) Tryd.underlying24 rfl info_Wide (by rw [pcells_size]; decide) (pcells_at0 _ _ _) (symVT hX hsz rfl (show 66 < 89 by decide) rfl (Below.refl _ _) rfl)
  · intro A W hsz hoth hbel hX hdep
    refine kCall1 40 _ _ _ rfl rfl (by kernel_rfl) (by have h := hdep ⟨4, .data⟩ (by simp) rfl; exact h) ?_
    refine (enum_as hm hP mx1 Hv67.out W).mono ?_
    rintro e r ⟨xx, rfl, hNx, hBc⟩
    exact ⟨_, rfl, (symVT hX hsz rfl (show 67 < 89 by decide) rfl hBc hNx)⟩
  · intro A W hsz hoth hbel hX hdep
    have hN64 := (show NumT W (A.tmps.getD 64 undef) (v64) from (by have h := hdep ⟨2, .data⟩ (by simp) rfl; exact h))
    have hN67 := (show NumT W (A.tmps.getD 67 undef) (v67) from (by have h := hdep ⟨5, .data⟩ (by simp) rfl; exact h))
    refine kCall2 39 _ _ _ _ _ rfl rfl (by kernel_rfl) (rfl : A.eval (Operand.tmp 64) = A.tmps.getD 64 undef) (rfl : A.eval (Operand.tmp 67) = A.tmps.getD 67 undef) ?_
    refine (esub_as hm hP (hN64.n16 mv64) (hN67.n16 mv67) (by rw [← Hv67.out]; exact Nat.mod_lt _ hm.pos) Hv68.out).mono ?_
    rintro e r ⟨xx, rfl, hNx, hBc⟩
    exact ⟨_, rfl, (symVT hX hsz rfl (show 68 < 89 by decide) rfl hBc hNx)⟩
  · intro A W hsz hoth hbel hX hdep
    exact kFieldPoint0 _ _ rfl rfl ((hoth 3 (free2_of (by kernel_rfl))).trans rfl) (symVT hX hsz rfl (show 69 < 89 by decide) rfl (Below.refl _ _) rfl)
  · intro A W hsz hoth hbel hX hdep
    exact kLoadAs _ _ _ _ _ 4 _ _ _ rfl rfl (by have h := hdep ⟨7, .data⟩ (by simp) rfl; exact h) (((((((((hM5.get 1 rfl).on hM7.below).on hM9.below).on hM11.below).on hM13.below).on hM15.below).on hM17.below).on hM18.below).on hbel) Tryd.underlying24 rfl info_Wide (by rw [pcells_size]; decide) (pcells_at0 _ _ _) (symVT hX hsz rfl (show 70 < 89 by decide) rfl (Below.refl _ _) rfl)
  · intro A W hsz hoth hbel hX hdep
    refine kCall1 40 _ _ _ rfl rfl (by kernel_rfl) (by have h := hdep ⟨8, .data⟩ (by simp) rfl; exact h) ?_
    refine (enum_as hm hP mx1 Hv71.out W).mono ?_
    rintro e r ⟨xx, rfl, hNx, hBc⟩
    exact ⟨_, rfl, (symVT hX hsz rfl (show 71 < 89 by decide) rfl hBc hNx)⟩
  · intro A W hsz hoth hbel hX hdep
    have hN68 := (show NumT W (A.tmps.getD 68 undef) (v68) from (by have h := hdep ⟨6, .data⟩ (by simp) rfl; exact h))
    have hN71 := (show NumT W (A.tmps.getD 71 undef) (v71) from (by have h := hdep ⟨9, .data⟩ (by simp) rfl; exact h))
    refine kCall2 39 _ _ _ _ _ rfl rfl (by kernel_rfl) (rfl : A.eval (Operand.tmp 68) = A.tmps.getD 68 undef) (rfl : A.eval (Operand.tmp 71) = A.tmps.getD 71 undef) ?_
    refine (esub_as hm hP (hN68.n16 mv68) (hN71.n16 mv71) (by rw [← Hv71.out]; exact Nat.mod_lt _ hm.pos) Hv72.out).mono ?_
    rintro e r ⟨xx, rfl, hNx, hBc⟩
    exact ⟨_, rfl, (symVT hX hsz rfl (show 72 < 89 by decide) rfl hBc hNx)⟩
  · intro A W hsz hoth hbel hX hdep
    have hN := (by have h := hdep ⟨10, .data⟩ (by simp) rfl; exact h)
    exact kAssignV _ (A.tmps.getD 72 undef) rfl rfl rfl (symVT hX hsz rfl (show 9 < 89 by decide) rfl (Below.refl _ _) hN)
  intro w19 hB19
  dsimp only [AllV]
  intro x19_64 hN19_64
  intro x19_67 hN19_67
  intro x19_68 hN19_68
  intro x19_71 hN19_71
  intro x19_72 hN19_72
  intro x19_9 hN19_9
  intro hap
  dsimp only [putAll, List.take, List.drop]
  go_frame
  have hM19 := hM18.on hB19
  clear hB19 hM18 hap
  have hM20 := mm_nil w19
  go_wp2_with fail
  refine region_symT 12 _ [] [] [.val (x17), .val (.pointer (some ⟨w.heap.size, 0, none⟩)), .val (.agg (wcells x1)), .prop (fun w v => NumT w v (v76)) (fun _ _ _ hb h => h.below hb), .val (x19_9), .prop (fun w v => NumT w v (v78)) (fun _ _ _ hb h => h.below hb), .prop (fun w v => NumT w v (v79)) (fun _ _ _ hb h => h.below hb), .val (.pointer (some ⟨w.heap.size, 4, none⟩)), .val (.agg (wcells y1)), .prop (fun w v => NumT w v (v82)) (fun _ _ _ hb h => h.below hb), .prop (fun w v => NumT w v (v83)) (fun _ _ _ hb h => h.below hb), .prop (fun w v => NumT w v (v83)) (fun _ _ _ hb h => h.below hb)] rfl (by kernel_rfl) (by kernel_rfl) (by kernel_rfl) (by kernel_rfl) rfl (by intro s hs; cases hs) (steps_all ⟨?_, ?_, ?_, ?_, ?_, ?_, ?_, ?_, ?_, ?_, ?_, ?_, trivial⟩) ?_
  · intro A W hsz hoth hbel hX hdep
    exact kMoveV _ (x17) rfl rfl ((hoth 8 (free2_of (by kernel_rfl))).trans rfl) (symVT hX hsz rfl (show 73 < 89 by decide) rfl (Below.refl _ _) rfl)
  · intro A W hsz hoth hbel hX hdep
    exact kFieldPoint0 _ _ rfl rfl ((hoth 2 (free2_of (by kernel_rfl))).trans rfl) (symVT hX hsz rfl (show 74 < 89 by decide) rfl (Below.refl _ _) rfl)
  · intro A W hsz hoth hbel hX hdep
    exact kLoadAs _ _ _ _ _ 4 _ _ _ rfl rfl (by have h := hdep ⟨1, .data⟩ (by simp) rfl; exact h) ((((((((((hM5.get 2 rfl).on hM7.below).on hM9.below).on hM11.below).on hM13.below).on hM15.below).on hM17.below).on hM19.below).on hM20.below).on hbel) Tryd.underlying24 rfl info_Wide (by rw [pcells_size]; decide) (pcells_at0 _ _ _) (symVT hX hsz rfl (show 75 < 89 by decide) rfl (Below.refl _ _) rfl)
  · intro A W hsz hoth hbel hX hdep
    refine kCall1 40 _ _ _ rfl rfl (by kernel_rfl) (by have h := hdep ⟨2, .data⟩ (by simp) rfl; exact h) ?_
    refine (enum_as hm hP mx1 Hv76.out W).mono ?_
    rintro e r ⟨xx, rfl, hNx, hBc⟩
    exact ⟨_, rfl, (symVT hX hsz rfl (show 76 < 89 by decide) rfl hBc hNx)⟩
  · intro A W hsz hoth hbel hX hdep
    exact kMoveV _ (x19_9) rfl rfl ((hoth 9 (free2_of (by kernel_rfl))).trans rfl) (symVT hX hsz rfl (show 77 < 89 by decide) rfl (Below.refl _ _) rfl)
  · intro A W hsz hoth hbel hX hdep
    have hN76 := (show NumT W (A.tmps.getD 76 undef) (v76) from (by have h := hdep ⟨3, .data⟩ (by simp) rfl; exact h))
    refine kCall2 39 _ _ _ _ _ rfl rfl (by kernel_rfl) (rfl : A.eval (Operand.tmp 76) = A.tmps.getD 76 undef) (by have h := hdep ⟨4, .data⟩ (by simp) rfl; exact h) ?_
    refine (esub_as hm hP (hN76.n16 mv76) (((hN19_9.below hM20.below).below hbel).n16 mv72) (by rw [← Hv72.out]; exact Nat.mod_lt _ hm.pos) Hv78.out).mono ?_
    rintro e r ⟨xx, rfl, hNx, hBc⟩
    exact ⟨_, rfl, (symVT hX hsz rfl (show 78 < 89 by decide) rfl hBc hNx)⟩
  · intro A W hsz hoth hbel hX hdep
    have hN78 := (show NumT W (A.tmps.getD 78 undef) (v78) from (by have h := hdep ⟨5, .data⟩ (by simp) rfl; exact h))
    refine kCall2 41 _ _ _ _ _ rfl rfl (by kernel_rfl) (by have h := hdep ⟨0, .data⟩ (by simp) rfl; exact h) (rfl : A.eval (Operand.tmp 78) = A.tmps.getD 78 undef) ?_
    refine (emul_as hm hP ((((hN17.below hM19.below).below hM20.below).below hbel).n16 mv61) (hN78.n16 mv78) Hv79.out).mono ?_
    rintro e r ⟨xx, rfl, hNx, hBc⟩
    exact ⟨_, rfl, (symVT hX hsz rfl (show 79 < 89 by decide) rfl hBc hNx)⟩
  · intro A W hsz hoth hbel hX hdep
    exact kFieldPoint1 _ _ rfl rfl ((hoth 2 (free2_of (by kernel_rfl))).trans rfl) (symVT hX hsz rfl (show 80 < 89 by decide) rfl (Below.refl _ _) rfl)
  · intro A W hsz hoth hbel hX hdep
    exact kLoadAs _ _ _ _ _ 4 _ _ _ rfl rfl (by have h := hdep ⟨7, .data⟩ (by simp) rfl; exact h) ((((((((((hM5.get 2 rfl).on hM7.below).on hM9.below).on hM11.below).on hM13.below).on hM15.below).on hM17.below).on hM19.below).on hM20.below).on hbel) Tryd.underlying24 rfl info_Wide (by rw [pcells_size]; decide) (pcells_at4 _ _ _) (symVT hX hsz rfl (show 81 < 89 by decide) rfl (Below.refl _ _) rfl)
  · intro A W hsz hoth hbel hX hdep
    refine kCall1 40 _ _ _ rfl rfl (by kernel_rfl) (by have h := hdep ⟨8, .data⟩ (by simp) rfl; exact h) ?_
    refine (enum_as hm hP my1 Hv82.out W).mono ?_
    rintro e r ⟨xx, rfl, hNx, hBc⟩
    exact ⟨_, rfl, (symVT hX hsz rfl (show 82 < 89 by decide) rfl hBc hNx)⟩
  · intro A W hsz hoth hbel hX hdep
    have hN79 := (show NumT W (A.tmps.getD 79 undef) (v79) from (by have h := hdep ⟨6, .data⟩ (by simp) rfl; exact h))
    have hN82 := (show NumT W (A.tmps.getD 82 undef) (v82) from (by have h := hdep ⟨9, .data⟩ (by simp) rfl; exact h))
    refine kCall2 39 _ _ _ _ _ rfl rfl (by kernel_rfl) (rfl : A.eval (Operand.tmp 79) = A.tmps.getD 79 undef) (rfl : A.eval (Operand.tmp 82) = A.tmps.getD 82 undef) ?_
    refine (esub_as hm hP (hN79.n16 mv79) (hN82.n16 mv82) (by rw [← Hv82.out]; exact Nat.mod_lt _ hm.pos) Hv83.out).mono ?_
    rintro e r ⟨xx, rfl, hNx, hBc⟩
    exact ⟨_, rfl, (symVT hX hsz rfl (show 83 < 89 by decide) rfl hBc hNx)⟩
  · intro A W hsz hoth hbel hX hdep
    have hN := (by have h := hdep ⟨10, .data⟩ (by simp) rfl; exact h)
    exact kAssignV _ (A.tmps.getD 83 undef) rfl rfl rfl (symVT hX hsz rfl (show 10 < 89 by decide) rfl (Below.refl _ _) hN)
  intro w21 hB21
  dsimp only [AllV]
  intro x21_76 hN21_76
  intro x21_78 hN21_78
  intro x21_79 hN21_79
  intro x21_82 hN21_82
  intro x21_83 hN21_83
  intro x21_10 hN21_10
  intro hap
  dsimp only [putAll, List.take, List.drop]
  go_frame
  have hM21 := hM20.on hB21
  clear hB21 hM20 hap
  have hM22 := mm_nil w21
  go_wp2_with (first
    | (go_at_call 10; (with_reducible change Calls _ _ #[x19_9] _ _); refine (dWide_numT ((hN19_9.below hM21.below).below hM22.below)).mono ?_; rintro e w23 ⟨rfl, hB23⟩; have hM23 := hM22.on hB23; clear hB23 hM22; (try unfold WV); go_frame)
    | (go_at_call 10; (with_reducible change Calls _ _ #[x21_10] _ _); refine (dWide_numT (hN21_10.below hM23.below)).mono ?_; rintro e w24 ⟨rfl, hB24⟩; have hM24 := hM23.on hB24; clear hB24 hM23; (try unfold WV); go_frame)
    | ((with_reducible change wpList _ _ _ (Oper.mk (some 88) _ _ _ _ _ :: _) _ _); refine kBuildPoint2 _ _ v72 v83 rfl rfl rfl rfl ?_; go_frame)
    | ((with_reducible change wpList _ _ _ (Oper.mk none (Op.store _ (Operand.tmp 4) (Operand.tmp 88)) _ _ _ _ :: _) _ _); have hJ := (Mm.join (Mm.join (Mm.join (Mm.join (Mm.join (Mm.join (Mm.join (Mm.join (Mm.join hM5 hM7) hM9) hM11) hM13) hM15) hM17) hM19) hM21) hM24); dsimp only [List.append, List.cons_append, List.nil_append] at hJ; refine mmStoreAt hJ 0 _ _ _ _ _ _ (pcells v72 v83 false) rfl rfl rfl rfl rfl (info_PointC _ _ _) (by simp only [pcells_size]) (pcells_one _ _ _) ?_; intro w25 hM25; dsimp only [List.set] at hM25; clear hJ; go_frame))
  exact result_row Tryd.results21 rfl (hM25.get 0 rfl) Tryd.underlying30 rfl (info_PointC _ _ _) rfl ⟨by rw [R.out] <;> rfl, hM25.below⟩
set_option maxRecDepth 100000 in
set_option maxHeartbeats 8000000 in
theorem eadd_other {x1 y1 x2 y2 : Nat} (lx1 : x1 < PP) (ly1 : y1 < PP) (lx2 : x2 < PP) (ly2 : y2 < PP) (hx : FP x2 - FP x1 ≠ 0) (w : World) :
    Calls Tryd.prog 21 #[.agg (pcells x1 y1 false), .agg (pcells x2 y2 false)] w fun e w' => e = .returned (.agg (ptc (Pt.rise ((FP y2 - FP y1) * ivP (FP x2 - FP x1)) (FP x1) (FP y1) (FP x2)))) ∧ Below w.heap.size w w' := by
  obtain ⟨m, Hm⟩ : ∃ m, Hid (m = PP) := ⟨_, Lib.hid rfl⟩
  have hm : Modu m := by rw [Hm.out]; exact modu_P
  have hP : PrimeIs true m := by rw [Hm.out]; exact rPrime_true
  have mx1 := lt_M lx1
  have my1 := lt_M ly1
  have mx2 := lt_M lx2
  have my2 := lt_M ly2
  obtain ⟨v19, Hv19⟩ : ∃ n, Hid ((0 - FP y1 : Fin PP).val = n) := ⟨_, Lib.hid rfl⟩
  have mv19 : v19 < M256 := by rw [← Hv19.out]; exact val_lt _
  obtain ⟨v24, Hv24⟩ : ∃ n, Hid (y2 % m = n) := ⟨_, Lib.hid rfl⟩
  have mv24 : v24 < M256 := by rw [← Hv24.out]; exact hm.mod _
  obtain ⟨v27, Hv27⟩ : ∃ n, Hid (y1 % m = n) := ⟨_, Lib.hid rfl⟩
  have mv27 : v27 < M256 := by rw [← Hv27.out]; exact hm.mod _
  obtain ⟨v28, Hv28⟩ : ∃ n, Hid ((v24 + m - v27) % m = n) := ⟨_, Lib.hid rfl⟩
  have mv28 : v28 < M256 := by rw [← Hv28.out]; exact hm.mod _
  obtain ⟨v31, Hv31⟩ : ∃ n, Hid (x2 % m = n) := ⟨_, Lib.hid rfl⟩
  have mv31 : v31 < M256 := by rw [← Hv31.out]; exact hm.mod _
  obtain ⟨v34, Hv34⟩ : ∃ n, Hid (x1 % m = n) := ⟨_, Lib.hid rfl⟩
  have mv34 : v34 < M256 := by rw [← Hv34.out]; exact hm.mod _
  obtain ⟨v35, Hv35⟩ : ∃ n, Hid ((v31 + m - v34) % m = n) := ⟨_, Lib.hid rfl⟩
  have mv35 : v35 < M256 := by rw [← Hv35.out]; exact hm.mod _
  obtain ⟨v60, Hv60⟩ : ∃ n, Hid (v35 ^ (m - 2) % m = n) := ⟨_, Lib.hid rfl⟩
  have mv60 : v60 < M256 := by rw [← Hv60.out]; exact hm.mod _
  obtain ⟨v61, Hv61⟩ : ∃ n, Hid (v28 * v60 % m = n) := ⟨_, Lib.hid rfl⟩
  have mv61 : v61 < M256 := by rw [← Hv61.out]; exact hm.mod _
  obtain ⟨v64, Hv64⟩ : ∃ n, Hid (v61 * v61 % m = n) := ⟨_, Lib.hid rfl⟩
  have mv64 : v64 < M256 := by rw [← Hv64.out]; exact hm.mod _
  obtain ⟨v67, Hv67⟩ : ∃ n, Hid (x1 % m = n) := ⟨_, Lib.hid rfl⟩
  have mv67 : v67 < M256 := by rw [← Hv67.out]; exact hm.mod _
  obtain ⟨v68, Hv68⟩ : ∃ n, Hid ((v64 + m - v67) % m = n) := ⟨_, Lib.hid rfl⟩
  have mv68 : v68 < M256 := by rw [← Hv68.out]; exact hm.mod _
  obtain ⟨v71, Hv71⟩ : ∃ n, Hid (x2 % m = n) := ⟨_, Lib.hid rfl⟩
  have mv71 : v71 < M256 := by rw [← Hv71.out]; exact hm.mod _
  obtain ⟨v72, Hv72⟩ : ∃ n, Hid ((v68 + m - v71) % m = n) := ⟨_, Lib.hid rfl⟩
  have mv72 : v72 < M256 := by rw [← Hv72.out]; exact hm.mod _
  obtain ⟨v76, Hv76⟩ : ∃ n, Hid (x1 % m = n) := ⟨_, Lib.hid rfl⟩
  have mv76 : v76 < M256 := by rw [← Hv76.out]; exact hm.mod _
  obtain ⟨v78, Hv78⟩ : ∃ n, Hid ((v76 + m - v72) % m = n) := ⟨_, Lib.hid rfl⟩
  have mv78 : v78 < M256 := by rw [← Hv78.out]; exact hm.mod _
  obtain ⟨v79, Hv79⟩ : ∃ n, Hid (v61 * v78 % m = n) := ⟨_, Lib.hid rfl⟩
  have mv79 : v79 < M256 := by rw [← Hv79.out]; exact hm.mod _
  obtain ⟨v82, Hv82⟩ : ∃ n, Hid (y1 % m = n) := ⟨_, Lib.hid rfl⟩
  have mv82 : v82 < M256 := by rw [← Hv82.out]; exact hm.mod _
  obtain ⟨v83, Hv83⟩ : ∃ n, Hid ((v79 + m - v82) % m = n) := ⟨_, Lib.hid rfl⟩
  have mv83 : v83 < M256 := by rw [← Hv83.out]; exact hm.mod _
  have Ev60 := FPm_inv Hm.out Hv60.out
  have Lv60 := FPm_lt Hm.out Hv60.out
  have Ev61 := FPm_mul Hm.out Hv61.out
  have Lv61 := FPm_lt Hm.out Hv61.out
  have Ev64 := FPm_mul Hm.out Hv64.out
  have Lv64 := FPm_lt Hm.out Hv64.out
  have Ev79 := FPm_mul Hm.out Hv79.out
  have Lv79 := FPm_lt Hm.out Hv79.out
  have Ev24 := FPm_mod Hm.out Hv24.out
  have Lv24 := FPm_lt Hm.out Hv24.out
  have Ev27 := FPm_mod Hm.out Hv27.out
  have Lv27 := FPm_lt Hm.out Hv27.out
  have Ev28 := FPm_sub2 Hm.out (by rw [← Hv27.out]; exact Nat.mod_lt _ hm.pos) Hv28.out
  have Lv28 := FPm_lt Hm.out Hv28.out
  have Ev31 := FPm_mod Hm.out Hv31.out
  have Lv31 := FPm_lt Hm.out Hv31.out
  have Ev34 := FPm_mod Hm.out Hv34.out
  have Lv34 := FPm_lt Hm.out Hv34.out
  have Ev35 := FPm_sub2 Hm.out (by rw [← Hv34.out]; exact Nat.mod_lt _ hm.pos) Hv35.out
  have Lv35 := FPm_lt Hm.out Hv35.out
  have Ev67 := FPm_mod Hm.out Hv67.out
  have Lv67 := FPm_lt Hm.out Hv67.out
  have Ev68 := FPm_sub2 Hm.out (by rw [← Hv67.out]; exact Nat.mod_lt _ hm.pos) Hv68.out
  have Lv68 := FPm_lt Hm.out Hv68.out
  have Ev71 := FPm_mod Hm.out Hv71.out
  have Lv71 := FPm_lt Hm.out Hv71.out
  have Ev72 := FPm_sub2 Hm.out (by rw [← Hv71.out]; exact Nat.mod_lt _ hm.pos) Hv72.out
  have Lv72 := FPm_lt Hm.out Hv72.out
  have Ev76 := FPm_mod Hm.out Hv76.out
  have Lv76 := FPm_lt Hm.out Hv76.out
  have Ev78 := FPm_sub2 Hm.out (by rw [← Hv72.out]; exact Nat.mod_lt _ hm.pos) Hv78.out
  have Lv78 := FPm_lt Hm.out Hv78.out
  have Ev82 := FPm_mod Hm.out Hv82.out
  have Lv82 := FPm_lt Hm.out Hv82.out
  have Ev83 := FPm_sub2 Hm.out (by rw [← Hv82.out]; exact Nat.mod_lt _ hm.pos) Hv83.out
  have Lv83 := FPm_lt Hm.out Hv83.out
  have h23 := Lib.hid (show x2 ≠ x1 from fun e => hx (by rw [e, Fin.sub_self]))
  have h38 := Lib.hid (show x1 ≠ x2 from fun e => hx (by rw [e, Fin.sub_self]))
  have R := Lib.hid (show Value.agg (pcells v72 v83 false) = .agg (ptc (Pt.rise ((FP y2 - FP y1) * ivP (FP x2 - FP x1)) (FP x1) (FP y1) (FP x2))) by
    have R1 := val_of Lv72 (show FP v72 = ((FP y2 - FP y1) * ivP (FP x2 - FP x1)) * ((FP y2 - FP y1) * ivP (FP x2 - FP x1)) - FP x1 - FP x2 by simp only [Ev72, Ev68, Ev64, Ev61, Ev28, Ev24, Ev27, Ev60, Ev35, Ev31, Ev34, Ev67, Ev71])
    have R2 := val_of Lv83 (show FP v83 = ((FP y2 - FP y1) * ivP (FP x2 - FP x1)) * (FP x1 - (((FP y2 - FP y1) * ivP (FP x2 - FP x1)) * ((FP y2 - FP y1) * ivP (FP x2 - FP x1)) - FP x1 - FP x2)) - FP y1 by simp only [Ev83, Ev79, Ev61, Ev28, Ev24, Ev27, Ev60, Ev35, Ev31, Ev34, Ev78, Ev76, Ev72, Ev68, Ev64, Ev67, Ev71, Ev82])
    rw [R1, R2]; rfl)
  clear hx Ev60 Lv60 Ev61 Lv61 Ev64 Lv64 Ev79 Lv79 Ev24 Lv24 Ev27 Lv27 Ev28 Lv28 Ev31 Lv31 Ev34 Lv34 Ev35 Lv35 Ev67 Lv67 Ev68 Lv68 Ev71 Lv71 Ev72 Lv72 Ev76 Lv76 Ev78 Lv78 Ev82 Lv82 Ev83 Lv83
  have hM0 := mm_nil w
  (try unfold WV)
  go_enter Tryd.func21, Tryd.ntmps21
  go_wp2_with (first
    | ((with_reducible change wpList _ _ _ (Oper.mk (some 2) _ _ _ _ _ :: _) _ _); refine mmBox hM0 _ _ (pcells x1 y1 false) rfl rfl rfl ?_; intro w1 hM1; clear hM0; go_frame)
    | ((with_reducible change wpList _ _ _ (Oper.mk (some 3) _ _ _ _ _ :: _) _ _); refine mmBox hM1 _ _ (pcells x2 y2 false) rfl rfl rfl ?_; intro w2 hM2; clear hM1; go_frame)
    | ((with_reducible change wpList _ _ _ (Oper.mk (some 4) _ _ _ _ _ :: _) _ _); refine mmAlloc hM2 _ _ rfl rfl zero_Point ?_; intro w3 hM3; clear hM2; go_frame)
    | ((with_reducible change wpList _ _ _ (Oper.mk (some 11) _ _ _ _ _ :: _) _ _); refine kFieldPoint2 _ _ rfl rfl rfl ?_; go_frame)
    | ((with_reducible change wpList _ _ _ (Oper.mk (some 12) _ _ _ _ _ :: _) _ _); refine kLoad1 _ _ _ _ _ _ _ _ rfl rfl rfl (hM3.get 2 rfl) Tryd.underlying4 rfl (pcells_at8 _ _ _) ?_; go_frame)
    | ((with_reducible change wpList _ _ _ (Oper.mk (some 14) _ _ _ _ _ :: _) _ _); refine kFieldPoint2 _ _ rfl rfl rfl ?_; go_frame)
    | ((with_reducible change wpList _ _ _ (Oper.mk (some 15) _ _ _ _ _ :: _) _ _); refine kLoad1 _ _ _ _ _ _ _ _ rfl rfl rfl (hM3.get 1 rfl) Tryd.underlying4 rfl (pcells_at8 _ _ _) ?_; go_frame))
  refine region_symT 4 _ [] [] [.val (.agg (pcells x2 y2 false)), .val (.agg (pcells x1 y1 false)), .val (.agg (pcells x1 v19 false)), .val (.bool false)] rfl (by kernel_rfl) (by kernel_rfl) (by kernel_rfl) (by kernel_rfl) rfl (by intro s hs; cases hs) (steps_all ⟨?_, ?_, ?_, ?_, trivial⟩) ?_
  · intro A W hsz hoth hbel hX hdep
    exact kLoadRow _ _ _ _ _ _ rfl rfl ((hoth 3 (free2_of (by kernel_rfl))).trans rfl) ((hM3.get 1 rfl).on hbel) Tryd.underlying30 rfl (info_PointC _ _ _) (symVT hX hsz rfl (show 17 < 89 by decide) rfl (Below.refl _ _) rfl)
  · intro A W hsz hoth hbel hX hdep
    exact kLoadRow _ _ _ _ _ _ rfl rfl ((hoth 2 (free2_of (by kernel_rfl))).trans rfl) ((hM3.get 2 rfl).on hbel) Tryd.underlying30 rfl (info_PointC _ _ _) (symVT hX hsz rfl (show 18 < 89 by decide) rfl (Below.refl _ _) rfl)
  · intro A W hsz hoth hbel hX hdep
    refine kCall1 23 _ _ _ rfl rfl (by kernel_rfl) (by have h := hdep ⟨1, .data⟩ (by simp) rfl; exact h) ?_
    refine (eNeg_as my1 false Hv19.out W).mono ?_
    rintro e r ⟨rfl, hBc⟩
    exact ⟨_, rfl, (symVT hX hsz rfl (show 19 < 89 by decide) rfl hBc rfl)⟩
  · intro A W hsz hoth hbel hX hdep
    exact kEqlP _ _ _ x2 y2 false x1 v19 false false rfl rfl (by have h := hdep ⟨0, .data⟩ (by simp) rfl; exact h) (by have h := hdep ⟨2, .data⟩ (by simp) rfl; exact h) (eqP_no mx2 my2 mx1 mv19 (fun e => h23.out e.1)) (symVT hX hsz rfl (show 20 < 89 by decide) rfl (Below.refl _ _) rfl)
  intro w4 hB4
  dsimp only [AllV]
  intro hap
  dsimp only [putAll, List.take, List.drop]
  go_frame
  have hM4 := hM3.on hB4
  clear hB4 hM3 hap
  go_wp2_with fail
  refine region_symT 16 _ [] [] [.val (.pointer (some ⟨w1.heap.size, 4, none⟩)), .val (.agg (wcells y2)), .prop (fun w v => NumT w v (v24)) (fun _ _ _ hb h => h.below hb), .val (.pointer (some ⟨w.heap.size, 4, none⟩)), .val (.agg (wcells y1)), .prop (fun w v => NumT w v (v27)) (fun _ _ _ hb h => h.below hb), .prop (fun w v => NumT w v (v28)) (fun _ _ _ hb h => h.below hb), .val (.pointer (some ⟨w1.heap.size, 0, none⟩)), .val (.agg (wcells x2)), .prop (fun w v => NumT w v (v31)) (fun _ _ _ hb h => h.below hb), .val (.pointer (some ⟨w.heap.size, 0, none⟩)), .val (.agg (wcells x1)), .prop (fun w v => NumT w v (v34)) (fun _ _ _ hb h => h.below hb), .prop (fun w v => NumT w v (v35)) (fun _ _ _ hb h => h.below hb), .prop (fun w v => NumT w v (v28)) (fun _ _ _ hb h => h.below hb), .prop (fun w v => NumT w v (v35)) (fun _ _ _ hb h => h.below hb)] rfl (by kernel_rfl) (by kernel_rfl) (by kernel_rfl) (by kernel_rfl) rfl (by intro s hs; cases hs) (steps_all ⟨?_, ?_, ?_, ?_, ?_, ?_, ?_, ?_, ?_, ?_, ?_, ?_, ?_, ?_, ?_, ?_, trivial⟩) ?_
  · intro A W hsz hoth hbel hX hdep
    exact kFieldPoint1 _ _ rfl rfl ((hoth 3 (free2_of (by kernel_rfl))).trans rfl) (symVT hX hsz rfl (show 22 < 89 by decide) rfl (Below.refl _ _) rfl)
  · intro A W hsz hoth hbel hX hdep
    exact kLoadAs _ _ _ _ _ 4 _ _ _ rfl rfl (by have h := hdep ⟨0, .data⟩ (by simp) rfl; exact h) ((hM4.get 1 rfl).on hbel) Tryd.underlying24 rfl info_Wide (by rw [pcells_size]; decide) (pcells_at4 _ _ _) (symVT hX hsz rfl (show 23 < 89 by decide) rfl (Below.refl _ _) rfl)
  · intro A W hsz hoth hbel hX hdep
    refine kCall1 40 _ _ _ rfl rfl (by kernel_rfl) (by have h := hdep ⟨1, .data⟩ (by simp) rfl; exact h) ?_
    refine (enum_as hm hP my2 Hv24.out W).mono ?_
    rintro e r ⟨xx, rfl, hNx, hBc⟩
    exact ⟨_, rfl, (symVT hX hsz rfl (show 24 < 89 by decide) rfl hBc hNx)⟩
  · intro A W hsz hoth hbel hX hdep
    exact kFieldPoint1 _ _ rfl rfl ((hoth 2 (free2_of (by kernel_rfl))).trans rfl) (symVT hX hsz rfl (show 25 < 89 by decide) rfl (Below.refl _ _) rfl)
  · intro A W hsz hoth hbel hX hdep
    exact kLoadAs _ _ _ _ _ 4 _ _ _ rfl rfl (by have h := hdep ⟨3, .data⟩ (by simp) rfl; exact h) ((hM4.get 2 rfl).on hbel) Tryd.underlying24 rfl info_Wide (by rw [pcells_size]; decide) (pcells_at4 _ _ _) (symVT hX hsz rfl (show 26 < 89 by decide) rfl (Below.refl _ _) rfl)
  · intro A W hsz hoth hbel hX hdep
    refine kCall1 40 _ _ _ rfl rfl (by kernel_rfl) (by have h := hdep ⟨4, .data⟩ (by simp) rfl; exact h) ?_
    refine (enum_as hm hP my1 Hv27.out W).mono ?_
    rintro e r ⟨xx, rfl, hNx, hBc⟩
    exact ⟨_, rfl, (symVT hX hsz rfl (show 27 < 89 by decide) rfl hBc hNx)⟩
  · intro A W hsz hoth hbel hX hdep
    have hN24 := (show NumT W (A.tmps.getD 24 undef) (v24) from (by have h := hdep ⟨2, .data⟩ (by simp) rfl; exact h))
    have hN27 := (show NumT W (A.tmps.getD 27 undef) (v27) from (by have h := hdep ⟨5, .data⟩ (by simp) rfl; exact h))
    refine kCall2 39 _ _ _ _ _ rfl rfl (by kernel_rfl) (rfl : A.eval (Operand.tmp 24) = A.tmps.getD 24 undef) (rfl : A.eval (Operand.tmp 27) = A.tmps.getD 27 undef) ?_
    refine (esub_as hm hP (hN24.n16 mv24) (hN27.n16 mv27) (by rw [← Hv27.out]; exact Nat.mod_lt _ hm.pos) Hv28.out).mono ?_
    rintro e r ⟨xx, rfl, hNx, hBc⟩
    exact ⟨_, rfl, (symVT hX hsz rfl (show 28 < 89 by decide) rfl hBc hNx)⟩
  · intro A W hsz hoth hbel hX hdep
    exact kFieldPoint0 _ _ rfl rfl ((hoth 3 (free2_of (by kernel_rfl))).trans rfl) (symVT hX hsz rfl (show 29 < 89 by decide) rfl (Below.refl _ _) rfl)
  · intro A W hsz hoth hbel hX hdep
    exact kLoadAs _ _ _ _ _ 4 _ _ _ rfl rfl (by have h := hdep ⟨7, .data⟩ (by simp) rfl; exact h) ((hM4.get 1 rfl).on hbel) Tryd.underlying24 rfl info_Wide (by rw [pcells_size]; decide) (pcells_at0 _ _ _) (symVT hX hsz rfl (show 30 < 89 by decide) rfl (Below.refl _ _) rfl)
  · intro A W hsz hoth hbel hX hdep
    refine kCall1 40 _ _ _ rfl rfl (by kernel_rfl) (by have h := hdep ⟨8, .data⟩ (by simp) rfl; exact h) ?_
    refine (enum_as hm hP mx2 Hv31.out W).mono ?_
    rintro e r ⟨xx, rfl, hNx, hBc⟩
    exact ⟨_, rfl, (symVT hX hsz rfl (show 31 < 89 by decide) rfl hBc hNx)⟩
  · intro A W hsz hoth hbel hX hdep
    exact kFieldPoint0 _ _ rfl rfl ((hoth 2 (free2_of (by kernel_rfl))).trans rfl) (symVT hX hsz rfl (show 32 < 89 by decide) rfl (Below.refl _ _) rfl)
  · intro A W hsz hoth hbel hX hdep
    exact kLoadAs _ _ _ _ _ 4 _ _ _ rfl rfl (by have h := hdep ⟨10, .data⟩ (by simp) rfl; exact h) ((hM4.get 2 rfl).on hbel) Tryd.underlying24 rfl info_Wide (by rw [pcells_size]; decide) (pcells_at0 _ _ _) (symVT hX hsz rfl (show 33 < 89 by decide) rfl (Below.refl _ _) rfl)
  · intro A W hsz hoth hbel hX hdep
    refine kCall1 40 _ _ _ rfl rfl (by kernel_rfl) (by have h := hdep ⟨11, .data⟩ (by simp) rfl; exact h) ?_
    refine (enum_as hm hP mx1 Hv34.out W).mono ?_
    rintro e r ⟨xx, rfl, hNx, hBc⟩
    exact ⟨_, rfl, (symVT hX hsz rfl (show 34 < 89 by decide) rfl hBc hNx)⟩
  · intro A W hsz hoth hbel hX hdep
    have hN31 := (show NumT W (A.tmps.getD 31 undef) (v31) from (by have h := hdep ⟨9, .data⟩ (by simp) rfl; exact h))
    have hN34 := (show NumT W (A.tmps.getD 34 undef) (v34) from (by have h := hdep ⟨12, .data⟩ (by simp) rfl; exact h))
    refine kCall2 39 _ _ _ _ _ rfl rfl (by kernel_rfl) (rfl : A.eval (Operand.tmp 31) = A.tmps.getD 31 undef) (rfl : A.eval (Operand.tmp 34) = A.tmps.getD 34 undef) ?_
    refine (esub_as hm hP (hN31.n16 mv31) (hN34.n16 mv34) (by rw [← Hv34.out]; exact Nat.mod_lt _ hm.pos) Hv35.out).mono ?_
    rintro e r ⟨xx, rfl, hNx, hBc⟩
    exact ⟨_, rfl, (symVT hX hsz rfl (show 35 < 89 by decide) rfl hBc hNx)⟩
  · intro A W hsz hoth hbel hX hdep
    have hN := (by have h := hdep ⟨6, .data⟩ (by simp) rfl; exact h)
    exact kAssignV _ (A.tmps.getD 28 undef) rfl rfl rfl (symVT hX hsz rfl (show 5 < 89 by decide) rfl (Below.refl _ _) hN)
  · intro A W hsz hoth hbel hX hdep
    have hN := (by have h := hdep ⟨13, .data⟩ (by simp) rfl; exact h)
    exact kAssignV _ (A.tmps.getD 35 undef) rfl rfl rfl (symVT hX hsz rfl (show 6 < 89 by decide) rfl (Below.refl _ _) hN)
  intro w5 hB5
  dsimp only [AllV]
  intro x5_24 hN5_24
  intro x5_27 hN5_27
  intro x5_28 hN5_28
  intro x5_31 hN5_31
  intro x5_34 hN5_34
  intro x5_35 hN5_35
  intro x5_5 hN5_5
  intro x5_6 hN5_6
  intro hap
  dsimp only [putAll, List.take, List.drop]
  go_frame
  have hM5 := hM4.on hB5
  clear hB5 hM4 hap
  have hM6 := mm_nil w5
  go_wp2_with (first
    | ((with_reducible change wpList _ _ _ (Oper.mk (some 36) _ _ _ _ _ :: _) _ _); refine kLoadRow _ _ _ _ _ _ rfl rfl rfl ((hM5.get 2 rfl).on hM6.below) Tryd.underlying30 rfl (info_PointC _ _ _) ?_; go_frame)
    | ((with_reducible change wpList _ _ _ (Oper.mk (some 37) _ _ _ _ _ :: _) _ _); refine kLoadRow _ _ _ _ _ _ rfl rfl rfl ((hM5.get 1 rfl).on hM6.below) Tryd.underlying30 rfl (info_PointC _ _ _) ?_; go_frame)
    | ((with_reducible change wpList _ _ _ (Oper.mk (some 38) _ _ _ _ _ :: _) _ _); refine kEqlP _ _ _ x1 y1 false x2 y2 false false rfl rfl rfl rfl (eqP_no mx1 my1 mx2 my2 (fun e => h38.out e.1)) ?_; go_frame)
    | (go_at_call 43; (with_reducible change Calls _ _ #[x5_6, Value.bool true] _ _); refine (rInv_as hm hP ((hN5_6.below hM6.below).n16 mv35) Hv60.out).mono ?_; rintro e w7 ⟨x7, rfl, hN7, hB7⟩; have hM7 := hM6.on hB7; clear hB7 hM6; have hM8 := mm_nil w7; go_frame)
    | (go_at_call 41; (with_reducible change Calls _ _ #[x5_5, x7] _ _); refine (emul_as hm hP (((hN5_5.below hM7.below).below hM8.below).n16 mv28) ((hN7.below hM8.below).n16 mv60) Hv61.out).mono ?_; rintro e w9 ⟨x9, rfl, hN9, hB9⟩; have hM9 := hM8.on hB9; clear hB9 hM8; have hM10 := mm_nil w9; go_frame))
  refine region_symT 12 _ [] [] [.val (x9), .val (x9), .prop (fun w v => NumT w v (v64)) (fun _ _ _ hb h => h.below hb), .val (.pointer (some ⟨w.heap.size, 0, none⟩)), .val (.agg (wcells x1)), .prop (fun w v => NumT w v (v67)) (fun _ _ _ hb h => h.below hb), .prop (fun w v => NumT w v (v68)) (fun _ _ _ hb h => h.below hb), .val (.pointer (some ⟨w1.heap.size, 0, none⟩)), .val (.agg (wcells x2)), .prop (fun w v => NumT w v (v71)) (fun _ _ _ hb h => h.below hb), .prop (fun w v => NumT w v (v72)) (fun _ _ _ hb h => h.below hb), .prop (fun w v => NumT w v (v72)) (fun _ _ _ hb h => h.below hb)] rfl (by kernel_rfl) (by kernel_rfl) (by kernel_rfl) (by kernel_rfl) rfl (by intro s hs; cases hs) (steps_all ⟨?_, ?_, ?_, ?_, ?_, ?_, ?_, ?_, ?_, ?_, ?_, ?_, trivial⟩) ?_
  · intro A W hsz hoth hbel hX hdep
    exact kMoveV _ (x9) rfl rfl ((hoth 8 (free2_of (by kernel_rfl))).trans rfl) (symVT hX hsz rfl (show 62 < 89 by decide) rfl (Below.refl _ _) rfl)
  · intro A W hsz hoth hbel hX hdep
    exact kMoveV _ (x9) rfl rfl ((hoth 8 (free2_of (by kernel_rfl))).trans rfl) (symVT hX hsz rfl (show 63 < 89 by decide) rfl (Below.refl _ _) rfl)
  · intro A W hsz hoth hbel hX hdep
    refine kCall2 41 _ _ _ _ _ rfl rfl (by kernel_rfl) (by have h := hdep ⟨0, .data⟩ (by simp) rfl; exact h) (by have h := hdep ⟨1, .data⟩ (by simp) rfl; exact h) ?_
    refine (emul_as hm hP (((hN9.below hM10.below).below hbel).n16 mv61) (((hN9.below hM10.below).below hbel).n16 mv61) Hv64.out).mono ?_
    rintro e r ⟨xx, rfl, hNx, hBc⟩
    exact ⟨_, rfl, (symVT hX hsz rfl (show 64 < 89 by decide) rfl hBc hNx)⟩
  · intro A W hsz hoth hbel hX hdep
    exact kFieldPoint0 _ _ rfl rfl ((hoth 2 (free2_of (by kernel_rfl))).trans rfl) (symVT hX hsz rfl (show 65 < 89 by decide) rfl (Below.refl _ _) rfl)
  · intro A W hsz hoth hbel hX hdep
    exact kLoadAs _ _ _ _ _ 4 _ _ _ rfl rfl (by have h := hdep ⟨3, .data⟩ (by simp) rfl; exact h) (((((hM5.get 2 rfl).on hM7.below).on hM9.below).on hM10.below).on hbel) Tryd.underlying24 rfl info_Wide (by rw [pcells_size]; decide) (pcells_at0 _ _ _) (symVT hX hsz rfl (show 66 < 89 by decide) rfl (Below.refl _ _) rfl)
  · intro A W hsz hoth hbel hX hdep
    refine kCall1 40 _ _ _ rfl rfl (by kernel_rfl) (by have h := hdep ⟨4, .data⟩ (by simp) rfl; exact h) ?_
    refine (enum_as hm hP mx1 Hv67.out W).mono ?_
    rintro e r ⟨xx, rfl, hNx, hBc⟩
    exact ⟨_, rfl, (symVT hX hsz rfl (show 67 < 89 by decide) rfl hBc hNx)⟩
  · intro A W hsz hoth hbel hX hdep
    have hN64 := (show NumT W (A.tmps.getD 64 undef) (v64) from (by have h := hdep ⟨2, .data⟩ (by simp) rfl; exact h))
    have hN67 := (show NumT W (A.tmps.getD 67 undef) (v67) from (by have h := hdep ⟨5, .data⟩ (by simp) rfl; exact h))
    refine kCall2 39 _ _ _ _ _ rfl rfl (by kernel_rfl) (rfl : A.eval (Operand.tmp 64) = A.tmps.getD 64 undef) (rfl : A.eval (Operand.tmp 67) = A.tmps.getD 67 undef) ?_
    refine (esub_as hm hP (hN64.n16 mv64) (hN67.n16 mv67) (by rw [← Hv67.out]; exact Nat.mod_lt _ hm.pos) Hv68.out).mono ?_
    rintro e r ⟨xx, rfl, hNx, hBc⟩
    exact ⟨_, rfl, (symVT hX hsz rfl (show 68 < 89 by decide) rfl hBc hNx)⟩
  · intro A W hsz hoth hbel hX hdep
    exact kFieldPoint0 _ _ rfl rfl ((hoth 3 (free2_of (by kernel_rfl))).trans rfl) (symVT hX hsz rfl (show 69 < 89 by decide) rfl (Below.refl _ _) rfl)
  · intro A W hsz hoth hbel hX hdep
    exact kLoadAs _ _ _ _ _ 4 _ _ _ rfl rfl (by have h := hdep ⟨7, .data⟩ (by simp) rfl; exact h) (((((hM5.get 1 rfl).on hM7.below).on hM9.below).on hM10.below).on hbel) Tryd.underlying24 rfl info_Wide (by rw [pcells_size]; decide) (pcells_at0 _ _ _) (symVT hX hsz rfl (show 70 < 89 by decide) rfl (Below.refl _ _) rfl)
  · intro A W hsz hoth hbel hX hdep
    refine kCall1 40 _ _ _ rfl rfl (by kernel_rfl) (by have h := hdep ⟨8, .data⟩ (by simp) rfl; exact h) ?_
    refine (enum_as hm hP mx2 Hv71.out W).mono ?_
    rintro e r ⟨xx, rfl, hNx, hBc⟩
    exact ⟨_, rfl, (symVT hX hsz rfl (show 71 < 89 by decide) rfl hBc hNx)⟩
  · intro A W hsz hoth hbel hX hdep
    have hN68 := (show NumT W (A.tmps.getD 68 undef) (v68) from (by have h := hdep ⟨6, .data⟩ (by simp) rfl; exact h))
    have hN71 := (show NumT W (A.tmps.getD 71 undef) (v71) from (by have h := hdep ⟨9, .data⟩ (by simp) rfl; exact h))
    refine kCall2 39 _ _ _ _ _ rfl rfl (by kernel_rfl) (rfl : A.eval (Operand.tmp 68) = A.tmps.getD 68 undef) (rfl : A.eval (Operand.tmp 71) = A.tmps.getD 71 undef) ?_
    refine (esub_as hm hP (hN68.n16 mv68) (hN71.n16 mv71) (by rw [← Hv71.out]; exact Nat.mod_lt _ hm.pos) Hv72.out).mono ?_
    rintro e r ⟨xx, rfl, hNx, hBc⟩
    exact ⟨_, rfl, (symVT hX hsz rfl (show 72 < 89 by decide) rfl hBc hNx)⟩
  · intro A W hsz hoth hbel hX hdep
    have hN := (by have h := hdep ⟨10, .data⟩ (by simp) rfl; exact h)
    exact kAssignV _ (A.tmps.getD 72 undef) rfl rfl rfl (symVT hX hsz rfl (show 9 < 89 by decide) rfl (Below.refl _ _) hN)
  intro w11 hB11
  dsimp only [AllV]
  intro x11_64 hN11_64
  intro x11_67 hN11_67
  intro x11_68 hN11_68
  intro x11_71 hN11_71
  intro x11_72 hN11_72
  intro x11_9 hN11_9
  intro hap
  dsimp only [putAll, List.take, List.drop]
  go_frame
  have hM11 := hM10.on hB11
  clear hB11 hM10 hap
  have hM12 := mm_nil w11
  go_wp2_with fail
  refine region_symT 12 _ [] [] [.val (x9), .val (.pointer (some ⟨w.heap.size, 0, none⟩)), .val (.agg (wcells x1)), .prop (fun w v => NumT w v (v76)) (fun _ _ _ hb h => h.below hb), .val (x11_9), .prop (fun w v => NumT w v (v78)) (fun _ _ _ hb h => h.below hb), .prop (fun w v => NumT w v (v79)) (fun _ _ _ hb h => h.below hb), .val (.pointer (some ⟨w.heap.size, 4, none⟩)), .val (.agg (wcells y1)), .prop (fun w v => NumT w v (v82)) (fun _ _ _ hb h => h.below hb), .prop (fun w v => NumT w v (v83)) (fun _ _ _ hb h => h.below hb), .prop (fun w v => NumT w v (v83)) (fun _ _ _ hb h => h.below hb)] rfl (by kernel_rfl) (by kernel_rfl) (by kernel_rfl) (by kernel_rfl) rfl (by intro s hs; cases hs) (steps_all ⟨?_, ?_, ?_, ?_, ?_, ?_, ?_, ?_, ?_, ?_, ?_, ?_, trivial⟩) ?_
  · intro A W hsz hoth hbel hX hdep
    exact kMoveV _ (x9) rfl rfl ((hoth 8 (free2_of (by kernel_rfl))).trans rfl) (symVT hX hsz rfl (show 73 < 89 by decide) rfl (Below.refl _ _) rfl)
  · intro A W hsz hoth hbel hX hdep
    exact kFieldPoint0 _ _ rfl rfl ((hoth 2 (free2_of (by kernel_rfl))).trans rfl) (symVT hX hsz rfl (show 74 < 89 by decide) rfl (Below.refl _ _) rfl)
  · intro A W hsz hoth hbel hX hdep
    exact kLoadAs _ _ _ _ _ 4 _ _ _ rfl rfl (by have h := hdep ⟨1, .data⟩ (by simp) rfl; exact h) ((((((hM5.get 2 rfl).on hM7.below).on hM9.below).on hM11.below).on hM12.below).on hbel) Tryd.underlying24 rfl info_Wide (by rw [pcells_size]; decide) (pcells_at0 _ _ _) (symVT hX hsz rfl (show 75 < 89 by decide) rfl (Below.refl _ _) rfl)
  · intro A W hsz hoth hbel hX hdep
    refine kCall1 40 _ _ _ rfl rfl (by kernel_rfl) (by have h := hdep ⟨2, .data⟩ (by simp) rfl; exact h) ?_
    refine (enum_as hm hP mx1 Hv76.out W).mono ?_
    rintro e r ⟨xx, rfl, hNx, hBc⟩
    exact ⟨_, rfl, (symVT hX hsz rfl (show 76 < 89 by decide) rfl hBc hNx)⟩
  · intro A W hsz hoth hbel hX hdep
    exact kMoveV _ (x11_9) rfl rfl ((hoth 9 (free2_of (by kernel_rfl))).trans rfl) (symVT hX hsz rfl (show 77 < 89 by decide) rfl (Below.refl _ _) rfl)
  · intro A W hsz hoth hbel hX hdep
    have hN76 := (show NumT W (A.tmps.getD 76 undef) (v76) from (by have h := hdep ⟨3, .data⟩ (by simp) rfl; exact h))
    refine kCall2 39 _ _ _ _ _ rfl rfl (by kernel_rfl) (rfl : A.eval (Operand.tmp 76) = A.tmps.getD 76 undef) (by have h := hdep ⟨4, .data⟩ (by simp) rfl; exact h) ?_
    refine (esub_as hm hP (hN76.n16 mv76) (((hN11_9.below hM12.below).below hbel).n16 mv72) (by rw [← Hv72.out]; exact Nat.mod_lt _ hm.pos) Hv78.out).mono ?_
    rintro e r ⟨xx, rfl, hNx, hBc⟩
    exact ⟨_, rfl, (symVT hX hsz rfl (show 78 < 89 by decide) rfl hBc hNx)⟩
  · intro A W hsz hoth hbel hX hdep
    have hN78 := (show NumT W (A.tmps.getD 78 undef) (v78) from (by have h := hdep ⟨5, .data⟩ (by simp) rfl; exact h))
    refine kCall2 41 _ _ _ _ _ rfl rfl (by kernel_rfl) (by have h := hdep ⟨0, .data⟩ (by simp) rfl; exact h) (rfl : A.eval (Operand.tmp 78) = A.tmps.getD 78 undef) ?_
    refine (emul_as hm hP ((((hN9.below hM11.below).below hM12.below).below hbel).n16 mv61) (hN78.n16 mv78) Hv79.out).mono ?_
    rintro e r ⟨xx, rfl, hNx, hBc⟩
    exact ⟨_, rfl, (symVT hX hsz rfl (show 79 < 89 by decide) rfl hBc hNx)⟩
  · intro A W hsz hoth hbel hX hdep
    exact kFieldPoint1 _ _ rfl rfl ((hoth 2 (free2_of (by kernel_rfl))).trans rfl) (symVT hX hsz rfl (show 80 < 89 by decide) rfl (Below.refl _ _) rfl)
  · intro A W hsz hoth hbel hX hdep
    exact kLoadAs _ _ _ _ _ 4 _ _ _ rfl rfl (by have h := hdep ⟨7, .data⟩ (by simp) rfl; exact h) ((((((hM5.get 2 rfl).on hM7.below).on hM9.below).on hM11.below).on hM12.below).on hbel) Tryd.underlying24 rfl info_Wide (by rw [pcells_size]; decide) (pcells_at4 _ _ _) (symVT hX hsz rfl (show 81 < 89 by decide) rfl (Below.refl _ _) rfl)
  · intro A W hsz hoth hbel hX hdep
    refine kCall1 40 _ _ _ rfl rfl (by kernel_rfl) (by have h := hdep ⟨8, .data⟩ (by simp) rfl; exact h) ?_
    refine (enum_as hm hP my1 Hv82.out W).mono ?_
    rintro e r ⟨xx, rfl, hNx, hBc⟩
    exact ⟨_, rfl, (symVT hX hsz rfl (show 82 < 89 by decide) rfl hBc hNx)⟩
  · intro A W hsz hoth hbel hX hdep
    have hN79 := (show NumT W (A.tmps.getD 79 undef) (v79) from (by have h := hdep ⟨6, .data⟩ (by simp) rfl; exact h))
    have hN82 := (show NumT W (A.tmps.getD 82 undef) (v82) from (by have h := hdep ⟨9, .data⟩ (by simp) rfl; exact h))
    refine kCall2 39 _ _ _ _ _ rfl rfl (by kernel_rfl) (rfl : A.eval (Operand.tmp 79) = A.tmps.getD 79 undef) (rfl : A.eval (Operand.tmp 82) = A.tmps.getD 82 undef) ?_
    refine (esub_as hm hP (hN79.n16 mv79) (hN82.n16 mv82) (by rw [← Hv82.out]; exact Nat.mod_lt _ hm.pos) Hv83.out).mono ?_
    rintro e r ⟨xx, rfl, hNx, hBc⟩
    exact ⟨_, rfl, (symVT hX hsz rfl (show 83 < 89 by decide) rfl hBc hNx)⟩
  · intro A W hsz hoth hbel hX hdep
    have hN := (by have h := hdep ⟨10, .data⟩ (by simp) rfl; exact h)
    exact kAssignV _ (A.tmps.getD 83 undef) rfl rfl rfl (symVT hX hsz rfl (show 10 < 89 by decide) rfl (Below.refl _ _) hN)
  intro w13 hB13
  dsimp only [AllV]
  intro x13_76 hN13_76
  intro x13_78 hN13_78
  intro x13_79 hN13_79
  intro x13_82 hN13_82
  intro x13_83 hN13_83
  intro x13_10 hN13_10
  intro hap
  dsimp only [putAll, List.take, List.drop]
  go_frame
  have hM13 := hM12.on hB13
  clear hB13 hM12 hap
  have hM14 := mm_nil w13
  go_wp2_with (first
    | (go_at_call 10; (with_reducible change Calls _ _ #[x11_9] _ _); refine (dWide_numT ((hN11_9.below hM13.below).below hM14.below)).mono ?_; rintro e w15 ⟨rfl, hB15⟩; have hM15 := hM14.on hB15; clear hB15 hM14; (try unfold WV); go_frame)
    | (go_at_call 10; (with_reducible change Calls _ _ #[x13_10] _ _); refine (dWide_numT (hN13_10.below hM15.below)).mono ?_; rintro e w16 ⟨rfl, hB16⟩; have hM16 := hM15.on hB16; clear hB16 hM15; (try unfold WV); go_frame)
    | ((with_reducible change wpList _ _ _ (Oper.mk (some 88) _ _ _ _ _ :: _) _ _); refine kBuildPoint2 _ _ v72 v83 rfl rfl rfl rfl ?_; go_frame)
    | ((with_reducible change wpList _ _ _ (Oper.mk none (Op.store _ (Operand.tmp 4) (Operand.tmp 88)) _ _ _ _ :: _) _ _); have hJ := (Mm.join (Mm.join (Mm.join (Mm.join (Mm.join hM5 hM7) hM9) hM11) hM13) hM16); dsimp only [List.append, List.cons_append, List.nil_append] at hJ; refine mmStoreAt hJ 0 _ _ _ _ _ _ (pcells v72 v83 false) rfl rfl rfl rfl rfl (info_PointC _ _ _) (by simp only [pcells_size]) (pcells_one _ _ _) ?_; intro w17 hM17; dsimp only [List.set] at hM17; clear hJ; go_frame))
  exact result_row Tryd.results21 rfl (hM17.get 0 rfl) Tryd.underlying30 rfl (info_PointC _ _ _) rfl ⟨by rw [R.out] <;> rfl, hM17.below⟩
theorem rise_thrice (X Y : Fin PP) : (X * X + X * X + X * X) * ivP (Y + Y) = 3 * X * X * ivP (2 * Y) := by
  rw [show Y + Y = 2 * Y by grobner, show X * X + X * X + X * X = 3 * X * X by grobner]
theorem eAdd_pt {p q : Pt PP} (hp : p.On) (hq : q.On) (w : World) :
    Calls Tryd.prog 21 #[.agg (ptc p), .agg (ptc q)] w fun e w' => e = .returned (.agg (ptc (Pt.add ivP p q))) ∧ Below w.heap.size w w' := by
  cases p with
  | o => exact eadd_o q w
  | mk x1 y1 =>
    cases q with
    | o => exact eadd_no w
    | mk x2 y2 =>
      have hp : y1 * y1 = x1 * x1 * x1 + 7 := hp
      have hq : y2 * y2 = x2 * x2 * x2 + 7 := hq
      unfold Pt.add
      simp only
      split
      · rename_i h
        exact eadd_across x1.isLt y1.isLt x2.isLt y2.isLt (by rw [FP_of_val, FP_of_val]; exact h.1) (by rw [FP_of_val, FP_of_val]; exact h.2) w
      · rename_i hn
        split
        · rename_i h
          obtain ⟨rfl, rfl⟩ := h
          have hy : y1 + y1 ≠ 0 := by rw [show y1 + y1 = 2 * y1 by grobner]; exact goodP.twice_ne (goodP.y_ne hp)
          have := eadd_same x1.isLt y1.isLt (by rw [FP_of_val]; exact hy) w
          rw [FP_of_val, FP_of_val, rise_thrice] at this; exact this
        · rename_i hs
          have hx : x1 ≠ x2 := fun e => by
            subst e
            rcases sq_same goodP (hp.trans hq.symm) with e | e
            · exact hs ⟨rfl, e⟩
            · exact hn ⟨rfl, e⟩
          have := eadd_other x1.isLt y1.isLt x2.isLt y2.isLt (by rw [FP_of_val, FP_of_val]; exact sub_ne hx) w
          rw [FP_of_val, FP_of_val, FP_of_val, FP_of_val] at this; exact this
set_option maxRecDepth 100000 in
set_option maxHeartbeats 8000000 in
theorem curveAlive_any (w : World) (hG : Glob 2 PP w) (hO : GlobP 0 0 0 true w) (hB : GlobP 1 gX gY false w) : Calls Tryd.prog 15 #[] w fun e w' => e = .returned (.bool true) ∧ Below w.heap.size w w' := by
  have hM0 := mm_nil w
  (try unfold WV)
  go_enter Tryd.func15, Tryd.ntmps15
  go_wp2_with (first
    | (go_at_call 14; refine (cBase_any _ (hB.below hM0.below)).mono ?_; rintro e w1 ⟨rfl, hB1⟩; have hM1 := hM0.on hB1; clear hB1 hM0; (try unfold WV); go_frame)
    | ((with_reducible change wpList _ _ _ (Oper.mk (some 1) _ _ _ _ _ :: _) _ _); refine mmAlloc hM1 _ _ rfl rfl zero_Point ?_; intro w2 hM2; clear hM1; go_frame)
    | ((with_reducible change wpList _ _ _ (Oper.mk none (Op.store _ (Operand.tmp 1) (Operand.tmp 2)) _ _ _ _ :: _) _ _); refine mmStoreAt hM2 0 _ _ _ _ _ _ (ptc gPt) rfl rfl rfl rfl rfl (info_ptc _) (by simp only [pcells_size, ptc_size]) (ptc_one _) ?_; intro w3 hM3; dsimp only [List.set] at hM3; clear hM2; go_frame))
  refine region_symT 16 _ [] [] [.val (.agg (ptc gPt)), .val (.bool true), .val (.bool true), .val (.agg (ptc gPt)), .val (.agg (ptc gPt)), .val (.agg (ptc gPt.neg)), .val (.agg (ptc (Pt.add ivP gPt gPt.neg))), .val (.agg (ptc .o)), .val (.bool true), .val (.bool true), .val (.bool true), .val (.agg (ptc gPt)), .val (.agg (ptc gPt)), .val (.bool true), .val (.bool true), .val (.bool true)] rfl (by kernel_rfl) (by kernel_rfl) (by kernel_rfl) (by kernel_rfl) rfl (by intro s hs; cases hs) (steps_all ⟨?_, ?_, ?_, ?_, ?_, ?_, ?_, ?_, ?_, ?_, ?_, ?_, ?_, ?_, ?_, ?_, trivial⟩) ?_
  · intro A W hsz hoth hbel hX hdep
    exact kLoadRow _ _ _ _ _ _ rfl rfl ((hoth 1 (free2_of (by kernel_rfl))).trans rfl) ((hM3.get 0 rfl).on hbel) Tryd.underlying30 rfl (info_ptc _) (symVT hX hsz rfl (show 3 < 18 by decide) rfl (Below.refl _ _) rfl)
  · intro A W hsz hoth hbel hX hdep
    refine kCall1 20 _ _ _ rfl rfl (by kernel_rfl) (by have h := hdep ⟨0, .data⟩ (by simp) rfl; exact h) ?_
    refine (cOn_pt gPt_on W ((hG.below hM3.below).below hbel) ((hO.below hM3.below).below hbel)).mono ?_
    rintro e r ⟨rfl, hBc⟩
    exact ⟨_, rfl, (symVT hX hsz rfl (show 4 < 18 by decide) rfl hBc rfl)⟩
  · intro A W hsz hoth hbel hX hdep
    exact kMoveV _ (.bool true) rfl rfl (by have h := hdep ⟨1, .data⟩ (by simp) rfl; exact h) (symVT hX hsz rfl (show 5 < 18 by decide) rfl (Below.refl _ _) rfl)
  · intro A W hsz hoth hbel hX hdep
    exact kLoadRow _ _ _ _ _ _ rfl (wanted_of rfl rfl (by have h := hdep ⟨2, .guard⟩ (by simp) rfl; exact h)) ((hoth 1 (free2_of (by kernel_rfl))).trans rfl) ((hM3.get 0 rfl).on hbel) Tryd.underlying30 rfl (info_ptc _) (symVT hX hsz rfl (show 6 < 18 by decide) rfl (Below.refl _ _) rfl)
  · intro A W hsz hoth hbel hX hdep
    exact kLoadRow _ _ _ _ _ _ rfl (wanted_of rfl rfl (by have h := hdep ⟨2, .guard⟩ (by simp) rfl; exact h)) ((hoth 1 (free2_of (by kernel_rfl))).trans rfl) ((hM3.get 0 rfl).on hbel) Tryd.underlying30 rfl (info_ptc _) (symVT hX hsz rfl (show 7 < 18 by decide) rfl (Below.refl _ _) rfl)
  · intro A W hsz hoth hbel hX hdep
    refine kCall1 22 _ _ _ rfl (wanted_of rfl rfl (by have h := hdep ⟨2, .chain⟩ (by simp) rfl; exact h)) (by kernel_rfl) (by have h := hdep ⟨4, .data⟩ (by simp) rfl; exact h) ?_
    refine (cNeg_pt gPt W ((hG.below hM3.below).below hbel)).mono ?_
    rintro e r ⟨rfl, hBc⟩
    exact ⟨_, rfl, (symVT hX hsz rfl (show 8 < 18 by decide) rfl hBc rfl)⟩
  · intro A W hsz hoth hbel hX hdep
    refine kCall2 13 _ _ _ _ _ rfl (wanted_of rfl rfl (by have h := hdep ⟨2, .guard⟩ (by simp) rfl; exact h)) (by kernel_rfl) (by have h := hdep ⟨3, .data⟩ (by simp) rfl; exact h) (by have h := hdep ⟨5, .data⟩ (by simp) rfl; exact h) ?_
    refine (cAdd_pt gPt_on (Pt.neg_on gPt_on) W ((hG.below hM3.below).below hbel) ((hO.below hM3.below).below hbel)).mono ?_
    rintro e r ⟨rfl, hBc⟩
    exact ⟨_, rfl, (symVT hX hsz rfl (show 9 < 18 by decide) rfl hBc rfl)⟩
  · intro A W hsz hoth hbel hX hdep
    refine kCall0 17 _ rfl (wanted_of rfl rfl (by have h := hdep ⟨2, .guard⟩ (by simp) rfl; exact h)) (by kernel_rfl)  ?_
    refine (nowhere_any W).mono ?_
    rintro e r ⟨rfl, hBc⟩
    exact ⟨_, rfl, (symVT hX hsz rfl (show 10 < 18 by decide) rfl hBc rfl)⟩
  · intro A W hsz hoth hbel hX hdep
    exact kEqlPt _ _ _ (Pt.add ivP gPt gPt.neg) .o true rfl (wanted_of rfl rfl (by have h := hdep ⟨2, .guard⟩ (by simp) rfl; exact h)) (by have h := hdep ⟨6, .data⟩ (by simp) rfl; exact h) (by have h := hdep ⟨7, .data⟩ (by simp) rfl; exact h) (eq_yes (goodP.add_neg gPt)) (symVT hX hsz rfl (show 11 < 18 by decide) rfl (Below.refl _ _) rfl)
  · intro A W hsz hoth hbel hX hdep
    exact kPick _ _ _ true (.bool true) rfl rfl (by have h := hdep ⟨2, .data⟩ (by simp) rfl; exact h) (by have h := hdep ⟨8, .data⟩ (by simp) rfl; exact h) (symVT hX hsz rfl (show 12 < 18 by decide) rfl (Below.refl _ _) rfl)
  · intro A W hsz hoth hbel hX hdep
    exact kMoveV _ (.bool true) rfl rfl (by have h := hdep ⟨9, .data⟩ (by simp) rfl; exact h) (symVT hX hsz rfl (show 13 < 18 by decide) rfl (Below.refl _ _) rfl)
  · intro A W hsz hoth hbel hX hdep
    exact kLoadRow _ _ _ _ _ _ rfl (wanted_of rfl rfl (by have h := hdep ⟨10, .guard⟩ (by simp) rfl; exact h)) ((hoth 1 (free2_of (by kernel_rfl))).trans rfl) ((hM3.get 0 rfl).on hbel) Tryd.underlying30 rfl (info_ptc _) (symVT hX hsz rfl (show 14 < 18 by decide) rfl (Below.refl _ _) rfl)
  · intro A W hsz hoth hbel hX hdep
    refine kCall0 26 _ rfl (wanted_of rfl rfl (by have h := hdep ⟨10, .chain⟩ (by simp) rfl; exact h)) (by kernel_rfl)  ?_
    refine (eBase_any W).mono ?_
    rintro e r ⟨rfl, hBc⟩
    exact ⟨_, rfl, (symVT hX hsz rfl (show 15 < 18 by decide) rfl hBc rfl)⟩
  · intro A W hsz hoth hbel hX hdep
    exact kEqlPt _ _ _ gPt gPt true rfl (wanted_of rfl rfl (by have h := hdep ⟨10, .guard⟩ (by simp) rfl; exact h)) (by have h := hdep ⟨11, .data⟩ (by simp) rfl; exact h) (by have h := hdep ⟨12, .data⟩ (by simp) rfl; exact h) (eq_yes rfl) (symVT hX hsz rfl (show 16 < 18 by decide) rfl (Below.refl _ _) rfl)
  · intro A W hsz hoth hbel hX hdep
    exact kPick _ _ _ true (.bool true) rfl rfl (by have h := hdep ⟨10, .data⟩ (by simp) rfl; exact h) (by have h := hdep ⟨13, .data⟩ (by simp) rfl; exact h) (symVT hX hsz rfl (show 17 < 18 by decide) rfl (Below.refl _ _) rfl)
  · intro A W hsz hoth hbel hX hdep
    exact kAssignV _ (.bool true) rfl rfl (by have h := hdep ⟨14, .data⟩ (by simp) rfl; exact h) (symVT hX hsz rfl (show 0 < 18 by decide) rfl (Below.refl _ _) rfl)
  intro w4 hB4
  dsimp only [AllV]
  intro hap
  dsimp only [putAll, List.take, List.drop]
  go_frame
  have hM4 := hM3.on hB4
  clear hB4 hM3 hap
  go_wp2_with fail
  go_ret
  exact ⟨rfl, hM4.below⟩
/-- the point of a pick -/
def pick (k : Nat) (b : Bool) : Pt PP := if b then (Pt.times ivP gPt k).neg else Pt.times ivP gPt k
theorem pick_on (k : Nat) (b : Bool) : (pick k b).On := by
  unfold pick; split
  · exact Pt.neg_on (goodP.times_on gPt_on k)
  · exact goodP.times_on gPt_on k
theorem pN_at (p : Pt PP) : (ptc p)[8]? = some (.bool (pN p)) := by cases p <;> rfl
theorem wcells_small (k : Nat) (hk : k < 65536) : wcells k = #[.int .u64 (k : Int), .int .u64 0, .int .u64 0, .int .u64 0] := by
  have e : ∀ j, j < 4 → (limb k j : Int) = if j = 0 then (k : Int) else 0 := fun j hj => by
    unfold limb
    rcases j with _ | j
    · rw [show P64 0 = 1 by decide, Nat.div_one, Nat.mod_eq_of_lt (by omega)]; rfl
    · have : k < P64 (j + 1) := by
        have h1 : P64 1 ≤ P64 (j + 1) := Nat.pow_le_pow_right (by decide) (by omega)
        have h2 : 65536 < P64 1 := by decide
        omega
      rw [Nat.div_eq_of_lt this]; simp
  rw [wcells_lit, e 0 (by decide), e 1 (by decide), e 2 (by decide), e 3 (by decide)]; rfl
theorem built_w1 (v : Int) : Tryd.prog.built 24 [(0, .int .u64 v)] = some #[.int .u64 v, .int .u64 0, .int .u64 0, .int .u64 0] := by kernel_rfl
section
variable {ops : Array Oper} {Q : Exit → Act → World → Prop} {rest : List Oper} {o : Oper} {a : Act} {w : World}
theorem kBuildW1 (x : Operand) (k : Nat) (hk : k < 65536) (ho : o.op = .build 24 #[(0, x)]) (hg : Region.wanted o (yielded ops a.tmps) = true) (hx : a.eval x = .int .u64 (k : Int)) (h : wpList Tryd.prog ops Q rest (a.put o.dst (.agg (wcells k))) w) : wpList Tryd.prog ops Q (o :: rest) a w :=
  kBuildAny _ _ #[(0, .int .u64 (k : Int))] _ ho hg (by simp [hx]) (by rw [wcells_small k hk]; exact built_w1 _) h
theorem kConvU16 (x : Operand) (k : Nat) (hk : k < 65536) (ho : o.op = .convert 39 22 x) (hg : Region.wanted o (yielded ops a.tmps) = true) (hx : a.eval x = .int .u16 (k : Int)) (h : wpList Tryd.prog ops Q rest (a.put o.dst (.int .u64 (k : Int))) w) : wpList Tryd.prog ops Q (o :: rest) a w := by
  refine kPure _ hg ?_ h
  unfold execOp
  have e : IntKind.u64.wrap (k : Int) = (k : Int) := by rw [IntKind.wrap_u64]; omega
  simp [ho, hx, convert, run_underlying Tryd.underlying22, run_underlying Tryd.underlying39, e, Conv.intToInt]
end
set_option maxRecDepth 100000 in
set_option maxHeartbeats 8000000 in
theorem pickOf_any {k : Nat} (hk : k < 65536) (b : Bool) (w : World) : Calls Tryd.prog 19 #[.agg #[.int .u16 (k : Int), .bool b]] w fun e w' => e = .returned (.agg (ptc (pick k b))) ∧ Below w.heap.size w w' := by
  have mk : k < M256 := Nat.lt_trans hk (by decide)
  cases b with
  | false =>
    have hM0 := mm_nil w
    (try unfold WV)
    go_enter Tryd.func19, Tryd.ntmps19
    go_wp2_with (first
      | ((with_reducible change wpList _ _ _ (Oper.mk (some 1) _ _ _ _ _ :: _) _ _); refine mmBox hM0 _ _ (#[.int .u16 ((k : Int)), .bool false]) rfl rfl rfl ?_; intro w1 hM1; clear hM0; go_frame)
      | ((with_reducible change wpList _ _ _ (Oper.mk (some 2) _ _ _ _ _ :: _) _ _); refine mmAlloc hM1 _ _ rfl rfl zero_Point ?_; intro w2 hM2; clear hM1; go_frame))
    refine region_symT 7 _ [6] [3] [.val (.pointer (some ⟨w.heap.size, 0, none⟩)), .val (.int .u16 ((k : Int))), .val (.int .u64 ((k : Int))), .val (.agg (wcells k)), .val (.agg (ptc gPt)), .val (.agg (ptc (Pt.times ivP gPt k))), .hold w2.heap.size 30 (pcells 0 0 false)] rfl (by kernel_rfl) (by kernel_rfl) (by kernel_rfl) (by kernel_rfl) rfl (by intro s hs; simp only [List.mem_cons, List.not_mem_nil, or_false] at hs; rcases hs with rfl <;> rfl) (steps_all ⟨?_, ?_, ?_, ?_, ?_, ?_, ?_, trivial⟩) ?_
    · intro A W hsz hoth hbel hX hdep
      exact kFieldPick0 _ _ rfl rfl ((hoth 1 (free2_of (by kernel_rfl))).trans rfl) (symVT hX hsz rfl (show 4 < 20 by decide) rfl (Below.refl _ _) rfl)
    · intro A W hsz hoth hbel hX hdep
      exact kLoad1 _ _ _ _ _ _ _ _ rfl rfl (by have h := hdep ⟨0, .data⟩ (by simp) rfl; exact h) ((hM2.get 1 rfl).on hbel) Tryd.underlying39 rfl rfl (symVT hX hsz rfl (show 5 < 20 by decide) rfl (Below.refl _ _) rfl)
    · intro A W hsz hoth hbel hX hdep
      exact kConvU16 _ k hk rfl rfl (by have h := hdep ⟨1, .data⟩ (by simp) rfl; exact h)  (symVT hX hsz rfl (show 6 < 20 by decide) rfl (Below.refl _ _) rfl)
    · intro A W hsz hoth hbel hX hdep
      exact kBuildW1 _ k hk rfl rfl (by have h := hdep ⟨2, .data⟩ (by simp) rfl; exact h) (symVT hX hsz rfl (show 7 < 20 by decide) rfl (Below.refl _ _) rfl)
    · intro A W hsz hoth hbel hX hdep
      refine kCall0 26 _ rfl rfl (by kernel_rfl)  ?_
      refine (eBase_any W).mono ?_
      rintro e r ⟨rfl, hBc⟩
      exact ⟨_, rfl, (symVT hX hsz rfl (show 8 < 20 by decide) rfl hBc rfl)⟩
    · intro A W hsz hoth hbel hX hdep
      refine kCall2 25 _ _ _ _ _ rfl rfl (by kernel_rfl) (by have h := hdep ⟨3, .data⟩ (by simp) rfl; exact h) (by have h := hdep ⟨4, .data⟩ (by simp) rfl; exact h) ?_
      refine (eTimes_pt mk gPt_on W).mono ?_
      rintro e r ⟨rfl, hBc⟩
      exact ⟨_, rfl, (symVT hX hsz rfl (show 9 < 20 by decide) rfl hBc rfl)⟩
    · intro A W hsz hoth hbel hX hdep
      refine kAllocL _ _ rfl rfl zero_Point ?_
      intro r hR hl hBc
      exact (symAT hX hsz rfl (show 3 < 20 by decide) hl hBc ⟨_, rfl, hbel.size, hR⟩)
    intro w3 hB3
    dsimp only [AllV]
    intro g3_3 hg3_3 hR3_3
    intro hap
    dsimp only [putAll, List.take, List.drop]
    go_frame
    have hM3 := hM2.on hB3
    replace hM3 := hM3.cons hR3_3 (Nat.le_trans hM2.size hg3_3) (fun p hp => by have := hM2.lt hp; omega)
    clear hB3 hM2 hap hg3_3 hR3_3
    go_wp2_with (first
      | ((with_reducible change wpList _ _ _ (Oper.mk none (Op.store _ (Operand.tmp 3) (Operand.tmp 9)) _ _ _ _ :: _) _ _); refine mmStoreAt hM3 0 _ _ _ _ _ _ (ptc (Pt.times ivP gPt k)) rfl rfl rfl rfl rfl (info_ptc _) (by simp only [pcells_size, ptc_size]) (ptc_one _) ?_; intro w4 hM4; dsimp only [List.set] at hM4; clear hM3; go_frame)
      | ((with_reducible change wpList _ _ _ (Oper.mk (some 10) _ _ _ _ _ :: _) _ _); refine kFieldPick1 _ _ rfl rfl rfl ?_; go_frame)
      | ((with_reducible change wpList _ _ _ (Oper.mk (some 11) _ _ _ _ _ :: _) _ _); refine kLoad1 _ _ _ _ _ _ _ _ rfl rfl rfl (hM4.get 2 rfl) Tryd.underlying4 rfl rfl ?_; go_frame)
      | ((with_reducible change wpList _ _ _ (Oper.mk (some 19) _ _ _ _ _ :: _) _ _); refine kLoadRow _ _ _ _ _ _ rfl rfl rfl (hM4.get 0 rfl) Tryd.underlying30 rfl (info_ptc _) ?_; go_frame)
      | ((with_reducible change wpList _ _ _ (Oper.mk none (Op.store _ (Operand.tmp 2) (Operand.tmp 19)) _ _ _ _ :: _) _ _); refine mmStoreAt hM4 1 _ _ _ _ _ _ (ptc (Pt.times ivP gPt k)) rfl rfl rfl rfl rfl (info_ptc _) (by simp only [pcells_size, ptc_size]) (ptc_one _) ?_; intro w5 hM5; dsimp only [List.set] at hM5; clear hM4; go_frame))
    exact result_row Tryd.results19 rfl (hM5.get 1 rfl) Tryd.underlying30 rfl (info_ptc _) rfl ⟨rfl, hM5.below⟩
  | true =>
    cases hq : Pt.times ivP gPt k with
    | o =>
      have F14 := Lib.hid (show (ptc (Pt.times ivP gPt k))[8]? = some (.bool true) by rw [hq]; rfl)
      have R := Lib.hid (show ptc (Pt.times ivP gPt k) = ptc (pick k true) by unfold pick; rw [if_pos rfl, hq]; rfl)
      clear hq
      have hM0 := mm_nil w
      (try unfold WV)
      go_enter Tryd.func19, Tryd.ntmps19
      go_wp2_with (first
        | ((with_reducible change wpList _ _ _ (Oper.mk (some 1) _ _ _ _ _ :: _) _ _); refine mmBox hM0 _ _ (#[.int .u16 ((k : Int)), .bool true]) rfl rfl rfl ?_; intro w1 hM1; clear hM0; go_frame)
        | ((with_reducible change wpList _ _ _ (Oper.mk (some 2) _ _ _ _ _ :: _) _ _); refine mmAlloc hM1 _ _ rfl rfl zero_Point ?_; intro w2 hM2; clear hM1; go_frame))
      refine region_symT 7 _ [6] [3] [.val (.pointer (some ⟨w.heap.size, 0, none⟩)), .val (.int .u16 ((k : Int))), .val (.int .u64 ((k : Int))), .val (.agg (wcells k)), .val (.agg (ptc gPt)), .val (.agg (ptc (Pt.times ivP gPt k))), .hold w2.heap.size 30 (pcells 0 0 false)] rfl (by kernel_rfl) (by kernel_rfl) (by kernel_rfl) (by kernel_rfl) rfl (by intro s hs; simp only [List.mem_cons, List.not_mem_nil, or_false] at hs; rcases hs with rfl <;> rfl) (steps_all ⟨?_, ?_, ?_, ?_, ?_, ?_, ?_, trivial⟩) ?_
      · intro A W hsz hoth hbel hX hdep
        exact kFieldPick0 _ _ rfl rfl ((hoth 1 (free2_of (by kernel_rfl))).trans rfl) (symVT hX hsz rfl (show 4 < 20 by decide) rfl (Below.refl _ _) rfl)
      · intro A W hsz hoth hbel hX hdep
        exact kLoad1 _ _ _ _ _ _ _ _ rfl rfl (by have h := hdep ⟨0, .data⟩ (by simp) rfl; exact h) ((hM2.get 1 rfl).on hbel) Tryd.underlying39 rfl rfl (symVT hX hsz rfl (show 5 < 20 by decide) rfl (Below.refl _ _) rfl)
      · intro A W hsz hoth hbel hX hdep
        exact kConvU16 _ k hk rfl rfl (by have h := hdep ⟨1, .data⟩ (by simp) rfl; exact h)  (symVT hX hsz rfl (show 6 < 20 by decide) rfl (Below.refl _ _) rfl)
      · intro A W hsz hoth hbel hX hdep
        exact kBuildW1 _ k hk rfl rfl (by have h := hdep ⟨2, .data⟩ (by simp) rfl; exact h) (symVT hX hsz rfl (show 7 < 20 by decide) rfl (Below.refl _ _) rfl)
      · intro A W hsz hoth hbel hX hdep
        refine kCall0 26 _ rfl rfl (by kernel_rfl)  ?_
        refine (eBase_any W).mono ?_
        rintro e r ⟨rfl, hBc⟩
        exact ⟨_, rfl, (symVT hX hsz rfl (show 8 < 20 by decide) rfl hBc rfl)⟩
      · intro A W hsz hoth hbel hX hdep
        refine kCall2 25 _ _ _ _ _ rfl rfl (by kernel_rfl) (by have h := hdep ⟨3, .data⟩ (by simp) rfl; exact h) (by have h := hdep ⟨4, .data⟩ (by simp) rfl; exact h) ?_
        refine (eTimes_pt mk gPt_on W).mono ?_
        rintro e r ⟨rfl, hBc⟩
        exact ⟨_, rfl, (symVT hX hsz rfl (show 9 < 20 by decide) rfl hBc rfl)⟩
      · intro A W hsz hoth hbel hX hdep
        refine kAllocL _ _ rfl rfl zero_Point ?_
        intro r hR hl hBc
        exact (symAT hX hsz rfl (show 3 < 20 by decide) hl hBc ⟨_, rfl, hbel.size, hR⟩)
      intro w3 hB3
      dsimp only [AllV]
      intro g3_3 hg3_3 hR3_3
      intro hap
      dsimp only [putAll, List.take, List.drop]
      go_frame
      have hM3 := hM2.on hB3
      replace hM3 := hM3.cons hR3_3 (Nat.le_trans hM2.size hg3_3) (fun p hp => by have := hM2.lt hp; omega)
      clear hB3 hM2 hap hg3_3 hR3_3
      go_wp2_with (first
        | ((with_reducible change wpList _ _ _ (Oper.mk none (Op.store _ (Operand.tmp 3) (Operand.tmp 9)) _ _ _ _ :: _) _ _); refine mmStoreAt hM3 0 _ _ _ _ _ _ (ptc (Pt.times ivP gPt k)) rfl rfl rfl rfl rfl (info_ptc _) (by simp only [pcells_size, ptc_size]) (ptc_one _) ?_; intro w4 hM4; dsimp only [List.set] at hM4; clear hM3; go_frame)
        | ((with_reducible change wpList _ _ _ (Oper.mk (some 10) _ _ _ _ _ :: _) _ _); refine kFieldPick1 _ _ rfl rfl rfl ?_; go_frame)
        | ((with_reducible change wpList _ _ _ (Oper.mk (some 11) _ _ _ _ _ :: _) _ _); refine kLoad1 _ _ _ _ _ _ _ _ rfl rfl rfl (hM4.get 2 rfl) Tryd.underlying4 rfl rfl ?_; go_frame)
        | ((with_reducible change wpList _ _ _ (Oper.mk (some 13) _ _ _ _ _ :: _) _ _); refine kFieldPoint2 _ _ rfl rfl rfl ?_; go_frame)
        | ((with_reducible change wpList _ _ _ (Oper.mk (some 14) _ _ _ _ _ :: _) _ _); refine kLoad1 _ _ _ _ _ _ _ _ rfl rfl rfl (hM4.get 0 rfl) Tryd.underlying4 rfl (F14.out) ?_; go_frame)
        | ((with_reducible change wpList _ _ _ (Oper.mk (some 19) _ _ _ _ _ :: _) _ _); refine kLoadRow _ _ _ _ _ _ rfl rfl rfl (hM4.get 0 rfl) Tryd.underlying30 rfl (info_ptc _) ?_; go_frame)
        | ((with_reducible change wpList _ _ _ (Oper.mk none (Op.store _ (Operand.tmp 2) (Operand.tmp 19)) _ _ _ _ :: _) _ _); refine mmStoreAt hM4 1 _ _ _ _ _ _ (ptc (Pt.times ivP gPt k)) rfl rfl rfl rfl rfl (info_ptc _) (by simp only [pcells_size, ptc_size]) (ptc_one _) ?_; intro w5 hM5; dsimp only [List.set] at hM5; clear hM4; go_frame))
      exact result_row Tryd.results19 rfl (hM5.get 1 rfl) Tryd.underlying30 rfl (info_ptc _) rfl ⟨by rw [R.out], hM5.below⟩
    | mk qx qy =>
      have F14 := Lib.hid (show (ptc (Pt.times ivP gPt k))[8]? = some (.bool false) by rw [hq]; rfl)
      clear hq
      have hM0 := mm_nil w
      (try unfold WV)
      go_enter Tryd.func19, Tryd.ntmps19
      go_wp2_with (first
        | ((with_reducible change wpList _ _ _ (Oper.mk (some 1) _ _ _ _ _ :: _) _ _); refine mmBox hM0 _ _ (#[.int .u16 ((k : Int)), .bool true]) rfl rfl rfl ?_; intro w1 hM1; clear hM0; go_frame)
        | ((with_reducible change wpList _ _ _ (Oper.mk (some 2) _ _ _ _ _ :: _) _ _); refine mmAlloc hM1 _ _ rfl rfl zero_Point ?_; intro w2 hM2; clear hM1; go_frame))
      refine region_symT 7 _ [6] [3] [.val (.pointer (some ⟨w.heap.size, 0, none⟩)), .val (.int .u16 ((k : Int))), .val (.int .u64 ((k : Int))), .val (.agg (wcells k)), .val (.agg (ptc gPt)), .val (.agg (ptc (Pt.times ivP gPt k))), .hold w2.heap.size 30 (pcells 0 0 false)] rfl (by kernel_rfl) (by kernel_rfl) (by kernel_rfl) (by kernel_rfl) rfl (by intro s hs; simp only [List.mem_cons, List.not_mem_nil, or_false] at hs; rcases hs with rfl <;> rfl) (steps_all ⟨?_, ?_, ?_, ?_, ?_, ?_, ?_, trivial⟩) ?_
      · intro A W hsz hoth hbel hX hdep
        exact kFieldPick0 _ _ rfl rfl ((hoth 1 (free2_of (by kernel_rfl))).trans rfl) (symVT hX hsz rfl (show 4 < 20 by decide) rfl (Below.refl _ _) rfl)
      · intro A W hsz hoth hbel hX hdep
        exact kLoad1 _ _ _ _ _ _ _ _ rfl rfl (by have h := hdep ⟨0, .data⟩ (by simp) rfl; exact h) ((hM2.get 1 rfl).on hbel) Tryd.underlying39 rfl rfl (symVT hX hsz rfl (show 5 < 20 by decide) rfl (Below.refl _ _) rfl)
      · intro A W hsz hoth hbel hX hdep
        exact kConvU16 _ k hk rfl rfl (by have h := hdep ⟨1, .data⟩ (by simp) rfl; exact h)  (symVT hX hsz rfl (show 6 < 20 by decide) rfl (Below.refl _ _) rfl)
      · intro A W hsz hoth hbel hX hdep
        exact kBuildW1 _ k hk rfl rfl (by have h := hdep ⟨2, .data⟩ (by simp) rfl; exact h) (symVT hX hsz rfl (show 7 < 20 by decide) rfl (Below.refl _ _) rfl)
      · intro A W hsz hoth hbel hX hdep
        refine kCall0 26 _ rfl rfl (by kernel_rfl)  ?_
        refine (eBase_any W).mono ?_
        rintro e r ⟨rfl, hBc⟩
        exact ⟨_, rfl, (symVT hX hsz rfl (show 8 < 20 by decide) rfl hBc rfl)⟩
      · intro A W hsz hoth hbel hX hdep
        refine kCall2 25 _ _ _ _ _ rfl rfl (by kernel_rfl) (by have h := hdep ⟨3, .data⟩ (by simp) rfl; exact h) (by have h := hdep ⟨4, .data⟩ (by simp) rfl; exact h) ?_
        refine (eTimes_pt mk gPt_on W).mono ?_
        rintro e r ⟨rfl, hBc⟩
        exact ⟨_, rfl, (symVT hX hsz rfl (show 9 < 20 by decide) rfl hBc rfl)⟩
      · intro A W hsz hoth hbel hX hdep
        refine kAllocL _ _ rfl rfl zero_Point ?_
        intro r hR hl hBc
        exact (symAT hX hsz rfl (show 3 < 20 by decide) hl hBc ⟨_, rfl, hbel.size, hR⟩)
      intro w3 hB3
      dsimp only [AllV]
      intro g3_3 hg3_3 hR3_3
      intro hap
      dsimp only [putAll, List.take, List.drop]
      go_frame
      have hM3 := hM2.on hB3
      replace hM3 := hM3.cons hR3_3 (Nat.le_trans hM2.size hg3_3) (fun p hp => by have := hM2.lt hp; omega)
      clear hB3 hM2 hap hg3_3 hR3_3
      go_wp2_with (first
        | ((with_reducible change wpList _ _ _ (Oper.mk none (Op.store _ (Operand.tmp 3) (Operand.tmp 9)) _ _ _ _ :: _) _ _); refine mmStoreAt hM3 0 _ _ _ _ _ _ (ptc (Pt.times ivP gPt k)) rfl rfl rfl rfl rfl (info_ptc _) (by simp only [pcells_size, ptc_size]) (ptc_one _) ?_; intro w4 hM4; dsimp only [List.set] at hM4; clear hM3; go_frame)
        | ((with_reducible change wpList _ _ _ (Oper.mk (some 10) _ _ _ _ _ :: _) _ _); refine kFieldPick1 _ _ rfl rfl rfl ?_; go_frame)
        | ((with_reducible change wpList _ _ _ (Oper.mk (some 11) _ _ _ _ _ :: _) _ _); refine kLoad1 _ _ _ _ _ _ _ _ rfl rfl rfl (hM4.get 2 rfl) Tryd.underlying4 rfl rfl ?_; go_frame)
        | ((with_reducible change wpList _ _ _ (Oper.mk (some 13) _ _ _ _ _ :: _) _ _); refine kFieldPoint2 _ _ rfl rfl rfl ?_; go_frame)
        | ((with_reducible change wpList _ _ _ (Oper.mk (some 14) _ _ _ _ _ :: _) _ _); refine kLoad1 _ _ _ _ _ _ _ _ rfl rfl rfl (hM4.get 0 rfl) Tryd.underlying4 rfl (F14.out) ?_; go_frame)
        | ((with_reducible change wpList _ _ _ (Oper.mk (some 17) _ _ _ _ _ :: _) _ _); refine kLoadRow _ _ _ _ _ _ rfl rfl rfl (hM4.get 0 rfl) Tryd.underlying30 rfl (info_ptc _) ?_; go_frame)
        | (go_at_call 23; (with_reducible change Calls _ _ #[Value.agg (ptc (Pt.times ivP gPt k))] _ _); refine (eNeg_pt (Pt.times ivP gPt k) _).mono ?_; rintro e w5 ⟨rfl, hB5⟩; have hM5 := hM4.on hB5; clear hB5 hM4; (try unfold WV); go_frame)
        | ((with_reducible change wpList _ _ _ (Oper.mk none (Op.store _ (Operand.tmp 3) (Operand.tmp 18)) _ _ _ _ :: _) _ _); refine mmStoreAt hM5 0 _ _ _ _ _ _ (ptc ((Pt.times ivP gPt k).neg)) rfl rfl rfl rfl rfl (info_ptc _) (by simp only [ptc_size]) (ptc_one _) ?_; intro w6 hM6; dsimp only [List.set] at hM6; clear hM5; go_frame)
        | ((with_reducible change wpList _ _ _ (Oper.mk (some 19) _ _ _ _ _ :: _) _ _); refine kLoadRow _ _ _ _ _ _ rfl rfl rfl (hM6.get 0 rfl) Tryd.underlying30 rfl (info_ptc _) ?_; go_frame)
        | ((with_reducible change wpList _ _ _ (Oper.mk none (Op.store _ (Operand.tmp 2) (Operand.tmp 19)) _ _ _ _ :: _) _ _); refine mmStoreAt hM6 1 _ _ _ _ _ _ (ptc ((Pt.times ivP gPt k).neg)) rfl rfl rfl rfl rfl (info_ptc _) (by simp only [pcells_size, ptc_size]) (ptc_one _) ?_; intro w7 hM7; dsimp only [List.set] at hM7; clear hM6; go_frame))
      exact result_row Tryd.results19 rfl (hM7.get 1 rfl) Tryd.underlying30 rfl (info_ptc _) rfl ⟨rfl, hM7.below⟩
end Go.Proofs.YtecibidncelebaaDoor
