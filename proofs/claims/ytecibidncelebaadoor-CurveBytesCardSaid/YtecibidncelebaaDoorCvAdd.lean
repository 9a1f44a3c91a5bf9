/-
  Package curve: Add, Neg and On by points; '==' of points.
-/
import Derived.Test.YtecibidncelebaaDoorCvFuncs2
namespace Go.Proofs.YtecibidncelebaaDoor
open Go Go.RowKit

open Cv
set_option maxRecDepth 100000 in
set_option maxHeartbeats 8000000 in
theorem add_o (q : Pt PP) (w : World) (hO : GlobP 0 0 0 true w) :
    Calls Tryd.prog 13 #[.agg (pcells 0 0 true), .agg (ptc q)] w fun e w' => e = .returned (.agg (ptc q)) ∧ Below w.heap.size w w' := by
  have hM0 := mm_nil w
  (try unfold WV)
  go_enter Tryd.func13, Tryd.ntmps13
  go_wp2_with (first
    | ((with_reducible change wpList _ _ _ (Oper.mk (some 2) _ _ _ _ _ :: _) _ _); refine mmBox hM0 _ _ (pcells 0 0 true) rfl rfl rfl ?_; intro w1 hM1; clear hM0; go_frame)
    | ((with_reducible change wpList _ _ _ (Oper.mk (some 3) _ _ _ _ _ :: _) _ _); refine mmBox hM1 _ _ (ptc q) rfl rfl rfl ?_; intro w2 hM2; clear hM1; go_frame)
    | ((with_reducible change wpList _ _ _ (Oper.mk (some 4) _ _ _ _ _ :: _) _ _); refine mmAlloc hM2 _ _ rfl rfl zero_Point ?_; intro w3 hM3; clear hM2; go_frame)
    | ((with_reducible change wpList _ _ _ (Oper.mk (some 10) _ _ _ _ _ :: _) _ _); refine kLoadRow _ _ _ _ _ _ rfl rfl rfl (hM3.get 2 rfl) Tryd.underlying30 rfl (info_PointC _ _ _) ?_; go_frame)
    | ((with_reducible change wpList _ _ _ (Oper.mk (some 11) _ _ _ _ _ :: _) _ _); refine kLoadGP _ _ _ _ _ rfl rfl rfl (hO.below hM3.below) ?_; go_frame)
    | ((with_reducible change wpList _ _ _ (Oper.mk (some 12) _ _ _ _ _ :: _) _ _); refine kEqlP _ _ _ 0 0 true 0 0 true true rfl rfl rfl rfl (eqP_yes ⟨rfl, rfl, rfl⟩) ?_; go_frame)
    | ((with_reducible change wpList _ _ _ (Oper.mk (some 13) _ _ _ _ _ :: _) _ _); refine kLoadRow _ _ _ _ _ _ rfl rfl rfl (hM3.get 1 rfl) Tryd.underlying30 rfl (info_ptc _) ?_; go_frame)
    | ((with_reducible change wpList _ _ _ (Oper.mk none (Op.store _ (Operand.tmp 4) (Operand.tmp 13)) _ _ _ _ :: _) _ _); refine mmStoreAt hM3 0 _ _ _ _ _ _ (ptc q) rfl rfl rfl rfl rfl (info_ptc _) (by simp only [pcells_size, ptc_size]) (ptc_one _) ?_; intro w4 hM4; dsimp only [List.set] at hM4; clear hM3; go_frame))
  exact result_row Tryd.results13 rfl (hM4.get 0 rfl) Tryd.underlying30 rfl (info_ptc _) rfl ⟨rfl, hM4.below⟩
set_option maxRecDepth 100000 in
set_option maxHeartbeats 8000000 in
theorem add_no {x y : Nat} (w : World) (hO : GlobP 0 0 0 true w) :
    Calls Tryd.prog 13 #[.agg (pcells x y false), .agg (pcells 0 0 true)] w fun e w' => e = .returned (.agg (pcells x y false)) ∧ Below w.heap.size w w' := by
  have hM0 := mm_nil w
  (try unfold WV)
  go_enter Tryd.func13, Tryd.ntmps13
  go_wp2_with (first
    | ((with_reducible change wpList _ _ _ (Oper.mk (some 2) _ _ _ _ _ :: _) _ _); refine mmBox hM0 _ _ (pcells x y false) rfl rfl rfl ?_; intro w1 hM1; clear hM0; go_frame)
    | ((with_reducible change wpList _ _ _ (Oper.mk (some 3) _ _ _ _ _ :: _) _ _); refine mmBox hM1 _ _ (pcells 0 0 true) rfl rfl rfl ?_; intro w2 hM2; clear hM1; go_frame)
    | ((with_reducible change wpList _ _ _ (Oper.mk (some 4) _ _ _ _ _ :: _) _ _); refine mmAlloc hM2 _ _ rfl rfl zero_Point ?_; intro w3 hM3; clear hM2; go_frame)
    | ((with_reducible change wpList _ _ _ (Oper.mk (some 10) _ _ _ _ _ :: _) _ _); refine kLoadRow _ _ _ _ _ _ rfl rfl rfl (hM3.get 2 rfl) Tryd.underlying30 rfl (info_PointC _ _ _) ?_; go_frame)
    | ((with_reducible change wpList _ _ _ (Oper.mk (some 11) _ _ _ _ _ :: _) _ _); refine kLoadGP _ _ _ _ _ rfl rfl rfl (hO.below hM3.below) ?_; go_frame)
    | ((with_reducible change wpList _ _ _ (Oper.mk (some 12) _ _ _ _ _ :: _) _ _); refine kEqlP _ _ _ x y false 0 0 true false rfl rfl rfl rfl (eqP_none) ?_; go_frame)
    | ((with_reducible change wpList _ _ _ (Oper.mk (some 15) _ _ _ _ _ :: _) _ _); refine kLoadRow _ _ _ _ _ _ rfl rfl rfl (hM3.get 1 rfl) Tryd.underlying30 rfl (info_PointC _ _ _) ?_; go_frame)
    | ((with_reducible change wpList _ _ _ (Oper.mk (some 16) _ _ _ _ _ :: _) _ _); refine kLoadGP _ _ _ _ _ rfl rfl rfl (hO.below hM3.below) ?_; go_frame)
    | ((with_reducible change wpList _ _ _ (Oper.mk (some 17) _ _ _ _ _ :: _) _ _); refine kEqlP _ _ _ 0 0 true 0 0 true true rfl rfl rfl rfl (eqP_yes ⟨rfl, rfl, rfl⟩) ?_; go_frame)
    | ((with_reducible change wpList _ _ _ (Oper.mk (some 18) _ _ _ _ _ :: _) _ _); refine kLoadRow _ _ _ _ _ _ rfl rfl rfl (hM3.get 2 rfl) Tryd.underlying30 rfl (info_PointC _ _ _) ?_; go_frame)
    | ((with_reducible change wpList _ _ _ (Oper.mk none (Op.store _ (Operand.tmp 4) (Operand.tmp 18)) _ _ _ _ :: _) _ _); refine mmStoreAt hM3 0 _ _ _ _ _ _ (pcells x y false) rfl rfl rfl rfl rfl (info_PointC _ _ _) (by simp only [pcells_size]) (pcells_one _ _ _) ?_; intro w4 hM4; dsimp only [List.set] at hM4; clear hM3; go_frame))
  exact result_row Tryd.results13 rfl (hM4.get 0 rfl) Tryd.underlying30 rfl (info_PointC _ _ _) rfl ⟨rfl, hM4.below⟩
set_option maxRecDepth 100000 in
set_option maxHeartbeats 8000000 in
theorem add_across {x1 y1 x2 y2 : Nat} (lx1 : x1 < PP) (ly1 : y1 < PP) (lx2 : x2 < PP) (ly2 : y2 < PP) (hx : FP x2 = FP x1) (hy : FP y2 = 0 - FP y1) (w : World) (hG : Glob 2 PP w) (hO : GlobP 0 0 0 true w) :
    Calls Tryd.prog 13 #[.agg (pcells x1 y1 false), .agg (pcells x2 y2 false)] w fun e w' => e = .returned (.agg (ptc .o)) ∧ Below w.heap.size w w' := by
  obtain ⟨m, Hm⟩ : ∃ m, Hid (m = PP) := ⟨_, Lib.hid rfl⟩
  have hm : Modu m := by rw [Hm.out]; exact modu_P
  rw [← Hm.out] at hG
  have mx1 := lt_M lx1
  have my1 := lt_M ly1
  have mx2 := lt_M lx2
  have my2 := lt_M ly2
  obtain ⟨v22, Hv22⟩ : ∃ n, Hid ((0 % m + m - y1 % m) % m = n) := ⟨_, Lib.hid rfl⟩
  have mv22 : v22 < M256 := by rw [← Hv22.out]; exact hm.mod _
  have Ev22 := FPm_sub Hm.out Hv22.out
  have Lv22 := FPm_lt Hm.out Hv22.out
  have F0 : FP 0 = 0 := rfl
  have h1 := Lib.hid (FP_inj lx2 lx1 hx)
  have h2 := Lib.hid (FP_inj ly2 Lv22 (by rw [hy, Ev22, F0]))
  clear F0 hx hy Ev22 Lv22
  have hM0 := mm_nil w
  (try unfold WV)
  go_enter Tryd.func13, Tryd.ntmps13
  go_wp2_with (first
    | ((with_reducible change wpList _ _ _ (Oper.mk (some 2) _ _ _ _ _ :: _) _ _); refine mmBox hM0 _ _ (pcells x1 y1 false) rfl rfl rfl ?_; intro w1 hM1; clear hM0; go_frame)
    | ((with_reducible change wpList _ _ _ (Oper.mk (some 3) _ _ _ _ _ :: _) _ _); refine mmBox hM1 _ _ (pcells x2 y2 false) rfl rfl rfl ?_; intro w2 hM2; clear hM1; go_frame)
    | ((with_reducible change wpList _ _ _ (Oper.mk (some 4) _ _ _ _ _ :: _) _ _); refine mmAlloc hM2 _ _ rfl rfl zero_Point ?_; intro w3 hM3; clear hM2; go_frame)
    | ((with_reducible change wpList _ _ _ (Oper.mk (some 10) _ _ _ _ _ :: _) _ _); refine kLoadRow _ _ _ _ _ _ rfl rfl rfl (hM3.get 2 rfl) Tryd.underlying30 rfl (info_PointC _ _ _) ?_; go_frame)
    | ((with_reducible change wpList _ _ _ (Oper.mk (some 11) _ _ _ _ _ :: _) _ _); refine kLoadGP _ _ _ _ _ rfl rfl rfl (hO.below hM3.below) ?_; go_frame)
    | ((with_reducible change wpList _ _ _ (Oper.mk (some 12) _ _ _ _ _ :: _) _ _); refine kEqlP _ _ _ x1 y1 false 0 0 true false rfl rfl rfl rfl (eqP_none) ?_; go_frame)
    | ((with_reducible change wpList _ _ _ (Oper.mk (some 15) _ _ _ _ _ :: _) _ _); refine kLoadRow _ _ _ _ _ _ rfl rfl rfl (hM3.get 1 rfl) Tryd.underlying30 rfl (info_PointC _ _ _) ?_; go_frame)
    | ((with_reducible change wpList _ _ _ (Oper.mk (some 16) _ _ _ _ _ :: _) _ _); refine kLoadGP _ _ _ _ _ rfl rfl rfl (hO.below hM3.below) ?_; go_frame)
    | ((with_reducible change wpList _ _ _ (Oper.mk (some 17) _ _ _ _ _ :: _) _ _); refine kEqlP _ _ _ x2 y2 false 0 0 true false rfl rfl rfl rfl (eqP_none) ?_; go_frame))
  refine region_symT 5 _ [] [] [.val (.agg (pcells x2 y2 false)), .val (.agg (pcells x1 y1 false)), .val (.agg (pcells x1 v22 false)), .val (.bool true), .val (.bool true)] rfl (by kernel_rfl) (by kernel_rfl) (by kernel_rfl) (by kernel_rfl) rfl (by intro s hs; cases hs) (steps_all ⟨?_, ?_, ?_, ?_, ?_, trivial⟩) ?_
  · intro A W hsz hoth hbel hX hdep
    exact kLoadRow _ _ _ _ _ _ rfl rfl ((hoth 3 (free2_of (by kernel_rfl))).trans rfl) ((hM3.get 1 rfl).on hbel) Tryd.underlying30 rfl (info_PointC _ _ _) (symVT hX hsz rfl (show 20 < 56 by decide) rfl (Below.refl _ _) rfl)
  · intro A W hsz hoth hbel hX hdep
    exact kLoadRow _ _ _ _ _ _ rfl rfl ((hoth 2 (free2_of (by kernel_rfl))).trans rfl) ((hM3.get 2 rfl).on hbel) Tryd.underlying30 rfl (info_PointC _ _ _) (symVT hX hsz rfl (show 21 < 56 by decide) rfl (Below.refl _ _) rfl)
  · intro A W hsz hoth hbel hX hdep
    refine kCall1 22 _ _ _ rfl rfl (by kernel_rfl) (by have h := hdep ⟨1, .data⟩ (by simp) rfl; exact h) ?_
    refine (cNeg_as hm false my1 Hv22.out W ((hG.below hM3.below).below hbel)).mono ?_
    rintro e r ⟨rfl, hBc⟩
    exact ⟨_, rfl, (symVT hX hsz rfl (show 22 < 56 by decide) rfl hBc rfl)⟩
  · intro A W hsz hoth hbel hX hdep
    exact kEqlP _ _ _ x2 y2 false x1 v22 false true rfl rfl (by have h := hdep ⟨0, .data⟩ (by simp) rfl; exact h) (by have h := hdep ⟨2, .data⟩ (by simp) rfl; exact h) (eqP_yes ⟨h1.out, h2.out, rfl⟩) (symVT hX hsz rfl (show 23 < 56 by decide) rfl (Below.refl _ _) rfl)
  · intro A W hsz hoth hbel hX hdep
    exact kAssignV _ (.bool true) rfl rfl (by have h := hdep ⟨3, .data⟩ (by simp) rfl; exact h) (symVT hX hsz rfl (show 19 < 56 by decide) rfl (Below.refl _ _) rfl)
  intro w4 hB4
  dsimp only [AllV]
  intro hap
  dsimp only [putAll, List.take, List.drop]
  go_frame
  have hM4 := hM3.on hB4
  clear hB4 hM3 hap
  go_wp2_with (first
    | ((with_reducible change wpList _ _ _ (Oper.mk (some 24) _ _ _ _ _ :: _) _ _); refine kLoadGP _ _ _ _ _ rfl rfl rfl (hO.below hM4.below) ?_; go_frame)
    | ((with_reducible change wpList _ _ _ (Oper.mk none (Op.store _ (Operand.tmp 4) (Operand.tmp 24)) _ _ _ _ :: _) _ _); refine mmStoreAt hM4 0 _ _ _ _ _ _ (pcells 0 0 true) rfl rfl rfl rfl rfl (info_PointC _ _ _) (by simp only [pcells_size]) (pcells_one _ _ _) ?_; intro w5 hM5; dsimp only [List.set] at hM5; clear hM4; go_frame))
  exact result_row Tryd.results13 rfl (hM5.get 0 rfl) Tryd.underlying30 rfl (info_PointC _ _ _) rfl ⟨rfl, hM5.below⟩
set_option maxRecDepth 100000 in
set_option maxHeartbeats 8000000 in
theorem add_same {x1 y1 : Nat} (lx1 : x1 < PP) (ly1 : y1 < PP) (hy : FP y1 + FP y1 ≠ 0) (w : World) (hG : Glob 2 PP w) (hO : GlobP 0 0 0 true w) :
    Calls Tryd.prog 13 #[.agg (pcells x1 y1 false), .agg (pcells x1 y1 false)] w fun e w' => e = .returned (.agg (ptc (Pt.rise (3 * (FP x1 * FP x1) * ivP (FP y1 + FP y1)) (FP x1) (FP y1) (FP x1)))) ∧ Below w.heap.size w w' := by
  obtain ⟨m, Hm⟩ : ∃ m, Hid (m = PP) := ⟨_, Lib.hid rfl⟩
  have hm : Modu m := by rw [Hm.out]; exact modu_P
  rw [← Hm.out] at hG
  have mx1 := lt_M lx1
  have my1 := lt_M ly1
  obtain ⟨s, Hs⟩ : ∃ s, Hid ((3 * (FP x1 * FP x1) * ivP (FP y1 + FP y1) : Fin PP).val = s) := ⟨_, Lib.hid rfl⟩
  have ms : s < M256 := by rw [← Hs.out]; exact val_lt _
  have Fs : FP s = 3 * (FP x1 * FP x1) * ivP (FP y1 + FP y1) := by rw [← Hs.out, FP_of_val]
  obtain ⟨v22, Hv22⟩ : ∃ n, Hid ((0 % m + m - y1 % m) % m = n) := ⟨_, Lib.hid rfl⟩
  have mv22 : v22 < M256 := by rw [← Hv22.out]; exact hm.mod _
  obtain ⟨v34, Hv34⟩ : ∃ n, Hid (s * s % m = n) := ⟨_, Lib.hid rfl⟩
  have mv34 : v34 < M256 := by rw [← Hv34.out]; exact hm.mod _
  obtain ⟨v37, Hv37⟩ : ∃ n, Hid ((v34 % m + m - x1 % m) % m = n) := ⟨_, Lib.hid rfl⟩
  have mv37 : v37 < M256 := by rw [← Hv37.out]; exact hm.mod _
  obtain ⟨v40, Hv40⟩ : ∃ n, Hid ((v37 % m + m - x1 % m) % m = n) := ⟨_, Lib.hid rfl⟩
  have mv40 : v40 < M256 := by rw [← Hv40.out]; exact hm.mod _
  obtain ⟨v48, Hv48⟩ : ∃ n, Hid ((x1 % m + m - v40 % m) % m = n) := ⟨_, Lib.hid rfl⟩
  have mv48 : v48 < M256 := by rw [← Hv48.out]; exact hm.mod _
  obtain ⟨v49, Hv49⟩ : ∃ n, Hid (s * v48 % m = n) := ⟨_, Lib.hid rfl⟩
  have mv49 : v49 < M256 := by rw [← Hv49.out]; exact hm.mod _
  obtain ⟨v52, Hv52⟩ : ∃ n, Hid ((v49 % m + m - y1 % m) % m = n) := ⟨_, Lib.hid rfl⟩
  have mv52 : v52 < M256 := by rw [← Hv52.out]; exact hm.mod _
  have Ev22 := FPm_sub Hm.out Hv22.out
  have Lv22 := FPm_lt Hm.out Hv22.out
  have Ev34 := FPm_mul Hm.out Hv34.out
  have Lv34 := FPm_lt Hm.out Hv34.out
  have Ev37 := FPm_sub Hm.out Hv37.out
  have Lv37 := FPm_lt Hm.out Hv37.out
  have Ev40 := FPm_sub Hm.out Hv40.out
  have Lv40 := FPm_lt Hm.out Hv40.out
  have Ev48 := FPm_sub Hm.out Hv48.out
  have Lv48 := FPm_lt Hm.out Hv48.out
  have Ev49 := FPm_mul Hm.out Hv49.out
  have Lv49 := FPm_lt Hm.out Hv49.out
  have Ev52 := FPm_sub Hm.out Hv52.out
  have Lv52 := FPm_lt Hm.out Hv52.out
  have F0 : FP 0 = 0 := rfl
  have h23 := Lib.hid (show y1 ≠ v22 from fun e => hy (by rw [show FP y1 + FP y1 = FP y1 + FP v22 by rw [← e], Ev22, F0]; clear hy e Fs F0 Ev22 Lv22 Ev34 Lv34 Ev37 Lv37 Ev40 Lv40 Ev48 Lv48 Ev49 Lv49 Ev52 Lv52; grobner))
  have hS := Lib.hid hy
  have R := Lib.hid (show Value.agg (pcells v40 v52 false) = .agg (ptc (Pt.rise (3 * (FP x1 * FP x1) * ivP (FP y1 + FP y1)) (FP x1) (FP y1) (FP x1))) by
    have R1 := val_of Lv40 (show FP v40 = (3 * (FP x1 * FP x1) * ivP (FP y1 + FP y1)) * (3 * (FP x1 * FP x1) * ivP (FP y1 + FP y1)) - FP x1 - FP x1 by simp only [Ev40, Ev37, Ev34, Fs])
    have R2 := val_of Lv52 (show FP v52 = (3 * (FP x1 * FP x1) * ivP (FP y1 + FP y1)) * (FP x1 - ((3 * (FP x1 * FP x1) * ivP (FP y1 + FP y1)) * (3 * (FP x1 * FP x1) * ivP (FP y1 + FP y1)) - FP x1 - FP x1)) - FP y1 by simp only [Ev52, Ev49, Fs, Ev48, Ev40, Ev37, Ev34])
    rw [R1, R2]; rfl)
  clear hy F0 Fs Ev22 Lv22 Ev34 Lv34 Ev37 Lv37 Ev40 Lv40 Ev48 Lv48 Ev49 Lv49 Ev52 Lv52
  have hM0 := mm_nil w
  (try unfold WV)
  go_enter Tryd.func13, Tryd.ntmps13
  go_wp2_with (first
    | ((with_reducible change wpList _ _ _ (Oper.mk (some 2) _ _ _ _ _ :: _) _ _); refine mmBox hM0 _ _ (pcells x1 y1 false) rfl rfl rfl ?_; intro w1 hM1; clear hM0; go_frame)
    | ((with_reducible change wpList _ _ _ (Oper.mk (some 3) _ _ _ _ _ :: _) _ _); refine mmBox hM1 _ _ (pcells x1 y1 false) rfl rfl rfl ?_; intro w2 hM2; clear hM1; go_frame)
    | ((with_reducible change wpList _ _ _ (Oper.mk (some 4) _ _ _ _ _ :: _) _ _); refine mmAlloc hM2 _ _ rfl rfl zero_Point ?_; intro w3 hM3; clear hM2; go_frame)
    | ((with_reducible change wpList _ _ _ (Oper.mk (some 10) _ _ _ _ _ :: _) _ _); refine kLoadRow _ _ _ _ _ _ rfl rfl rfl (hM3.get 2 rfl) Tryd.underlying30 rfl (info_PointC _ _ _) ?_; go_frame)
    | ((with_reducible change wpList _ _ _ (Oper.mk (some 11) _ _ _ _ _ :: _) _ _); refine kLoadGP _ _ _ _ _ rfl rfl rfl (hO.below hM3.below) ?_; go_frame)
    | ((with_reducible change wpList _ _ _ (Oper.mk (some 12) _ _ _ _ _ :: _) _ _); refine kEqlP _ _ _ x1 y1 false 0 0 true false rfl rfl rfl rfl (eqP_none) ?_; go_frame)
    | ((with_reducible change wpList _ _ _ (Oper.mk (some 15) _ _ _ _ _ :: _) _ _); refine kLoadRow _ _ _ _ _ _ rfl rfl rfl (hM3.get 1 rfl) Tryd.underlying30 rfl (info_PointC _ _ _) ?_; go_frame)
    | ((with_reducible change wpList _ _ _ (Oper.mk (some 16) _ _ _ _ _ :: _) _ _); refine kLoadGP _ _ _ _ _ rfl rfl rfl (hO.below hM3.below) ?_; go_frame)
    | ((with_reducible change wpList _ _ _ (Oper.mk (some 17) _ _ _ _ _ :: _) _ _); refine kEqlP _ _ _ x1 y1 false 0 0 true false rfl rfl rfl rfl (eqP_none) ?_; go_frame))
  refine region_symT 5 _ [] [] [.val (.agg (pcells x1 y1 false)), .val (.agg (pcells x1 y1 false)), .val (.agg (pcells x1 v22 false)), .val (.bool false), .val (.bool false)] rfl (by kernel_rfl) (by kernel_rfl) (by kernel_rfl) (by kernel_rfl) rfl (by intro s hs; cases hs) (steps_all ⟨?_, ?_, ?_, ?_, ?_, trivial⟩) ?_
  · intro A W hsz hoth hbel hX hdep
    exact kLoadRow _ _ _ _ _ _ rfl rfl ((hoth 3 (free2_of (by kernel_rfl))).trans rfl) ((hM3.get 1 rfl).on hbel) Tryd.underlying30 rfl (info_PointC _ _ _) (symVT hX hsz rfl (show 20 < 56 by decide) rfl (Below.refl _ _) rfl)
  · intro A W hsz hoth hbel hX hdep
    exact kLoadRow _ _ _ _ _ _ rfl rfl ((hoth 2 (free2_of (by kernel_rfl))).trans rfl) ((hM3.get 2 rfl).on hbel) Tryd.underlying30 rfl (info_PointC _ _ _) (symVT hX hsz rfl (show 21 < 56 by decide) rfl (Below.refl _ _) rfl)
  · intro A W hsz hoth hbel hX hdep
    refine kCall1 22 _ _ _ rfl rfl (by kernel_rfl) (by have h := hdep ⟨1, .data⟩ (by simp) rfl; exact h) ?_
    refine (cNeg_as hm false my1 Hv22.out W ((hG.below hM3.below).below hbel)).mono ?_
    rintro e r ⟨rfl, hBc⟩
    exact ⟨_, rfl, (symVT hX hsz rfl (show 22 < 56 by decide) rfl hBc rfl)⟩
  · intro A W hsz hoth hbel hX hdep
    exact kEqlP _ _ _ x1 y1 false x1 v22 false false rfl rfl (by have h := hdep ⟨0, .data⟩ (by simp) rfl; exact h) (by have h := hdep ⟨2, .data⟩ (by simp) rfl; exact h) (eqP_no mx1 my1 mx1 mv22 (fun e => h23.out e.2.1)) (symVT hX hsz rfl (show 23 < 56 by decide) rfl (Below.refl _ _) rfl)
  · intro A W hsz hoth hbel hX hdep
    exact kAssignV _ (.bool false) rfl rfl (by have h := hdep ⟨3, .data⟩ (by simp) rfl; exact h) (symVT hX hsz rfl (show 19 < 56 by decide) rfl (Below.refl _ _) rfl)
  intro w4 hB4
  dsimp only [AllV]
  intro hap
  dsimp only [putAll, List.take, List.drop]
  go_frame
  have hM4 := hM3.on hB4
  clear hB4 hM3 hap
  go_wp2_with (first
    | (go_at_call 32; refine (fP_any m _ (hG.below hM4.below)).mono ?_; rintro e w5 ⟨rfl, hR5, hB5⟩; have hM5 := hM4.new hR5 hB5; clear hB5 hR5 hM4; go_frame)
    | ((with_reducible change wpList _ _ _ (Oper.mk (some 26) _ _ _ _ _ :: _) _ _); refine kLoadRow _ _ _ _ _ _ rfl rfl rfl (hM5.get 3 rfl) Tryd.underlying30 rfl (info_PointC _ _ _) ?_; go_frame)
    | ((with_reducible change wpList _ _ _ (Oper.mk (some 27) _ _ _ _ _ :: _) _ _); refine kLoadRow _ _ _ _ _ _ rfl rfl rfl (hM5.get 2 rfl) Tryd.underlying30 rfl (info_PointC _ _ _) ?_; go_frame)
    | (go_at_call 36; (with_reducible change Calls _ _ #[Value.agg (pcells x1 y1 false), Value.agg (pcells x1 y1 false)] _ _); refine (rise_same Hm.out lx1 ly1 hS.out Hs.out _ (hG.below hM5.below)).mono ?_; rintro e w6 ⟨rfl, hB6⟩; have hM6 := hM5.on hB6; clear hB6 hM5; (try unfold WV); go_frame)
    | ((with_reducible change wpList _ _ _ (Oper.mk (some 6) _ _ _ _ _ :: _) _ _); refine mmAlloc hM6 _ _ rfl rfl zero_Wide ?_; intro w7 hM7; clear hM6; go_frame)
    | ((with_reducible change wpList _ _ _ (Oper.mk none (Op.store _ (Operand.tmp 6) (Operand.tmp 28)) _ _ _ _ :: _) _ _); refine mmStoreAt hM7 0 _ _ _ _ _ _ (wcells s) rfl rfl rfl rfl rfl (info_WideC _) (by simp only [wcells_size]) (wcells_one _) ?_; intro w8 hM8; dsimp only [List.set] at hM8; clear hM7; go_frame))
  refine region_symT 13 _ [12] [7] [.val (.pointer (some ⟨w4.heap.size, 0, none⟩)), .val (.pointer (some ⟨w4.heap.size, 0, none⟩)), .val (.pointer (some ⟨w4.heap.size, 0, none⟩)), .val (.agg (wcells s)), .val (.agg (wcells s)), .val (.agg (wcells v34)), .val (.pointer (some ⟨w.heap.size, 0, none⟩)), .val (.agg (wcells x1)), .val (.agg (wcells v37)), .val (.pointer (some ⟨w1.heap.size, 0, none⟩)), .val (.agg (wcells x1)), .val (.agg (wcells v40)), .hold w8.heap.size 24 (wcells 0)] rfl (by kernel_rfl) (by kernel_rfl) (by kernel_rfl) (by kernel_rfl) rfl (by intro s hs; simp only [List.mem_cons, List.not_mem_nil, or_false] at hs; rcases hs with rfl <;> rfl) (steps_all ⟨?_, ?_, ?_, ?_, ?_, ?_, ?_, ?_, ?_, ?_, ?_, ?_, ?_, trivial⟩) ?_
  · intro A W hsz hoth hbel hX hdep
    exact kMoveV _ (.pointer (some ⟨w4.heap.size, 0, none⟩)) rfl rfl ((hoth 5 (free2_of (by kernel_rfl))).trans rfl) (symVT hX hsz rfl (show 29 < 56 by decide) rfl (Below.refl _ _) rfl)
  · intro A W hsz hoth hbel hX hdep
    exact kMoveV _ (.pointer (some ⟨w4.heap.size, 0, none⟩)) rfl rfl ((hoth 5 (free2_of (by kernel_rfl))).trans rfl) (symVT hX hsz rfl (show 30 < 56 by decide) rfl (Below.refl _ _) rfl)
  · intro A W hsz hoth hbel hX hdep
    exact kMoveV _ (.pointer (some ⟨w4.heap.size, 0, none⟩)) rfl rfl ((hoth 5 (free2_of (by kernel_rfl))).trans rfl) (symVT hX hsz rfl (show 31 < 56 by decide) rfl (Below.refl _ _) rfl)
  · intro A W hsz hoth hbel hX hdep
    exact kLoadRow _ _ _ _ _ _ rfl rfl ((hoth 6 (free2_of (by kernel_rfl))).trans rfl) ((hM8.get 0 rfl).on hbel) Tryd.underlying24 rfl (info_WideC _) (symVT hX hsz rfl (show 32 < 56 by decide) rfl (Below.refl _ _) rfl)
  · intro A W hsz hoth hbel hX hdep
    exact kLoadRow _ _ _ _ _ _ rfl rfl ((hoth 6 (free2_of (by kernel_rfl))).trans rfl) ((hM8.get 0 rfl).on hbel) Tryd.underlying24 rfl (info_WideC _) (symVT hX hsz rfl (show 33 < 56 by decide) rfl (Below.refl _ _) rfl)
  · intro A W hsz hoth hbel hX hdep
    refine kCall3 38 _ _ _ _ _ _ _ rfl rfl (by kernel_rfl) (by have h := hdep ⟨2, .data⟩ (by simp) rfl; exact h) (by have h := hdep ⟨3, .data⟩ (by simp) rfl; exact h) (by have h := hdep ⟨4, .data⟩ (by simp) rfl; exact h) ?_
    refine (fMul_as hm (w4.heap.size) ms ms Hv34.out W ((hM8.get 1 rfl).on hbel)).mono ?_
    rintro e r ⟨rfl, hBc⟩
    exact ⟨_, rfl, (symVT hX hsz rfl (show 34 < 56 by decide) rfl hBc rfl)⟩
  · intro A W hsz hoth hbel hX hdep
    exact kFieldPoint0 _ _ rfl rfl ((hoth 2 (free2_of (by kernel_rfl))).trans rfl) (symVT hX hsz rfl (show 35 < 56 by decide) rfl (Below.refl _ _) rfl)
  · intro A W hsz hoth hbel hX hdep
    exact kLoadAs _ _ _ _ _ 4 _ _ _ rfl rfl (by have h := hdep ⟨6, .data⟩ (by simp) rfl; exact h) ((hM8.get 4 rfl).on hbel) Tryd.underlying24 rfl info_Wide (by rw [pcells_size]; decide) (pcells_at0 _ _ _) (symVT hX hsz rfl (show 36 < 56 by decide) rfl (Below.refl _ _) rfl)
  · intro A W hsz hoth hbel hX hdep
    refine kCall3 37 _ _ _ _ _ _ _ rfl rfl (by kernel_rfl) (by have h := hdep ⟨1, .data⟩ (by simp) rfl; exact h) (by have h := hdep ⟨5, .data⟩ (by simp) rfl; exact h) (by have h := hdep ⟨7, .data⟩ (by simp) rfl; exact h) ?_
    refine (fSub_as hm (w4.heap.size) mv34 mx1 Hv37.out W ((hM8.get 1 rfl).on hbel)).mono ?_
    rintro e r ⟨rfl, hBc⟩
    exact ⟨_, rfl, (symVT hX hsz rfl (show 37 < 56 by decide) rfl hBc rfl)⟩
  · intro A W hsz hoth hbel hX hdep
    exact kFieldPoint0 _ _ rfl rfl ((hoth 3 (free2_of (by kernel_rfl))).trans rfl) (symVT hX hsz rfl (show 38 < 56 by decide) rfl (Below.refl _ _) rfl)
  · intro A W hsz hoth hbel hX hdep
    exact kLoadAs _ _ _ _ _ 4 _ _ _ rfl rfl (by have h := hdep ⟨9, .data⟩ (by simp) rfl; exact h) ((hM8.get 3 rfl).on hbel) Tryd.underlying24 rfl info_Wide (by rw [pcells_size]; decide) (pcells_at0 _ _ _) (symVT hX hsz rfl (show 39 < 56 by decide) rfl (Below.refl _ _) rfl)
  · intro A W hsz hoth hbel hX hdep
    refine kCall3 37 _ _ _ _ _ _ _ rfl rfl (by kernel_rfl) (by have h := hdep ⟨0, .data⟩ (by simp) rfl; exact h) (by have h := hdep ⟨8, .data⟩ (by simp) rfl; exact h) (by have h := hdep ⟨10, .data⟩ (by simp) rfl; exact h) ?_
    refine (fSub_as hm (w4.heap.size) mv37 mx1 Hv40.out W ((hM8.get 1 rfl).on hbel)).mono ?_
    rintro e r ⟨rfl, hBc⟩
    exact ⟨_, rfl, (symVT hX hsz rfl (show 40 < 56 by decide) rfl hBc rfl)⟩
  · intro A W hsz hoth hbel hX hdep
    refine kAllocL _ _ rfl rfl zero_Wide ?_
    intro r hR hl hBc
    exact (symAT hX hsz rfl (show 7 < 56 by decide) hl hBc ⟨_, rfl, hbel.size, hR⟩)
  intro w9 hB9
  dsimp only [AllV]
  intro g9_7 hg9_7 hR9_7
  intro hap
  dsimp only [putAll, List.take, List.drop]
  go_frame
  have hM9 := hM8.on hB9
  replace hM9 := hM9.cons hR9_7 (Nat.le_trans hM8.size hg9_7) (fun p hp => by have := hM8.lt hp; omega)
  clear hB9 hM8 hap hg9_7 hR9_7
  go_wp2_with (first
    | ((with_reducible change wpList _ _ _ (Oper.mk none (Op.store _ (Operand.tmp 7) (Operand.tmp 40)) _ _ _ _ :: _) _ _); refine mmStoreAt hM9 0 _ _ _ _ _ _ (wcells v40) rfl rfl rfl rfl rfl (info_WideC _) (by simp only [wcells_size]) (wcells_one _) ?_; intro w10 hM10; dsimp only [List.set] at hM10; clear hM9; go_frame))
  refine region_symT 13 _ [12] [8] [.val (.pointer (some ⟨w4.heap.size, 0, none⟩)), .val (.pointer (some ⟨w4.heap.size, 0, none⟩)), .val (.agg (wcells s)), .val (.pointer (some ⟨w4.heap.size, 0, none⟩)), .val (.pointer (some ⟨w.heap.size, 0, none⟩)), .val (.agg (wcells x1)), .val (.agg (wcells v40)), .val (.agg (wcells v48)), .val (.agg (wcells v49)), .val (.pointer (some ⟨w.heap.size, 4, none⟩)), .val (.agg (wcells y1)), .val (.agg (wcells v52)), .hold w10.heap.size 24 (wcells 0)] rfl (by kernel_rfl) (by kernel_rfl) (by kernel_rfl) (by kernel_rfl) rfl (by intro s hs; simp only [List.mem_cons, List.not_mem_nil, or_false] at hs; rcases hs with rfl <;> rfl) (steps_all ⟨?_, ?_, ?_, ?_, ?_, ?_, ?_, ?_, ?_, ?_, ?_, ?_, ?_, trivial⟩) ?_
  · intro A W hsz hoth hbel hX hdep
    exact kMoveV _ (.pointer (some ⟨w4.heap.size, 0, none⟩)) rfl rfl ((hoth 5 (free2_of (by kernel_rfl))).trans rfl) (symVT hX hsz rfl (show 41 < 56 by decide) rfl (Below.refl _ _) rfl)
  · intro A W hsz hoth hbel hX hdep
    exact kMoveV _ (.pointer (some ⟨w4.heap.size, 0, none⟩)) rfl rfl ((hoth 5 (free2_of (by kernel_rfl))).trans rfl) (symVT hX hsz rfl (show 42 < 56 by decide) rfl (Below.refl _ _) rfl)
  · intro A W hsz hoth hbel hX hdep
    exact kLoadRow _ _ _ _ _ _ rfl rfl ((hoth 6 (free2_of (by kernel_rfl))).trans rfl) ((hM10.get 1 rfl).on hbel) Tryd.underlying24 rfl (info_WideC _) (symVT hX hsz rfl (show 43 < 56 by decide) rfl (Below.refl _ _) rfl)
  · intro A W hsz hoth hbel hX hdep
    exact kMoveV _ (.pointer (some ⟨w4.heap.size, 0, none⟩)) rfl rfl ((hoth 5 (free2_of (by kernel_rfl))).trans rfl) (symVT hX hsz rfl (show 44 < 56 by decide) rfl (Below.refl _ _) rfl)
  · intro A W hsz hoth hbel hX hdep
    exact kFieldPoint0 _ _ rfl rfl ((hoth 2 (free2_of (by kernel_rfl))).trans rfl) (symVT hX hsz rfl (show 45 < 56 by decide) rfl (Below.refl _ _) rfl)
  · intro A W hsz hoth hbel hX hdep
    exact kLoadAs _ _ _ _ _ 4 _ _ _ rfl rfl (by have h := hdep ⟨4, .data⟩ (by simp) rfl; exact h) ((hM10.get 5 rfl).on hbel) Tryd.underlying24 rfl info_Wide (by rw [pcells_size]; decide) (pcells_at0 _ _ _) (symVT hX hsz rfl (show 46 < 56 by decide) rfl (Below.refl _ _) rfl)
  · intro A W hsz hoth hbel hX hdep
    exact kLoadRow _ _ _ _ _ _ rfl rfl ((hoth 7 (free2_of (by kernel_rfl))).trans rfl) ((hM10.get 0 rfl).on hbel) Tryd.underlying24 rfl (info_WideC _) (symVT hX hsz rfl (show 47 < 56 by decide) rfl (Below.refl _ _) rfl)
  · intro A W hsz hoth hbel hX hdep
    refine kCall3 37 _ _ _ _ _ _ _ rfl rfl (by kernel_rfl) (by have h := hdep ⟨3, .data⟩ (by simp) rfl; exact h) (by have h := hdep ⟨5, .data⟩ (by simp) rfl; exact h) (by have h := hdep ⟨6, .data⟩ (by simp) rfl; exact h) ?_
    refine (fSub_as hm (w4.heap.size) mx1 mv40 Hv48.out W ((hM10.get 2 rfl).on hbel)).mono ?_
    rintro e r ⟨rfl, hBc⟩
    exact ⟨_, rfl, (symVT hX hsz rfl (show 48 < 56 by decide) rfl hBc rfl)⟩
  · intro A W hsz hoth hbel hX hdep
    refine kCall3 38 _ _ _ _ _ _ _ rfl rfl (by kernel_rfl) (by have h := hdep ⟨1, .data⟩ (by simp) rfl; exact h) (by have h := hdep ⟨2, .data⟩ (by simp) rfl; exact h) (by have h := hdep ⟨7, .data⟩ (by simp) rfl; exact h) ?_
    refine (fMul_as hm (w4.heap.size) ms mv48 Hv49.out W ((hM10.get 2 rfl).on hbel)).mono ?_
    rintro e r ⟨rfl, hBc⟩
    exact ⟨_, rfl, (symVT hX hsz rfl (show 49 < 56 by decide) rfl hBc rfl)⟩
  · intro A W hsz hoth hbel hX hdep
    exact kFieldPoint1 _ _ rfl rfl ((hoth 2 (free2_of (by kernel_rfl))).trans rfl) (symVT hX hsz rfl (show 50 < 56 by decide) rfl (Below.refl _ _) rfl)
  · intro A W hsz hoth hbel hX hdep
    exact kLoadAs _ _ _ _ _ 4 _ _ _ rfl rfl (by have h := hdep ⟨9, .data⟩ (by simp) rfl; exact h) ((hM10.get 5 rfl).on hbel) Tryd.underlying24 rfl info_Wide (by rw [pcells_size]; decide) (pcells_at4 _ _ _) (symVT hX hsz rfl (show 51 < 56 by decide) rfl (Below.refl _ _) rfl)
  · intro A W hsz hoth hbel hX hdep
    refine kCall3 37 _ _ _ _ _ _ _ rfl rfl (by kernel_rfl) (by have h := hdep ⟨0, .data⟩ (by simp) rfl; exact h) (by have h := hdep ⟨8, .data⟩ (by simp) rfl; exact h) (by have h := hdep ⟨10, .data⟩ (by simp) rfl; exact h) ?_
    refine (fSub_as hm (w4.heap.size) mv49 my1 Hv52.out W ((hM10.get 2 rfl).on hbel)).mono ?_
    rintro e r ⟨rfl, hBc⟩
    exact ⟨_, rfl, (symVT hX hsz rfl (show 52 < 56 by decide) rfl hBc rfl)⟩
  · intro A W hsz hoth hbel hX hdep
    refine kAllocL _ _ rfl rfl zero_Wide ?_
    intro r hR hl hBc
    exact (symAT hX hsz rfl (show 8 < 56 by decide) hl hBc ⟨_, rfl, hbel.size, hR⟩)
  intro w11 hB11
  dsimp only [AllV]
  intro g11_8 hg11_8 hR11_8
  intro hap
  dsimp only [putAll, List.take, List.drop]
  go_frame
  have hM11 := hM10.on hB11
  replace hM11 := hM11.cons hR11_8 (Nat.le_trans hM10.size hg11_8) (fun p hp => by have := hM10.lt hp; omega)
  clear hB11 hM10 hap hg11_8 hR11_8
  go_wp2_with (first
    | ((with_reducible change wpList _ _ _ (Oper.mk none (Op.store _ (Operand.tmp 8) (Operand.tmp 52)) _ _ _ _ :: _) _ _); refine mmStoreAt hM11 0 _ _ _ _ _ _ (wcells v52) rfl rfl rfl rfl rfl (info_WideC _) (by simp only [wcells_size]) (wcells_one _) ?_; intro w12 hM12; dsimp only [List.set] at hM12; clear hM11; go_frame)
    | ((with_reducible change wpList _ _ _ (Oper.mk (some 53) _ _ _ _ _ :: _) _ _); refine kLoadRow _ _ _ _ _ _ rfl rfl rfl (hM12.get 1 rfl) Tryd.underlying24 rfl (info_WideC _) ?_; go_frame)
    | ((with_reducible change wpList _ _ _ (Oper.mk (some 54) _ _ _ _ _ :: _) _ _); refine kLoadRow _ _ _ _ _ _ rfl rfl rfl (hM12.get 0 rfl) Tryd.underlying24 rfl (info_WideC _) ?_; go_frame)
    | ((with_reducible change wpList _ _ _ (Oper.mk (some 55) _ _ _ _ _ :: _) _ _); refine kBuildPoint2 _ _ v40 v52 rfl rfl rfl rfl ?_; go_frame)
    | ((with_reducible change wpList _ _ _ (Oper.mk none (Op.store _ (Operand.tmp 4) (Operand.tmp 55)) _ _ _ _ :: _) _ _); refine mmStoreAt hM12 4 _ _ _ _ _ _ (pcells v40 v52 false) rfl rfl rfl rfl rfl (info_PointC _ _ _) (by simp only [pcells_size]) (pcells_one _ _ _) ?_; intro w13 hM13; dsimp only [List.set] at hM13; clear hM12; go_frame))
  exact result_row Tryd.results13 rfl (hM13.get 4 rfl) Tryd.underlying30 rfl (info_PointC _ _ _) rfl ⟨by rw [R.out] <;> rfl, hM13.below⟩
set_option maxRecDepth 100000 in
set_option maxHeartbeats 8000000 in
theorem add_other {x1 y1 x2 y2 : Nat} (lx1 : x1 < PP) (ly1 : y1 < PP) (lx2 : x2 < PP) (ly2 : y2 < PP) (hx : FP x2 - FP x1 ≠ 0) (w : World) (hG : Glob 2 PP w) (hO : GlobP 0 0 0 true w) :
    Calls Tryd.prog 13 #[.agg (pcells x1 y1 false), .agg (pcells x2 y2 false)] w fun e w' => e = .returned (.agg (ptc (Pt.rise ((FP y2 - FP y1) * ivP (FP x2 - FP x1)) (FP x1) (FP y1) (FP x2)))) ∧ Below w.heap.size w w' := by
  obtain ⟨m, Hm⟩ : ∃ m, Hid (m = PP) := ⟨_, Lib.hid rfl⟩
  have hm : Modu m := by rw [Hm.out]; exact modu_P
  rw [← Hm.out] at hG
  have mx1 := lt_M lx1
  have my1 := lt_M ly1
  have mx2 := lt_M lx2
  have my2 := lt_M ly2
  obtain ⟨s, Hs⟩ : ∃ s, Hid (((FP y2 - FP y1) * ivP (FP x2 - FP x1) : Fin PP).val = s) := ⟨_, Lib.hid rfl⟩
  have ms : s < M256 := by rw [← Hs.out]; exact val_lt _
  have Fs : FP s = (FP y2 - FP y1) * ivP (FP x2 - FP x1) := by rw [← Hs.out, FP_of_val]
  obtain ⟨v22, Hv22⟩ : ∃ n, Hid ((0 % m + m - y1 % m) % m = n) := ⟨_, Lib.hid rfl⟩
  have mv22 : v22 < M256 := by rw [← Hv22.out]; exact hm.mod _
  obtain ⟨v34, Hv34⟩ : ∃ n, Hid (s * s % m = n) := ⟨_, Lib.hid rfl⟩
  have mv34 : v34 < M256 := by rw [← Hv34.out]; exact hm.mod _
  obtain ⟨v37, Hv37⟩ : ∃ n, Hid ((v34 % m + m - x1 % m) % m = n) := ⟨_, Lib.hid rfl⟩
  have mv37 : v37 < M256 := by rw [← Hv37.out]; exact hm.mod _
  obtain ⟨v40, Hv40⟩ : ∃ n, Hid ((v37 % m + m - x2 % m) % m = n) := ⟨_, Lib.hid rfl⟩
  have mv40 : v40 < M256 := by rw [← Hv40.out]; exact hm.mod _
  obtain ⟨v48, Hv48⟩ : ∃ n, Hid ((x1 % m + m - v40 % m) % m = n) := ⟨_, Lib.hid rfl⟩
  have mv48 : v48 < M256 := by rw [← Hv48.out]; exact hm.mod _
  obtain ⟨v49, Hv49⟩ : ∃ n, Hid (s * v48 % m = n) := ⟨_, Lib.hid rfl⟩
  have mv49 : v49 < M256 := by rw [← Hv49.out]; exact hm.mod _
  obtain ⟨v52, Hv52⟩ : ∃ n, Hid ((v49 % m + m - y1 % m) % m = n) := ⟨_, Lib.hid rfl⟩
  have mv52 : v52 < M256 := by rw [← Hv52.out]; exact hm.mod _
  have Ev22 := FPm_sub Hm.out Hv22.out
  have Lv22 := FPm_lt Hm.out Hv22.out
  have Ev34 := FPm_mul Hm.out Hv34.out
  have Lv34 := FPm_lt Hm.out Hv34.out
  have Ev37 := FPm_sub Hm.out Hv37.out
  have Lv37 := FPm_lt Hm.out Hv37.out
  have Ev40 := FPm_sub Hm.out Hv40.out
  have Lv40 := FPm_lt Hm.out Hv40.out
  have Ev48 := FPm_sub Hm.out Hv48.out
  have Lv48 := FPm_lt Hm.out Hv48.out
  have Ev49 := FPm_mul Hm.out Hv49.out
  have Lv49 := FPm_lt Hm.out Hv49.out
  have Ev52 := FPm_sub Hm.out Hv52.out
  have Lv52 := FPm_lt Hm.out Hv52.out
  have F0 : FP 0 = 0 := rfl
  have h23 := Lib.hid (show x2 ≠ x1 from fun e => hx (by rw [e, Fin.sub_self]))
  have hS := Lib.hid hx
  have R := Lib.hid (show Value.agg (pcells v40 v52 false) = .agg (ptc (Pt.rise ((FP y2 - FP y1) * ivP (FP x2 - FP x1)) (FP x1) (FP y1) (FP x2))) by
    have R1 := val_of Lv40 (show FP v40 = ((FP y2 - FP y1) * ivP (FP x2 - FP x1)) * ((FP y2 - FP y1) * ivP (FP x2 - FP x1)) - FP x1 - FP x2 by simp only [Ev40, Ev37, Ev34, Fs])
    have R2 := val_of Lv52 (show FP v52 = ((FP y2 - FP y1) * ivP (FP x2 - FP x1)) * (FP x1 - (((FP y2 - FP y1) * ivP (FP x2 - FP x1)) * ((FP y2 - FP y1) * ivP (FP x2 - FP x1)) - FP x1 - FP x2)) - FP y1 by simp only [Ev52, Ev49, Fs, Ev48, Ev40, Ev37, Ev34])
    rw [R1, R2]; rfl)
  clear hx F0 Fs Ev22 Lv22 Ev34 Lv34 Ev37 Lv37 Ev40 Lv40 Ev48 Lv48 Ev49 Lv49 Ev52 Lv52
  have hM0 := mm_nil w
  (try unfold WV)
  go_enter Tryd.func13, Tryd.ntmps13
  go_wp2_with (first
    | ((with_reducible change wpList _ _ _ (Oper.mk (some 2) _ _ _ _ _ :: _) _ _); refine mmBox hM0 _ _ (pcells x1 y1 false) rfl rfl rfl ?_; intro w1 hM1; clear hM0; go_frame)
    | ((with_reducible change wpList _ _ _ (Oper.mk (some 3) _ _ _ _ _ :: _) _ _); refine mmBox hM1 _ _ (pcells x2 y2 false) rfl rfl rfl ?_; intro w2 hM2; clear hM1; go_frame)
    | ((with_reducible change wpList _ _ _ (Oper.mk (some 4) _ _ _ _ _ :: _) _ _); refine mmAlloc hM2 _ _ rfl rfl zero_Point ?_; intro w3 hM3; clear hM2; go_frame)
    | ((with_reducible change wpList _ _ _ (Oper.mk (some 10) _ _ _ _ _ :: _) _ _); refine kLoadRow _ _ _ _ _ _ rfl rfl rfl (hM3.get 2 rfl) Tryd.underlying30 rfl (info_PointC _ _ _) ?_; go_frame)
    | ((with_reducible change wpList _ _ _ (Oper.mk (some 11) _ _ _ _ _ :: _) _ _); refine kLoadGP _ _ _ _ _ rfl rfl rfl (hO.below hM3.below) ?_; go_frame)
    | ((with_reducible change wpList _ _ _ (Oper.mk (some 12) _ _ _ _ _ :: _) _ _); refine kEqlP _ _ _ x1 y1 false 0 0 true false rfl rfl rfl rfl (eqP_none) ?_; go_frame)
    | ((with_reducible change wpList _ _ _ (Oper.mk (some 15) _ _ _ _ _ :: _) _ _); refine kLoadRow _ _ _ _ _ _ rfl rfl rfl (hM3.get 1 rfl) Tryd.underlying30 rfl (info_PointC _ _ _) ?_; go_frame)
    | ((with_reducible change wpList _ _ _ (Oper.mk (some 16) _ _ _ _ _ :: _) _ _); refine kLoadGP _ _ _ _ _ rfl rfl rfl (hO.below hM3.below) ?_; go_frame)
    | ((with_reducible change wpList _ _ _ (Oper.mk (some 17) _ _ _ _ _ :: _) _ _); refine kEqlP _ _ _ x2 y2 false 0 0 true false rfl rfl rfl rfl (eqP_none) ?_; go_frame))
  refine region_symT 5 _ [] [] [.val (.agg (pcells x2 y2 false)), .val (.agg (pcells x1 y1 false)), .val (.agg (pcells x1 v22 false)), .val (.bool false), .val (.bool false)] rfl (by kernel_rfl) (by kernel_rfl) (by kernel_rfl) (by kernel_rfl) rfl (by intro s hs; cases hs) (steps_all ⟨?_, ?_, ?_, ?_, ?_, trivial⟩) ?_
  · intro A W hsz hoth hbel hX hdep
    exact kLoadRow _ _ _ _ _ _ rfl rfl ((hoth 3 (free2_of (by kernel_rfl))).trans rfl) ((hM3.get 1 rfl).on hbel) Tryd.underlying30 rfl (info_PointC _ _ _) (symVT hX hsz rfl (show 20 < 56 by decide) rfl (Below.refl _ _) rfl)
  · intro A W hsz hoth hbel hX hdep
    exact kLoadRow _ _ _ _ _ _ rfl rfl ((hoth 2 (free2_of (by kernel_rfl))).trans rfl) ((hM3.get 2 rfl).on hbel) Tryd.underlying30 rfl (info_PointC _ _ _) (symVT hX hsz rfl (show 21 < 56 by decide) rfl (Below.refl _ _) rfl)
  · intro A W hsz hoth hbel hX hdep
    refine kCall1 22 _ _ _ rfl rfl (by kernel_rfl) (by have h := hdep ⟨1, .data⟩ (by simp) rfl; exact h) ?_
    refine (cNeg_as hm false my1 Hv22.out W ((hG.below hM3.below).below hbel)).mono ?_
    rintro e r ⟨rfl, hBc⟩
    exact ⟨_, rfl, (symVT hX hsz rfl (show 22 < 56 by decide) rfl hBc rfl)⟩
  · intro A W hsz hoth hbel hX hdep
    exact kEqlP _ _ _ x2 y2 false x1 v22 false false rfl rfl (by have h := hdep ⟨0, .data⟩ (by simp) rfl; exact h) (by have h := hdep ⟨2, .data⟩ (by simp) rfl; exact h) (eqP_no mx2 my2 mx1 mv22 (fun e => h23.out e.1)) (symVT hX hsz rfl (show 23 < 56 by decide) rfl (Below.refl _ _) rfl)
  · intro A W hsz hoth hbel hX hdep
    exact kAssignV _ (.bool false) rfl rfl (by have h := hdep ⟨3, .data⟩ (by simp) rfl; exact h) (symVT hX hsz rfl (show 19 < 56 by decide) rfl (Below.refl _ _) rfl)
  intro w4 hB4
  dsimp only [AllV]
  intro hap
  dsimp only [putAll, List.take, List.drop]
  go_frame
  have hM4 := hM3.on hB4
  clear hB4 hM3 hap
  go_wp2_with (first
    | (go_at_call 32; refine (fP_any m _ (hG.below hM4.below)).mono ?_; rintro e w5 ⟨rfl, hR5, hB5⟩; have hM5 := hM4.new hR5 hB5; clear hB5 hR5 hM4; go_frame)
    | ((with_reducible change wpList _ _ _ (Oper.mk (some 26) _ _ _ _ _ :: _) _ _); refine kLoadRow _ _ _ _ _ _ rfl rfl rfl (hM5.get 3 rfl) Tryd.underlying30 rfl (info_PointC _ _ _) ?_; go_frame)
    | ((with_reducible change wpList _ _ _ (Oper.mk (some 27) _ _ _ _ _ :: _) _ _); refine kLoadRow _ _ _ _ _ _ rfl rfl rfl (hM5.get 2 rfl) Tryd.underlying30 rfl (info_PointC _ _ _) ?_; go_frame)
    | (go_at_call 36; (with_reducible change Calls _ _ #[Value.agg (pcells x1 y1 false), Value.agg (pcells x2 y2 false)] _ _); refine (rise_other Hm.out lx1 ly1 lx2 ly2 hS.out Hs.out _ (hG.below hM5.below)).mono ?_; rintro e w6 ⟨rfl, hB6⟩; have hM6 := hM5.on hB6; clear hB6 hM5; (try unfold WV); go_frame)
    | ((with_reducible change wpList _ _ _ (Oper.mk (some 6) _ _ _ _ _ :: _) _ _); refine mmAlloc hM6 _ _ rfl rfl zero_Wide ?_; intro w7 hM7; clear hM6; go_frame)
    | ((with_reducible change wpList _ _ _ (Oper.mk none (Op.store _ (Operand.tmp 6) (Operand.tmp 28)) _ _ _ _ :: _) _ _); refine mmStoreAt hM7 0 _ _ _ _ _ _ (wcells s) rfl rfl rfl rfl rfl (info_WideC _) (by simp only [wcells_size]) (wcells_one _) ?_; intro w8 hM8; dsimp only [List.set] at hM8; clear hM7; go_frame))
  refine region_symT 13 _ [12] [7] [.val (.pointer (some ⟨w4.heap.size, 0, none⟩)), .val (.pointer (some ⟨w4.heap.size, 0, none⟩)), .val (.pointer (some ⟨w4.heap.size, 0, none⟩)), .val (.agg (wcells s)), .val (.agg (wcells s)), .val (.agg (wcells v34)), .val (.pointer (some ⟨w.heap.size, 0, none⟩)), .val (.agg (wcells x1)), .val (.agg (wcells v37)), .val (.pointer (some ⟨w1.heap.size, 0, none⟩)), .val (.agg (wcells x2)), .val (.agg (wcells v40)), .hold w8.heap.size 24 (wcells 0)] rfl (by kernel_rfl) (by kernel_rfl) (by kernel_rfl) (by kernel_rfl) rfl (by intro s hs; simp only [List.mem_cons, List.not_mem_nil, or_false] at hs; rcases hs with rfl <;> rfl) (steps_all ⟨?_, ?_, ?_, ?_, ?_, ?_, ?_, ?_, ?_, ?_, ?_, ?_, ?_, trivial⟩) ?_
  · intro A W hsz hoth hbel hX hdep
    exact kMoveV _ (.pointer (some ⟨w4.heap.size, 0, none⟩)) rfl rfl ((hoth 5 (free2_of (by kernel_rfl))).trans rfl) (symVT hX hsz rfl (show 29 < 56 by decide) rfl (Below.refl _ _) rfl)
  · intro A W hsz hoth hbel hX hdep
    exact kMoveV _ (.pointer (some ⟨w4.heap.size, 0, none⟩)) rfl rfl ((hoth 5 (free2_of (by kernel_rfl))).trans rfl) (symVT hX hsz rfl (show 30 < 56 by decide) rfl (Below.refl _ _) rfl)
  · intro A W hsz hoth hbel hX hdep
    exact kMoveV _ (.pointer (some ⟨w4.heap.size, 0, none⟩)) rfl rfl ((hoth 5 (free2_of (by kernel_rfl))).trans rfl) (symVT hX hsz rfl (show 31 < 56 by decide) rfl (Below.refl _ _) rfl)
  · intro A W hsz hoth hbel hX hdep
    exact kLoadRow _ _ _ _ _ _ rfl rfl ((hoth 6 (free2_of (by kernel_rfl))).trans rfl) ((hM8.get 0 rfl).on hbel) Tryd.underlying24 rfl (info_WideC _) (symVT hX hsz rfl (show 32 < 56 by decide) rfl (Below.refl _ _) rfl)
  · intro A W hsz hoth hbel hX hdep
    exact kLoadRow _ _ _ _ _ _ rfl rfl ((hoth 6 (free2_of (by kernel_rfl))).trans rfl) ((hM8.get 0 rfl).on hbel) Tryd.underlying24 rfl (info_WideC _) (symVT hX hsz rfl (show 33 < 56 by decide) rfl (Below.refl _ _) rfl)
  · intro A W hsz hoth hbel hX hdep
    refine kCall3 38 _ _ _ _ _ _ _ rfl rfl (by kernel_rfl) (by have h := hdep ⟨2, .data⟩ (by simp) rfl; exact h) (by have h := hdep ⟨3, .data⟩ (by simp) rfl; exact h) (by have h := hdep ⟨4, .data⟩ (by simp) rfl; exact h) ?_
    refine (fMul_as hm (w4.heap.size) ms ms Hv34.out W ((hM8.get 1 rfl).on hbel)).mono ?_
    rintro e r ⟨rfl, hBc⟩
    exact ⟨_, rfl, (symVT hX hsz rfl (show 34 < 56 by decide) rfl hBc rfl)⟩
  · intro A W hsz hoth hbel hX hdep
    exact kFieldPoint0 _ _ rfl rfl ((hoth 2 (free2_of (by kernel_rfl))).trans rfl) (symVT hX hsz rfl (show 35 < 56 by decide) rfl (Below.refl _ _) rfl)
  · intro A W hsz hoth hbel hX hdep
    exact kLoadAs _ _ _ _ _ 4 _ _ _ rfl rfl (by have h := hdep ⟨6, .data⟩ (by simp) rfl; exact h) ((hM8.get 4 rfl).on hbel) Tryd.underlying24 rfl info_Wide (by rw [pcells_size]; decide) (pcells_at0 _ _ _) (symVT hX hsz rfl (show 36 < 56 by decide) rfl (Below.refl _ _) rfl)
  · intro A W hsz hoth hbel hX hdep
    refine kCall3 37 _ _ _ _ _ _ _ rfl rfl (by kernel_rfl) (by have h := hdep ⟨1, .data⟩ (by simp) rfl; exact h) (by have h := hdep ⟨5, .data⟩ (by simp) rfl; exact h) (by have h := hdep ⟨7, .data⟩ (by simp) rfl; exact h) ?_
    refine (fSub_as hm (w4.heap.size) mv34 mx1 Hv37.out W ((hM8.get 1 rfl).on hbel)).mono ?_
    rintro e r ⟨rfl, hBc⟩
    exact ⟨_, rfl, (symVT hX hsz rfl (show 37 < 56 by decide) rfl hBc rfl)⟩
  · intro A W hsz hoth hbel hX hdep
    exact kFieldPoint0 _ _ rfl rfl ((hoth 3 (free2_of (by kernel_rfl))).trans rfl) (symVT hX hsz rfl (show 38 < 56 by decide) rfl (Below.refl _ _) rfl)
  · intro A W hsz hoth hbel hX hdep
    exact kLoadAs _ _ _ _ _ 4 _ _ _ rfl rfl (by have h := hdep ⟨9, .data⟩ (by simp) rfl; exact h) ((hM8.get 3 rfl).on hbel) Tryd.underlying24 rfl info_Wide (by rw [pcells_size]; decide) (pcells_at0 _ _ _) (symVT hX hsz rfl (show 39 < 56 by decide) rfl (Below.refl _ _) rfl)
  · intro A W hsz hoth hbel hX hdep
    refine kCall3 37 _ _ _ _ _ _ _ rfl rfl (by kernel_rfl) (by have h := hdep ⟨0, .data⟩ (by simp) rfl; exact h) (by have h := hdep ⟨8, .data⟩ (by simp) rfl; exact h) (by have h := hdep ⟨10, .data⟩ (by simp) rfl; exact h) ?_
    refine (fSub_as hm (w4.heap.size) mv37 mx2 Hv40.out W ((hM8.get 1 rfl).on hbel)).mono ?_
    rintro e r ⟨rfl, hBc⟩
    exact ⟨_, rfl, (symVT hX hsz rfl (show 40 < 56 by decide) rfl hBc rfl)⟩
  · intro A W hsz hoth hbel hX hdep
    refine kAllocL _ _ rfl rfl zero_Wide ?_
    intro r hR hl hBc
    exact (symAT hX hsz rfl (show 7 < 56 by decide) hl hBc ⟨_, rfl, hbel.size, hR⟩)
  intro w9 hB9
  dsimp only [AllV]
  intro g9_7 hg9_7 hR9_7
  intro hap
  dsimp only [putAll, List.take, List.drop]
  go_frame
  have hM9 := hM8.on hB9
  replace hM9 := hM9.cons hR9_7 (Nat.le_trans hM8.size hg9_7) (fun p hp => by have := hM8.lt hp; omega)
  clear hB9 hM8 hap hg9_7 hR9_7
  go_wp2_with (first
    | ((with_reducible change wpList _ _ _ (Oper.mk none (Op.store _ (Operand.tmp 7) (Operand.tmp 40)) _ _ _ _ :: _) _ _); refine mmStoreAt hM9 0 _ _ _ _ _ _ (wcells v40) rfl rfl rfl rfl rfl (info_WideC _) (by simp only [wcells_size]) (wcells_one _) ?_; intro w10 hM10; dsimp only [List.set] at hM10; clear hM9; go_frame))
  refine region_symT 13 _ [12] [8] [.val (.pointer (some ⟨w4.heap.size, 0, none⟩)), .val (.pointer (some ⟨w4.heap.size, 0, none⟩)), .val (.agg (wcells s)), .val (.pointer (some ⟨w4.heap.size, 0, none⟩)), .val (.pointer (some ⟨w.heap.size, 0, none⟩)), .val (.agg (wcells x1)), .val (.agg (wcells v40)), .val (.agg (wcells v48)), .val (.agg (wcells v49)), .val (.pointer (some ⟨w.heap.size, 4, none⟩)), .val (.agg (wcells y1)), .val (.agg (wcells v52)), .hold w10.heap.size 24 (wcells 0)] rfl (by kernel_rfl) (by kernel_rfl) (by kernel_rfl) (by kernel_rfl) rfl (by intro s hs; simp only [List.mem_cons, List.not_mem_nil, or_false] at hs; rcases hs with rfl <;> rfl) (steps_all ⟨?_, ?_, ?_, ?_, ?_, ?_, ?_, ?_, ?_, ?_, ?_, ?_, ?_, trivial⟩) ?_
  · intro A W hsz hoth hbel hX hdep
    exact kMoveV _ (.pointer (some ⟨w4.heap.size, 0, none⟩)) rfl rfl ((hoth 5 (free2_of (by kernel_rfl))).trans rfl) (symVT hX hsz rfl (show 41 < 56 by decide) rfl (Below.refl _ _) rfl)
  · intro A W hsz hoth hbel hX hdep
    exact kMoveV _ (.pointer (some ⟨w4.heap.size, 0, none⟩)) rfl rfl ((hoth 5 (free2_of (by kernel_rfl))).trans rfl) (symVT hX hsz rfl (show 42 < 56 by decide) rfl (Below.refl _ _) rfl)
  · intro A W hsz hoth hbel hX hdep
    exact kLoadRow _ _ _ _ _ _ rfl rfl ((hoth 6 (free2_of (by kernel_rfl))).trans rfl) ((hM10.get 1 rfl).on hbel) Tryd.underlying24 rfl (info_WideC _) (symVT hX hsz rfl (show 43 < 56 by decide) rfl (Below.refl _ _) rfl)
  · intro A W hsz hoth hbel hX hdep
    exact kMoveV _ (.pointer (some ⟨w4.heap.size, 0, none⟩)) rfl rfl ((hoth 5 (free2_of (by kernel_rfl))).trans rfl) (symVT hX hsz rfl (show 44 < 56 by decide) rfl (Below.refl _ _) rfl)
  · intro A W hsz hoth hbel hX hdep
    exact kFieldPoint0 _ _ rfl rfl ((hoth 2 (free2_of (by kernel_rfl))).trans rfl) (symVT hX hsz rfl (show 45 < 56 by decide) rfl (Below.refl _ _) rfl)
  · intro A W hsz hoth hbel hX hdep
    exact kLoadAs _ _ _ _ _ 4 _ _ _ rfl rfl (by have h := hdep ⟨4, .data⟩ (by simp) rfl; exact h) ((hM10.get 5 rfl).on hbel) Tryd.underlying24 rfl info_Wide (by rw [pcells_size]; decide) (pcells_at0 _ _ _) (symVT hX hsz rfl (show 46 < 56 by decide) rfl (Below.refl _ _) rfl)
  · intro A W hsz hoth hbel hX hdep
    exact kLoadRow _ _ _ _ _ _ rfl rfl ((hoth 7 (free2_of (by kernel_rfl))).trans rfl) ((hM10.get 0 rfl).on hbel) Tryd.underlying24 rfl (info_WideC _) (symVT hX hsz rfl (show 47 < 56 by decide) rfl (Below.refl _ _) rfl)
  · intro A W hsz hoth hbel hX hdep
    refine kCall3 37 _ _ _ _ _ _ _ rfl rfl (by kernel_rfl) (by have h := hdep ⟨3, .data⟩ (by simp) rfl; exact h) (by have h := hdep ⟨5, .data⟩ (by simp) rfl; exact h) (by have h := hdep ⟨6, .data⟩ (by simp) rfl; exact h) ?_
    refine (fSub_as hm (w4.heap.size) mx1 mv40 Hv48.out W ((hM10.get 2 rfl).on hbel)).mono ?_
    rintro e r ⟨rfl, hBc⟩
    exact ⟨_, rfl, (symVT hX hsz rfl (show 48 < 56 by decide) rfl hBc rfl)⟩
  · intro A W hsz hoth hbel hX hdep
    refine kCall3 38 _ _ _ _ _ _ _ rfl rfl (by kernel_rfl) (by have h := hdep ⟨1, .data⟩ (by simp) rfl; exact h) (by have h := hdep ⟨2, .data⟩ (by simp) rfl; exact h) (by have h := hdep ⟨7, .data⟩ (by simp) rfl; exact h) ?_
    refine (fMul_as hm (w4.heap.size) ms mv48 Hv49.out W ((hM10.get 2 rfl).on hbel)).mono ?_
    rintro e r ⟨rfl, hBc⟩
    exact ⟨_, rfl, (symVT hX hsz rfl (show 49 < 56 by decide) rfl hBc rfl)⟩
  · intro A W hsz hoth hbel hX hdep
    exact kFieldPoint1 _ _ rfl rfl ((hoth 2 (free2_of (by kernel_rfl))).trans rfl) (symVT hX hsz rfl (show 50 < 56 by decide) rfl (Below.refl _ _) rfl)
  · intro A W hsz hoth hbel hX hdep
    exact kLoadAs _ _ _ _ _ 4 _ _ _ rfl rfl (by have h := hdep ⟨9, .data⟩ (by simp) rfl; exact h) ((hM10.get 5 rfl).on hbel) Tryd.underlying24 rfl info_Wide (by rw [pcells_size]; decide) (pcells_at4 _ _ _) (symVT hX hsz rfl (show 51 < 56 by decide) rfl (Below.refl _ _) rfl)
  · intro A W hsz hoth hbel hX hdep
    refine kCall3 37 _ _ _ _ _ _ _ rfl rfl (by kernel_rfl) (by have h := hdep ⟨0, .data⟩ (by simp) rfl; exact h) (by have h := hdep ⟨8, .data⟩ (by simp) rfl; exact h) (by have h := hdep ⟨10, .data⟩ (by simp) rfl; exact h) ?_
    refine (fSub_as hm (w4.heap.size) mv49 my1 Hv52.out W ((hM10.get 2 rfl).on hbel)).mono ?_
    rintro e r ⟨rfl, hBc⟩
    exact ⟨_, rfl, (symVT hX hsz rfl (show 52 < 56 by decide) rfl hBc rfl)⟩
  · intro A W hsz hoth hbel hX hdep
    refine kAllocL _ _ rfl rfl zero_Wide ?_
    intro r hR hl hBc
    exact (symAT hX hsz rfl (show 8 < 56 by decide) hl hBc ⟨_, rfl, hbel.size, hR⟩)
  intro w11 hB11
  dsimp only [AllV]
  intro g11_8 hg11_8 hR11_8
  intro hap
  dsimp only [putAll, List.take, List.drop]
  go_frame
  have hM11 := hM10.on hB11
  replace hM11 := hM11.cons hR11_8 (Nat.le_trans hM10.size hg11_8) (fun p hp => by have := hM10.lt hp; omega)
  clear hB11 hM10 hap hg11_8 hR11_8
  go_wp2_with (first
    | ((with_reducible change wpList _ _ _ (Oper.mk none (Op.store _ (Operand.tmp 8) (Operand.tmp 52)) _ _ _ _ :: _) _ _); refine mmStoreAt hM11 0 _ _ _ _ _ _ (wcells v52) rfl rfl rfl rfl rfl (info_WideC _) (by simp only [wcells_size]) (wcells_one _) ?_; intro w12 hM12; dsimp only [List.set] at hM12; clear hM11; go_frame)
    | ((with_reducible change wpList _ _ _ (Oper.mk (some 53) _ _ _ _ _ :: _) _ _); refine kLoadRow _ _ _ _ _ _ rfl rfl rfl (hM12.get 1 rfl) Tryd.underlying24 rfl (info_WideC _) ?_; go_frame)
    | ((with_reducible change wpList _ _ _ (Oper.mk (some 54) _ _ _ _ _ :: _) _ _); refine kLoadRow _ _ _ _ _ _ rfl rfl rfl (hM12.get 0 rfl) Tryd.underlying24 rfl (info_WideC _) ?_; go_frame)
    | ((with_reducible change wpList _ _ _ (Oper.mk (some 55) _ _ _ _ _ :: _) _ _); refine kBuildPoint2 _ _ v40 v52 rfl rfl rfl rfl ?_; go_frame)
    | ((with_reducible change wpList _ _ _ (Oper.mk none (Op.store _ (Operand.tmp 4) (Operand.tmp 55)) _ _ _ _ :: _) _ _); refine mmStoreAt hM12 4 _ _ _ _ _ _ (pcells v40 v52 false) rfl rfl rfl rfl rfl (info_PointC _ _ _) (by simp only [pcells_size]) (pcells_one _ _ _) ?_; intro w13 hM13; dsimp only [List.set] at hM13; clear hM12; go_frame))
  exact result_row Tryd.results13 rfl (hM13.get 4 rfl) Tryd.underlying30 rfl (info_PointC _ _ _) rfl ⟨by rw [R.out] <;> rfl, hM13.below⟩
theorem rise_twice (X Y : Fin PP) : 3 * (X * X) * ivP (Y + Y) = 3 * X * X * ivP (2 * Y) := by
  rw [show Y + Y = 2 * Y by grobner, show 3 * (X * X) = 3 * X * X by grobner]
/-- ADD, BY POINTS -/
theorem cAdd_pt {p q : Pt PP} (hp : p.On) (hq : q.On) (w : World) (hG : Glob 2 PP w) (hO : GlobP 0 0 0 true w) :
    Calls Tryd.prog 13 #[.agg (ptc p), .agg (ptc q)] w fun e w' => e = .returned (.agg (ptc (Pt.add ivP p q))) ∧ Below w.heap.size w w' := by
  cases p with
  | o => exact add_o q w hO
  | mk x1 y1 =>
    cases q with
    | o => exact add_no w hO
    | mk x2 y2 =>
      have hp : y1 * y1 = x1 * x1 * x1 + 7 := hp
      have hq : y2 * y2 = x2 * x2 * x2 + 7 := hq
      unfold Pt.add
      simp only
      split
      · rename_i h
        exact add_across x1.isLt y1.isLt x2.isLt y2.isLt (by rw [FP_of_val, FP_of_val]; exact h.1) (by rw [FP_of_val, FP_of_val]; exact h.2) w hG hO
      · rename_i hn
        split
        · rename_i h
          obtain ⟨rfl, rfl⟩ := h
          have hy : y1 + y1 ≠ 0 := by rw [show y1 + y1 = 2 * y1 by grobner]; exact goodP.twice_ne (goodP.y_ne hp)
          have := add_same x1.isLt y1.isLt (by rw [FP_of_val]; exact hy) w hG hO
          rw [FP_of_val, FP_of_val, rise_twice] at this; exact this
        · rename_i hs
          have hx : x1 ≠ x2 := fun e => by
            subst e
            rcases sq_same goodP (hp.trans hq.symm) with e | e
            · exact hs ⟨rfl, e⟩
            · exact hn ⟨rfl, e⟩
          have := add_other x1.isLt y1.isLt x2.isLt y2.isLt (by rw [FP_of_val, FP_of_val]; exact sub_ne hx) w hG hO
          rw [FP_of_val, FP_of_val, FP_of_val, FP_of_val] at this; exact this
theorem cNeg_pt (p : Pt PP) (w : World) (hG : Glob 2 PP w) : Calls Tryd.prog 22 #[.agg (ptc p)] w fun e w' => e = .returned (.agg (ptc p.neg)) ∧ Below w.heap.size w w' := by
  cases p with
  | o => exact cNeg_as modu_P true (by decide) (by decide) w hG
  | mk x y =>
    refine cNeg_as modu_P false (val_lt y) ?_ w hG
    exact val_of (FPm_lt rfl rfl) (by rw [FPm_sub rfl rfl, FP_of_val]; rfl)
theorem cOn_pt {p : Pt PP} (h : p.On) (w : World) (hG : Glob 2 PP w) (hO : GlobP 0 0 0 true w) : Calls Tryd.prog 20 #[.agg (ptc p)] w fun e w' => e = .returned (.bool true) ∧ Below w.heap.size w w' := by
  obtain ⟨x, y, b, e, mx, my, ho⟩ := onB_pt h
  rw [e, ← ho]; exact cOn_any mx my b w hG hO
/-- '==' of points -/
def pX : Pt PP → Nat
  | .o => 0
  | .mk x _ => x.val
def pY : Pt PP → Nat
  | .o => 0
  | .mk _ y => y.val
def pN : Pt PP → Bool
  | .o => true
  | .mk _ _ => false
theorem ptc_eq (p : Pt PP) : ptc p = pcells (pX p) (pY p) (pN p) := by cases p <;> rfl
theorem pX_lt (p : Pt PP) : pX p < M256 := by cases p with
  | o => decide
  | mk x y => exact val_lt x
theorem pY_lt (p : Pt PP) : pY p < M256 := by cases p with
  | o => decide
  | mk x y => exact val_lt y
theorem pt_iff (p q : Pt PP) : (pX p % M256 = pX q % M256 ∧ pY p % M256 = pY q % M256 ∧ pN p = pN q) ↔ p = q := by
  rw [Nat.mod_eq_of_lt (pX_lt p), Nat.mod_eq_of_lt (pX_lt q), Nat.mod_eq_of_lt (pY_lt p), Nat.mod_eq_of_lt (pY_lt q)]
  constructor
  · intro ⟨h1, h2, h3⟩
    cases p <;> cases q
    · rfl
    · cases h3
    · cases h3
    · rename_i x y x' y'
      have e1 : x = x' := Fin.ext h1
      have e2 : y = y' := Fin.ext h2
      rw [e1, e2]
  · intro h; subst h; exact ⟨rfl, rfl, rfl⟩
section
variable {ops : Array Oper} {Q : Exit → Act → World → Prop} {rest : List Oper} {o : Oper} {a : Act} {w : World}
theorem kEqlPt (T2 : TypeId) (u v : Operand) (p q : Pt PP) (b : Bool) (ho : o.op = .binOp .eql 30 u v T2) (hg : Region.wanted o (yielded ops a.tmps) = true) (hx : a.eval u = .agg (ptc p)) (hy : a.eval v = .agg (ptc q)) (hb : (p = q) ↔ b = true)
    (h : wpList Tryd.prog ops Q rest (a.put o.dst (.bool b)) w) : wpList Tryd.prog ops Q (o :: rest) a w := by
  rw [ptc_eq] at hx hy
  refine kEqlP T2 u v _ _ _ _ _ _ b ho hg hx hy ?_ h
  rw [Bool.eq_iff_iff, decide_eq_true_iff, pt_iff]; exact hb
theorem kNeqPt (T2 : TypeId) (u v : Operand) (p q : Pt PP) (b : Bool) (ho : o.op = .binOp .neq 30 u v T2) (hg : Region.wanted o (yielded ops a.tmps) = true) (hx : a.eval u = .agg (ptc p)) (hy : a.eval v = .agg (ptc q)) (hb : (p = q) ↔ b = false)
    (h : wpList Tryd.prog ops Q rest (a.put o.dst (.bool b)) w) : wpList Tryd.prog ops Q (o :: rest) a w := by
  rw [ptc_eq] at hx hy
  refine kNeqP T2 u v _ _ _ _ _ _ b ho hg hx hy ?_ h
  rw [Bool.eq_iff_iff, Bool.not_eq_true', decide_eq_false_iff_not, pt_iff, hb]; cases b <;> simp
end
theorem eq_yes {p q : Pt PP} (h : p = q) : (p = q) ↔ true = true := by simp [h]
theorem ne_no {p q : Pt PP} (h : p = q) : (p = q) ↔ false = false := by simp [h]
end Go.Proofs.YtecibidncelebaaDoor
