/-
  Package sign: contracts of Sign and Verify.
-/
import Derived.Test.YtfgffjmpjoipeaaDoorSgFuncs
namespace Go.Proofs.YtfgffjmpjoipeaaDoor
open Go Go.RowKit

open Cv
theorem isSecret_nn {a : Nat} {b : Bool} (ma : a < M256) (h : isSec a = b) {m : Nat} (Hm : m = NN) (w : World) (hN : Glob 1 m w) : Calls Tryd.prog 26 #[WV a] w fun e w' => e = .returned (.bool b) ∧ Below w.heap.size w w' := by subst Hm; exact isSecret_as ma h w hN
theorem isHigh_nn {a : Nat} {b : Bool} (ma : a < M256) (h : isHi a = b) {m : Nat} (Hm : m = NN) (w : World) (hN : Glob 1 m w) : Calls Tryd.prog 35 #[WV a] w fun e w' => e = .returned (.bool b) ∧ Below w.heap.size w w' := by subst Hm; exact isHigh_as ma h w hN
theorem foldX_nn {p : Pt PP} {x : Nat} (h : pX p % NN = x) {m : Nat} (Hm : m = NN) (w : World) (hN : Glob 1 m w) : Calls Tryd.prog 30 #[.agg (ptc p)] w fun e w' => e = .returned (WV x) ∧ Below w.heap.size w w' := by subst Hm; exact foldX_as h w hN
theorem sBy_nn {a b x : Nat} (ma : a < M256) (hb : isSec b = true) (h : a * invN b % NN = x) {m : Nat} (Hm : m = NN) (w : World) (hN : Glob 1 m w) : Calls Tryd.prog 31 #[WV a, WV b] w fun e w' => e = .returned (WV x) ∧ Below w.heap.size w w' := by subst Hm; exact sBy_as ma hb h w hN
theorem sg_same {m a z k r s0 u v : Nat} (Hm : m = NN) (hr : sgR k = r) (hs : sgS0 a z k = s0) (hu : r * a % m = u) (hv : (z + u) % m = v) : v * invN k % NN = s0 := by
  subst Hm; rw [← hv, ← hu, Nat.add_mod_mod, ← hs, ← hr]; rfl
set_option maxRecDepth 100000 in
set_option maxHeartbeats 8000000 in
theorem sSign_no0 {a k : Nat} (ma : a < M256) (ha : isSec a = false) {f : Nat → Nat} (w : World) (hN : Glob 1 NN w) : Calls Tryd.prog 12 #[WV a, .agg (bcells f), WV k] w fun e w' => e = .returned (.tuple #[.agg (wcells2 0 0), .int .i64 51]) ∧ Below w.heap.size w w' := by
  obtain ⟨m, Hm⟩ : ∃ m, Hid (m = NN) := ⟨_, Lib.hid rfl⟩
  have hm : Modu m := by rw [Hm.out]; exact modu_N
  rw [← Hm.out] at hN
  replace ha := Lib.hid ha
  have hM0 := mm_nil w
  (try unfold WV)
  go_enter Tryd.func12, Tryd.ntmps12
  go_wp2_with (first
    | ((with_reducible change wpList _ _ _ (Oper.mk (some 3) _ _ _ _ _ :: _) _ _); refine mmBox hM0 _ _ (wcells a) rfl rfl rfl ?_; intro w1 hM1; clear hM0; go_frame)
    | ((with_reducible change wpList _ _ _ (Oper.mk (some 4) _ _ _ _ _ :: _) _ _); refine mmBox hM1 _ _ (bcells f) rfl rfl rfl ?_; intro w2 hM2; clear hM1; go_frame)
    | ((with_reducible change wpList _ _ _ (Oper.mk (some 5) _ _ _ _ _ :: _) _ _); refine mmBox hM2 _ _ (wcells k) rfl rfl rfl ?_; intro w3 hM3; clear hM2; go_frame)
    | ((with_reducible change wpList _ _ _ (Oper.mk (some 6) _ _ _ _ _ :: _) _ _); refine mmAlloc hM3 _ _ rfl rfl zero_Sig ?_; intro w4 hM4; clear hM3; go_frame)
    | ((with_reducible change wpList _ _ _ (Oper.mk (some 12) _ _ _ _ _ :: _) _ _); refine kBuildW0 rfl rfl ?_; go_frame)
    | ((with_reducible change wpList _ _ _ (Oper.mk (some 8) _ _ _ _ _ :: _) _ _); refine mmAlloc hM4 _ _ rfl rfl zero_Wide ?_; intro w5 hM5; clear hM4; go_frame)
    | ((with_reducible change wpList _ _ _ (Oper.mk none (Op.store _ (Operand.tmp 8) (Operand.tmp 12)) _ _ _ _ :: _) _ _); refine mmStoreAt hM5 0 _ _ _ _ _ _ (wcells 0) rfl rfl rfl rfl rfl (info_WideC _) (by simp only [wcells_size]) (wcells_one _) ?_; intro w6 hM6; dsimp only [List.set] at hM6; clear hM5; go_frame)
    | ((with_reducible change wpList _ _ _ (Oper.mk (some 13) _ _ _ _ _ :: _) _ _); refine kLoadRow _ _ _ _ _ _ rfl rfl rfl (hM6.get 4 rfl) Tryd.underlying24 rfl (info_WideC _) ?_; go_frame)
    | (go_at_call 26; (with_reducible change Calls _ _ #[Value.agg (wcells a)] _ _); refine (isSecret_nn ma ha.out Hm.out _ (hN.below hM6.below)).mono ?_; rintro e w7 ⟨rfl, hB7⟩; have hM7 := hM6.on hB7; clear hB7 hM6; (try unfold WV); go_frame)
    | ((with_reducible change wpList _ _ _ (Oper.mk (some 21) _ _ _ _ _ :: _) _ _); refine kBuildSig0 rfl rfl ?_; go_frame)
    | ((with_reducible change wpList _ _ _ (Oper.mk none (Op.store _ (Operand.tmp 6) (Operand.tmp 21)) _ _ _ _ :: _) _ _); refine mmStoreAt hM7 1 _ _ _ _ _ _ (wcells2 0 0) rfl rfl rfl rfl rfl (info_SigC _ _) rfl (wcells2_one _ _) ?_; intro w8 hM8; dsimp only [List.set] at hM8; clear hM7; go_frame))
  exact result_row_tmp Tryd.results12 rfl rfl (hM8.get 1 rfl) Tryd.underlying35 rfl (info_SigC _ _) rfl ⟨rfl, hM8.below⟩
set_option maxRecDepth 100000 in
set_option maxHeartbeats 8000000 in
theorem sSign_no1 {a k : Nat} (ma : a < M256) (mk : k < M256) (ha : isSec a = true) (hk : isSec k = false) {f : Nat → Nat} (w : World) (hN : Glob 1 NN w) : Calls Tryd.prog 12 #[WV a, .agg (bcells f), WV k] w fun e w' => e = .returned (.tuple #[.agg (wcells2 0 0), .int .i64 51]) ∧ Below w.heap.size w w' := by
  obtain ⟨m, Hm⟩ : ∃ m, Hid (m = NN) := ⟨_, Lib.hid rfl⟩
  have hm : Modu m := by rw [Hm.out]; exact modu_N
  rw [← Hm.out] at hN
  replace ha := Lib.hid ha
  replace hk := Lib.hid hk
  have hM0 := mm_nil w
  (try unfold WV)
  go_enter Tryd.func12, Tryd.ntmps12
  go_wp2_with (first
    | ((with_reducible change wpList _ _ _ (Oper.mk (some 3) _ _ _ _ _ :: _) _ _); refine mmBox hM0 _ _ (wcells a) rfl rfl rfl ?_; intro w1 hM1; clear hM0; go_frame)
    | ((with_reducible change wpList _ _ _ (Oper.mk (some 4) _ _ _ _ _ :: _) _ _); refine mmBox hM1 _ _ (bcells f) rfl rfl rfl ?_; intro w2 hM2; clear hM1; go_frame)
    | ((with_reducible change wpList _ _ _ (Oper.mk (some 5) _ _ _ _ _ :: _) _ _); refine mmBox hM2 _ _ (wcells k) rfl rfl rfl ?_; intro w3 hM3; clear hM2; go_frame)
    | ((with_reducible change wpList _ _ _ (Oper.mk (some 6) _ _ _ _ _ :: _) _ _); refine mmAlloc hM3 _ _ rfl rfl zero_Sig ?_; intro w4 hM4; clear hM3; go_frame)
    | ((with_reducible change wpList _ _ _ (Oper.mk (some 12) _ _ _ _ _ :: _) _ _); refine kBuildW0 rfl rfl ?_; go_frame)
    | ((with_reducible change wpList _ _ _ (Oper.mk (some 8) _ _ _ _ _ :: _) _ _); refine mmAlloc hM4 _ _ rfl rfl zero_Wide ?_; intro w5 hM5; clear hM4; go_frame)
    | ((with_reducible change wpList _ _ _ (Oper.mk none (Op.store _ (Operand.tmp 8) (Operand.tmp 12)) _ _ _ _ :: _) _ _); refine mmStoreAt hM5 0 _ _ _ _ _ _ (wcells 0) rfl rfl rfl rfl rfl (info_WideC _) (by simp only [wcells_size]) (wcells_one _) ?_; intro w6 hM6; dsimp only [List.set] at hM6; clear hM5; go_frame)
    | ((with_reducible change wpList _ _ _ (Oper.mk (some 13) _ _ _ _ _ :: _) _ _); refine kLoadRow _ _ _ _ _ _ rfl rfl rfl (hM6.get 4 rfl) Tryd.underlying24 rfl (info_WideC _) ?_; go_frame)
    | (go_at_call 26; (with_reducible change Calls _ _ #[Value.agg (wcells a)] _ _); refine (isSecret_nn ma ha.out Hm.out _ (hN.below hM6.below)).mono ?_; rintro e w7 ⟨rfl, hB7⟩; have hM7 := hM6.on hB7; clear hB7 hM6; (try unfold WV); go_frame)
    | ((with_reducible change wpList _ _ _ (Oper.mk (some 17) _ _ _ _ _ :: _) _ _); refine kLoadRow _ _ _ _ _ _ rfl rfl rfl (hM7.get 2 rfl) Tryd.underlying24 rfl (info_WideC _) ?_; go_frame)
    | (go_at_call 26; (with_reducible change Calls _ _ #[Value.agg (wcells k)] _ _); refine (isSecret_nn mk hk.out Hm.out _ (hN.below hM7.below)).mono ?_; rintro e w8 ⟨rfl, hB8⟩; have hM8 := hM7.on hB8; clear hB8 hM7; (try unfold WV); go_frame)
    | ((with_reducible change wpList _ _ _ (Oper.mk (some 21) _ _ _ _ _ :: _) _ _); refine kBuildSig0 rfl rfl ?_; go_frame)
    | ((with_reducible change wpList _ _ _ (Oper.mk none (Op.store _ (Operand.tmp 6) (Operand.tmp 21)) _ _ _ _ :: _) _ _); refine mmStoreAt hM8 1 _ _ _ _ _ _ (wcells2 0 0) rfl rfl rfl rfl rfl (info_SigC _ _) rfl (wcells2_one _ _) ?_; intro w9 hM9; dsimp only [List.set] at hM9; clear hM8; go_frame))
  exact result_row_tmp Tryd.results12 rfl rfl (hM9.get 1 rfl) Tryd.underlying35 rfl (info_SigC _ _) rfl ⟨rfl, hM9.below⟩
set_option maxRecDepth 100000 in
set_option maxHeartbeats 8000000 in
theorem sSign_t_r {a k r s0 s : Nat} {f : Nat → Nat} {z : Nat} (hf : ∀ i, f i < 256) (hz : zOf f = z) (ha : isSec a = true) (hk : isSec k = true) (hr : sgR k = r) (hs0 : sgS0 a z k = s0) (hb : isHi s0 = true) (hs : NN - s0 = s) (h0 : r = 0) (w : World) (hG : Glob 3 PP w) (hO : GlobP 2 0 0 true w) (hB : GlobPt 0 gPt w) (hN : Glob 1 NN w) : Calls Tryd.prog 12 #[WV a, .agg (bcells f), WV k] w fun e w' => e = .returned (.tuple #[.agg (wcells2 0 0), .int .i64 51]) ∧ Below w.heap.size w w' := by
  have ma := isSec_lt ha
  have mk := isSec_lt hk
  have mr : r < M256 := by rw [← hr]; exact Nat.lt_trans (sgR_lt k) (by decide)
  have ls0 : s0 < NN := by rw [← hs0]; exact sgS0_lt a z k
  have ms0 : s0 < M256 := Nat.lt_trans ls0 (by decide)
  obtain ⟨m, Hm⟩ : ∃ m, Hid (m = NN) := ⟨_, Lib.hid rfl⟩
  have hm : Modu m := by rw [Hm.out]; exact modu_N
  rw [← Hm.out] at hN
  have Hz := Lib.hid hz
  have mz : z < M256 := by rw [← hz]; exact zOf_lt hf
  clear hz
  have hS := Lib.hid (show (0 % m + m - s0 % m) % m = s by have := isHi_iff.1 hb; rw [← hs, Hm.out, Nat.mod_eq_of_lt ls0, Nat.zero_mod, Nat.zero_add]; exact Nat.mod_eq_of_lt (by have := NN_pos; omega))
  have ms : s < M256 := by rw [← hS.out]; exact hm.mod _
  have Hr := Lib.hid hr
  have Hs0 := Lib.hid hs0
  replace ha := Lib.hid ha
  replace hk := Lib.hid hk
  replace hb := Lib.hid hb
  replace h0 := Lib.hid h0
  clear hs hr hs0
  obtain ⟨q25, Hq25⟩ : ∃ q, Hid (Pt.times ivP gPt k = q) := ⟨_, Lib.hid rfl⟩
  have oq25 : q25.On := by rw [← Hq25.out]; exact goodP.times_on gPt_on _
  obtain ⟨v33, Hv33, mv33⟩ := nameMod hm (r * a)
  obtain ⟨v34, Hv34, mv34⟩ := nameMod hm (z + v33)
  have hM0 := mm_nil w
  (try unfold WV)
  go_enter Tryd.func12, Tryd.ntmps12
  go_wp2_with (first
    | ((with_reducible change wpList _ _ _ (Oper.mk (some 3) _ _ _ _ _ :: _) _ _); refine mmBox hM0 _ _ (wcells a) rfl rfl rfl ?_; intro w1 hM1; clear hM0; go_frame)
    | ((with_reducible change wpList _ _ _ (Oper.mk (some 4) _ _ _ _ _ :: _) _ _); refine mmBox hM1 _ _ (bcells f) rfl rfl rfl ?_; intro w2 hM2; clear hM1; go_frame)
    | ((with_reducible change wpList _ _ _ (Oper.mk (some 5) _ _ _ _ _ :: _) _ _); refine mmBox hM2 _ _ (wcells k) rfl rfl rfl ?_; intro w3 hM3; clear hM2; go_frame)
    | ((with_reducible change wpList _ _ _ (Oper.mk (some 6) _ _ _ _ _ :: _) _ _); refine mmAlloc hM3 _ _ rfl rfl zero_Sig ?_; intro w4 hM4; clear hM3; go_frame)
    | ((with_reducible change wpList _ _ _ (Oper.mk (some 12) _ _ _ _ _ :: _) _ _); refine kBuildW0 rfl rfl ?_; go_frame)
    | ((with_reducible change wpList _ _ _ (Oper.mk (some 8) _ _ _ _ _ :: _) _ _); refine mmAlloc hM4 _ _ rfl rfl zero_Wide ?_; intro w5 hM5; clear hM4; go_frame)
    | ((with_reducible change wpList _ _ _ (Oper.mk none (Op.store _ (Operand.tmp 8) (Operand.tmp 12)) _ _ _ _ :: _) _ _); refine mmStoreAt hM5 0 _ _ _ _ _ _ (wcells 0) rfl rfl rfl rfl rfl (info_WideC _) (by simp only [wcells_size]) (wcells_one _) ?_; intro w6 hM6; dsimp only [List.set] at hM6; clear hM5; go_frame)
    | ((with_reducible change wpList _ _ _ (Oper.mk (some 13) _ _ _ _ _ :: _) _ _); refine kLoadRow _ _ _ _ _ _ rfl rfl rfl (hM6.get 4 rfl) Tryd.underlying24 rfl (info_WideC _) ?_; go_frame)
    | (go_at_call 26; (with_reducible change Calls _ _ #[Value.agg (wcells a)] _ _); refine (isSecret_nn ma ha.out Hm.out _ (hN.below hM6.below)).mono ?_; rintro e w7 ⟨rfl, hB7⟩; have hM7 := hM6.on hB7; clear hB7 hM6; (try unfold WV); go_frame)
    | ((with_reducible change wpList _ _ _ (Oper.mk (some 17) _ _ _ _ _ :: _) _ _); refine kLoadRow _ _ _ _ _ _ rfl rfl rfl (hM7.get 2 rfl) Tryd.underlying24 rfl (info_WideC _) ?_; go_frame)
    | (go_at_call 26; (with_reducible change Calls _ _ #[Value.agg (wcells k)] _ _); refine (isSecret_nn mk hk.out Hm.out _ (hN.below hM7.below)).mono ?_; rintro e w8 ⟨rfl, hB8⟩; have hM8 := hM7.on hB8; clear hB8 hM7; (try unfold WV); go_frame)
    | (go_at_call 29; refine (fN_any m _ (hN.below hM8.below)).mono ?_; rintro e w9 ⟨rfl, hR9, hB9⟩; have hM9 := hM8.new hR9 hB9; clear hB9 hR9 hM8; go_frame))
  refine region_symT 5 _ [4] [10] [.val (.agg (wcells k)), .val (.agg (ptc gPt)), .val (.agg (ptc q25)), .val (.agg (wcells r)), .hold w9.heap.size 24 (wcells 0)] rfl (by kernel_rfl) (by kernel_rfl) (by kernel_rfl) (by kernel_rfl) rfl (by intro s hs; simp only [List.mem_cons, List.not_mem_nil, or_false] at hs; rcases hs with rfl <;> rfl) (steps_all ⟨?_, ?_, ?_, ?_, ?_, trivial⟩) ?_
  · exact fun A W sz ot hbel ap dp => kLoadRow _ _ _ _ _ _ rfl rfl (sO ot 5) ((hM9.get 3 rfl).on hbel) Tryd.underlying24 rfl (info_WideC _) (sE ap sz rfl)
  · intro A W sz ot hbel ap dp
    refine kCall0 28 _ rfl rfl (by kernel_rfl)  ?_
    refine (cBase_pt W ((hB.below hM9.below).below hbel)).mono ?_
    rintro e r ⟨rfl, hBc⟩
    exact ⟨_, rfl, (sV ap sz hBc rfl)⟩
  · exact fun A W sz ot hbel ap dp => sCall2 27 rfl (sD dp 0 .data) (sD dp 1 .data) (sC (cTimes_q mk gPt_on Hq25.out W ((hG.below hM9.below).below hbel) ((hO.below hM9.below).below hbel) ((hB.below hM9.below).below hbel)) ap sz (fun _ => rfl))
  · exact fun A W sz ot hbel ap dp => sCall1 30 rfl (sD dp 2 .data) (sC (foldX_nn (show pX q25 % NN = r by rw [← Hq25.out]; exact Hr.out) Hm.out W ((hN.below hM9.below).below hbel)) ap sz (fun _ => rfl))
  · intro A W sz ot hbel ap dp
    refine kAllocL _ _ rfl rfl zero_Wide ?_
    intro r hR hl hBc
    exact (sA ap sz hl hBc ⟨_, rfl, hbel.size, hR⟩ rfl)
  intro w10 hB10
  dsimp only [AllV]
  intro g10_10 hg10_10 hR10_10
  intro hap
  dsimp only [putAll, List.take, List.drop]
  go_frame
  have hM10 := hM9.on hB10
  replace hM10 := hM10.cons hR10_10 (Nat.le_trans hM9.size hg10_10) (fun p hp => by have := hM9.lt hp; omega)
  clear hB10 hM9 hap hg10_10 hR10_10
  go_wp2_with (first
    | ((with_reducible change wpList _ _ _ (Oper.mk none (Op.store _ (Operand.tmp 10) (Operand.tmp 26)) _ _ _ _ :: _) _ _); refine mmStoreAt hM10 0 _ _ _ _ _ _ (wcells r) rfl rfl rfl rfl rfl (info_WideC _) (by simp only [wcells_size]) (wcells_one _) ?_; intro w11 hM11; dsimp only [List.set] at hM11; clear hM10; go_frame))
  refine region_symT 11 _ [10] [11] [.val (.pointer (some ⟨w8.heap.size, 0, none⟩)), .val (.agg (bcells f)), .val (.agg (wcells z)), .val (.pointer (some ⟨w8.heap.size, 0, none⟩)), .val (.agg (wcells r)), .val (.agg (wcells a)), .val (.agg (wcells v33)), .val (.agg (wcells v34)), .val (.agg (wcells k)), .val (.agg (wcells s0)), .hold w11.heap.size 24 (wcells 0)] rfl (by kernel_rfl) (by kernel_rfl) (by kernel_rfl) (by kernel_rfl) rfl (by intro s hs; simp only [List.mem_cons, List.not_mem_nil, or_false] at hs; rcases hs with rfl <;> rfl) (steps_all ⟨?_, ?_, ?_, ?_, ?_, ?_, ?_, ?_, ?_, ?_, ?_, trivial⟩) ?_
  · exact fun A W sz ot hbel ap dp => kMoveV _ _ rfl rfl (sO ot 9) (sE ap sz rfl)
  · exact fun A W sz ot hbel ap dp => kLoadRow _ _ _ _ _ _ rfl rfl (sO ot 4) ((hM11.get 5 rfl).on hbel) Tryd.underlying40 rfl (info_HashC _) (sE ap sz rfl)
  · exact fun A W sz ot hbel ap dp => sCall1 33 rfl (sD dp 1 .data) (sC (wFrom_z hf Hz.out W) ap sz (fun _ => rfl))
  · exact fun A W sz ot hbel ap dp => kMoveV _ _ rfl rfl (sO ot 9) (sE ap sz rfl)
  · exact fun A W sz ot hbel ap dp => kLoadRow _ _ _ _ _ _ rfl rfl (sO ot 10) ((hM11.get 0 rfl).on hbel) Tryd.underlying24 rfl (info_WideC _) (sE ap sz rfl)
  · exact fun A W sz ot hbel ap dp => kLoadRow _ _ _ _ _ _ rfl rfl (sO ot 3) ((hM11.get 6 rfl).on hbel) Tryd.underlying24 rfl (info_WideC _) (sE ap sz rfl)
  · exact fun A W sz ot hbel ap dp => sCall3 34 rfl (sD dp 3 .data) (sD dp 4 .data) (sD dp 5 .data) (sC (fMul_as hm (w8.heap.size) mr ma Hv33.out W ((hM11.get 1 rfl).on hbel)) ap sz (fun _ => rfl))
  · exact fun A W sz ot hbel ap dp => sCall3 32 rfl (sD dp 0 .data) (sD dp 2 .data) (sD dp 6 .data) (sC (fAdd_as hm (w8.heap.size) mz mv33 Hv34.out.symm W ((hM11.get 1 rfl).on hbel)) ap sz (fun _ => rfl))
  · exact fun A W sz ot hbel ap dp => kLoadRow _ _ _ _ _ _ rfl rfl (sO ot 5) ((hM11.get 4 rfl).on hbel) Tryd.underlying24 rfl (info_WideC _) (sE ap sz rfl)
  · exact fun A W sz ot hbel ap dp => sCall2 31 rfl (sD dp 7 .data) (sD dp 8 .data) (sC (sBy_nn mv34 hk.out (show v34 * invN k % NN = s0 from sg_same Hm.out Hr.out Hs0.out Hv33.out Hv34.out) Hm.out W ((hN.below hM11.below).below hbel)) ap sz (fun _ => rfl))
  · intro A W sz ot hbel ap dp
    refine kAllocL _ _ rfl rfl zero_Wide ?_
    intro r hR hl hBc
    exact (sA ap sz hl hBc ⟨_, rfl, hbel.size, hR⟩ rfl)
  intro w12 hB12
  dsimp only [AllV]
  intro g12_11 hg12_11 hR12_11
  intro hap
  dsimp only [putAll, List.take, List.drop]
  go_frame
  have hM12 := hM11.on hB12
  replace hM12 := hM12.cons hR12_11 (Nat.le_trans hM11.size hg12_11) (fun p hp => by have := hM11.lt hp; omega)
  clear hB12 hM11 hap hg12_11 hR12_11
  go_wp2_with (first
    | ((with_reducible change wpList _ _ _ (Oper.mk none (Op.store _ (Operand.tmp 11) (Operand.tmp 36)) _ _ _ _ :: _) _ _); refine mmStoreAt hM12 0 _ _ _ _ _ _ (wcells s0) rfl rfl rfl rfl rfl (info_WideC _) (by simp only [wcells_size]) (wcells_one _) ?_; intro w13 hM13; dsimp only [List.set] at hM13; clear hM12; go_frame)
    | ((with_reducible change wpList _ _ _ (Oper.mk (some 37) _ _ _ _ _ :: _) _ _); refine kLoadRow _ _ _ _ _ _ rfl rfl rfl (hM13.get 0 rfl) Tryd.underlying24 rfl (info_WideC _) ?_; go_frame)
    | (go_at_call 35; (with_reducible change Calls _ _ #[Value.agg (wcells s0)] _ _); refine (isHigh_nn ms0 hb.out Hm.out _ (hN.below hM13.below)).mono ?_; rintro e w14 ⟨rfl, hB14⟩; have hM14 := hM13.on hB14; clear hB14 hM13; (try unfold WV); go_frame)
    | ((with_reducible change wpList _ _ _ (Oper.mk (some 40) _ _ _ _ _ :: _) _ _); refine kLoadRow _ _ _ _ _ _ rfl rfl rfl (hM14.get 3 rfl) Tryd.underlying24 rfl (info_WideC _) ?_; go_frame)
    | ((with_reducible change wpList _ _ _ (Oper.mk (some 41) _ _ _ _ _ :: _) _ _); refine kLoadRow _ _ _ _ _ _ rfl rfl rfl (hM14.get 0 rfl) Tryd.underlying24 rfl (info_WideC _) ?_; go_frame)
    | (go_at_call 36; (with_reducible change Calls _ _ #[Value.pointer (some ⟨w8.heap.size, 0, none⟩), Value.agg (wcells 0), Value.agg (wcells s0)] _ _); refine (fSub_as hm (w8.heap.size) M256_pos ms0 hS.out _ (hM14.get 2 rfl)).mono ?_; rintro e w15 ⟨rfl, hB15⟩; have hM15 := hM14.on hB15; clear hB15 hM14; (try unfold WV); go_frame)
    | ((with_reducible change wpList _ _ _ (Oper.mk none (Op.store _ (Operand.tmp 11) (Operand.tmp 42)) _ _ _ _ :: _) _ _); refine mmStoreAt hM15 0 _ _ _ _ _ _ (wcells s) rfl rfl rfl rfl rfl (info_WideC _) (by simp only [wcells_size]) (wcells_one _) ?_; intro w16 hM16; dsimp only [List.set] at hM16; clear hM15; go_frame)
    | ((with_reducible change wpList _ _ _ (Oper.mk (some 43) _ _ _ _ _ :: _) _ _); refine kLoadRow _ _ _ _ _ _ rfl rfl rfl (hM16.get 1 rfl) Tryd.underlying24 rfl (info_WideC _) ?_; go_frame)
    | ((with_reducible change wpList _ _ _ (Oper.mk (some 44) _ _ _ _ _ :: _) _ _); refine kLoadRow _ _ _ _ _ _ rfl rfl rfl (hM16.get 3 rfl) Tryd.underlying24 rfl (info_WideC _) ?_; go_frame)
    | ((with_reducible change wpList _ _ _ (Oper.mk (some 45) _ _ _ _ _ :: _) _ _); refine kEqlW _ _ _ (r) (0) true rfl rfl rfl rfl (eqlW_yes h0.out) ?_; go_frame)
    | ((with_reducible change wpList _ _ _ (Oper.mk (some 51) _ _ _ _ _ :: _) _ _); refine kBuildSig0 rfl rfl ?_; go_frame)
    | ((with_reducible change wpList _ _ _ (Oper.mk none (Op.store _ (Operand.tmp 6) (Operand.tmp 51)) _ _ _ _ :: _) _ _); refine mmStoreAt hM16 4 _ _ _ _ _ _ (wcells2 0 0) rfl rfl rfl rfl rfl (info_SigC _ _) rfl (wcells2_one _ _) ?_; intro w17 hM17; dsimp only [List.set] at hM17; clear hM16; go_frame))
  exact result_row_tmp Tryd.results12 rfl rfl (hM17.get 4 rfl) Tryd.underlying35 rfl (info_SigC _ _) rfl ⟨rfl, hM17.below⟩
set_option maxRecDepth 100000 in
set_option maxHeartbeats 8000000 in
theorem sSign_t_s {a k r s0 s : Nat} {f : Nat → Nat} {z : Nat} (hf : ∀ i, f i < 256) (hz : zOf f = z) (ha : isSec a = true) (hk : isSec k = true) (hr : sgR k = r) (hs0 : sgS0 a z k = s0) (hb : isHi s0 = true) (hs : NN - s0 = s) (h0 : r ≠ 0) (h1 : s = 0) (w : World) (hG : Glob 3 PP w) (hO : GlobP 2 0 0 true w) (hB : GlobPt 0 gPt w) (hN : Glob 1 NN w) : Calls Tryd.prog 12 #[WV a, .agg (bcells f), WV k] w fun e w' => e = .returned (.tuple #[.agg (wcells2 0 0), .int .i64 51]) ∧ Below w.heap.size w w' := by
  have ma := isSec_lt ha
  have mk := isSec_lt hk
  have mr : r < M256 := by rw [← hr]; exact Nat.lt_trans (sgR_lt k) (by decide)
  have ls0 : s0 < NN := by rw [← hs0]; exact sgS0_lt a z k
  have ms0 : s0 < M256 := Nat.lt_trans ls0 (by decide)
  obtain ⟨m, Hm⟩ : ∃ m, Hid (m = NN) := ⟨_, Lib.hid rfl⟩
  have hm : Modu m := by rw [Hm.out]; exact modu_N
  rw [← Hm.out] at hN
  have Hz := Lib.hid hz
  have mz : z < M256 := by rw [← hz]; exact zOf_lt hf
  clear hz
  have hS := Lib.hid (show (0 % m + m - s0 % m) % m = s by have := isHi_iff.1 hb; rw [← hs, Hm.out, Nat.mod_eq_of_lt ls0, Nat.zero_mod, Nat.zero_add]; exact Nat.mod_eq_of_lt (by have := NN_pos; omega))
  have ms : s < M256 := by rw [← hS.out]; exact hm.mod _
  have Hr := Lib.hid hr
  have Hs0 := Lib.hid hs0
  replace ha := Lib.hid ha
  replace hk := Lib.hid hk
  replace hb := Lib.hid hb
  replace h0 := Lib.hid h0
  replace h1 := Lib.hid h1
  clear hs hr hs0
  obtain ⟨q25, Hq25⟩ : ∃ q, Hid (Pt.times ivP gPt k = q) := ⟨_, Lib.hid rfl⟩
  have oq25 : q25.On := by rw [← Hq25.out]; exact goodP.times_on gPt_on _
  obtain ⟨v33, Hv33, mv33⟩ := nameMod hm (r * a)
  obtain ⟨v34, Hv34, mv34⟩ := nameMod hm (z + v33)
  have hM0 := mm_nil w
  (try unfold WV)
  go_enter Tryd.func12, Tryd.ntmps12
  go_wp2_with (first
    | ((with_reducible change wpList _ _ _ (Oper.mk (some 3) _ _ _ _ _ :: _) _ _); refine mmBox hM0 _ _ (wcells a) rfl rfl rfl ?_; intro w1 hM1; clear hM0; go_frame)
    | ((with_reducible change wpList _ _ _ (Oper.mk (some 4) _ _ _ _ _ :: _) _ _); refine mmBox hM1 _ _ (bcells f) rfl rfl rfl ?_; intro w2 hM2; clear hM1; go_frame)
    | ((with_reducible change wpList _ _ _ (Oper.mk (some 5) _ _ _ _ _ :: _) _ _); refine mmBox hM2 _ _ (wcells k) rfl rfl rfl ?_; intro w3 hM3; clear hM2; go_frame)
    | ((with_reducible change wpList _ _ _ (Oper.mk (some 6) _ _ _ _ _ :: _) _ _); refine mmAlloc hM3 _ _ rfl rfl zero_Sig ?_; intro w4 hM4; clear hM3; go_frame)
    | ((with_reducible change wpList _ _ _ (Oper.mk (some 12) _ _ _ _ _ :: _) _ _); refine kBuildW0 rfl rfl ?_; go_frame)
    | ((with_reducible change wpList _ _ _ (Oper.mk (some 8) _ _ _ _ _ :: _) _ _); refine mmAlloc hM4 _ _ rfl rfl zero_Wide ?_; intro w5 hM5; clear hM4; go_frame)
    | ((with_reducible change wpList _ _ _ (Oper.mk none (Op.store _ (Operand.tmp 8) (Operand.tmp 12)) _ _ _ _ :: _) _ _); refine mmStoreAt hM5 0 _ _ _ _ _ _ (wcells 0) rfl rfl rfl rfl rfl (info_WideC _) (by simp only [wcells_size]) (wcells_one _) ?_; intro w6 hM6; dsimp only [List.set] at hM6; clear hM5; go_frame)
    | ((with_reducible change wpList _ _ _ (Oper.mk (some 13) _ _ _ _ _ :: _) _ _); refine kLoadRow _ _ _ _ _ _ rfl rfl rfl (hM6.get 4 rfl) Tryd.underlying24 rfl (info_WideC _) ?_; go_frame)
    | (go_at_call 26; (with_reducible change Calls _ _ #[Value.agg (wcells a)] _ _); refine (isSecret_nn ma ha.out Hm.out _ (hN.below hM6.below)).mono ?_; rintro e w7 ⟨rfl, hB7⟩; have hM7 := hM6.on hB7; clear hB7 hM6; (try unfold WV); go_frame)
    | ((with_reducible change wpList _ _ _ (Oper.mk (some 17) _ _ _ _ _ :: _) _ _); refine kLoadRow _ _ _ _ _ _ rfl rfl rfl (hM7.get 2 rfl) Tryd.underlying24 rfl (info_WideC _) ?_; go_frame)
    | (go_at_call 26; (with_reducible change Calls _ _ #[Value.agg (wcells k)] _ _); refine (isSecret_nn mk hk.out Hm.out _ (hN.below hM7.below)).mono ?_; rintro e w8 ⟨rfl, hB8⟩; have hM8 := hM7.on hB8; clear hB8 hM7; (try unfold WV); go_frame)
    | (go_at_call 29; refine (fN_any m _ (hN.below hM8.below)).mono ?_; rintro e w9 ⟨rfl, hR9, hB9⟩; have hM9 := hM8.new hR9 hB9; clear hB9 hR9 hM8; go_frame))
  refine region_symT 5 _ [4] [10] [.val (.agg (wcells k)), .val (.agg (ptc gPt)), .val (.agg (ptc q25)), .val (.agg (wcells r)), .hold w9.heap.size 24 (wcells 0)] rfl (by kernel_rfl) (by kernel_rfl) (by kernel_rfl) (by kernel_rfl) rfl (by intro s hs; simp only [List.mem_cons, List.not_mem_nil, or_false] at hs; rcases hs with rfl <;> rfl) (steps_all ⟨?_, ?_, ?_, ?_, ?_, trivial⟩) ?_
  · exact fun A W sz ot hbel ap dp => kLoadRow _ _ _ _ _ _ rfl rfl (sO ot 5) ((hM9.get 3 rfl).on hbel) Tryd.underlying24 rfl (info_WideC _) (sE ap sz rfl)
  · intro A W sz ot hbel ap dp
    refine kCall0 28 _ rfl rfl (by kernel_rfl)  ?_
    refine (cBase_pt W ((hB.below hM9.below).below hbel)).mono ?_
    rintro e r ⟨rfl, hBc⟩
    exact ⟨_, rfl, (sV ap sz hBc rfl)⟩
  · exact fun A W sz ot hbel ap dp => sCall2 27 rfl (sD dp 0 .data) (sD dp 1 .data) (sC (cTimes_q mk gPt_on Hq25.out W ((hG.below hM9.below).below hbel) ((hO.below hM9.below).below hbel) ((hB.below hM9.below).below hbel)) ap sz (fun _ => rfl))
  · exact fun A W sz ot hbel ap dp => sCall1 30 rfl (sD dp 2 .data) (sC (foldX_nn (show pX q25 % NN = r by rw [← Hq25.out]; exact Hr.out) Hm.out W ((hN.below hM9.below).below hbel)) ap sz (fun _ => rfl))
  · intro A W sz ot hbel ap dp
    refine kAllocL _ _ rfl rfl zero_Wide ?_
    intro r hR hl hBc
    exact (sA ap sz hl hBc ⟨_, rfl, hbel.size, hR⟩ rfl)
  intro w10 hB10
  dsimp only [AllV]
  intro g10_10 hg10_10 hR10_10
  intro hap
  dsimp only [putAll, List.take, List.drop]
  go_frame
  have hM10 := hM9.on hB10
  replace hM10 := hM10.cons hR10_10 (Nat.le_trans hM9.size hg10_10) (fun p hp => by have := hM9.lt hp; omega)
  clear hB10 hM9 hap hg10_10 hR10_10
  go_wp2_with (first
    | ((with_reducible change wpList _ _ _ (Oper.mk none (Op.store _ (Operand.tmp 10) (Operand.tmp 26)) _ _ _ _ :: _) _ _); refine mmStoreAt hM10 0 _ _ _ _ _ _ (wcells r) rfl rfl rfl rfl rfl (info_WideC _) (by simp only [wcells_size]) (wcells_one _) ?_; intro w11 hM11; dsimp only [List.set] at hM11; clear hM10; go_frame))
  refine region_symT 11 _ [10] [11] [.val (.pointer (some ⟨w8.heap.size, 0, none⟩)), .val (.agg (bcells f)), .val (.agg (wcells z)), .val (.pointer (some ⟨w8.heap.size, 0, none⟩)), .val (.agg (wcells r)), .val (.agg (wcells a)), .val (.agg (wcells v33)), .val (.agg (wcells v34)), .val (.agg (wcells k)), .val (.agg (wcells s0)), .hold w11.heap.size 24 (wcells 0)] rfl (by kernel_rfl) (by kernel_rfl) (by kernel_rfl) (by kernel_rfl) rfl (by intro s hs; simp only [List.mem_cons, List.not_mem_nil, or_false] at hs; rcases hs with rfl <;> rfl) (steps_all ⟨?_, ?_, ?_, ?_, ?_, ?_, ?_, ?_, ?_, ?_, ?_, trivial⟩) ?_
  · exact fun A W sz ot hbel ap dp => kMoveV _ _ rfl rfl (sO ot 9) (sE ap sz rfl)
  · exact fun A W sz ot hbel ap dp => kLoadRow _ _ _ _ _ _ rfl rfl (sO ot 4) ((hM11.get 5 rfl).on hbel) Tryd.underlying40 rfl (info_HashC _) (sE ap sz rfl)
  · exact fun A W sz ot hbel ap dp => sCall1 33 rfl (sD dp 1 .data) (sC (wFrom_z hf Hz.out W) ap sz (fun _ => rfl))
  · exact fun A W sz ot hbel ap dp => kMoveV _ _ rfl rfl (sO ot 9) (sE ap sz rfl)
  · exact fun A W sz ot hbel ap dp => kLoadRow _ _ _ _ _ _ rfl rfl (sO ot 10) ((hM11.get 0 rfl).on hbel) Tryd.underlying24 rfl (info_WideC _) (sE ap sz rfl)
  · exact fun A W sz ot hbel ap dp => kLoadRow _ _ _ _ _ _ rfl rfl (sO ot 3) ((hM11.get 6 rfl).on hbel) Tryd.underlying24 rfl (info_WideC _) (sE ap sz rfl)
  · exact fun A W sz ot hbel ap dp => sCall3 34 rfl (sD dp 3 .data) (sD dp 4 .data) (sD dp 5 .data) (sC (fMul_as hm (w8.heap.size) mr ma Hv33.out W ((hM11.get 1 rfl).on hbel)) ap sz (fun _ => rfl))
  · exact fun A W sz ot hbel ap dp => sCall3 32 rfl (sD dp 0 .data) (sD dp 2 .data) (sD dp 6 .data) (sC (fAdd_as hm (w8.heap.size) mz mv33 Hv34.out.symm W ((hM11.get 1 rfl).on hbel)) ap sz (fun _ => rfl))
  · exact fun A W sz ot hbel ap dp => kLoadRow _ _ _ _ _ _ rfl rfl (sO ot 5) ((hM11.get 4 rfl).on hbel) Tryd.underlying24 rfl (info_WideC _) (sE ap sz rfl)
  · exact fun A W sz ot hbel ap dp => sCall2 31 rfl (sD dp 7 .data) (sD dp 8 .data) (sC (sBy_nn mv34 hk.out (show v34 * invN k % NN = s0 from sg_same Hm.out Hr.out Hs0.out Hv33.out Hv34.out) Hm.out W ((hN.below hM11.below).below hbel)) ap sz (fun _ => rfl))
  · intro A W sz ot hbel ap dp
    refine kAllocL _ _ rfl rfl zero_Wide ?_
    intro r hR hl hBc
    exact (sA ap sz hl hBc ⟨_, rfl, hbel.size, hR⟩ rfl)
  intro w12 hB12
  dsimp only [AllV]
  intro g12_11 hg12_11 hR12_11
  intro hap
  dsimp only [putAll, List.take, List.drop]
  go_frame
  have hM12 := hM11.on hB12
  replace hM12 := hM12.cons hR12_11 (Nat.le_trans hM11.size hg12_11) (fun p hp => by have := hM11.lt hp; omega)
  clear hB12 hM11 hap hg12_11 hR12_11
  go_wp2_with (first
    | ((with_reducible change wpList _ _ _ (Oper.mk none (Op.store _ (Operand.tmp 11) (Operand.tmp 36)) _ _ _ _ :: _) _ _); refine mmStoreAt hM12 0 _ _ _ _ _ _ (wcells s0) rfl rfl rfl rfl rfl (info_WideC _) (by simp only [wcells_size]) (wcells_one _) ?_; intro w13 hM13; dsimp only [List.set] at hM13; clear hM12; go_frame)
    | ((with_reducible change wpList _ _ _ (Oper.mk (some 37) _ _ _ _ _ :: _) _ _); refine kLoadRow _ _ _ _ _ _ rfl rfl rfl (hM13.get 0 rfl) Tryd.underlying24 rfl (info_WideC _) ?_; go_frame)
    | (go_at_call 35; (with_reducible change Calls _ _ #[Value.agg (wcells s0)] _ _); refine (isHigh_nn ms0 hb.out Hm.out _ (hN.below hM13.below)).mono ?_; rintro e w14 ⟨rfl, hB14⟩; have hM14 := hM13.on hB14; clear hB14 hM13; (try unfold WV); go_frame)
    | ((with_reducible change wpList _ _ _ (Oper.mk (some 40) _ _ _ _ _ :: _) _ _); refine kLoadRow _ _ _ _ _ _ rfl rfl rfl (hM14.get 3 rfl) Tryd.underlying24 rfl (info_WideC _) ?_; go_frame)
    | ((with_reducible change wpList _ _ _ (Oper.mk (some 41) _ _ _ _ _ :: _) _ _); refine kLoadRow _ _ _ _ _ _ rfl rfl rfl (hM14.get 0 rfl) Tryd.underlying24 rfl (info_WideC _) ?_; go_frame)
    | (go_at_call 36; (with_reducible change Calls _ _ #[Value.pointer (some ⟨w8.heap.size, 0, none⟩), Value.agg (wcells 0), Value.agg (wcells s0)] _ _); refine (fSub_as hm (w8.heap.size) M256_pos ms0 hS.out _ (hM14.get 2 rfl)).mono ?_; rintro e w15 ⟨rfl, hB15⟩; have hM15 := hM14.on hB15; clear hB15 hM14; (try unfold WV); go_frame)
    | ((with_reducible change wpList _ _ _ (Oper.mk none (Op.store _ (Operand.tmp 11) (Operand.tmp 42)) _ _ _ _ :: _) _ _); refine mmStoreAt hM15 0 _ _ _ _ _ _ (wcells s) rfl rfl rfl rfl rfl (info_WideC _) (by simp only [wcells_size]) (wcells_one _) ?_; intro w16 hM16; dsimp only [List.set] at hM16; clear hM15; go_frame)
    | ((with_reducible change wpList _ _ _ (Oper.mk (some 43) _ _ _ _ _ :: _) _ _); refine kLoadRow _ _ _ _ _ _ rfl rfl rfl (hM16.get 1 rfl) Tryd.underlying24 rfl (info_WideC _) ?_; go_frame)
    | ((with_reducible change wpList _ _ _ (Oper.mk (some 44) _ _ _ _ _ :: _) _ _); refine kLoadRow _ _ _ _ _ _ rfl rfl rfl (hM16.get 3 rfl) Tryd.underlying24 rfl (info_WideC _) ?_; go_frame)
    | ((with_reducible change wpList _ _ _ (Oper.mk (some 45) _ _ _ _ _ :: _) _ _); refine kEqlW _ _ _ (r) (0) false rfl rfl rfl rfl (eqlW_no mr M256_pos h0.out) ?_; go_frame)
    | ((with_reducible change wpList _ _ _ (Oper.mk (some 47) _ _ _ _ _ :: _) _ _); refine kLoadRow _ _ _ _ _ _ rfl rfl rfl (hM16.get 0 rfl) Tryd.underlying24 rfl (info_WideC _) ?_; go_frame)
    | ((with_reducible change wpList _ _ _ (Oper.mk (some 48) _ _ _ _ _ :: _) _ _); refine kLoadRow _ _ _ _ _ _ rfl rfl rfl (hM16.get 3 rfl) Tryd.underlying24 rfl (info_WideC _) ?_; go_frame)
    | ((with_reducible change wpList _ _ _ (Oper.mk (some 49) _ _ _ _ _ :: _) _ _); refine kEqlW _ _ _ (s) (0) true rfl rfl rfl rfl (eqlW_yes h1.out) ?_; go_frame)
    | ((with_reducible change wpList _ _ _ (Oper.mk (some 51) _ _ _ _ _ :: _) _ _); refine kBuildSig0 rfl rfl ?_; go_frame)
    | ((with_reducible change wpList _ _ _ (Oper.mk none (Op.store _ (Operand.tmp 6) (Operand.tmp 51)) _ _ _ _ :: _) _ _); refine mmStoreAt hM16 4 _ _ _ _ _ _ (wcells2 0 0) rfl rfl rfl rfl rfl (info_SigC _ _) rfl (wcells2_one _ _) ?_; intro w17 hM17; dsimp only [List.set] at hM17; clear hM16; go_frame))
  exact result_row_tmp Tryd.results12 rfl rfl (hM17.get 4 rfl) Tryd.underlying35 rfl (info_SigC _ _) rfl ⟨rfl, hM17.below⟩
set_option maxRecDepth 100000 in
set_option maxHeartbeats 8000000 in
theorem sSign_t_ok {a k r s0 s : Nat} {f : Nat → Nat} {z : Nat} (hf : ∀ i, f i < 256) (hz : zOf f = z) (ha : isSec a = true) (hk : isSec k = true) (hr : sgR k = r) (hs0 : sgS0 a z k = s0) (hb : isHi s0 = true) (hs : NN - s0 = s) (h0 : r ≠ 0) (h1 : s ≠ 0) (w : World) (hG : Glob 3 PP w) (hO : GlobP 2 0 0 true w) (hB : GlobPt 0 gPt w) (hN : Glob 1 NN w) : Calls Tryd.prog 12 #[WV a, .agg (bcells f), WV k] w fun e w' => e = .returned (.tuple #[.agg (wcells2 r s), .int .i64 0]) ∧ Below w.heap.size w w' := by
  have ma := isSec_lt ha
  have mk := isSec_lt hk
  have mr : r < M256 := by rw [← hr]; exact Nat.lt_trans (sgR_lt k) (by decide)
  have ls0 : s0 < NN := by rw [← hs0]; exact sgS0_lt a z k
  have ms0 : s0 < M256 := Nat.lt_trans ls0 (by decide)
  obtain ⟨m, Hm⟩ : ∃ m, Hid (m = NN) := ⟨_, Lib.hid rfl⟩
  have hm : Modu m := by rw [Hm.out]; exact modu_N
  rw [← Hm.out] at hN
  have Hz := Lib.hid hz
  have mz : z < M256 := by rw [← hz]; exact zOf_lt hf
  clear hz
  have hS := Lib.hid (show (0 % m + m - s0 % m) % m = s by have := isHi_iff.1 hb; rw [← hs, Hm.out, Nat.mod_eq_of_lt ls0, Nat.zero_mod, Nat.zero_add]; exact Nat.mod_eq_of_lt (by have := NN_pos; omega))
  have ms : s < M256 := by rw [← hS.out]; exact hm.mod _
  have Hr := Lib.hid hr
  have Hs0 := Lib.hid hs0
  replace ha := Lib.hid ha
  replace hk := Lib.hid hk
  replace hb := Lib.hid hb
  replace h0 := Lib.hid h0
  replace h1 := Lib.hid h1
  clear hs hr hs0
  obtain ⟨q25, Hq25⟩ : ∃ q, Hid (Pt.times ivP gPt k = q) := ⟨_, Lib.hid rfl⟩
  have oq25 : q25.On := by rw [← Hq25.out]; exact goodP.times_on gPt_on _
  obtain ⟨v33, Hv33, mv33⟩ := nameMod hm (r * a)
  obtain ⟨v34, Hv34, mv34⟩ := nameMod hm (z + v33)
  have hM0 := mm_nil w
  (try unfold WV)
  go_enter Tryd.func12, Tryd.ntmps12
  go_wp2_with (first
    | ((with_reducible change wpList _ _ _ (Oper.mk (some 3) _ _ _ _ _ :: _) _ _); refine mmBox hM0 _ _ (wcells a) rfl rfl rfl ?_; intro w1 hM1; clear hM0; go_frame)
    | ((with_reducible change wpList _ _ _ (Oper.mk (some 4) _ _ _ _ _ :: _) _ _); refine mmBox hM1 _ _ (bcells f) rfl rfl rfl ?_; intro w2 hM2; clear hM1; go_frame)
    | ((with_reducible change wpList _ _ _ (Oper.mk (some 5) _ _ _ _ _ :: _) _ _); refine mmBox hM2 _ _ (wcells k) rfl rfl rfl ?_; intro w3 hM3; clear hM2; go_frame)
    | ((with_reducible change wpList _ _ _ (Oper.mk (some 6) _ _ _ _ _ :: _) _ _); refine mmAlloc hM3 _ _ rfl rfl zero_Sig ?_; intro w4 hM4; clear hM3; go_frame)
    | ((with_reducible change wpList _ _ _ (Oper.mk (some 12) _ _ _ _ _ :: _) _ _); refine kBuildW0 rfl rfl ?_; go_frame)
    | ((with_reducible change wpList _ _ _ (Oper.mk (some 8) _ _ _ _ _ :: _) _ _); refine mmAlloc hM4 _ _ rfl rfl zero_Wide ?_; intro w5 hM5; clear hM4; go_frame)
    | ((with_reducible change wpList _ _ _ (Oper.mk none (Op.store _ (Operand.tmp 8) (Operand.tmp 12)) _ _ _ _ :: _) _ _); refine mmStoreAt hM5 0 _ _ _ _ _ _ (wcells 0) rfl rfl rfl rfl rfl (info_WideC _) (by simp only [wcells_size]) (wcells_one _) ?_; intro w6 hM6; dsimp only [List.set] at hM6; clear hM5; go_frame)
    | ((with_reducible change wpList _ _ _ (Oper.mk (some 13) _ _ _ _ _ :: _) _ _); refine kLoadRow _ _ _ _ _ _ rfl rfl rfl (hM6.get 4 rfl) Tryd.underlying24 rfl (info_WideC _) ?_; go_frame)
    | (go_at_call 26; (with_reducible change Calls _ _ #[Value.agg (wcells a)] _ _); refine (isSecret_nn ma ha.out Hm.out _ (hN.below hM6.below)).mono ?_; rintro e w7 ⟨rfl, hB7⟩; have hM7 := hM6.on hB7; clear hB7 hM6; (try unfold WV); go_frame)
    | ((with_reducible change wpList _ _ _ (Oper.mk (some 17) _ _ _ _ _ :: _) _ _); refine kLoadRow _ _ _ _ _ _ rfl rfl rfl (hM7.get 2 rfl) Tryd.underlying24 rfl (info_WideC _) ?_; go_frame)
    | (go_at_call 26; (with_reducible change Calls _ _ #[Value.agg (wcells k)] _ _); refine (isSecret_nn mk hk.out Hm.out _ (hN.below hM7.below)).mono ?_; rintro e w8 ⟨rfl, hB8⟩; have hM8 := hM7.on hB8; clear hB8 hM7; (try unfold WV); go_frame)
    | (go_at_call 29; refine (fN_any m _ (hN.below hM8.below)).mono ?_; rintro e w9 ⟨rfl, hR9, hB9⟩; have hM9 := hM8.new hR9 hB9; clear hB9 hR9 hM8; go_frame))
  refine region_symT 5 _ [4] [10] [.val (.agg (wcells k)), .val (.agg (ptc gPt)), .val (.agg (ptc q25)), .val (.agg (wcells r)), .hold w9.heap.size 24 (wcells 0)] rfl (by kernel_rfl) (by kernel_rfl) (by kernel_rfl) (by kernel_rfl) rfl (by intro s hs; simp only [List.mem_cons, List.not_mem_nil, or_false] at hs; rcases hs with rfl <;> rfl) (steps_all ⟨?_, ?_, ?_, ?_, ?_, trivial⟩) ?_
  · exact fun A W sz ot hbel ap dp => kLoadRow _ _ _ _ _ _ rfl rfl (sO ot 5) ((hM9.get 3 rfl).on hbel) Tryd.underlying24 rfl (info_WideC _) (sE ap sz rfl)
  · intro A W sz ot hbel ap dp
    refine kCall0 28 _ rfl rfl (by kernel_rfl)  ?_
    refine (cBase_pt W ((hB.below hM9.below).below hbel)).mono ?_
    rintro e r ⟨rfl, hBc⟩
    exact ⟨_, rfl, (sV ap sz hBc rfl)⟩
  · exact fun A W sz ot hbel ap dp => sCall2 27 rfl (sD dp 0 .data) (sD dp 1 .data) (sC (cTimes_q mk gPt_on Hq25.out W ((hG.below hM9.below).below hbel) ((hO.below hM9.below).below hbel) ((hB.below hM9.below).below hbel)) ap sz (fun _ => rfl))
  · exact fun A W sz ot hbel ap dp => sCall1 30 rfl (sD dp 2 .data) (sC (foldX_nn (show pX q25 % NN = r by rw [← Hq25.out]; exact Hr.out) Hm.out W ((hN.below hM9.below).below hbel)) ap sz (fun _ => rfl))
  · intro A W sz ot hbel ap dp
    refine kAllocL _ _ rfl rfl zero_Wide ?_
    intro r hR hl hBc
    exact (sA ap sz hl hBc ⟨_, rfl, hbel.size, hR⟩ rfl)
  intro w10 hB10
  dsimp only [AllV]
  intro g10_10 hg10_10 hR10_10
  intro hap
  dsimp only [putAll, List.take, List.drop]
  go_frame
  have hM10 := hM9.on hB10
  replace hM10 := hM10.cons hR10_10 (Nat.le_trans hM9.size hg10_10) (fun p hp => by have := hM9.lt hp; omega)
  clear hB10 hM9 hap hg10_10 hR10_10
  go_wp2_with (first
    | ((with_reducible change wpList _ _ _ (Oper.mk none (Op.store _ (Operand.tmp 10) (Operand.tmp 26)) _ _ _ _ :: _) _ _); refine mmStoreAt hM10 0 _ _ _ _ _ _ (wcells r) rfl rfl rfl rfl rfl (info_WideC _) (by simp only [wcells_size]) (wcells_one _) ?_; intro w11 hM11; dsimp only [List.set] at hM11; clear hM10; go_frame))
  refine region_symT 11 _ [10] [11] [.val (.pointer (some ⟨w8.heap.size, 0, none⟩)), .val (.agg (bcells f)), .val (.agg (wcells z)), .val (.pointer (some ⟨w8.heap.size, 0, none⟩)), .val (.agg (wcells r)), .val (.agg (wcells a)), .val (.agg (wcells v33)), .val (.agg (wcells v34)), .val (.agg (wcells k)), .val (.agg (wcells s0)), .hold w11.heap.size 24 (wcells 0)] rfl (by kernel_rfl) (by kernel_rfl) (by kernel_rfl) (by kernel_rfl) rfl (by intro s hs; simp only [List.mem_cons, List.not_mem_nil, or_false] at hs; rcases hs with rfl <;> rfl) (steps_all ⟨?_, ?_, ?_, ?_, ?_, ?_, ?_, ?_, ?_, ?_, ?_, trivial⟩) ?_
  · exact fun A W sz ot hbel ap dp => kMoveV _ _ rfl rfl (sO ot 9) (sE ap sz rfl)
  · exact fun A W sz ot hbel ap dp => kLoadRow _ _ _ _ _ _ rfl rfl (sO ot 4) ((hM11.get 5 rfl).on hbel) Tryd.underlying40 rfl (info_HashC _) (sE ap sz rfl)
  · exact fun A W sz ot hbel ap dp => sCall1 33 rfl (sD dp 1 .data) (sC (wFrom_z hf Hz.out W) ap sz (fun _ => rfl))
  · exact fun A W sz ot hbel ap dp => kMoveV _ _ rfl rfl (sO ot 9) (sE ap sz rfl)
  · exact fun A W sz ot hbel ap dp => kLoadRow _ _ _ _ _ _ rfl rfl (sO ot 10) ((hM11.get 0 rfl).on hbel) Tryd.underlying24 rfl (info_WideC _) (sE ap sz rfl)
  · exact fun A W sz ot hbel ap dp => kLoadRow _ _ _ _ _ _ rfl rfl (sO ot 3) ((hM11.get 6 rfl).on hbel) Tryd.underlying24 rfl (info_WideC _) (sE ap sz rfl)
  · exact fun A W sz ot hbel ap dp => sCall3 34 rfl (sD dp 3 .data) (sD dp 4 .data) (sD dp 5 .data) (sC (fMul_as hm (w8.heap.size) mr ma Hv33.out W ((hM11.get 1 rfl).on hbel)) ap sz (fun _ => rfl))
  · exact fun A W sz ot hbel ap dp => sCall3 32 rfl (sD dp 0 .data) (sD dp 2 .data) (sD dp 6 .data) (sC (fAdd_as hm (w8.heap.size) mz mv33 Hv34.out.symm W ((hM11.get 1 rfl).on hbel)) ap sz (fun _ => rfl))
  · exact fun A W sz ot hbel ap dp => kLoadRow _ _ _ _ _ _ rfl rfl (sO ot 5) ((hM11.get 4 rfl).on hbel) Tryd.underlying24 rfl (info_WideC _) (sE ap sz rfl)
  · exact fun A W sz ot hbel ap dp => sCall2 31 rfl (sD dp 7 .data) (sD dp 8 .data) (sC (sBy_nn mv34 hk.out (show v34 * invN k % NN = s0 from sg_same Hm.out Hr.out Hs0.out Hv33.out Hv34.out) Hm.out W ((hN.below hM11.below).below hbel)) ap sz (fun _ => rfl))
  · intro A W sz ot hbel ap dp
    refine kAllocL _ _ rfl rfl zero_Wide ?_
    intro r hR hl hBc
    exact (sA ap sz hl hBc ⟨_, rfl, hbel.size, hR⟩ rfl)
  intro w12 hB12
  dsimp only [AllV]
  intro g12_11 hg12_11 hR12_11
  intro hap
  dsimp only [putAll, List.take, List.drop]
  go_frame
  have hM12 := hM11.on hB12
  replace hM12 := hM12.cons hR12_11 (Nat.le_trans hM11.size hg12_11) (fun p hp => by have := hM11.lt hp; omega)
  clear hB12 hM11 hap hg12_11 hR12_11
  go_wp2_with (first
    | ((with_reducible change wpList _ _ _ (Oper.mk none (Op.store _ (Operand.tmp 11) (Operand.tmp 36)) _ _ _ _ :: _) _ _); refine mmStoreAt hM12 0 _ _ _ _ _ _ (wcells s0) rfl rfl rfl rfl rfl (info_WideC _) (by simp only [wcells_size]) (wcells_one _) ?_; intro w13 hM13; dsimp only [List.set] at hM13; clear hM12; go_frame)
    | ((with_reducible change wpList _ _ _ (Oper.mk (some 37) _ _ _ _ _ :: _) _ _); refine kLoadRow _ _ _ _ _ _ rfl rfl rfl (hM13.get 0 rfl) Tryd.underlying24 rfl (info_WideC _) ?_; go_frame)
    | (go_at_call 35; (with_reducible change Calls _ _ #[Value.agg (wcells s0)] _ _); refine (isHigh_nn ms0 hb.out Hm.out _ (hN.below hM13.below)).mono ?_; rintro e w14 ⟨rfl, hB14⟩; have hM14 := hM13.on hB14; clear hB14 hM13; (try unfold WV); go_frame)
    | ((with_reducible change wpList _ _ _ (Oper.mk (some 40) _ _ _ _ _ :: _) _ _); refine kLoadRow _ _ _ _ _ _ rfl rfl rfl (hM14.get 3 rfl) Tryd.underlying24 rfl (info_WideC _) ?_; go_frame)
    | ((with_reducible change wpList _ _ _ (Oper.mk (some 41) _ _ _ _ _ :: _) _ _); refine kLoadRow _ _ _ _ _ _ rfl rfl rfl (hM14.get 0 rfl) Tryd.underlying24 rfl (info_WideC _) ?_; go_frame)
    | (go_at_call 36; (with_reducible change Calls _ _ #[Value.pointer (some ⟨w8.heap.size, 0, none⟩), Value.agg (wcells 0), Value.agg (wcells s0)] _ _); refine (fSub_as hm (w8.heap.size) M256_pos ms0 hS.out _ (hM14.get 2 rfl)).mono ?_; rintro e w15 ⟨rfl, hB15⟩; have hM15 := hM14.on hB15; clear hB15 hM14; (try unfold WV); go_frame)
    | ((with_reducible change wpList _ _ _ (Oper.mk none (Op.store _ (Operand.tmp 11) (Operand.tmp 42)) _ _ _ _ :: _) _ _); refine mmStoreAt hM15 0 _ _ _ _ _ _ (wcells s) rfl rfl rfl rfl rfl (info_WideC _) (by simp only [wcells_size]) (wcells_one _) ?_; intro w16 hM16; dsimp only [List.set] at hM16; clear hM15; go_frame)
    | ((with_reducible change wpList _ _ _ (Oper.mk (some 43) _ _ _ _ _ :: _) _ _); refine kLoadRow _ _ _ _ _ _ rfl rfl rfl (hM16.get 1 rfl) Tryd.underlying24 rfl (info_WideC _) ?_; go_frame)
    | ((with_reducible change wpList _ _ _ (Oper.mk (some 44) _ _ _ _ _ :: _) _ _); refine kLoadRow _ _ _ _ _ _ rfl rfl rfl (hM16.get 3 rfl) Tryd.underlying24 rfl (info_WideC _) ?_; go_frame)
    | ((with_reducible change wpList _ _ _ (Oper.mk (some 45) _ _ _ _ _ :: _) _ _); refine kEqlW _ _ _ (r) (0) false rfl rfl rfl rfl (eqlW_no mr M256_pos h0.out) ?_; go_frame)
    | ((with_reducible change wpList _ _ _ (Oper.mk (some 47) _ _ _ _ _ :: _) _ _); refine kLoadRow _ _ _ _ _ _ rfl rfl rfl (hM16.get 0 rfl) Tryd.underlying24 rfl (info_WideC _) ?_; go_frame)
    | ((with_reducible change wpList _ _ _ (Oper.mk (some 48) _ _ _ _ _ :: _) _ _); refine kLoadRow _ _ _ _ _ _ rfl rfl rfl (hM16.get 3 rfl) Tryd.underlying24 rfl (info_WideC _) ?_; go_frame)
    | ((with_reducible change wpList _ _ _ (Oper.mk (some 49) _ _ _ _ _ :: _) _ _); refine kEqlW _ _ _ (s) (0) false rfl rfl rfl rfl (eqlW_no ms M256_pos h1.out) ?_; go_frame)
    | ((with_reducible change wpList _ _ _ (Oper.mk (some 52) _ _ _ _ _ :: _) _ _); refine kLoadRow _ _ _ _ _ _ rfl rfl rfl (hM16.get 1 rfl) Tryd.underlying24 rfl (info_WideC _) ?_; go_frame)
    | ((with_reducible change wpList _ _ _ (Oper.mk (some 53) _ _ _ _ _ :: _) _ _); refine kLoadRow _ _ _ _ _ _ rfl rfl rfl (hM16.get 0 rfl) Tryd.underlying24 rfl (info_WideC _) ?_; go_frame)
    | ((with_reducible change wpList _ _ _ (Oper.mk (some 54) _ _ _ _ _ :: _) _ _); refine kBuildSig2 _ _ r s rfl rfl rfl rfl ?_; go_frame)
    | ((with_reducible change wpList _ _ _ (Oper.mk none (Op.store _ (Operand.tmp 6) (Operand.tmp 54)) _ _ _ _ :: _) _ _); refine mmStoreAt hM16 4 _ _ _ _ _ _ (wcells2 r s) rfl rfl rfl rfl rfl (info_SigC _ _) rfl (wcells2_one _ _) ?_; intro w17 hM17; dsimp only [List.set] at hM17; clear hM16; go_frame))
  exact result_row_tmp Tryd.results12 rfl rfl (hM17.get 4 rfl) Tryd.underlying35 rfl (info_SigC _ _) rfl ⟨rfl, hM17.below⟩
set_option maxRecDepth 100000 in
set_option maxHeartbeats 8000000 in
theorem sSign_f_r {a k r s0 : Nat} {f : Nat → Nat} {z : Nat} (hf : ∀ i, f i < 256) (hz : zOf f = z) (ha : isSec a = true) (hk : isSec k = true) (hr : sgR k = r) (hs0 : sgS0 a z k = s0) (hb : isHi s0 = false) (h0 : r = 0) (w : World) (hG : Glob 3 PP w) (hO : GlobP 2 0 0 true w) (hB : GlobPt 0 gPt w) (hN : Glob 1 NN w) : Calls Tryd.prog 12 #[WV a, .agg (bcells f), WV k] w fun e w' => e = .returned (.tuple #[.agg (wcells2 0 0), .int .i64 51]) ∧ Below w.heap.size w w' := by
  have ma := isSec_lt ha
  have mk := isSec_lt hk
  have mr : r < M256 := by rw [← hr]; exact Nat.lt_trans (sgR_lt k) (by decide)
  have ls0 : s0 < NN := by rw [← hs0]; exact sgS0_lt a z k
  have ms0 : s0 < M256 := Nat.lt_trans ls0 (by decide)
  obtain ⟨m, Hm⟩ : ∃ m, Hid (m = NN) := ⟨_, Lib.hid rfl⟩
  have hm : Modu m := by rw [Hm.out]; exact modu_N
  rw [← Hm.out] at hN
  have Hz := Lib.hid hz
  have mz : z < M256 := by rw [← hz]; exact zOf_lt hf
  clear hz
  have Hr := Lib.hid hr
  have Hs0 := Lib.hid hs0
  replace ha := Lib.hid ha
  replace hk := Lib.hid hk
  replace hb := Lib.hid hb
  replace h0 := Lib.hid h0
  clear hr hs0
  obtain ⟨q25, Hq25⟩ : ∃ q, Hid (Pt.times ivP gPt k = q) := ⟨_, Lib.hid rfl⟩
  have oq25 : q25.On := by rw [← Hq25.out]; exact goodP.times_on gPt_on _
  obtain ⟨v33, Hv33, mv33⟩ := nameMod hm (r * a)
  obtain ⟨v34, Hv34, mv34⟩ := nameMod hm (z + v33)
  have hM0 := mm_nil w
  (try unfold WV)
  go_enter Tryd.func12, Tryd.ntmps12
  go_wp2_with (first
    | ((with_reducible change wpList _ _ _ (Oper.mk (some 3) _ _ _ _ _ :: _) _ _); refine mmBox hM0 _ _ (wcells a) rfl rfl rfl ?_; intro w1 hM1; clear hM0; go_frame)
    | ((with_reducible change wpList _ _ _ (Oper.mk (some 4) _ _ _ _ _ :: _) _ _); refine mmBox hM1 _ _ (bcells f) rfl rfl rfl ?_; intro w2 hM2; clear hM1; go_frame)
    | ((with_reducible change wpList _ _ _ (Oper.mk (some 5) _ _ _ _ _ :: _) _ _); refine mmBox hM2 _ _ (wcells k) rfl rfl rfl ?_; intro w3 hM3; clear hM2; go_frame)
    | ((with_reducible change wpList _ _ _ (Oper.mk (some 6) _ _ _ _ _ :: _) _ _); refine mmAlloc hM3 _ _ rfl rfl zero_Sig ?_; intro w4 hM4; clear hM3; go_frame)
    | ((with_reducible change wpList _ _ _ (Oper.mk (some 12) _ _ _ _ _ :: _) _ _); refine kBuildW0 rfl rfl ?_; go_frame)
    | ((with_reducible change wpList _ _ _ (Oper.mk (some 8) _ _ _ _ _ :: _) _ _); refine mmAlloc hM4 _ _ rfl rfl zero_Wide ?_; intro w5 hM5; clear hM4; go_frame)
    | ((with_reducible change wpList _ _ _ (Oper.mk none (Op.store _ (Operand.tmp 8) (Operand.tmp 12)) _ _ _ _ :: _) _ _); refine mmStoreAt hM5 0 _ _ _ _ _ _ (wcells 0) rfl rfl rfl rfl rfl (info_WideC _) (by simp only [wcells_size]) (wcells_one _) ?_; intro w6 hM6; dsimp only [List.set] at hM6; clear hM5; go_frame)
    | ((with_reducible change wpList _ _ _ (Oper.mk (some 13) _ _ _ _ _ :: _) _ _); refine kLoadRow _ _ _ _ _ _ rfl rfl rfl (hM6.get 4 rfl) Tryd.underlying24 rfl (info_WideC _) ?_; go_frame)
    | (go_at_call 26; (with_reducible change Calls _ _ #[Value.agg (wcells a)] _ _); refine (isSecret_nn ma ha.out Hm.out _ (hN.below hM6.below)).mono ?_; rintro e w7 ⟨rfl, hB7⟩; have hM7 := hM6.on hB7; clear hB7 hM6; (try unfold WV); go_frame)
    | ((with_reducible change wpList _ _ _ (Oper.mk (some 17) _ _ _ _ _ :: _) _ _); refine kLoadRow _ _ _ _ _ _ rfl rfl rfl (hM7.get 2 rfl) Tryd.underlying24 rfl (info_WideC _) ?_; go_frame)
    | (go_at_call 26; (with_reducible change Calls _ _ #[Value.agg (wcells k)] _ _); refine (isSecret_nn mk hk.out Hm.out _ (hN.below hM7.below)).mono ?_; rintro e w8 ⟨rfl, hB8⟩; have hM8 := hM7.on hB8; clear hB8 hM7; (try unfold WV); go_frame)
    | (go_at_call 29; refine (fN_any m _ (hN.below hM8.below)).mono ?_; rintro e w9 ⟨rfl, hR9, hB9⟩; have hM9 := hM8.new hR9 hB9; clear hB9 hR9 hM8; go_frame))
  refine region_symT 5 _ [4] [10] [.val (.agg (wcells k)), .val (.agg (ptc gPt)), .val (.agg (ptc q25)), .val (.agg (wcells r)), .hold w9.heap.size 24 (wcells 0)] rfl (by kernel_rfl) (by kernel_rfl) (by kernel_rfl) (by kernel_rfl) rfl (by intro s hs; simp only [List.mem_cons, List.not_mem_nil, or_false] at hs; rcases hs with rfl <;> rfl) (steps_all ⟨?_, ?_, ?_, ?_, ?_, trivial⟩) ?_
  · exact fun A W sz ot hbel ap dp => kLoadRow _ _ _ _ _ _ rfl rfl (sO ot 5) ((hM9.get 3 rfl).on hbel) Tryd.underlying24 rfl (info_WideC _) (sE ap sz rfl)
  · intro A W sz ot hbel ap dp
    refine kCall0 28 _ rfl rfl (by kernel_rfl)  ?_
    refine (cBase_pt W ((hB.below hM9.below).below hbel)).mono ?_
    rintro e r ⟨rfl, hBc⟩
    exact ⟨_, rfl, (sV ap sz hBc rfl)⟩
  · exact fun A W sz ot hbel ap dp => sCall2 27 rfl (sD dp 0 .data) (sD dp 1 .data) (sC (cTimes_q mk gPt_on Hq25.out W ((hG.below hM9.below).below hbel) ((hO.below hM9.below).below hbel) ((hB.below hM9.below).below hbel)) ap sz (fun _ => rfl))
  · exact fun A W sz ot hbel ap dp => sCall1 30 rfl (sD dp 2 .data) (sC (foldX_nn (show pX q25 % NN = r by rw [← Hq25.out]; exact Hr.out) Hm.out W ((hN.below hM9.below).below hbel)) ap sz (fun _ => rfl))
  · intro A W sz ot hbel ap dp
    refine kAllocL _ _ rfl rfl zero_Wide ?_
    intro r hR hl hBc
    exact (sA ap sz hl hBc ⟨_, rfl, hbel.size, hR⟩ rfl)
  intro w10 hB10
  dsimp only [AllV]
  intro g10_10 hg10_10 hR10_10
  intro hap
  dsimp only [putAll, List.take, List.drop]
  go_frame
  have hM10 := hM9.on hB10
  replace hM10 := hM10.cons hR10_10 (Nat.le_trans hM9.size hg10_10) (fun p hp => by have := hM9.lt hp; omega)
  clear hB10 hM9 hap hg10_10 hR10_10
  go_wp2_with (first
    | ((with_reducible change wpList _ _ _ (Oper.mk none (Op.store _ (Operand.tmp 10) (Operand.tmp 26)) _ _ _ _ :: _) _ _); refine mmStoreAt hM10 0 _ _ _ _ _ _ (wcells r) rfl rfl rfl rfl rfl (info_WideC _) (by simp only [wcells_size]) (wcells_one _) ?_; intro w11 hM11; dsimp only [List.set] at hM11; clear hM10; go_frame))
  refine region_symT 11 _ [10] [11] [.val (.pointer (some ⟨w8.heap.size, 0, none⟩)), .val (.agg (bcells f)), .val (.agg (wcells z)), .val (.pointer (some ⟨w8.heap.size, 0, none⟩)), .val (.agg (wcells r)), .val (.agg (wcells a)), .val (.agg (wcells v33)), .val (.agg (wcells v34)), .val (.agg (wcells k)), .val (.agg (wcells s0)), .hold w11.heap.size 24 (wcells 0)] rfl (by kernel_rfl) (by kernel_rfl) (by kernel_rfl) (by kernel_rfl) rfl (by intro s hs; simp only [List.mem_cons, List.not_mem_nil, or_false] at hs; rcases hs with rfl <;> rfl) (steps_all ⟨?_, ?_, ?_, ?_, ?_, ?_, ?_, ?_, ?_, ?_, ?_, trivial⟩) ?_
  · exact fun A W sz ot hbel ap dp => kMoveV _ _ rfl rfl (sO ot 9) (sE ap sz rfl)
  · exact fun A W sz ot hbel ap dp => kLoadRow _ _ _ _ _ _ rfl rfl (sO ot 4) ((hM11.get 5 rfl).on hbel) Tryd.underlying40 rfl (info_HashC _) (sE ap sz rfl)
  · exact fun A W sz ot hbel ap dp => sCall1 33 rfl (sD dp 1 .data) (sC (wFrom_z hf Hz.out W) ap sz (fun _ => rfl))
  · exact fun A W sz ot hbel ap dp => kMoveV _ _ rfl rfl (sO ot 9) (sE ap sz rfl)
  · exact fun A W sz ot hbel ap dp => kLoadRow _ _ _ _ _ _ rfl rfl (sO ot 10) ((hM11.get 0 rfl).on hbel) Tryd.underlying24 rfl (info_WideC _) (sE ap sz rfl)
  · exact fun A W sz ot hbel ap dp => kLoadRow _ _ _ _ _ _ rfl rfl (sO ot 3) ((hM11.get 6 rfl).on hbel) Tryd.underlying24 rfl (info_WideC _) (sE ap sz rfl)
  · exact fun A W sz ot hbel ap dp => sCall3 34 rfl (sD dp 3 .data) (sD dp 4 .data) (sD dp 5 .data) (sC (fMul_as hm (w8.heap.size) mr ma Hv33.out W ((hM11.get 1 rfl).on hbel)) ap sz (fun _ => rfl))
  · exact fun A W sz ot hbel ap dp => sCall3 32 rfl (sD dp 0 .data) (sD dp 2 .data) (sD dp 6 .data) (sC (fAdd_as hm (w8.heap.size) mz mv33 Hv34.out.symm W ((hM11.get 1 rfl).on hbel)) ap sz (fun _ => rfl))
  · exact fun A W sz ot hbel ap dp => kLoadRow _ _ _ _ _ _ rfl rfl (sO ot 5) ((hM11.get 4 rfl).on hbel) Tryd.underlying24 rfl (info_WideC _) (sE ap sz rfl)
  · exact fun A W sz ot hbel ap dp => sCall2 31 rfl (sD dp 7 .data) (sD dp 8 .data) (sC (sBy_nn mv34 hk.out (show v34 * invN k % NN = s0 from sg_same Hm.out Hr.out Hs0.out Hv33.out Hv34.out) Hm.out W ((hN.below hM11.below).below hbel)) ap sz (fun _ => rfl))
  · intro A W sz ot hbel ap dp
    refine kAllocL _ _ rfl rfl zero_Wide ?_
    intro r hR hl hBc
    exact (sA ap sz hl hBc ⟨_, rfl, hbel.size, hR⟩ rfl)
  intro w12 hB12
  dsimp only [AllV]
  intro g12_11 hg12_11 hR12_11
  intro hap
  dsimp only [putAll, List.take, List.drop]
  go_frame
  have hM12 := hM11.on hB12
  replace hM12 := hM12.cons hR12_11 (Nat.le_trans hM11.size hg12_11) (fun p hp => by have := hM11.lt hp; omega)
  clear hB12 hM11 hap hg12_11 hR12_11
  go_wp2_with (first
    | ((with_reducible change wpList _ _ _ (Oper.mk none (Op.store _ (Operand.tmp 11) (Operand.tmp 36)) _ _ _ _ :: _) _ _); refine mmStoreAt hM12 0 _ _ _ _ _ _ (wcells s0) rfl rfl rfl rfl rfl (info_WideC _) (by simp only [wcells_size]) (wcells_one _) ?_; intro w13 hM13; dsimp only [List.set] at hM13; clear hM12; go_frame)
    | ((with_reducible change wpList _ _ _ (Oper.mk (some 37) _ _ _ _ _ :: _) _ _); refine kLoadRow _ _ _ _ _ _ rfl rfl rfl (hM13.get 0 rfl) Tryd.underlying24 rfl (info_WideC _) ?_; go_frame)
    | (go_at_call 35; (with_reducible change Calls _ _ #[Value.agg (wcells s0)] _ _); refine (isHigh_nn ms0 hb.out Hm.out _ (hN.below hM13.below)).mono ?_; rintro e w14 ⟨rfl, hB14⟩; have hM14 := hM13.on hB14; clear hB14 hM13; (try unfold WV); go_frame)
    | ((with_reducible change wpList _ _ _ (Oper.mk (some 43) _ _ _ _ _ :: _) _ _); refine kLoadRow _ _ _ _ _ _ rfl rfl rfl (hM14.get 1 rfl) Tryd.underlying24 rfl (info_WideC _) ?_; go_frame)
    | ((with_reducible change wpList _ _ _ (Oper.mk (some 44) _ _ _ _ _ :: _) _ _); refine kLoadRow _ _ _ _ _ _ rfl rfl rfl (hM14.get 3 rfl) Tryd.underlying24 rfl (info_WideC _) ?_; go_frame)
    | ((with_reducible change wpList _ _ _ (Oper.mk (some 45) _ _ _ _ _ :: _) _ _); refine kEqlW _ _ _ (r) (0) true rfl rfl rfl rfl (eqlW_yes h0.out) ?_; go_frame)
    | ((with_reducible change wpList _ _ _ (Oper.mk (some 51) _ _ _ _ _ :: _) _ _); refine kBuildSig0 rfl rfl ?_; go_frame)
    | ((with_reducible change wpList _ _ _ (Oper.mk none (Op.store _ (Operand.tmp 6) (Operand.tmp 51)) _ _ _ _ :: _) _ _); refine mmStoreAt hM14 4 _ _ _ _ _ _ (wcells2 0 0) rfl rfl rfl rfl rfl (info_SigC _ _) rfl (wcells2_one _ _) ?_; intro w15 hM15; dsimp only [List.set] at hM15; clear hM14; go_frame))
  exact result_row_tmp Tryd.results12 rfl rfl (hM15.get 4 rfl) Tryd.underlying35 rfl (info_SigC _ _) rfl ⟨rfl, hM15.below⟩
set_option maxRecDepth 100000 in
set_option maxHeartbeats 8000000 in
theorem sSign_f_s {a k r s0 s : Nat} {f : Nat → Nat} {z : Nat} (hf : ∀ i, f i < 256) (hz : zOf f = z) (ha : isSec a = true) (hk : isSec k = true) (hr : sgR k = r) (hs0 : sgS0 a z k = s0) (hb : isHi s0 = false) (hs : s0 = s) (h0 : r ≠ 0) (h1 : s = 0) (w : World) (hG : Glob 3 PP w) (hO : GlobP 2 0 0 true w) (hB : GlobPt 0 gPt w) (hN : Glob 1 NN w) : Calls Tryd.prog 12 #[WV a, .agg (bcells f), WV k] w fun e w' => e = .returned (.tuple #[.agg (wcells2 0 0), .int .i64 51]) ∧ Below w.heap.size w w' := by
  have ma := isSec_lt ha
  have mk := isSec_lt hk
  have mr : r < M256 := by rw [← hr]; exact Nat.lt_trans (sgR_lt k) (by decide)
  have ls0 : s0 < NN := by rw [← hs0]; exact sgS0_lt a z k
  have ms0 : s0 < M256 := Nat.lt_trans ls0 (by decide)
  obtain ⟨m, Hm⟩ : ∃ m, Hid (m = NN) := ⟨_, Lib.hid rfl⟩
  have hm : Modu m := by rw [Hm.out]; exact modu_N
  rw [← Hm.out] at hN
  have Hz := Lib.hid hz
  have mz : z < M256 := by rw [← hz]; exact zOf_lt hf
  clear hz
  subst hs
  have Hr := Lib.hid hr
  have Hs0 := Lib.hid hs0
  replace ha := Lib.hid ha
  replace hk := Lib.hid hk
  replace hb := Lib.hid hb
  replace h0 := Lib.hid h0
  replace h1 := Lib.hid h1
  clear hr hs0
  obtain ⟨q25, Hq25⟩ : ∃ q, Hid (Pt.times ivP gPt k = q) := ⟨_, Lib.hid rfl⟩
  have oq25 : q25.On := by rw [← Hq25.out]; exact goodP.times_on gPt_on _
  obtain ⟨v33, Hv33, mv33⟩ := nameMod hm (r * a)
  obtain ⟨v34, Hv34, mv34⟩ := nameMod hm (z + v33)
  have hM0 := mm_nil w
  (try unfold WV)
  go_enter Tryd.func12, Tryd.ntmps12
  go_wp2_with (first
    | ((with_reducible change wpList _ _ _ (Oper.mk (some 3) _ _ _ _ _ :: _) _ _); refine mmBox hM0 _ _ (wcells a) rfl rfl rfl ?_; intro w1 hM1; clear hM0; go_frame)
    | ((with_reducible change wpList _ _ _ (Oper.mk (some 4) _ _ _ _ _ :: _) _ _); refine mmBox hM1 _ _ (bcells f) rfl rfl rfl ?_; intro w2 hM2; clear hM1; go_frame)
    | ((with_reducible change wpList _ _ _ (Oper.mk (some 5) _ _ _ _ _ :: _) _ _); refine mmBox hM2 _ _ (wcells k) rfl rfl rfl ?_; intro w3 hM3; clear hM2; go_frame)
    | ((with_reducible change wpList _ _ _ (Oper.mk (some 6) _ _ _ _ _ :: _) _ _); refine mmAlloc hM3 _ _ rfl rfl zero_Sig ?_; intro w4 hM4; clear hM3; go_frame)
    | ((with_reducible change wpList _ _ _ (Oper.mk (some 12) _ _ _ _ _ :: _) _ _); refine kBuildW0 rfl rfl ?_; go_frame)
    | ((with_reducible change wpList _ _ _ (Oper.mk (some 8) _ _ _ _ _ :: _) _ _); refine mmAlloc hM4 _ _ rfl rfl zero_Wide ?_; intro w5 hM5; clear hM4; go_frame)
    | ((with_reducible change wpList _ _ _ (Oper.mk none (Op.store _ (Operand.tmp 8) (Operand.tmp 12)) _ _ _ _ :: _) _ _); refine mmStoreAt hM5 0 _ _ _ _ _ _ (wcells 0) rfl rfl rfl rfl rfl (info_WideC _) (by simp only [wcells_size]) (wcells_one _) ?_; intro w6 hM6; dsimp only [List.set] at hM6; clear hM5; go_frame)
    | ((with_reducible change wpList _ _ _ (Oper.mk (some 13) _ _ _ _ _ :: _) _ _); refine kLoadRow _ _ _ _ _ _ rfl rfl rfl (hM6.get 4 rfl) Tryd.underlying24 rfl (info_WideC _) ?_; go_frame)
    | (go_at_call 26; (with_reducible change Calls _ _ #[Value.agg (wcells a)] _ _); refine (isSecret_nn ma ha.out Hm.out _ (hN.below hM6.below)).mono ?_; rintro e w7 ⟨rfl, hB7⟩; have hM7 := hM6.on hB7; clear hB7 hM6; (try unfold WV); go_frame)
    | ((with_reducible change wpList _ _ _ (Oper.mk (some 17) _ _ _ _ _ :: _) _ _); refine kLoadRow _ _ _ _ _ _ rfl rfl rfl (hM7.get 2 rfl) Tryd.underlying24 rfl (info_WideC _) ?_; go_frame)
    | (go_at_call 26; (with_reducible change Calls _ _ #[Value.agg (wcells k)] _ _); refine (isSecret_nn mk hk.out Hm.out _ (hN.below hM7.below)).mono ?_; rintro e w8 ⟨rfl, hB8⟩; have hM8 := hM7.on hB8; clear hB8 hM7; (try unfold WV); go_frame)
    | (go_at_call 29; refine (fN_any m _ (hN.below hM8.below)).mono ?_; rintro e w9 ⟨rfl, hR9, hB9⟩; have hM9 := hM8.new hR9 hB9; clear hB9 hR9 hM8; go_frame))
  refine region_symT 5 _ [4] [10] [.val (.agg (wcells k)), .val (.agg (ptc gPt)), .val (.agg (ptc q25)), .val (.agg (wcells r)), .hold w9.heap.size 24 (wcells 0)] rfl (by kernel_rfl) (by kernel_rfl) (by kernel_rfl) (by kernel_rfl) rfl (by intro s hs; simp only [List.mem_cons, List.not_mem_nil, or_false] at hs; rcases hs with rfl <;> rfl) (steps_all ⟨?_, ?_, ?_, ?_, ?_, trivial⟩) ?_
  · exact fun A W sz ot hbel ap dp => kLoadRow _ _ _ _ _ _ rfl rfl (sO ot 5) ((hM9.get 3 rfl).on hbel) Tryd.underlying24 rfl (info_WideC _) (sE ap sz rfl)
  · intro A W sz ot hbel ap dp
    refine kCall0 28 _ rfl rfl (by kernel_rfl)  ?_
    refine (cBase_pt W ((hB.below hM9.below).below hbel)).mono ?_
    rintro e r ⟨rfl, hBc⟩
    exact ⟨_, rfl, (sV ap sz hBc rfl)⟩
  · exact fun A W sz ot hbel ap dp => sCall2 27 rfl (sD dp 0 .data) (sD dp 1 .data) (sC (cTimes_q mk gPt_on Hq25.out W ((hG.below hM9.below).below hbel) ((hO.below hM9.below).below hbel) ((hB.below hM9.below).below hbel)) ap sz (fun _ => rfl))
  · exact fun A W sz ot hbel ap dp => sCall1 30 rfl (sD dp 2 .data) (sC (foldX_nn (show pX q25 % NN = r by rw [← Hq25.out]; exact Hr.out) Hm.out W ((hN.below hM9.below).below hbel)) ap sz (fun _ => rfl))
  · intro A W sz ot hbel ap dp
    refine kAllocL _ _ rfl rfl zero_Wide ?_
    intro r hR hl hBc
    exact (sA ap sz hl hBc ⟨_, rfl, hbel.size, hR⟩ rfl)
  intro w10 hB10
  dsimp only [AllV]
  intro g10_10 hg10_10 hR10_10
  intro hap
  dsimp only [putAll, List.take, List.drop]
  go_frame
  have hM10 := hM9.on hB10
  replace hM10 := hM10.cons hR10_10 (Nat.le_trans hM9.size hg10_10) (fun p hp => by have := hM9.lt hp; omega)
  clear hB10 hM9 hap hg10_10 hR10_10
  go_wp2_with (first
    | ((with_reducible change wpList _ _ _ (Oper.mk none (Op.store _ (Operand.tmp 10) (Operand.tmp 26)) _ _ _ _ :: _) _ _); refine mmStoreAt hM10 0 _ _ _ _ _ _ (wcells r) rfl rfl rfl rfl rfl (info_WideC _) (by simp only [wcells_size]) (wcells_one _) ?_; intro w11 hM11; dsimp only [List.set] at hM11; clear hM10; go_frame))
  refine region_symT 11 _ [10] [11] [.val (.pointer (some ⟨w8.heap.size, 0, none⟩)), .val (.agg (bcells f)), .val (.agg (wcells z)), .val (.pointer (some ⟨w8.heap.size, 0, none⟩)), .val (.agg (wcells r)), .val (.agg (wcells a)), .val (.agg (wcells v33)), .val (.agg (wcells v34)), .val (.agg (wcells k)), .val (.agg (wcells s0)), .hold w11.heap.size 24 (wcells 0)] rfl (by kernel_rfl) (by kernel_rfl) (by kernel_rfl) (by kernel_rfl) rfl (by intro s hs; simp only [List.mem_cons, List.not_mem_nil, or_false] at hs; rcases hs with rfl <;> rfl) (steps_all ⟨?_, ?_, ?_, ?_, ?_, ?_, ?_, ?_, ?_, ?_, ?_, trivial⟩) ?_
  · exact fun A W sz ot hbel ap dp => kMoveV _ _ rfl rfl (sO ot 9) (sE ap sz rfl)
  · exact fun A W sz ot hbel ap dp => kLoadRow _ _ _ _ _ _ rfl rfl (sO ot 4) ((hM11.get 5 rfl).on hbel) Tryd.underlying40 rfl (info_HashC _) (sE ap sz rfl)
  · exact fun A W sz ot hbel ap dp => sCall1 33 rfl (sD dp 1 .data) (sC (wFrom_z hf Hz.out W) ap sz (fun _ => rfl))
  · exact fun A W sz ot hbel ap dp => kMoveV _ _ rfl rfl (sO ot 9) (sE ap sz rfl)
  · exact fun A W sz ot hbel ap dp => kLoadRow _ _ _ _ _ _ rfl rfl (sO ot 10) ((hM11.get 0 rfl).on hbel) Tryd.underlying24 rfl (info_WideC _) (sE ap sz rfl)
  · exact fun A W sz ot hbel ap dp => kLoadRow _ _ _ _ _ _ rfl rfl (sO ot 3) ((hM11.get 6 rfl).on hbel) Tryd.underlying24 rfl (info_WideC _) (sE ap sz rfl)
  · exact fun A W sz ot hbel ap dp => sCall3 34 rfl (sD dp 3 .data) (sD dp 4 .data) (sD dp 5 .data) (sC (fMul_as hm (w8.heap.size) mr ma Hv33.out W ((hM11.get 1 rfl).on hbel)) ap sz (fun _ => rfl))
  · exact fun A W sz ot hbel ap dp => sCall3 32 rfl (sD dp 0 .data) (sD dp 2 .data) (sD dp 6 .data) (sC (fAdd_as hm (w8.heap.size) mz mv33 Hv34.out.symm W ((hM11.get 1 rfl).on hbel)) ap sz (fun _ => rfl))
  · exact fun A W sz ot hbel ap dp => kLoadRow _ _ _ _ _ _ rfl rfl (sO ot 5) ((hM11.get 4 rfl).on hbel) Tryd.underlying24 rfl (info_WideC _) (sE ap sz rfl)
  · exact fun A W sz ot hbel ap dp => sCall2 31 rfl (sD dp 7 .data) (sD dp 8 .data) (sC (sBy_nn mv34 hk.out (show v34 * invN k % NN = s0 from sg_same Hm.out Hr.out Hs0.out Hv33.out Hv34.out) Hm.out W ((hN.below hM11.below).below hbel)) ap sz (fun _ => rfl))
  · intro A W sz ot hbel ap dp
    refine kAllocL _ _ rfl rfl zero_Wide ?_
    intro r hR hl hBc
    exact (sA ap sz hl hBc ⟨_, rfl, hbel.size, hR⟩ rfl)
  intro w12 hB12
  dsimp only [AllV]
  intro g12_11 hg12_11 hR12_11
  intro hap
  dsimp only [putAll, List.take, List.drop]
  go_frame
  have hM12 := hM11.on hB12
  replace hM12 := hM12.cons hR12_11 (Nat.le_trans hM11.size hg12_11) (fun p hp => by have := hM11.lt hp; omega)
  clear hB12 hM11 hap hg12_11 hR12_11
  go_wp2_with (first
    | ((with_reducible change wpList _ _ _ (Oper.mk none (Op.store _ (Operand.tmp 11) (Operand.tmp 36)) _ _ _ _ :: _) _ _); refine mmStoreAt hM12 0 _ _ _ _ _ _ (wcells s0) rfl rfl rfl rfl rfl (info_WideC _) (by simp only [wcells_size]) (wcells_one _) ?_; intro w13 hM13; dsimp only [List.set] at hM13; clear hM12; go_frame)
    | ((with_reducible change wpList _ _ _ (Oper.mk (some 37) _ _ _ _ _ :: _) _ _); refine kLoadRow _ _ _ _ _ _ rfl rfl rfl (hM13.get 0 rfl) Tryd.underlying24 rfl (info_WideC _) ?_; go_frame)
    | (go_at_call 35; (with_reducible change Calls _ _ #[Value.agg (wcells s0)] _ _); refine (isHigh_nn ms0 hb.out Hm.out _ (hN.below hM13.below)).mono ?_; rintro e w14 ⟨rfl, hB14⟩; have hM14 := hM13.on hB14; clear hB14 hM13; (try unfold WV); go_frame)
    | ((with_reducible change wpList _ _ _ (Oper.mk (some 43) _ _ _ _ _ :: _) _ _); refine kLoadRow _ _ _ _ _ _ rfl rfl rfl (hM14.get 1 rfl) Tryd.underlying24 rfl (info_WideC _) ?_; go_frame)
    | ((with_reducible change wpList _ _ _ (Oper.mk (some 44) _ _ _ _ _ :: _) _ _); refine kLoadRow _ _ _ _ _ _ rfl rfl rfl (hM14.get 3 rfl) Tryd.underlying24 rfl (info_WideC _) ?_; go_frame)
    | ((with_reducible change wpList _ _ _ (Oper.mk (some 45) _ _ _ _ _ :: _) _ _); refine kEqlW _ _ _ (r) (0) false rfl rfl rfl rfl (eqlW_no mr M256_pos h0.out) ?_; go_frame)
    | ((with_reducible change wpList _ _ _ (Oper.mk (some 47) _ _ _ _ _ :: _) _ _); refine kLoadRow _ _ _ _ _ _ rfl rfl rfl (hM14.get 0 rfl) Tryd.underlying24 rfl (info_WideC _) ?_; go_frame)
    | ((with_reducible change wpList _ _ _ (Oper.mk (some 48) _ _ _ _ _ :: _) _ _); refine kLoadRow _ _ _ _ _ _ rfl rfl rfl (hM14.get 3 rfl) Tryd.underlying24 rfl (info_WideC _) ?_; go_frame)
    | ((with_reducible change wpList _ _ _ (Oper.mk (some 49) _ _ _ _ _ :: _) _ _); refine kEqlW _ _ _ (s0) (0) true rfl rfl rfl rfl (eqlW_yes h1.out) ?_; go_frame)
    | ((with_reducible change wpList _ _ _ (Oper.mk (some 51) _ _ _ _ _ :: _) _ _); refine kBuildSig0 rfl rfl ?_; go_frame)
    | ((with_reducible change wpList _ _ _ (Oper.mk none (Op.store _ (Operand.tmp 6) (Operand.tmp 51)) _ _ _ _ :: _) _ _); refine mmStoreAt hM14 4 _ _ _ _ _ _ (wcells2 0 0) rfl rfl rfl rfl rfl (info_SigC _ _) rfl (wcells2_one _ _) ?_; intro w15 hM15; dsimp only [List.set] at hM15; clear hM14; go_frame))
  exact result_row_tmp Tryd.results12 rfl rfl (hM15.get 4 rfl) Tryd.underlying35 rfl (info_SigC _ _) rfl ⟨rfl, hM15.below⟩
set_option maxRecDepth 100000 in
set_option maxHeartbeats 8000000 in
theorem sSign_f_ok {a k r s0 s : Nat} {f : Nat → Nat} {z : Nat} (hf : ∀ i, f i < 256) (hz : zOf f = z) (ha : isSec a = true) (hk : isSec k = true) (hr : sgR k = r) (hs0 : sgS0 a z k = s0) (hb : isHi s0 = false) (hs : s0 = s) (h0 : r ≠ 0) (h1 : s ≠ 0) (w : World) (hG : Glob 3 PP w) (hO : GlobP 2 0 0 true w) (hB : GlobPt 0 gPt w) (hN : Glob 1 NN w) : Calls Tryd.prog 12 #[WV a, .agg (bcells f), WV k] w fun e w' => e = .returned (.tuple #[.agg (wcells2 r s), .int .i64 0]) ∧ Below w.heap.size w w' := by
  have ma := isSec_lt ha
  have mk := isSec_lt hk
  have mr : r < M256 := by rw [← hr]; exact Nat.lt_trans (sgR_lt k) (by decide)
  have ls0 : s0 < NN := by rw [← hs0]; exact sgS0_lt a z k
  have ms0 : s0 < M256 := Nat.lt_trans ls0 (by decide)
  obtain ⟨m, Hm⟩ : ∃ m, Hid (m = NN) := ⟨_, Lib.hid rfl⟩
  have hm : Modu m := by rw [Hm.out]; exact modu_N
  rw [← Hm.out] at hN
  have Hz := Lib.hid hz
  have mz : z < M256 := by rw [← hz]; exact zOf_lt hf
  clear hz
  subst hs
  have Hr := Lib.hid hr
  have Hs0 := Lib.hid hs0
  replace ha := Lib.hid ha
  replace hk := Lib.hid hk
  replace hb := Lib.hid hb
  replace h0 := Lib.hid h0
  replace h1 := Lib.hid h1
  clear hr hs0
  obtain ⟨q25, Hq25⟩ : ∃ q, Hid (Pt.times ivP gPt k = q) := ⟨_, Lib.hid rfl⟩
  have oq25 : q25.On := by rw [← Hq25.out]; exact goodP.times_on gPt_on _
  obtain ⟨v33, Hv33, mv33⟩ := nameMod hm (r * a)
  obtain ⟨v34, Hv34, mv34⟩ := nameMod hm (z + v33)
  have hM0 := mm_nil w
  (try unfold WV)
  go_enter Tryd.func12, Tryd.ntmps12
  go_wp2_with (first
    | ((with_reducible change wpList _ _ _ (Oper.mk (some 3) _ _ _ _ _ :: _) _ _); refine mmBox hM0 _ _ (wcells a) rfl rfl rfl ?_; intro w1 hM1; clear hM0; go_frame)
    | ((with_reducible change wpList _ _ _ (Oper.mk (some 4) _ _ _ _ _ :: _) _ _); refine mmBox hM1 _ _ (bcells f) rfl rfl rfl ?_; intro w2 hM2; clear hM1; go_frame)
    | ((with_reducible change wpList _ _ _ (Oper.mk (some 5) _ _ _ _ _ :: _) _ _); refine mmBox hM2 _ _ (wcells k) rfl rfl rfl ?_; intro w3 hM3; clear hM2; go_frame)
    | ((with_reducible change wpList _ _ _ (Oper.mk (some 6) _ _ _ _ _ :: _) _ _); refine mmAlloc hM3 _ _ rfl rfl zero_Sig ?_; intro w4 hM4; clear hM3; go_frame)
    | ((with_reducible change wpList _ _ _ (Oper.mk (some 12) _ _ _ _ _ :: _) _ _); refine kBuildW0 rfl rfl ?_; go_frame)
    | ((with_reducible change wpList _ _ _ (Oper.mk (some 8) _ _ _ _ _ :: _) _ _); refine mmAlloc hM4 _ _ rfl rfl zero_Wide ?_; intro w5 hM5; clear hM4; go_frame)
    | ((with_reducible change wpList _ _ _ (Oper.mk none (Op.store _ (Operand.tmp 8) (Operand.tmp 12)) _ _ _ _ :: _) _ _); refine mmStoreAt hM5 0 _ _ _ _ _ _ (wcells 0) rfl rfl rfl rfl rfl (info_WideC _) (by simp only [wcells_size]) (wcells_one _) ?_; intro w6 hM6; dsimp only [List.set] at hM6; clear hM5; go_frame)
    | ((with_reducible change wpList _ _ _ (Oper.mk (some 13) _ _ _ _ _ :: _) _ _); refine kLoadRow _ _ _ _ _ _ rfl rfl rfl (hM6.get 4 rfl) Tryd.underlying24 rfl (info_WideC _) ?_; go_frame)
    | (go_at_call 26; (with_reducible change Calls _ _ #[Value.agg (wcells a)] _ _); refine (isSecret_nn ma ha.out Hm.out _ (hN.below hM6.below)).mono ?_; rintro e w7 ⟨rfl, hB7⟩; have hM7 := hM6.on hB7; clear hB7 hM6; (try unfold WV); go_frame)
    | ((with_reducible change wpList _ _ _ (Oper.mk (some 17) _ _ _ _ _ :: _) _ _); refine kLoadRow _ _ _ _ _ _ rfl rfl rfl (hM7.get 2 rfl) Tryd.underlying24 rfl (info_WideC _) ?_; go_frame)
    | (go_at_call 26; (with_reducible change Calls _ _ #[Value.agg (wcells k)] _ _); refine (isSecret_nn mk hk.out Hm.out _ (hN.below hM7.below)).mono ?_; rintro e w8 ⟨rfl, hB8⟩; have hM8 := hM7.on hB8; clear hB8 hM7; (try unfold WV); go_frame)
    | (go_at_call 29; refine (fN_any m _ (hN.below hM8.below)).mono ?_; rintro e w9 ⟨rfl, hR9, hB9⟩; have hM9 := hM8.new hR9 hB9; clear hB9 hR9 hM8; go_frame))
  refine region_symT 5 _ [4] [10] [.val (.agg (wcells k)), .val (.agg (ptc gPt)), .val (.agg (ptc q25)), .val (.agg (wcells r)), .hold w9.heap.size 24 (wcells 0)] rfl (by kernel_rfl) (by kernel_rfl) (by kernel_rfl) (by kernel_rfl) rfl (by intro s hs; simp only [List.mem_cons, List.not_mem_nil, or_false] at hs; rcases hs with rfl <;> rfl) (steps_all ⟨?_, ?_, ?_, ?_, ?_, trivial⟩) ?_
  · exact fun A W sz ot hbel ap dp => kLoadRow _ _ _ _ _ _ rfl rfl (sO ot 5) ((hM9.get 3 rfl).on hbel) Tryd.underlying24 rfl (info_WideC _) (sE ap sz rfl)
  · intro A W sz ot hbel ap dp
    refine kCall0 28 _ rfl rfl (by kernel_rfl)  ?_
    refine (cBase_pt W ((hB.below hM9.below).below hbel)).mono ?_
    rintro e r ⟨rfl, hBc⟩
    exact ⟨_, rfl, (sV ap sz hBc rfl)⟩
  · exact fun A W sz ot hbel ap dp => sCall2 27 rfl (sD dp 0 .data) (sD dp 1 .data) (sC (cTimes_q mk gPt_on Hq25.out W ((hG.below hM9.below).below hbel) ((hO.below hM9.below).below hbel) ((hB.below hM9.below).below hbel)) ap sz (fun _ => rfl))
  · exact fun A W sz ot hbel ap dp => sCall1 30 rfl (sD dp 2 .data) (sC (foldX_nn (show pX q25 % NN = r by rw [← Hq25.out]; exact Hr.out) Hm.out W ((hN.below hM9.below).below hbel)) ap sz (fun _ => rfl))
  · intro A W sz ot hbel ap dp
    refine kAllocL _ _ rfl rfl zero_Wide ?_
    intro r hR hl hBc
    exact (sA ap sz hl hBc ⟨_, rfl, hbel.size, hR⟩ rfl)
  intro w10 hB10
  dsimp only [AllV]
  intro g10_10 hg10_10 hR10_10
  intro hap
  dsimp only [putAll, List.take, List.drop]
  go_frame
  have hM10 := hM9.on hB10
  replace hM10 := hM10.cons hR10_10 (Nat.le_trans hM9.size hg10_10) (fun p hp => by have := hM9.lt hp; omega)
  clear hB10 hM9 hap hg10_10 hR10_10
  go_wp2_with (first
    | ((with_reducible change wpList _ _ _ (Oper.mk none (Op.store _ (Operand.tmp 10) (Operand.tmp 26)) _ _ _ _ :: _) _ _); refine mmStoreAt hM10 0 _ _ _ _ _ _ (wcells r) rfl rfl rfl rfl rfl (info_WideC _) (by simp only [wcells_size]) (wcells_one _) ?_; intro w11 hM11; dsimp only [List.set] at hM11; clear hM10; go_frame))
  refine region_symT 11 _ [10] [11] [.val (.pointer (some ⟨w8.heap.size, 0, none⟩)), .val (.agg (bcells f)), .val (.agg (wcells z)), .val (.pointer (some ⟨w8.heap.size, 0, none⟩)), .val (.agg (wcells r)), .val (.agg (wcells a)), .val (.agg (wcells v33)), .val (.agg (wcells v34)), .val (.agg (wcells k)), .val (.agg (wcells s0)), .hold w11.heap.size 24 (wcells 0)] rfl (by kernel_rfl) (by kernel_rfl) (by kernel_rfl) (by kernel_rfl) rfl (by intro s hs; simp only [List.mem_cons, List.not_mem_nil, or_false] at hs; rcases hs with rfl <;> rfl) (steps_all ⟨?_, ?_, ?_, ?_, ?_, ?_, ?_, ?_, ?_, ?_, ?_, trivial⟩) ?_
  · exact fun A W sz ot hbel ap dp => kMoveV _ _ rfl rfl (sO ot 9) (sE ap sz rfl)
  · exact fun A W sz ot hbel ap dp => kLoadRow _ _ _ _ _ _ rfl rfl (sO ot 4) ((hM11.get 5 rfl).on hbel) Tryd.underlying40 rfl (info_HashC _) (sE ap sz rfl)
  · exact fun A W sz ot hbel ap dp => sCall1 33 rfl (sD dp 1 .data) (sC (wFrom_z hf Hz.out W) ap sz (fun _ => rfl))
  · exact fun A W sz ot hbel ap dp => kMoveV _ _ rfl rfl (sO ot 9) (sE ap sz rfl)
  · exact fun A W sz ot hbel ap dp => kLoadRow _ _ _ _ _ _ rfl rfl (sO ot 10) ((hM11.get 0 rfl).on hbel) Tryd.underlying24 rfl (info_WideC _) (sE ap sz rfl)
  · exact fun A W sz ot hbel ap dp => kLoadRow _ _ _ _ _ _ rfl rfl (sO ot 3) ((hM11.get 6 rfl).on hbel) Tryd.underlying24 rfl (info_WideC _) (sE ap sz rfl)
  · exact fun A W sz ot hbel ap dp => sCall3 34 rfl (sD dp 3 .data) (sD dp 4 .data) (sD dp 5 .data) (sC (fMul_as hm (w8.heap.size) mr ma Hv33.out W ((hM11.get 1 rfl).on hbel)) ap sz (fun _ => rfl))
  · exact fun A W sz ot hbel ap dp => sCall3 32 rfl (sD dp 0 .data) (sD dp 2 .data) (sD dp 6 .data) (sC (fAdd_as hm (w8.heap.size) mz mv33 Hv34.out.symm W ((hM11.get 1 rfl).on hbel)) ap sz (fun _ => rfl))
  · exact fun A W sz ot hbel ap dp => kLoadRow _ _ _ _ _ _ rfl rfl (sO ot 5) ((hM11.get 4 rfl).on hbel) Tryd.underlying24 rfl (info_WideC _) (sE ap sz rfl)
  · exact fun A W sz ot hbel ap dp => sCall2 31 rfl (sD dp 7 .data) (sD dp 8 .data) (sC (sBy_nn mv34 hk.out (show v34 * invN k % NN = s0 from sg_same Hm.out Hr.out Hs0.out Hv33.out Hv34.out) Hm.out W ((hN.below hM11.below).below hbel)) ap sz (fun _ => rfl))
  · intro A W sz ot hbel ap dp
    refine kAllocL _ _ rfl rfl zero_Wide ?_
    intro r hR hl hBc
    exact (sA ap sz hl hBc ⟨_, rfl, hbel.size, hR⟩ rfl)
  intro w12 hB12
  dsimp only [AllV]
  intro g12_11 hg12_11 hR12_11
  intro hap
  dsimp only [putAll, List.take, List.drop]
  go_frame
  have hM12 := hM11.on hB12
  replace hM12 := hM12.cons hR12_11 (Nat.le_trans hM11.size hg12_11) (fun p hp => by have := hM11.lt hp; omega)
  clear hB12 hM11 hap hg12_11 hR12_11
  go_wp2_with (first
    | ((with_reducible change wpList _ _ _ (Oper.mk none (Op.store _ (Operand.tmp 11) (Operand.tmp 36)) _ _ _ _ :: _) _ _); refine mmStoreAt hM12 0 _ _ _ _ _ _ (wcells s0) rfl rfl rfl rfl rfl (info_WideC _) (by simp only [wcells_size]) (wcells_one _) ?_; intro w13 hM13; dsimp only [List.set] at hM13; clear hM12; go_frame)
    | ((with_reducible change wpList _ _ _ (Oper.mk (some 37) _ _ _ _ _ :: _) _ _); refine kLoadRow _ _ _ _ _ _ rfl rfl rfl (hM13.get 0 rfl) Tryd.underlying24 rfl (info_WideC _) ?_; go_frame)
    | (go_at_call 35; (with_reducible change Calls _ _ #[Value.agg (wcells s0)] _ _); refine (isHigh_nn ms0 hb.out Hm.out _ (hN.below hM13.below)).mono ?_; rintro e w14 ⟨rfl, hB14⟩; have hM14 := hM13.on hB14; clear hB14 hM13; (try unfold WV); go_frame)
    | ((with_reducible change wpList _ _ _ (Oper.mk (some 43) _ _ _ _ _ :: _) _ _); refine kLoadRow _ _ _ _ _ _ rfl rfl rfl (hM14.get 1 rfl) Tryd.underlying24 rfl (info_WideC _) ?_; go_frame)
    | ((with_reducible change wpList _ _ _ (Oper.mk (some 44) _ _ _ _ _ :: _) _ _); refine kLoadRow _ _ _ _ _ _ rfl rfl rfl (hM14.get 3 rfl) Tryd.underlying24 rfl (info_WideC _) ?_; go_frame)
    | ((with_reducible change wpList _ _ _ (Oper.mk (some 45) _ _ _ _ _ :: _) _ _); refine kEqlW _ _ _ (r) (0) false rfl rfl rfl rfl (eqlW_no mr M256_pos h0.out) ?_; go_frame)
    | ((with_reducible change wpList _ _ _ (Oper.mk (some 47) _ _ _ _ _ :: _) _ _); refine kLoadRow _ _ _ _ _ _ rfl rfl rfl (hM14.get 0 rfl) Tryd.underlying24 rfl (info_WideC _) ?_; go_frame)
    | ((with_reducible change wpList _ _ _ (Oper.mk (some 48) _ _ _ _ _ :: _) _ _); refine kLoadRow _ _ _ _ _ _ rfl rfl rfl (hM14.get 3 rfl) Tryd.underlying24 rfl (info_WideC _) ?_; go_frame)
    | ((with_reducible change wpList _ _ _ (Oper.mk (some 49) _ _ _ _ _ :: _) _ _); refine kEqlW _ _ _ (s0) (0) false rfl rfl rfl rfl (eqlW_no ms0 M256_pos h1.out) ?_; go_frame)
    | ((with_reducible change wpList _ _ _ (Oper.mk (some 52) _ _ _ _ _ :: _) _ _); refine kLoadRow _ _ _ _ _ _ rfl rfl rfl (hM14.get 1 rfl) Tryd.underlying24 rfl (info_WideC _) ?_; go_frame)
    | ((with_reducible change wpList _ _ _ (Oper.mk (some 53) _ _ _ _ _ :: _) _ _); refine kLoadRow _ _ _ _ _ _ rfl rfl rfl (hM14.get 0 rfl) Tryd.underlying24 rfl (info_WideC _) ?_; go_frame)
    | ((with_reducible change wpList _ _ _ (Oper.mk (some 54) _ _ _ _ _ :: _) _ _); refine kBuildSig2 _ _ r s0 rfl rfl rfl rfl ?_; go_frame)
    | ((with_reducible change wpList _ _ _ (Oper.mk none (Op.store _ (Operand.tmp 6) (Operand.tmp 54)) _ _ _ _ :: _) _ _); refine mmStoreAt hM14 4 _ _ _ _ _ _ (wcells2 r s0) rfl rfl rfl rfl rfl (info_SigC _ _) rfl (wcells2_one _ _) ?_; intro w15 hM15; dsimp only [List.set] at hM15; clear hM14; go_frame))
  exact result_row_tmp Tryd.results12 rfl rfl (hM15.get 4 rfl) Tryd.underlying35 rfl (info_SigC _ _) rfl ⟨rfl, hM15.below⟩
theorem sSign_some {a k r s : Nat} {f : Nat → Nat} {z : Nat} (hf : ∀ i, f i < 256) (hz : zOf f = z) (h : signOf a z k = some (r, s)) (w : World) (hG : Glob 3 PP w) (hO : GlobP 2 0 0 true w) (hB : GlobPt 0 gPt w) (hN : Glob 1 NN w) : Calls Tryd.prog 12 #[WV a, .agg (bcells f), WV k] w fun e w' => e = .returned (.tuple #[.agg (wcells2 r s), .int .i64 0]) ∧ Below w.heap.size w w' := by
  obtain ⟨ha, hk, hr, hs, r0, s0⟩ := signOf_some h
  unfold sgS at hs
  cases hb : isHi (sgS0 a z k) with
  | true => rw [hb, if_pos rfl] at hs; exact sSign_t_ok hf hz ha hk hr rfl hb hs r0 s0 w hG hO hB hN
  | false => rw [hb, if_neg (by decide)] at hs; exact sSign_f_ok hf hz ha hk hr rfl hb hs r0 s0 w hG hO hB hN
theorem sSign_none {a k : Nat} (ma : a < M256) (mk : k < M256) {f : Nat → Nat} {z : Nat} (hf : ∀ i, f i < 256) (hz : zOf f = z) (h : signOf a z k = none) (w : World) (hG : Glob 3 PP w) (hO : GlobP 2 0 0 true w) (hB : GlobPt 0 gPt w) (hN : Glob 1 NN w) : Calls Tryd.prog 12 #[WV a, .agg (bcells f), WV k] w fun e w' => e = .returned (.tuple #[.agg (wcells2 0 0), .int .i64 51]) ∧ Below w.heap.size w w' := by
  cases ha : isSec a with
  | false => exact sSign_no0 ma ha w hN
  | true =>
    cases hk : isSec k with
    | false => exact sSign_no1 ma mk ha hk w hN
    | true =>
      unfold signOf at h
      rw [ha, hk, if_pos (by decide)] at h
      have h : sgR k = 0 ∨ sgS a z k = 0 := by
        by_cases e : sgR k = 0 ∨ sgS a z k = 0
        · exact e
        · rw [if_neg e] at h; cases h
      unfold sgS at h
      by_cases r0 : sgR k = 0
      · cases hb : isHi (sgS0 a z k) with
        | true => exact sSign_t_r hf hz ha hk rfl rfl hb rfl r0 w hG hO hB hN
        | false => exact sSign_f_r hf hz ha hk rfl rfl hb r0 w hG hO hB hN
      · have h := h.resolve_left r0
        cases hb : isHi (sgS0 a z k) with
        | true => rw [hb, if_pos rfl] at h; exact sSign_t_s hf hz ha hk rfl rfl hb rfl r0 h w hG hO hB hN
        | false => rw [hb, if_neg (by decide)] at h; exact sSign_f_s hf hz ha hk rfl rfl hb rfl r0 h w hG hO hB hN
end Go.Proofs.YtfgffjmpjoipeaaDoor
