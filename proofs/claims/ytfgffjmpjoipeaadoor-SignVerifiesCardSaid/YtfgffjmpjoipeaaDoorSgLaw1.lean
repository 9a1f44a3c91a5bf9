/-
  The walks of the statements SignVerifies, SignSigns and SignNames.
-/
import Derived.Test.YtfgffjmpjoipeaaDoorSgBytes
import Derived.Test.YtfgffjmpjoipeaaDoorSgRef2
namespace Go.Proofs.YtfgffjmpjoipeaaDoor
open Go Go.RowKit

open Cv
set_option maxRecDepth 100000 in
set_option maxHeartbeats 8000000 in
theorem SignVerifies_any {k r s : Nat} (hk : k < 65536) (mr : r < M256) (ms : s < M256) {f : Nat → Nat} {z : Nat} (hf : ∀ i, f i < 256) (hz : zOf f = z) (w : World) (hG : Glob 3 PP w) (hO : GlobP 2 0 0 true w) (hB : GlobPt 0 gPt w) (hN : Glob 1 NN w) : Calls Tryd.prog 5 #[.int .u16 (k : Int), .agg (bcells f), .agg (wcells2 r s)] w fun e w' => e = .returned (.bool true) ∧ Below w.heap.size w w' := by
  have Hz := Lib.hid hz
  clear hz
  have mk : k < M256 := Nat.lt_trans hk (by decide)
  obtain ⟨q14, Hq14⟩ : ∃ q, Hid (Pt.times ivP gPt k = q) := ⟨_, Lib.hid rfl⟩
  have oq14 : q14.On := by rw [← Hq14.out]; exact goodP.times_on gPt_on _
  obtain ⟨b, Hb⟩ : ∃ b, Hid (verifyB q14 z r s = b) := ⟨_, Lib.hid rfl⟩
  have hM0 := mm_nil w
  (try unfold WV)
  go_enter Tryd.func5, Tryd.ntmps5
  go_wp2_with (first
    | ((with_reducible change wpList _ _ _ (Oper.mk (some 4) _ _ _ _ _ :: _) _ _); refine mmBox hM0 _ _ (bcells f) rfl rfl rfl ?_; intro w1 hM1; clear hM0; go_frame)
    | ((with_reducible change wpList _ _ _ (Oper.mk (some 5) _ _ _ _ _ :: _) _ _); refine mmBox hM1 _ _ (wcells2 r s) rfl rfl rfl ?_; intro w2 hM2; clear hM1; go_frame)
    | (go_at_call 15; refine (signAlive_any _ (hG.below hM2.below) (hO.below hM2.below) (hB.below hM2.below) (hN.below hM2.below)).mono ?_; rintro e w3 ⟨rfl, hB3⟩; have hM3 := hM2.on hB3; clear hB3 hM2; (try unfold WV); go_frame)
    | ((with_reducible change wpList _ _ _ (Oper.mk (some 11) _ _ _ _ _ :: _) _ _); refine kConvU16 _ k hk rfl rfl rfl  ?_; go_frame)
    | ((with_reducible change wpList _ _ _ (Oper.mk (some 12) _ _ _ _ _ :: _) _ _); refine kBuildW1 _ k hk rfl rfl rfl ?_; go_frame)
    | (go_at_call 16; refine (eBase_any _).mono ?_; rintro e w4 ⟨rfl, hB4⟩; have hM4 := hM3.on hB4; clear hB4 hM3; (try unfold WV); go_frame)
    | (go_at_call 19; (with_reducible change Calls _ _ #[Value.agg (wcells k), Value.agg (ptc gPt)] _ _); refine (eTimes_q mk gPt_on Hq14.out _).mono ?_; rintro e w5 ⟨rfl, hB5⟩; have hM5 := hM4.on hB5; clear hB5 hM4; (try unfold WV); go_frame)
    | ((with_reducible change wpList _ _ _ (Oper.mk (some 7) _ _ _ _ _ :: _) _ _); refine mmAlloc hM5 _ _ rfl rfl zero_Point ?_; intro w6 hM6; clear hM5; go_frame)
    | ((with_reducible change wpList _ _ _ (Oper.mk none (Op.store _ (Operand.tmp 7) (Operand.tmp 14)) _ _ _ _ :: _) _ _); refine mmStoreAt hM6 0 _ _ _ _ _ _ (ptc q14) rfl rfl rfl rfl rfl (info_ptc _) (by simp only [pcells_size, ptc_size]) (ptc_one _) ?_; intro w7 hM7; dsimp only [List.set] at hM7; clear hM6; go_frame))
  refine region_symT 10 _ [] [] [.val (.agg (ptc q14)), .val (.agg (bcells f)), .val (.agg (wcells2 r s)), .val (.bool b), .val (.agg (ptc q14)), .val (.agg (bcells f)), .val (.agg (wcells2 r s)), .val (.bool b), .val (.bool true), .val (.bool true)] rfl (by kernel_rfl) (by kernel_rfl) (by kernel_rfl) (by kernel_rfl) rfl (by intro s hs; cases hs) (steps_all ⟨?_, ?_, ?_, ?_, ?_, ?_, ?_, ?_, ?_, ?_, trivial⟩) ?_
  · exact fun A W sz ot hbel ap dp => kLoadRow _ _ _ _ _ _ rfl rfl (sO ot 7) ((hM7.get 0 rfl).on hbel) Tryd.underlying30 rfl (info_ptc _) (sE ap sz rfl)
  · exact fun A W sz ot hbel ap dp => kLoadRow _ _ _ _ _ _ rfl rfl (sO ot 4) ((hM7.get 2 rfl).on hbel) Tryd.underlying40 rfl (info_HashC _) (sE ap sz rfl)
  · exact fun A W sz ot hbel ap dp => kLoadRow _ _ _ _ _ _ rfl rfl (sO ot 5) ((hM7.get 1 rfl).on hbel) Tryd.underlying35 rfl (info_SigC _ _) (sE ap sz rfl)
  · exact fun A W sz ot hbel ap dp => sCall3 20 rfl (sD dp 0 .data) (sD dp 1 .data) (sD dp 2 .data) (sC (sVerify_as oq14 mr ms hf Hz.out Hb.out W ((hG.below hM7.below).below hbel) ((hO.below hM7.below).below hbel) ((hB.below hM7.below).below hbel) ((hN.below hM7.below).below hbel)) ap sz (fun _ => rfl))
  · exact fun A W sz ot hbel ap dp => kLoadRow _ _ _ _ _ _ rfl rfl (sO ot 7) ((hM7.get 0 rfl).on hbel) Tryd.underlying30 rfl (info_ptc _) (sE ap sz rfl)
  · exact fun A W sz ot hbel ap dp => kLoadRow _ _ _ _ _ _ rfl rfl (sO ot 4) ((hM7.get 2 rfl).on hbel) Tryd.underlying40 rfl (info_HashC _) (sE ap sz rfl)
  · exact fun A W sz ot hbel ap dp => kLoadRow _ _ _ _ _ _ rfl rfl (sO ot 5) ((hM7.get 1 rfl).on hbel) Tryd.underlying35 rfl (info_SigC _ _) (sE ap sz rfl)
  · exact fun A W sz ot hbel ap dp => sCall3 21 rfl (sD dp 4 .data) (sD dp 5 .data) (sD dp 6 .data) (sC (gVerify_as oq14 mr ms hf Hz.out Hb.out W) ap sz (fun _ => rfl))
  · exact fun A W sz ot hbel ap dp => kEqlBool _ _ _ _ b b true rfl rfl (sD dp 3 .data) (sD dp 7 .data) Tryd.underlying4 (by simp) (sE ap sz rfl)
  · exact fun A W sz ot hbel ap dp => kAssignV _ _ rfl rfl (sD dp 8 .data) (sE ap sz rfl)
  intro w8 hB8
  dsimp only [AllV]
  intro hap
  dsimp only [putAll, List.take, List.drop]
  go_frame
  have hM8 := hM7.on hB8
  clear hB8 hM7 hap
  go_wp2_with fail
  go_ret
  exact ⟨rfl, hM8.below⟩
set_option maxRecDepth 100000 in
set_option maxHeartbeats 8000000 in
theorem SignSigns_no {a k : Nat} (ma : a < M256) (mk : k < M256) {f : Nat → Nat} {z : Nat} (hf : ∀ i, f i < 256) (hz : zOf f = z) (ha : isSec a = false) (w : World) (hG : Glob 3 PP w) (hO : GlobP 2 0 0 true w) (hB : GlobPt 0 gPt w) (hN : Glob 1 NN w) : Calls Tryd.prog 4 #[WV a, .agg (bcells f), WV k] w fun e w' => e = .returned (.bool true) ∧ Below w.heap.size w w' := by
  have h : signOf a z k = none := by unfold signOf; rw [ha]; rfl
  have Hz := Lib.hid hz
  clear hz
  replace h := Lib.hid h
  replace ha := Lib.hid ha
  have hM0 := mm_nil w
  (try unfold WV)
  go_enter Tryd.func4, Tryd.ntmps4
  go_wp2_with (first
    | ((with_reducible change wpList _ _ _ (Oper.mk (some 3) _ _ _ _ _ :: _) _ _); refine mmBox hM0 _ _ (wcells a) rfl rfl rfl ?_; intro w1 hM1; clear hM0; go_frame)
    | ((with_reducible change wpList _ _ _ (Oper.mk (some 4) _ _ _ _ _ :: _) _ _); refine mmBox hM1 _ _ (bcells f) rfl rfl rfl ?_; intro w2 hM2; clear hM1; go_frame)
    | ((with_reducible change wpList _ _ _ (Oper.mk (some 5) _ _ _ _ _ :: _) _ _); refine mmBox hM2 _ _ (wcells k) rfl rfl rfl ?_; intro w3 hM3; clear hM2; go_frame)
    | (go_at_call 15; refine (signAlive_any _ (hG.below hM3.below) (hO.below hM3.below) (hB.below hM3.below) (hN.below hM3.below)).mono ?_; rintro e w4 ⟨rfl, hB4⟩; have hM4 := hM3.on hB4; clear hB4 hM3; (try unfold WV); go_frame)
    | ((with_reducible change wpList _ _ _ (Oper.mk (some 16) _ _ _ _ _ :: _) _ _); refine kLoadRow _ _ _ _ _ _ rfl rfl rfl (hM4.get 2 rfl) Tryd.underlying24 rfl (info_WideC _) ?_; go_frame)
    | ((with_reducible change wpList _ _ _ (Oper.mk (some 17) _ _ _ _ _ :: _) _ _); refine kLoadRow _ _ _ _ _ _ rfl rfl rfl (hM4.get 1 rfl) Tryd.underlying40 rfl (info_HashC _) ?_; go_frame)
    | ((with_reducible change wpList _ _ _ (Oper.mk (some 18) _ _ _ _ _ :: _) _ _); refine kLoadRow _ _ _ _ _ _ rfl rfl rfl (hM4.get 0 rfl) Tryd.underlying24 rfl (info_WideC _) ?_; go_frame)
    | (go_at_call 12; (with_reducible change Calls _ _ #[Value.agg (wcells a), Value.agg (bcells f), Value.agg (wcells k)] _ _); refine (sSign_none ma mk hf Hz.out h.out _ (hG.below hM4.below) (hO.below hM4.below) (hB.below hM4.below) (hN.below hM4.below)).mono ?_; rintro e w5 ⟨rfl, hB5⟩; have hM5 := hM4.on hB5; clear hB5 hM4; (try unfold WV); go_frame)
    | ((with_reducible change wpList _ _ _ (Oper.mk (some 7) _ _ _ _ _ :: _) _ _); refine mmAlloc hM5 _ _ rfl rfl zero_Sig ?_; intro w6 hM6; clear hM5; go_frame)
    | ((with_reducible change wpList _ _ _ (Oper.mk none (Op.store _ (Operand.tmp 7) (Operand.tmp 20)) _ _ _ _ :: _) _ _); refine mmStoreAt hM6 0 _ _ _ _ _ _ (wcells2 0 0) rfl rfl rfl rfl rfl (info_SigC _ _) rfl (wcells2_one _ _) ?_; intro w7 hM7; dsimp only [List.set] at hM7; clear hM6; go_frame)
    | ((with_reducible change wpList _ _ _ (Oper.mk (some 23) _ _ _ _ _ :: _) _ _); refine kLoadRow _ _ _ _ _ _ rfl rfl rfl (hM7.get 3 rfl) Tryd.underlying24 rfl (info_WideC _) ?_; go_frame)
    | ((with_reducible change wpList _ _ _ (Oper.mk (some 24) _ _ _ _ _ :: _) _ _); refine kLoadRow _ _ _ _ _ _ rfl rfl rfl (hM7.get 2 rfl) Tryd.underlying40 rfl (info_HashC _) ?_; go_frame)
    | ((with_reducible change wpList _ _ _ (Oper.mk (some 25) _ _ _ _ _ :: _) _ _); refine kLoadRow _ _ _ _ _ _ rfl rfl rfl (hM7.get 1 rfl) Tryd.underlying24 rfl (info_WideC _) ?_; go_frame)
    | (go_at_call 17; (with_reducible change Calls _ _ #[Value.agg (wcells a), Value.agg (bcells f), Value.agg (wcells k)] _ _); refine (gSign_none ma mk hf Hz.out h.out _).mono ?_; rintro e w8 ⟨rfl, hB8⟩; have hM8 := hM7.on hB8; clear hB8 hM7; (try unfold WV); go_frame)
    | ((with_reducible change wpList _ _ _ (Oper.mk (some 9) _ _ _ _ _ :: _) _ _); refine mmAlloc hM8 _ _ rfl rfl zero_Sig ?_; intro w9 hM9; clear hM8; go_frame)
    | ((with_reducible change wpList _ _ _ (Oper.mk none (Op.store _ (Operand.tmp 9) (Operand.tmp 27)) _ _ _ _ :: _) _ _); refine mmStoreAt hM9 0 _ _ _ _ _ _ (wcells2 0 0) rfl rfl rfl rfl rfl (info_SigC _ _) rfl (wcells2_one _ _) ?_; intro w10 hM10; dsimp only [List.set] at hM10; clear hM9; go_frame)
    | ((with_reducible change wpList _ _ _ (Oper.mk (some 30) _ _ _ _ _ :: _) _ _); refine kLoadRow _ _ _ _ _ _ rfl rfl rfl (hM10.get 4 rfl) Tryd.underlying24 rfl (info_WideC _) ?_; go_frame)
    | (go_at_call 11; (with_reducible change Calls _ _ #[Value.agg (wcells a)] _ _); refine (sPublic_no ma ha.out _ (hN.below hM10.below)).mono ?_; rintro e w11 ⟨rfl, hB11⟩; have hM11 := hM10.on hB11; clear hB11 hM10; (try unfold WV); go_frame)
    | ((with_reducible change wpList _ _ _ (Oper.mk (some 11) _ _ _ _ _ :: _) _ _); refine mmAlloc hM11 _ _ rfl rfl zero_Point ?_; intro w12 hM12; clear hM11; go_frame)
    | ((with_reducible change wpList _ _ _ (Oper.mk none (Op.store _ (Operand.tmp 11) (Operand.tmp 32)) _ _ _ _ :: _) _ _); refine mmStoreAt hM12 0 _ _ _ _ _ _ (pcells 0 0 false) rfl rfl rfl rfl rfl (info_PointC _ _ _) (by simp only [pcells_size]) (pcells_one _ _ _) ?_; intro w13 hM13; dsimp only [List.set] at hM13; clear hM12; go_frame)
    | ((with_reducible change wpList _ _ _ (Oper.mk (some 34) _ _ _ _ _ :: _) _ _); refine kLoadRow _ _ _ _ _ _ rfl rfl rfl (hM13.get 2 rfl) Tryd.underlying35 rfl (info_SigC _ _) ?_; go_frame)
    | ((with_reducible change wpList _ _ _ (Oper.mk (some 35) _ _ _ _ _ :: _) _ _); refine kLoadRow _ _ _ _ _ _ rfl rfl rfl (hM13.get 1 rfl) Tryd.underlying35 rfl (info_SigC _ _) ?_; go_frame)
    | ((with_reducible change wpList _ _ _ (Oper.mk (some 36) _ _ _ _ _ :: _) _ _); refine kNeqS _ _ _ 0 0 0 0 false rfl rfl rfl rfl (neS_no ⟨rfl, rfl⟩) ?_; go_frame)
    | ((with_reducible change wpList _ _ _ (Oper.mk (some 40) _ _ _ _ _ :: _) _ _); refine kNeqI _ _ _ _ .i64 (51) (51) false rfl rfl rfl rfl (by decide) ?_; go_frame)
    | ((with_reducible change wpList _ _ _ (Oper.mk (some 44) _ _ _ _ _ :: _) _ _); refine kEqlI _ _ _ _ .i64 (51) (0) false rfl rfl rfl rfl (by decide) ?_; go_frame)
    | ((with_reducible change wpList _ _ _ (Oper.mk (some 45) _ _ _ _ _ :: _) _ _); refine kLoadRow _ _ _ _ _ _ rfl rfl rfl (hM13.get 5 rfl) Tryd.underlying24 rfl (info_WideC _) ?_; go_frame)
    | (go_at_call 18; (with_reducible change Calls _ _ #[Value.agg (wcells a)] _ _); refine (gSecret_as rfl rPrime_false ma ha.out _).mono ?_; rintro e w14 ⟨rfl, hB14⟩; have hM14 := hM13.on hB14; clear hB14 hM13; (try unfold WV); go_frame)
    | ((with_reducible change wpList _ _ _ (Oper.mk (some 47) _ _ _ _ _ :: _) _ _); refine kNeqBool _ _ _ _ false false false rfl rfl rfl rfl Tryd.underlying4 (by decide) ?_; go_frame))
  refine region_symT 19 _ [] [] [.val (.int .i64 (51)), .val (.bool true), .val (.bool true), .val (.agg (pcells 0 0 false)), .val (.agg (pcells 0 0 false)), .val (.bool true), .val (.bool true), .val (.bool true), .val (undef), .val (undef), .val (undef), .val (undef), .val (undef), .val (undef), .val (undef), .val (undef), .val (undef), .val (.bool true), .val (.bool true)] rfl (by kernel_rfl) (by kernel_rfl) (by kernel_rfl) (by kernel_rfl) rfl (by intro s hs; cases hs) (steps_all ⟨?_, ?_, ?_, ?_, ?_, ?_, ?_, ?_, ?_, ?_, ?_, ?_, ?_, ?_, ?_, ?_, ?_, ?_, ?_, trivial⟩) ?_
  · exact fun A W sz ot hbel ap dp => kMoveV _ _ rfl rfl (sO ot 12) (sE ap sz rfl)
  · exact fun A W sz ot hbel ap dp => kNeqI _ _ _ _ .i64 (51) (0) true rfl rfl (sD dp 0 .data) rfl (by decide) (sE ap sz rfl)
  · exact fun A W sz ot hbel ap dp => kMoveV _ _ rfl rfl (sD dp 1 .data) (sE ap sz rfl)
  · exact fun A W sz ot hbel ap dp => kLoadRow _ _ _ _ _ _ rfl (wanted_of rfl rfl (sD dp 2 .guard)) (sO ot 11) ((hM14.get 0 rfl).on hbel) Tryd.underlying30 rfl (info_PointC _ _ _) (sE ap sz rfl)
  · exact fun A W sz ot hbel ap dp => kBuildPoint0 rfl (wanted_of rfl rfl (sD dp 2 .guard)) (sE ap sz rfl)
  · exact fun A W sz ot hbel ap dp => kEqlP _ _ _ 0 0 false 0 0 false true rfl (wanted_of rfl rfl (sD dp 2 .guard)) (sD dp 3 .data) (sD dp 4 .data) (eqP_yes ⟨rfl, rfl, rfl⟩) (sE ap sz rfl)
  · exact fun A W sz ot hbel ap dp => kPick _ _ _ true (.bool true) rfl rfl (sD dp 2 .data) (sD dp 5 .data) (sE ap sz rfl)
  · exact fun A W sz ot hbel ap dp => kMoveV _ _ rfl rfl (sD dp 6 .data) (sE ap sz rfl)
  · exact fun A W sz ot hbel ap dp => wpList_skip (unwanted_of rfl rfl (sD dp 7 .guard) (.inl rfl)) (sE ap sz rfl)
  · exact fun A W sz ot hbel ap dp => wpList_skip (unwanted_of rfl rfl (sD dp 7 .guard) (.inl rfl)) (sE ap sz rfl)
  · exact fun A W sz ot hbel ap dp => wpList_skip (unwanted_of rfl rfl (sD dp 7 .chain) (.inl rfl)) (sE ap sz rfl)
  · exact fun A W sz ot hbel ap dp => wpList_skip (unwanted_of rfl rfl (sD dp 10 .guard) (.inr rfl)) (sE ap sz rfl)
  · exact fun A W sz ot hbel ap dp => wpList_skip (unwanted_of rfl rfl (sD dp 10 .guard) (.inr rfl)) (sE ap sz rfl)
  · exact fun A W sz ot hbel ap dp => wpList_skip (unwanted_of rfl rfl (sD dp 10 .chain) (.inr rfl)) (sE ap sz rfl)
  · exact fun A W sz ot hbel ap dp => wpList_skip (unwanted_of rfl rfl (sD dp 10 .guard) (.inr rfl)) (sE ap sz rfl)
  · exact fun A W sz ot hbel ap dp => wpList_skip (unwanted_of rfl rfl (sD dp 10 .guard) (.inr rfl)) (sE ap sz rfl)
  · exact fun A W sz ot hbel ap dp => wpList_skip (unwanted_of rfl rfl (sD dp 7 .guard) (.inl rfl)) (sE ap sz rfl)
  · exact fun A W sz ot hbel ap dp => kPick _ _ _ true (.bool true) rfl rfl (sD dp 7 .data) rfl (sE ap sz rfl)
  · exact fun A W sz ot hbel ap dp => kAssignV _ _ rfl rfl (sD dp 17 .data) (sE ap sz rfl)
  intro w15 hB15
  dsimp only [AllV]
  intro hap
  dsimp only [putAll, List.take, List.drop]
  go_frame
  have hM15 := hM14.on hB15
  clear hB15 hM14 hap
  go_wp2_with fail
  go_ret
  exact ⟨rfl, hM15.below⟩
set_option maxRecDepth 100000 in
set_option maxHeartbeats 8000000 in
theorem SignSigns_none {a k : Nat} (ma : a < M256) (mk : k < M256) {f : Nat → Nat} {z : Nat} (hf : ∀ i, f i < 256) (hz : zOf f = z) (ha : isSec a = true) (h : signOf a z k = none) (w : World) (hG : Glob 3 PP w) (hO : GlobP 2 0 0 true w) (hB : GlobPt 0 gPt w) (hN : Glob 1 NN w) : Calls Tryd.prog 4 #[WV a, .agg (bcells f), WV k] w fun e w' => e = .returned (.bool true) ∧ Below w.heap.size w w' := by
  obtain ⟨p, Hp⟩ : ∃ p, Hid (Pt.times ivP gPt a = p) := ⟨_, Lib.hid rfl⟩
  have Hz := Lib.hid hz
  clear hz
  replace h := Lib.hid h
  replace ha := Lib.hid ha
  have hM0 := mm_nil w
  (try unfold WV)
  go_enter Tryd.func4, Tryd.ntmps4
  go_wp2_with (first
    | ((with_reducible change wpList _ _ _ (Oper.mk (some 3) _ _ _ _ _ :: _) _ _); refine mmBox hM0 _ _ (wcells a) rfl rfl rfl ?_; intro w1 hM1; clear hM0; go_frame)
    | ((with_reducible change wpList _ _ _ (Oper.mk (some 4) _ _ _ _ _ :: _) _ _); refine mmBox hM1 _ _ (bcells f) rfl rfl rfl ?_; intro w2 hM2; clear hM1; go_frame)
    | ((with_reducible change wpList _ _ _ (Oper.mk (some 5) _ _ _ _ _ :: _) _ _); refine mmBox hM2 _ _ (wcells k) rfl rfl rfl ?_; intro w3 hM3; clear hM2; go_frame)
    | (go_at_call 15; refine (signAlive_any _ (hG.below hM3.below) (hO.below hM3.below) (hB.below hM3.below) (hN.below hM3.below)).mono ?_; rintro e w4 ⟨rfl, hB4⟩; have hM4 := hM3.on hB4; clear hB4 hM3; (try unfold WV); go_frame)
    | ((with_reducible change wpList _ _ _ (Oper.mk (some 16) _ _ _ _ _ :: _) _ _); refine kLoadRow _ _ _ _ _ _ rfl rfl rfl (hM4.get 2 rfl) Tryd.underlying24 rfl (info_WideC _) ?_; go_frame)
    | ((with_reducible change wpList _ _ _ (Oper.mk (some 17) _ _ _ _ _ :: _) _ _); refine kLoadRow _ _ _ _ _ _ rfl rfl rfl (hM4.get 1 rfl) Tryd.underlying40 rfl (info_HashC _) ?_; go_frame)
    | ((with_reducible change wpList _ _ _ (Oper.mk (some 18) _ _ _ _ _ :: _) _ _); refine kLoadRow _ _ _ _ _ _ rfl rfl rfl (hM4.get 0 rfl) Tryd.underlying24 rfl (info_WideC _) ?_; go_frame)
    | (go_at_call 12; (with_reducible change Calls _ _ #[Value.agg (wcells a), Value.agg (bcells f), Value.agg (wcells k)] _ _); refine (sSign_none ma mk hf Hz.out h.out _ (hG.below hM4.below) (hO.below hM4.below) (hB.below hM4.below) (hN.below hM4.below)).mono ?_; rintro e w5 ⟨rfl, hB5⟩; have hM5 := hM4.on hB5; clear hB5 hM4; (try unfold WV); go_frame)
    | ((with_reducible change wpList _ _ _ (Oper.mk (some 7) _ _ _ _ _ :: _) _ _); refine mmAlloc hM5 _ _ rfl rfl zero_Sig ?_; intro w6 hM6; clear hM5; go_frame)
    | ((with_reducible change wpList _ _ _ (Oper.mk none (Op.store _ (Operand.tmp 7) (Operand.tmp 20)) _ _ _ _ :: _) _ _); refine mmStoreAt hM6 0 _ _ _ _ _ _ (wcells2 0 0) rfl rfl rfl rfl rfl (info_SigC _ _) rfl (wcells2_one _ _) ?_; intro w7 hM7; dsimp only [List.set] at hM7; clear hM6; go_frame)
    | ((with_reducible change wpList _ _ _ (Oper.mk (some 23) _ _ _ _ _ :: _) _ _); refine kLoadRow _ _ _ _ _ _ rfl rfl rfl (hM7.get 3 rfl) Tryd.underlying24 rfl (info_WideC _) ?_; go_frame)
    | ((with_reducible change wpList _ _ _ (Oper.mk (some 24) _ _ _ _ _ :: _) _ _); refine kLoadRow _ _ _ _ _ _ rfl rfl rfl (hM7.get 2 rfl) Tryd.underlying40 rfl (info_HashC _) ?_; go_frame)
    | ((with_reducible change wpList _ _ _ (Oper.mk (some 25) _ _ _ _ _ :: _) _ _); refine kLoadRow _ _ _ _ _ _ rfl rfl rfl (hM7.get 1 rfl) Tryd.underlying24 rfl (info_WideC _) ?_; go_frame)
    | (go_at_call 17; (with_reducible change Calls _ _ #[Value.agg (wcells a), Value.agg (bcells f), Value.agg (wcells k)] _ _); refine (gSign_none ma mk hf Hz.out h.out _).mono ?_; rintro e w8 ⟨rfl, hB8⟩; have hM8 := hM7.on hB8; clear hB8 hM7; (try unfold WV); go_frame)
    | ((with_reducible change wpList _ _ _ (Oper.mk (some 9) _ _ _ _ _ :: _) _ _); refine mmAlloc hM8 _ _ rfl rfl zero_Sig ?_; intro w9 hM9; clear hM8; go_frame)
    | ((with_reducible change wpList _ _ _ (Oper.mk none (Op.store _ (Operand.tmp 9) (Operand.tmp 27)) _ _ _ _ :: _) _ _); refine mmStoreAt hM9 0 _ _ _ _ _ _ (wcells2 0 0) rfl rfl rfl rfl rfl (info_SigC _ _) rfl (wcells2_one _ _) ?_; intro w10 hM10; dsimp only [List.set] at hM10; clear hM9; go_frame)
    | ((with_reducible change wpList _ _ _ (Oper.mk (some 30) _ _ _ _ _ :: _) _ _); refine kLoadRow _ _ _ _ _ _ rfl rfl rfl (hM10.get 4 rfl) Tryd.underlying24 rfl (info_WideC _) ?_; go_frame)
    | (go_at_call 11; (with_reducible change Calls _ _ #[Value.agg (wcells a)] _ _); refine (sPublic_yes ma ha.out Hp.out _ (hG.below hM10.below) (hO.below hM10.below) (hB.below hM10.below) (hN.below hM10.below)).mono ?_; rintro e w11 ⟨rfl, hB11⟩; have hM11 := hM10.on hB11; clear hB11 hM10; (try unfold WV); go_frame)
    | ((with_reducible change wpList _ _ _ (Oper.mk (some 11) _ _ _ _ _ :: _) _ _); refine mmAlloc hM11 _ _ rfl rfl zero_Point ?_; intro w12 hM12; clear hM11; go_frame)
    | ((with_reducible change wpList _ _ _ (Oper.mk none (Op.store _ (Operand.tmp 11) (Operand.tmp 32)) _ _ _ _ :: _) _ _); refine mmStoreAt hM12 0 _ _ _ _ _ _ (ptc p) rfl rfl rfl rfl rfl (info_ptc _) (by simp only [pcells_size, ptc_size]) (ptc_one _) ?_; intro w13 hM13; dsimp only [List.set] at hM13; clear hM12; go_frame)
    | ((with_reducible change wpList _ _ _ (Oper.mk (some 34) _ _ _ _ _ :: _) _ _); refine kLoadRow _ _ _ _ _ _ rfl rfl rfl (hM13.get 2 rfl) Tryd.underlying35 rfl (info_SigC _ _) ?_; go_frame)
    | ((with_reducible change wpList _ _ _ (Oper.mk (some 35) _ _ _ _ _ :: _) _ _); refine kLoadRow _ _ _ _ _ _ rfl rfl rfl (hM13.get 1 rfl) Tryd.underlying35 rfl (info_SigC _ _) ?_; go_frame)
    | ((with_reducible change wpList _ _ _ (Oper.mk (some 36) _ _ _ _ _ :: _) _ _); refine kNeqS _ _ _ 0 0 0 0 false rfl rfl rfl rfl (neS_no ⟨rfl, rfl⟩) ?_; go_frame)
    | ((with_reducible change wpList _ _ _ (Oper.mk (some 40) _ _ _ _ _ :: _) _ _); refine kNeqI _ _ _ _ .i64 (51) (51) false rfl rfl rfl rfl (by decide) ?_; go_frame)
    | ((with_reducible change wpList _ _ _ (Oper.mk (some 44) _ _ _ _ _ :: _) _ _); refine kEqlI _ _ _ _ .i64 (0) (0) true rfl rfl rfl rfl (by decide) ?_; go_frame)
    | ((with_reducible change wpList _ _ _ (Oper.mk (some 45) _ _ _ _ _ :: _) _ _); refine kLoadRow _ _ _ _ _ _ rfl rfl rfl (hM13.get 5 rfl) Tryd.underlying24 rfl (info_WideC _) ?_; go_frame)
    | (go_at_call 18; (with_reducible change Calls _ _ #[Value.agg (wcells a)] _ _); refine (gSecret_as rfl rPrime_false ma ha.out _).mono ?_; rintro e w14 ⟨rfl, hB14⟩; have hM14 := hM13.on hB14; clear hB14 hM13; (try unfold WV); go_frame)
    | ((with_reducible change wpList _ _ _ (Oper.mk (some 47) _ _ _ _ _ :: _) _ _); refine kNeqBool _ _ _ _ true true false rfl rfl rfl rfl Tryd.underlying4 (by decide) ?_; go_frame))
  refine region_symT 19 _ [] [] [.val (.int .i64 (0)), .val (.bool false), .val (.bool false), .val (undef), .val (undef), .val (undef), .val (.bool false), .val (.bool false), .val (.int .i64 (0)), .val (.bool true), .val (.bool true), .val (.agg (ptc p)), .val (.agg (wcells a)), .val (.agg (ptc gPt)), .val (.agg (ptc p)), .val (.bool true), .val (.bool true), .val (.bool true), .val (.bool true)] rfl (by kernel_rfl) (by kernel_rfl) (by kernel_rfl) (by kernel_rfl) rfl (by intro s hs; cases hs) (steps_all ⟨?_, ?_, ?_, ?_, ?_, ?_, ?_, ?_, ?_, ?_, ?_, ?_, ?_, ?_, ?_, ?_, ?_, ?_, ?_, trivial⟩) ?_
  · exact fun A W sz ot hbel ap dp => kMoveV _ _ rfl rfl (sO ot 12) (sE ap sz rfl)
  · exact fun A W sz ot hbel ap dp => kNeqI _ _ _ _ .i64 (0) (0) false rfl rfl (sD dp 0 .data) rfl (by decide) (sE ap sz rfl)
  · exact fun A W sz ot hbel ap dp => kMoveV _ _ rfl rfl (sD dp 1 .data) (sE ap sz rfl)
  · exact fun A W sz ot hbel ap dp => wpList_skip (unwanted_of rfl rfl (sD dp 2 .guard) (.inl rfl)) (sE ap sz rfl)
  · exact fun A W sz ot hbel ap dp => wpList_skip (unwanted_of rfl rfl (sD dp 2 .guard) (.inl rfl)) (sE ap sz rfl)
  · exact fun A W sz ot hbel ap dp => wpList_skip (unwanted_of rfl rfl (sD dp 2 .guard) (.inl rfl)) (sE ap sz rfl)
  · exact fun A W sz ot hbel ap dp => kPick _ _ _ false (.bool false) rfl rfl (sD dp 2 .data) rfl (sE ap sz rfl)
  · exact fun A W sz ot hbel ap dp => kMoveV _ _ rfl rfl (sD dp 6 .data) (sE ap sz rfl)
  · exact fun A W sz ot hbel ap dp => kMoveV _ _ rfl (wanted_of rfl rfl (sD dp 7 .guard)) (sO ot 12) (sE ap sz rfl)
  · exact fun A W sz ot hbel ap dp => kEqlI _ _ _ _ .i64 (0) (0) true rfl (wanted_of rfl rfl (sD dp 7 .guard)) (sD dp 8 .data) rfl (by decide) (sE ap sz rfl)
  · exact fun A W sz ot hbel ap dp => kMoveV _ _ rfl (wanted_of rfl rfl (sD dp 7 .chain)) (sD dp 9 .data) (sE ap sz rfl)
  · exact fun A W sz ot hbel ap dp => kLoadRow _ _ _ _ _ _ rfl (wanted_of rfl rfl (sD dp 10 .guard)) (sO ot 11) ((hM14.get 0 rfl).on hbel) Tryd.underlying30 rfl (info_ptc _) (sE ap sz rfl)
  · exact fun A W sz ot hbel ap dp => kLoadRow _ _ _ _ _ _ rfl (wanted_of rfl rfl (sD dp 10 .guard)) (sO ot 3) ((hM14.get 5 rfl).on hbel) Tryd.underlying24 rfl (info_WideC _) (sE ap sz rfl)
  · intro A W sz ot hbel ap dp
    refine kCall0 16 _ rfl (wanted_of rfl rfl (sD dp 10 .chain)) (by kernel_rfl)  ?_
    refine (eBase_any W).mono ?_
    rintro e r ⟨rfl, hBc⟩
    exact ⟨_, rfl, (sV ap sz hBc rfl)⟩
  · exact fun A W sz ot hbel ap dp => sCall2 19 rfl (sD dp 12 .data) (sD dp 13 .data) (sC (eTimes_q ma gPt_on Hp.out W) ap sz (fun _ => rfl)) (wanted_of rfl rfl (sD dp 10 .guard))
  · exact fun A W sz ot hbel ap dp => kEqlPt _ _ _ p p true rfl (wanted_of rfl rfl (sD dp 10 .guard)) (sD dp 11 .data) (sD dp 14 .data) (eq_yes rfl) (sE ap sz rfl)
  · exact fun A W sz ot hbel ap dp => kPick _ _ _ true (.bool true) rfl (wanted_of rfl rfl (sD dp 7 .guard)) (sD dp 10 .data) (sD dp 15 .data) (sE ap sz rfl)
  · exact fun A W sz ot hbel ap dp => kPick _ _ _ false (.bool true) rfl rfl (sD dp 7 .data) (sD dp 16 .data) (sE ap sz rfl)
  · exact fun A W sz ot hbel ap dp => kAssignV _ _ rfl rfl (sD dp 17 .data) (sE ap sz rfl)
  intro w15 hB15
  dsimp only [AllV]
  intro hap
  dsimp only [putAll, List.take, List.drop]
  go_frame
  have hM15 := hM14.on hB15
  clear hB15 hM14 hap
  go_wp2_with fail
  go_ret
  exact ⟨rfl, hM15.below⟩
set_option maxRecDepth 100000 in
set_option maxHeartbeats 8000000 in
theorem SignSigns_some {a k : Nat} (ma : a < M256) {f : Nat → Nat} {z : Nat} (hf : ∀ i, f i < 256) (hz : zOf f = z) {r s : Nat} (h : signOf a z k = some (r, s)) (w : World) (hG : Glob 3 PP w) (hO : GlobP 2 0 0 true w) (hB : GlobPt 0 gPt w) (hN : Glob 1 NN w) : Calls Tryd.prog 4 #[WV a, .agg (bcells f), WV k] w fun e w' => e = .returned (.bool true) ∧ Below w.heap.size w w' := by
  have ha := (signOf_some h).1
  obtain ⟨p, Hp⟩ : ∃ p, Hid (Pt.times ivP gPt a = p) := ⟨_, Lib.hid rfl⟩
  have Hz := Lib.hid hz
  clear hz
  replace h := Lib.hid h
  replace ha := Lib.hid ha
  have hM0 := mm_nil w
  (try unfold WV)
  go_enter Tryd.func4, Tryd.ntmps4
  go_wp2_with (first
    | ((with_reducible change wpList _ _ _ (Oper.mk (some 3) _ _ _ _ _ :: _) _ _); refine mmBox hM0 _ _ (wcells a) rfl rfl rfl ?_; intro w1 hM1; clear hM0; go_frame)
    | ((with_reducible change wpList _ _ _ (Oper.mk (some 4) _ _ _ _ _ :: _) _ _); refine mmBox hM1 _ _ (bcells f) rfl rfl rfl ?_; intro w2 hM2; clear hM1; go_frame)
    | ((with_reducible change wpList _ _ _ (Oper.mk (some 5) _ _ _ _ _ :: _) _ _); refine mmBox hM2 _ _ (wcells k) rfl rfl rfl ?_; intro w3 hM3; clear hM2; go_frame)
    | (go_at_call 15; refine (signAlive_any _ (hG.below hM3.below) (hO.below hM3.below) (hB.below hM3.below) (hN.below hM3.below)).mono ?_; rintro e w4 ⟨rfl, hB4⟩; have hM4 := hM3.on hB4; clear hB4 hM3; (try unfold WV); go_frame)
    | ((with_reducible change wpList _ _ _ (Oper.mk (some 16) _ _ _ _ _ :: _) _ _); refine kLoadRow _ _ _ _ _ _ rfl rfl rfl (hM4.get 2 rfl) Tryd.underlying24 rfl (info_WideC _) ?_; go_frame)
    | ((with_reducible change wpList _ _ _ (Oper.mk (some 17) _ _ _ _ _ :: _) _ _); refine kLoadRow _ _ _ _ _ _ rfl rfl rfl (hM4.get 1 rfl) Tryd.underlying40 rfl (info_HashC _) ?_; go_frame)
    | ((with_reducible change wpList _ _ _ (Oper.mk (some 18) _ _ _ _ _ :: _) _ _); refine kLoadRow _ _ _ _ _ _ rfl rfl rfl (hM4.get 0 rfl) Tryd.underlying24 rfl (info_WideC _) ?_; go_frame)
    | (go_at_call 12; (with_reducible change Calls _ _ #[Value.agg (wcells a), Value.agg (bcells f), Value.agg (wcells k)] _ _); refine (sSign_some hf Hz.out h.out _ (hG.below hM4.below) (hO.below hM4.below) (hB.below hM4.below) (hN.below hM4.below)).mono ?_; rintro e w5 ⟨rfl, hB5⟩; have hM5 := hM4.on hB5; clear hB5 hM4; (try unfold WV); go_frame)
    | ((with_reducible change wpList _ _ _ (Oper.mk (some 7) _ _ _ _ _ :: _) _ _); refine mmAlloc hM5 _ _ rfl rfl zero_Sig ?_; intro w6 hM6; clear hM5; go_frame)
    | ((with_reducible change wpList _ _ _ (Oper.mk none (Op.store _ (Operand.tmp 7) (Operand.tmp 20)) _ _ _ _ :: _) _ _); refine mmStoreAt hM6 0 _ _ _ _ _ _ (wcells2 r s) rfl rfl rfl rfl rfl (info_SigC _ _) rfl (wcells2_one _ _) ?_; intro w7 hM7; dsimp only [List.set] at hM7; clear hM6; go_frame)
    | ((with_reducible change wpList _ _ _ (Oper.mk (some 23) _ _ _ _ _ :: _) _ _); refine kLoadRow _ _ _ _ _ _ rfl rfl rfl (hM7.get 3 rfl) Tryd.underlying24 rfl (info_WideC _) ?_; go_frame)
    | ((with_reducible change wpList _ _ _ (Oper.mk (some 24) _ _ _ _ _ :: _) _ _); refine kLoadRow _ _ _ _ _ _ rfl rfl rfl (hM7.get 2 rfl) Tryd.underlying40 rfl (info_HashC _) ?_; go_frame)
    | ((with_reducible change wpList _ _ _ (Oper.mk (some 25) _ _ _ _ _ :: _) _ _); refine kLoadRow _ _ _ _ _ _ rfl rfl rfl (hM7.get 1 rfl) Tryd.underlying24 rfl (info_WideC _) ?_; go_frame)
    | (go_at_call 17; (with_reducible change Calls _ _ #[Value.agg (wcells a), Value.agg (bcells f), Value.agg (wcells k)] _ _); refine (gSign_some hf Hz.out h.out _).mono ?_; rintro e w8 ⟨rfl, hB8⟩; have hM8 := hM7.on hB8; clear hB8 hM7; (try unfold WV); go_frame)
    | ((with_reducible change wpList _ _ _ (Oper.mk (some 9) _ _ _ _ _ :: _) _ _); refine mmAlloc hM8 _ _ rfl rfl zero_Sig ?_; intro w9 hM9; clear hM8; go_frame)
    | ((with_reducible change wpList _ _ _ (Oper.mk none (Op.store _ (Operand.tmp 9) (Operand.tmp 27)) _ _ _ _ :: _) _ _); refine mmStoreAt hM9 0 _ _ _ _ _ _ (wcells2 r s) rfl rfl rfl rfl rfl (info_SigC _ _) rfl (wcells2_one _ _) ?_; intro w10 hM10; dsimp only [List.set] at hM10; clear hM9; go_frame)
    | ((with_reducible change wpList _ _ _ (Oper.mk (some 30) _ _ _ _ _ :: _) _ _); refine kLoadRow _ _ _ _ _ _ rfl rfl rfl (hM10.get 4 rfl) Tryd.underlying24 rfl (info_WideC _) ?_; go_frame)
    | (go_at_call 11; (with_reducible change Calls _ _ #[Value.agg (wcells a)] _ _); refine (sPublic_yes ma ha.out Hp.out _ (hG.below hM10.below) (hO.below hM10.below) (hB.below hM10.below) (hN.below hM10.below)).mono ?_; rintro e w11 ⟨rfl, hB11⟩; have hM11 := hM10.on hB11; clear hB11 hM10; (try unfold WV); go_frame)
    | ((with_reducible change wpList _ _ _ (Oper.mk (some 11) _ _ _ _ _ :: _) _ _); refine mmAlloc hM11 _ _ rfl rfl zero_Point ?_; intro w12 hM12; clear hM11; go_frame)
    | ((with_reducible change wpList _ _ _ (Oper.mk none (Op.store _ (Operand.tmp 11) (Operand.tmp 32)) _ _ _ _ :: _) _ _); refine mmStoreAt hM12 0 _ _ _ _ _ _ (ptc p) rfl rfl rfl rfl rfl (info_ptc _) (by simp only [pcells_size, ptc_size]) (ptc_one _) ?_; intro w13 hM13; dsimp only [List.set] at hM13; clear hM12; go_frame)
    | ((with_reducible change wpList _ _ _ (Oper.mk (some 34) _ _ _ _ _ :: _) _ _); refine kLoadRow _ _ _ _ _ _ rfl rfl rfl (hM13.get 2 rfl) Tryd.underlying35 rfl (info_SigC _ _) ?_; go_frame)
    | ((with_reducible change wpList _ _ _ (Oper.mk (some 35) _ _ _ _ _ :: _) _ _); refine kLoadRow _ _ _ _ _ _ rfl rfl rfl (hM13.get 1 rfl) Tryd.underlying35 rfl (info_SigC _ _) ?_; go_frame)
    | ((with_reducible change wpList _ _ _ (Oper.mk (some 36) _ _ _ _ _ :: _) _ _); refine kNeqS _ _ _ r s r s false rfl rfl rfl rfl (neS_no ⟨rfl, rfl⟩) ?_; go_frame)
    | ((with_reducible change wpList _ _ _ (Oper.mk (some 40) _ _ _ _ _ :: _) _ _); refine kNeqI _ _ _ _ .i64 (0) (0) false rfl rfl rfl rfl (by decide) ?_; go_frame)
    | ((with_reducible change wpList _ _ _ (Oper.mk (some 44) _ _ _ _ _ :: _) _ _); refine kEqlI _ _ _ _ .i64 (0) (0) true rfl rfl rfl rfl (by decide) ?_; go_frame)
    | ((with_reducible change wpList _ _ _ (Oper.mk (some 45) _ _ _ _ _ :: _) _ _); refine kLoadRow _ _ _ _ _ _ rfl rfl rfl (hM13.get 5 rfl) Tryd.underlying24 rfl (info_WideC _) ?_; go_frame)
    | (go_at_call 18; (with_reducible change Calls _ _ #[Value.agg (wcells a)] _ _); refine (gSecret_as rfl rPrime_false ma ha.out _).mono ?_; rintro e w14 ⟨rfl, hB14⟩; have hM14 := hM13.on hB14; clear hB14 hM13; (try unfold WV); go_frame)
    | ((with_reducible change wpList _ _ _ (Oper.mk (some 47) _ _ _ _ _ :: _) _ _); refine kNeqBool _ _ _ _ true true false rfl rfl rfl rfl Tryd.underlying4 (by decide) ?_; go_frame))
  refine region_symT 19 _ [] [] [.val (.int .i64 (0)), .val (.bool false), .val (.bool false), .val (undef), .val (undef), .val (undef), .val (.bool false), .val (.bool false), .val (.int .i64 (0)), .val (.bool true), .val (.bool true), .val (.agg (ptc p)), .val (.agg (wcells a)), .val (.agg (ptc gPt)), .val (.agg (ptc p)), .val (.bool true), .val (.bool true), .val (.bool true), .val (.bool true)] rfl (by kernel_rfl) (by kernel_rfl) (by kernel_rfl) (by kernel_rfl) rfl (by intro s hs; cases hs) (steps_all ⟨?_, ?_, ?_, ?_, ?_, ?_, ?_, ?_, ?_, ?_, ?_, ?_, ?_, ?_, ?_, ?_, ?_, ?_, ?_, trivial⟩) ?_
  · exact fun A W sz ot hbel ap dp => kMoveV _ _ rfl rfl (sO ot 12) (sE ap sz rfl)
  · exact fun A W sz ot hbel ap dp => kNeqI _ _ _ _ .i64 (0) (0) false rfl rfl (sD dp 0 .data) rfl (by decide) (sE ap sz rfl)
  · exact fun A W sz ot hbel ap dp => kMoveV _ _ rfl rfl (sD dp 1 .data) (sE ap sz rfl)
  · exact fun A W sz ot hbel ap dp => wpList_skip (unwanted_of rfl rfl (sD dp 2 .guard) (.inl rfl)) (sE ap sz rfl)
  · exact fun A W sz ot hbel ap dp => wpList_skip (unwanted_of rfl rfl (sD dp 2 .guard) (.inl rfl)) (sE ap sz rfl)
  · exact fun A W sz ot hbel ap dp => wpList_skip (unwanted_of rfl rfl (sD dp 2 .guard) (.inl rfl)) (sE ap sz rfl)
  · exact fun A W sz ot hbel ap dp => kPick _ _ _ false (.bool false) rfl rfl (sD dp 2 .data) rfl (sE ap sz rfl)
  · exact fun A W sz ot hbel ap dp => kMoveV _ _ rfl rfl (sD dp 6 .data) (sE ap sz rfl)
  · exact fun A W sz ot hbel ap dp => kMoveV _ _ rfl (wanted_of rfl rfl (sD dp 7 .guard)) (sO ot 12) (sE ap sz rfl)
  · exact fun A W sz ot hbel ap dp => kEqlI _ _ _ _ .i64 (0) (0) true rfl (wanted_of rfl rfl (sD dp 7 .guard)) (sD dp 8 .data) rfl (by decide) (sE ap sz rfl)
  · exact fun A W sz ot hbel ap dp => kMoveV _ _ rfl (wanted_of rfl rfl (sD dp 7 .chain)) (sD dp 9 .data) (sE ap sz rfl)
  · exact fun A W sz ot hbel ap dp => kLoadRow _ _ _ _ _ _ rfl (wanted_of rfl rfl (sD dp 10 .guard)) (sO ot 11) ((hM14.get 0 rfl).on hbel) Tryd.underlying30 rfl (info_ptc _) (sE ap sz rfl)
  · exact fun A W sz ot hbel ap dp => kLoadRow _ _ _ _ _ _ rfl (wanted_of rfl rfl (sD dp 10 .guard)) (sO ot 3) ((hM14.get 5 rfl).on hbel) Tryd.underlying24 rfl (info_WideC _) (sE ap sz rfl)
  · intro A W sz ot hbel ap dp
    refine kCall0 16 _ rfl (wanted_of rfl rfl (sD dp 10 .chain)) (by kernel_rfl)  ?_
    refine (eBase_any W).mono ?_
    rintro e r ⟨rfl, hBc⟩
    exact ⟨_, rfl, (sV ap sz hBc rfl)⟩
  · exact fun A W sz ot hbel ap dp => sCall2 19 rfl (sD dp 12 .data) (sD dp 13 .data) (sC (eTimes_q ma gPt_on Hp.out W) ap sz (fun _ => rfl)) (wanted_of rfl rfl (sD dp 10 .guard))
  · exact fun A W sz ot hbel ap dp => kEqlPt _ _ _ p p true rfl (wanted_of rfl rfl (sD dp 10 .guard)) (sD dp 11 .data) (sD dp 14 .data) (eq_yes rfl) (sE ap sz rfl)
  · exact fun A W sz ot hbel ap dp => kPick _ _ _ true (.bool true) rfl (wanted_of rfl rfl (sD dp 7 .guard)) (sD dp 10 .data) (sD dp 15 .data) (sE ap sz rfl)
  · exact fun A W sz ot hbel ap dp => kPick _ _ _ false (.bool true) rfl rfl (sD dp 7 .data) (sD dp 16 .data) (sE ap sz rfl)
  · exact fun A W sz ot hbel ap dp => kAssignV _ _ rfl rfl (sD dp 17 .data) (sE ap sz rfl)
  intro w15 hB15
  dsimp only [AllV]
  intro hap
  dsimp only [putAll, List.take, List.drop]
  go_frame
  have hM15 := hM14.on hB15
  clear hB15 hM14 hap
  go_wp2_with fail
  go_ret
  exact ⟨rfl, hM15.below⟩
theorem SignSigns_any {a k : Nat} (ma : a < M256) (mk : k < M256) {f : Nat → Nat} {z : Nat} (hf : ∀ i, f i < 256) (hz : zOf f = z) (w : World) (hG : Glob 3 PP w) (hO : GlobP 2 0 0 true w) (hB : GlobPt 0 gPt w) (hN : Glob 1 NN w) : Calls Tryd.prog 4 #[WV a, .agg (bcells f), WV k] w fun e w' => e = .returned (.bool true) ∧ Below w.heap.size w w' := by
  cases ha : isSec a with
  | false => exact SignSigns_no ma mk hf hz ha w hG hO hB hN
  | true =>
    cases h : signOf a z k with
    | none => exact SignSigns_none ma mk hf hz ha h w hG hO hB hN
    | some q => exact SignSigns_some ma hf hz (show signOf a z k = some (q.1, q.2) from h) w hG hO hB hN
theorem isVals_make {w : World} {g n : Nat} (h : Row w g 5 (Array.replicate n (.int .u8 0))) : IsVals w (.slice (some ⟨g, 0, none⟩) n n) ((List.replicate n (0 : UInt8)).map VB) := by
  have h2 := isVals_row h 0 n n (by simp) (Nat.le_refl _)
  have e0 : VB 0 = Value.int .u8 0 := rfl
  have e : ((Array.replicate n (Value.int .u8 0)).extract 0 (0 + n)).toList = (List.replicate n (0 : UInt8)).map VB := by
    rw [List.map_replicate, e0]; simp
  rw [e] at h2; exact h2
theorem num_0a : numOf ((List.replicate 64 (0 : UInt8)).take 32) = 0 := by decide +kernel
theorem num_0b : numOf ((List.replicate 64 (0 : UInt8)).drop 32) = 0 := by decide +kernel
set_option maxRecDepth 100000 in
set_option maxHeartbeats 8000000 in
theorem SignNames_any (w : World) (hG : Glob 3 PP w) (hO : GlobP 2 0 0 true w) (hB : GlobPt 0 gPt w) (hN : Glob 1 NN w) : Calls Tryd.prog 3 #[] w fun e w' => e = .returned (.bool true) ∧ Below w.heap.size w w' := by
  obtain ⟨i, hi, hz, hs1, hby⟩ := b8Info
  obtain ⟨nN, HnN⟩ : ∃ n, Hid (NN = n) := ⟨_, Lib.hid rfl⟩
  have mnN : nN < M256 := by rw [← HnN.out]; decide
  have hPN := Lib.hid (show PrimeIs false nN by rw [← HnN.out]; exact rPrime_false)
  obtain ⟨n0, H0⟩ : ∃ n, Hid (n = 0) := ⟨0, Lib.hid rfl⟩
  have h0 : n0 < 18446744073709551616 := by rw [H0.out]; decide
  have mn0 : n0 < M256 := by rw [H0.out]; decide
  have E0 : (0 : Int) = (n0 : Int) := by rw [H0.out]; rfl
  replace E0 := Lib.hid E0
  obtain ⟨n1, H1⟩ : ∃ n, Hid (n = 1) := ⟨1, Lib.hid rfl⟩
  have h1 : n1 < 18446744073709551616 := by rw [H1.out]; decide
  have mn1 : n1 < M256 := by rw [H1.out]; decide
  have E1 : (1 : Int) = (n1 : Int) := by rw [H1.out]; rfl
  replace E1 := Lib.hid E1
  have hsN := Lib.hid (show isSec nN = false by rw [← HnN.out]; decide)
  have hs1_ := Lib.hid (show isSec n1 = true by rw [H1.out]; decide)
  obtain ⟨f0, Hf0⟩ : ∃ f, Hid (hash0 = f) := ⟨_, Lib.hid rfl⟩
  have hf0b := Lib.hid (Hf0.out ▸ built_hash0)
  have lf0 : ∀ i, f0 i < 256 := Hf0.out ▸ hash0_lt
  have hsg := Lib.hid (show signOf n0 (zOf f0) n1 = none by rw [H0.out]; unfold signOf; rw [show isSec 0 = false by decide]; rfl)
  obtain ⟨p, Hp⟩ : ∃ p, Hid (Pt.times ivP gPt n1 = p) := ⟨_, Lib.hid rfl⟩
  have h63 := Lib.hid (show p = gPt by rw [← Hp.out, H1.out]; exact Good.times_one _)
  have hM0 := mm_nil w
  (try unfold WV)
  go_enter Tryd.func3, Tryd.ntmps3
  go_wp2_with (first
    | (go_at_call 10; (with_reducible change Calls _ _ #[Value.bool false] _ _); refine (hPN.out _).mono ?_; rintro e w1 ⟨x1, rfl, hN1, hB1⟩; have hM1 := hM0.on hB1; clear hB1 hM0; have hM2 := mm_nil w1; go_frame)
    | (go_at_call 9; (with_reducible change Calls _ _ #[x1] _ _); refine (dWide_num (hN1.below hM2.below)).mono ?_; rintro e w3 ⟨rfl, hB3⟩; have hM3 := hM2.on hB3; clear hB3 hM2; (try unfold WV); go_frame)
    | ((with_reducible change wpList _ _ _ (Oper.mk (some 1) _ _ _ _ _ :: _) _ _); refine mmAlloc hM3 _ _ rfl rfl zero_Wide ?_; intro w4 hM4; clear hM3; go_frame)
    | ((with_reducible change wpList _ _ _ (Oper.mk none (Op.store _ (Operand.tmp 1) (Operand.tmp 13)) _ _ _ _ :: _) _ _); refine mmStoreAt hM4 0 _ _ _ _ _ _ (wcells nN) rfl rfl rfl rfl rfl (info_WideC _) (by simp only [wcells_size]) (wcells_one _) ?_; intro w5 hM5; dsimp only [List.set] at hM5; clear hM4; go_frame)
    | ((with_reducible change wpList _ _ _ (Oper.mk (some 15) _ _ _ _ _ :: _) _ _); refine kLoadRow _ _ _ _ _ _ rfl rfl rfl (hM5.get 0 rfl) Tryd.underlying24 rfl (info_WideC _) ?_; go_frame)
    | (go_at_call 11; (with_reducible change Calls _ _ #[Value.agg (wcells nN)] _ _); refine (sPublic_no mnN hsN.out _ ((hN.below hM1.below).below hM5.below)).mono ?_; rintro e w6 ⟨rfl, hB6⟩; have hM6 := hM5.on hB6; clear hB6 hM5; (try unfold WV); go_frame)
    | ((with_reducible change wpList _ _ _ (Oper.mk (some 2) _ _ _ _ _ :: _) _ _); refine mmAlloc hM6 _ _ rfl rfl zero_Point ?_; intro w7 hM7; clear hM6; go_frame)
    | ((with_reducible change wpList _ _ _ (Oper.mk none (Op.store _ (Operand.tmp 2) (Operand.tmp 17)) _ _ _ _ :: _) _ _); refine mmStoreAt hM7 0 _ _ _ _ _ _ (pcells 0 0 false) rfl rfl rfl rfl rfl (info_PointC _ _ _) (by simp only [pcells_size]) (pcells_one _ _ _) ?_; intro w8 hM8; dsimp only [List.set] at hM8; clear hM7; go_frame)
    | (go_at_call 13; (with_reducible change Calls _ _ #[Value.int .u64 (0)] _ _); refine (wOf_lit n0 0 h0 E0.out _).mono ?_; rintro e w9 ⟨rfl, hB9⟩; have hM9 := hM8.on hB9; clear hB9 hM8; (try unfold WV); go_frame)
    | ((with_reducible change wpList _ _ _ (Oper.mk (some 21) _ _ _ _ _ :: _) _ _); refine kBuildAny _ _ #[] _ rfl rfl (by simp) hf0b.out ?_; go_frame)
    | (go_at_call 13; (with_reducible change Calls _ _ #[Value.int .u64 (1)] _ _); refine (wOf_lit n1 1 h1 E1.out _).mono ?_; rintro e w10 ⟨rfl, hB10⟩; have hM10 := hM9.on hB10; clear hB10 hM9; (try unfold WV); go_frame)
    | (go_at_call 12; (with_reducible change Calls _ _ #[Value.agg (wcells n0), Value.agg (bcells f0), Value.agg (wcells n1)] _ _); refine (sSign_none mn0 mn1 lf0 rfl hsg.out _ ((hG.below hM1.below).below hM10.below) ((hO.below hM1.below).below hM10.below) ((hB.below hM1.below).below hM10.below) ((hN.below hM1.below).below hM10.below)).mono ?_; rintro e w11 ⟨rfl, hB11⟩; have hM11 := hM10.on hB11; clear hB11 hM10; (try unfold WV); go_frame)
    | ((with_reducible change wpList _ _ _ (Oper.mk (some 4) _ _ _ _ _ :: _) _ _); refine mmAlloc hM11 _ _ rfl rfl zero_Sig ?_; intro w12 hM12; clear hM11; go_frame)
    | ((with_reducible change wpList _ _ _ (Oper.mk none (Op.store _ (Operand.tmp 4) (Operand.tmp 24)) _ _ _ _ :: _) _ _); refine mmStoreAt hM12 0 _ _ _ _ _ _ (wcells2 0 0) rfl rfl rfl rfl rfl (info_SigC _ _) rfl (wcells2_one _ _) ?_; intro w13 hM13; dsimp only [List.set] at hM13; clear hM12; go_frame)
    | ((with_reducible change wpList _ _ _ (Oper.mk (some 27) _ _ _ _ _ :: _) _ _); refine kMake _ _ _ _ rfl rfl i _ Tryd.underlying42 hi hz hs1 (.int .u8 0) rfl _ _ _ _ 63 63 rfl rfl rfl rfl (by decide) (by rw [hby]; decide) (by decide) ?_; intro w14 hR14 hz14 hB14; clear hz14; have hN14 := isVals_make hR14; have hM14 := hM13.on hB14; clear hB14 hR14 hM13; have hM15 := mm_nil w14; go_frame)
    | (go_at_call 14; (with_reducible change Calls _ _ #[Value.slice (some ⟨w13.heap.size, 0, none⟩) 63 63] _ _); refine (sParse_no (by decide) _ (hN14.below hM15.below)).mono ?_; rintro e w16 ⟨rfl, hB16⟩; have hM16 := hM15.on hB16; clear hB16 hM15; (try unfold WV); go_frame)
    | ((with_reducible change wpList _ _ _ (Oper.mk (some 6) _ _ _ _ _ :: _) _ _); refine mmAlloc hM16 _ _ rfl rfl zero_Sig ?_; intro w17 hM17; clear hM16; go_frame)
    | ((with_reducible change wpList _ _ _ (Oper.mk none (Op.store _ (Operand.tmp 6) (Operand.tmp 29)) _ _ _ _ :: _) _ _); refine mmStoreAt hM17 0 _ _ _ _ _ _ (wcells2 0 0) rfl rfl rfl rfl rfl (info_SigC _ _) rfl (wcells2_one _ _) ?_; intro w18 hM18; dsimp only [List.set] at hM18; clear hM17; go_frame)
    | ((with_reducible change wpList _ _ _ (Oper.mk (some 32) _ _ _ _ _ :: _) _ _); refine kMake _ _ _ _ rfl rfl i _ Tryd.underlying42 hi hz hs1 (.int .u8 0) rfl _ _ _ _ 64 64 rfl rfl rfl rfl (by decide) (by rw [hby]; decide) (by decide) ?_; intro w19 hR19 hz19 hB19; clear hz19; have hN19 := isVals_make hR19; have hM19 := hM18.on hB19; clear hB19 hR19 hM18; have hM20 := mm_nil w19; go_frame)
    | (go_at_call 14; (with_reducible change Calls _ _ #[Value.slice (some ⟨w18.heap.size, 0, none⟩) 64 64] _ _); refine (sParse_as (by decide) num_0a num_0b _ (hN19.below hM20.below)).mono ?_; rintro e w21 ⟨rfl, hB21⟩; have hM21 := hM20.on hB21; clear hB21 hM20; (try unfold WV); go_frame)
    | ((with_reducible change wpList _ _ _ (Oper.mk (some 8) _ _ _ _ _ :: _) _ _); refine mmAlloc hM21 _ _ rfl rfl zero_Sig ?_; intro w22 hM22; clear hM21; go_frame)
    | ((with_reducible change wpList _ _ _ (Oper.mk none (Op.store _ (Operand.tmp 8) (Operand.tmp 34)) _ _ _ _ :: _) _ _); refine mmStoreAt hM22 0 _ _ _ _ _ _ (wcells2 0 0) rfl rfl rfl rfl rfl (info_SigC _ _) rfl (wcells2_one _ _) ?_; intro w23 hM23; dsimp only [List.set] at hM23; clear hM22; go_frame)
    | (go_at_call 13; (with_reducible change Calls _ _ #[Value.int .u64 (1)] _ _); refine (wOf_lit n1 1 h1 E1.out _).mono ?_; rintro e w24 ⟨rfl, hB24⟩; have hM24 := hM23.on hB24; clear hB24 hM23; (try unfold WV); go_frame)
    | (go_at_call 11; (with_reducible change Calls _ _ #[Value.agg (wcells n1)] _ _); refine (sPublic_yes mn1 hs1_.out Hp.out _ ((((hG.below hM1.below).below hM14.below).below hM19.below).below hM24.below) ((((hO.below hM1.below).below hM14.below).below hM19.below).below hM24.below) ((((hB.below hM1.below).below hM14.below).below hM19.below).below hM24.below) ((((hN.below hM1.below).below hM14.below).below hM19.below).below hM24.below)).mono ?_; rintro e w25 ⟨rfl, hB25⟩; have hM25 := hM24.on hB25; clear hB25 hM24; (try unfold WV); go_frame)
    | ((with_reducible change wpList _ _ _ (Oper.mk (some 10) _ _ _ _ _ :: _) _ _); refine mmAlloc hM25 _ _ rfl rfl zero_Point ?_; intro w26 hM26; clear hM25; go_frame)
    | ((with_reducible change wpList _ _ _ (Oper.mk none (Op.store _ (Operand.tmp 10) (Operand.tmp 39)) _ _ _ _ :: _) _ _); refine mmStoreAt hM26 0 _ _ _ _ _ _ (ptc p) rfl rfl rfl rfl rfl (info_ptc _) (by simp only [pcells_size, ptc_size]) (ptc_one _) ?_; intro w27 hM27; dsimp only [List.set] at hM27; clear hM26; go_frame))
  refine region_symT 29 _ [] [] [.val (.bool true), .val (.bool true), .val (.bool true), .val (.bool true), .val (.int .i64 (51)), .val (.bool true), .val (.bool true), .val (.bool true), .val (.int .i64 (51)), .val (.bool true), .val (.bool true), .val (.bool true), .val (.int .i64 (51)), .val (.bool true), .val (.bool true), .val (.bool true), .val (.int .i64 (0)), .val (.bool true), .val (.bool true), .val (.bool true), .val (.agg (ptc p)), .val (.agg (ptc gPt)), .val (.bool true), .val (.bool true), .val (.bool true), .val (.int .i64 (0)), .val (.bool true), .val (.bool true), .val (.bool true)] rfl (by kernel_rfl) (by kernel_rfl) (by kernel_rfl) (by kernel_rfl) rfl (by intro s hs; cases hs) (steps_all ⟨?_, ?_, ?_, ?_, ?_, ?_, ?_, ?_, ?_, ?_, ?_, ?_, ?_, ?_, ?_, ?_, ?_, ?_, ?_, ?_, ?_, ?_, ?_, ?_, ?_, ?_, ?_, ?_, ?_, trivial⟩) ?_
  · intro A W sz ot hbel ap dp
    refine kCall0 15 _ rfl rfl (by kernel_rfl)  ?_
    refine (signAlive_any W (((((hG.below hM1.below).below hM14.below).below hM19.below).below hM27.below).below hbel) (((((hO.below hM1.below).below hM14.below).below hM19.below).below hM27.below).below hbel) (((((hB.below hM1.below).below hM14.below).below hM19.below).below hM27.below).below hbel) (((((hN.below hM1.below).below hM14.below).below hM19.below).below hM27.below).below hbel)).mono ?_
    rintro e r ⟨rfl, hBc⟩
    exact ⟨_, rfl, (sV ap sz hBc rfl)⟩
  · exact fun A W sz ot hbel ap dp => kMoveV _ _ rfl rfl (sD dp 0 .data) (sE ap sz rfl)
  · exact fun A W sz ot hbel ap dp => kPick _ _ _ true (.bool true) rfl rfl (sD dp 1 .data) rfl (sE ap sz rfl)
  · exact fun A W sz ot hbel ap dp => kMoveV _ _ rfl rfl (sD dp 2 .data) (sE ap sz rfl)
  · exact fun A W sz ot hbel ap dp => kMoveV _ _ rfl (wanted_of rfl rfl (sD dp 3 .guard)) (sO ot 3) (sE ap sz rfl)
  · exact fun A W sz ot hbel ap dp => kEqlI _ _ _ _ .i64 (51) (51) true rfl (wanted_of rfl rfl (sD dp 3 .guard)) (sD dp 4 .data) rfl (by decide) (sE ap sz rfl)
  · exact fun A W sz ot hbel ap dp => kPick _ _ _ true (.bool true) rfl rfl (sD dp 3 .data) (sD dp 5 .data) (sE ap sz rfl)
  · exact fun A W sz ot hbel ap dp => kMoveV _ _ rfl rfl (sD dp 6 .data) (sE ap sz rfl)
  · exact fun A W sz ot hbel ap dp => kMoveV _ _ rfl (wanted_of rfl rfl (sD dp 7 .guard)) (sO ot 5) (sE ap sz rfl)
  · exact fun A W sz ot hbel ap dp => kEqlI _ _ _ _ .i64 (51) (51) true rfl (wanted_of rfl rfl (sD dp 7 .guard)) (sD dp 8 .data) rfl (by decide) (sE ap sz rfl)
  · exact fun A W sz ot hbel ap dp => kPick _ _ _ true (.bool true) rfl rfl (sD dp 7 .data) (sD dp 9 .data) (sE ap sz rfl)
  · exact fun A W sz ot hbel ap dp => kMoveV _ _ rfl rfl (sD dp 10 .data) (sE ap sz rfl)
  · exact fun A W sz ot hbel ap dp => kMoveV _ _ rfl (wanted_of rfl rfl (sD dp 11 .guard)) (sO ot 7) (sE ap sz rfl)
  · exact fun A W sz ot hbel ap dp => kEqlI _ _ _ _ .i64 (51) (51) true rfl (wanted_of rfl rfl (sD dp 11 .guard)) (sD dp 12 .data) rfl (by decide) (sE ap sz rfl)
  · exact fun A W sz ot hbel ap dp => kPick _ _ _ true (.bool true) rfl rfl (sD dp 11 .data) (sD dp 13 .data) (sE ap sz rfl)
  · exact fun A W sz ot hbel ap dp => kMoveV _ _ rfl rfl (sD dp 14 .data) (sE ap sz rfl)
  · exact fun A W sz ot hbel ap dp => kMoveV _ _ rfl (wanted_of rfl rfl (sD dp 15 .guard)) (sO ot 9) (sE ap sz rfl)
  · exact fun A W sz ot hbel ap dp => kEqlI _ _ _ _ .i64 (0) (0) true rfl (wanted_of rfl rfl (sD dp 15 .guard)) (sD dp 16 .data) rfl (by decide) (sE ap sz rfl)
  · exact fun A W sz ot hbel ap dp => kPick _ _ _ true (.bool true) rfl rfl (sD dp 15 .data) (sD dp 17 .data) (sE ap sz rfl)
  · exact fun A W sz ot hbel ap dp => kMoveV _ _ rfl rfl (sD dp 18 .data) (sE ap sz rfl)
  · exact fun A W sz ot hbel ap dp => kLoadRow _ _ _ _ _ _ rfl (wanted_of rfl rfl (sD dp 19 .guard)) (sO ot 10) ((hM27.get 0 rfl).on hbel) Tryd.underlying30 rfl (info_ptc _) (sE ap sz rfl)
  · intro A W sz ot hbel ap dp
    refine kCall0 16 _ rfl (wanted_of rfl rfl (sD dp 19 .chain)) (by kernel_rfl)  ?_
    refine (eBase_any W).mono ?_
    rintro e r ⟨rfl, hBc⟩
    exact ⟨_, rfl, (sV ap sz hBc rfl)⟩
  · exact fun A W sz ot hbel ap dp => kEqlPt _ _ _ p gPt true rfl (wanted_of rfl rfl (sD dp 19 .guard)) (sD dp 20 .data) (sD dp 21 .data) (eq_yes h63.out) (sE ap sz rfl)
  · exact fun A W sz ot hbel ap dp => kPick _ _ _ true (.bool true) rfl rfl (sD dp 19 .data) (sD dp 22 .data) (sE ap sz rfl)
  · exact fun A W sz ot hbel ap dp => kMoveV _ _ rfl rfl (sD dp 23 .data) (sE ap sz rfl)
  · exact fun A W sz ot hbel ap dp => kMoveV _ _ rfl (wanted_of rfl rfl (sD dp 24 .guard)) (sO ot 11) (sE ap sz rfl)
  · exact fun A W sz ot hbel ap dp => kEqlI _ _ _ _ .i64 (0) (0) true rfl (wanted_of rfl rfl (sD dp 24 .guard)) (sD dp 25 .data) rfl (by decide) (sE ap sz rfl)
  · exact fun A W sz ot hbel ap dp => kPick _ _ _ true (.bool true) rfl rfl (sD dp 24 .data) (sD dp 26 .data) (sE ap sz rfl)
  · exact fun A W sz ot hbel ap dp => kAssignV _ _ rfl rfl (sD dp 27 .data) (sE ap sz rfl)
  intro w28 hB28
  dsimp only [AllV]
  intro hap
  dsimp only [putAll, List.take, List.drop]
  go_frame
  have hM28 := hM27.on hB28
  clear hB28 hM27 hap
  go_wp2_with fail
  go_ret
  exact ⟨rfl, ((((((hM1.below).trans (hM14.below.mono (hM1.below).size))).trans (hM19.below.mono (((hM1.below).trans (hM14.below.mono (hM1.below).size))).size))).trans (hM28.below.mono (((((hM1.below).trans (hM14.below.mono (hM1.below).size))).trans (hM19.below.mono (((hM1.below).trans (hM14.below.mono (hM1.below).size))).size))).size))⟩
end Go.Proofs.YtfgffjmpjoipeaaDoor
