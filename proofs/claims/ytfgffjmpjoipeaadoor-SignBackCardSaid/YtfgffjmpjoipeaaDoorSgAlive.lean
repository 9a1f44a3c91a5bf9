/-
  The walk of the statements' own 'signAlive'.
-/
import Derived.Test.YtfgffjmpjoipeaaDoorSgVerify
namespace Go.Proofs.YtfgffjmpjoipeaaDoor
open Go Go.RowKit

open Cv
set_option maxRecDepth 100000 in
set_option maxHeartbeats 8000000 in
theorem signAlive_any (w : World) (hG : Glob 3 PP w) (hO : GlobP 2 0 0 true w) (hB : GlobPt 0 gPt w) (hN : Glob 1 NN w) : Calls Tryd.prog 15 #[] w fun e w' => e = .returned (.bool true) ∧ Below w.heap.size w w' := by
  obtain ⟨n7, H7⟩ : ∃ n, Hid (n = 7) := ⟨7, Lib.hid rfl⟩
  have h7 : n7 < 18446744073709551616 := by rw [H7.out]; decide
  have mn7 : n7 < M256 := by rw [H7.out]; decide
  have E7 : (7 : Int) = (n7 : Int) := by rw [H7.out]; rfl
  replace E7 := Lib.hid E7
  obtain ⟨n11, H11⟩ : ∃ n, Hid (n = 11) := ⟨11, Lib.hid rfl⟩
  have h11 : n11 < 18446744073709551616 := by rw [H11.out]; decide
  have mn11 : n11 < M256 := by rw [H11.out]; decide
  have E11 : (11 : Int) = (n11 : Int) := by rw [H11.out]; rfl
  replace E11 := Lib.hid E11
  obtain ⟨f1, Hf1⟩ : ∃ f, Hid (hash1 = f) := ⟨_, Lib.hid rfl⟩
  have hf1b := Lib.hid (Hf1.out ▸ built_hash1)
  have lf1 : ∀ i, f1 i < 256 := Hf1.out ▸ hash1_lt
  have zf1 := Lib.hid (show zOf f1 = z1 from Hf1.out ▸ zOf_1)
  obtain ⟨f2, Hf2⟩ : ∃ f, Hid (hash2 = f) := ⟨_, Lib.hid rfl⟩
  have hf2b := Lib.hid (Hf2.out ▸ built_hash2)
  have lf2 : ∀ i, f2 i < 256 := Hf2.out ▸ hash2_lt
  have zf2 := Lib.hid (show zOf f2 = z2 from Hf2.out ▸ zOf_2)
  have hsec := Lib.hid (show isSec n7 = true by rw [H7.out]; decide)
  obtain ⟨p, Hp⟩ : ∃ p, Hid (Pt.times ivP gPt n7 = p) := ⟨_, Lib.hid rfl⟩
  have op : p.On := by rw [← Hp.out]; exact base_on _
  obtain ⟨r, Hr⟩ : ∃ r, Hid (r = r1) := ⟨_, Lib.hid rfl⟩
  obtain ⟨s, Hs⟩ : ∃ s, Hid (s = s1) := ⟨_, Lib.hid rfl⟩
  have mr : r < M256 := by rw [Hr.out]; decide
  have ms : s < M256 := by rw [Hs.out]; decide
  have hsig := Lib.hid (show signOf n7 z1 n11 = some (r, s) by rw [H7.out, H11.out, Hr.out, Hs.out]; exact sign_7)
  have hv1 := Lib.hid (show verifyB p z1 r s = true by rw [← Hp.out, H7.out, Hr.out, Hs.out]; exact verify_7)
  have hv2 := Lib.hid (show verifyB p z2 r s = false by rw [← Hp.out, H7.out, Hr.out, Hs.out]; exact verify_no)
  have hM0 := mm_nil w
  (try unfold WV)
  go_enter Tryd.func15, Tryd.ntmps15
  go_wp2_with (first
    | (go_at_call 13; (with_reducible change Calls _ _ #[Value.int .u64 (7)] _ _); refine (wOf_lit n7 7 h7 E7.out _).mono ?_; rintro e w1 ⟨rfl, hB1⟩; have hM1 := hM0.on hB1; clear hB1 hM0; (try unfold WV); go_frame)
    | (go_at_call 11; (with_reducible change Calls _ _ #[Value.agg (wcells n7)] _ _); refine (sPublic_yes mn7 hsec.out Hp.out _ (hG.below hM1.below) (hO.below hM1.below) (hB.below hM1.below) (hN.below hM1.below)).mono ?_; rintro e w2 ⟨rfl, hB2⟩; have hM2 := hM1.on hB2; clear hB2 hM1; (try unfold WV); go_frame)
    | ((with_reducible change wpList _ _ _ (Oper.mk (some 1) _ _ _ _ _ :: _) _ _); refine mmAlloc hM2 _ _ rfl rfl zero_Point ?_; intro w3 hM3; clear hM2; go_frame)
    | ((with_reducible change wpList _ _ _ (Oper.mk none (Op.store _ (Operand.tmp 1) (Operand.tmp 8)) _ _ _ _ :: _) _ _); refine mmStoreAt hM3 0 _ _ _ _ _ _ (ptc p) rfl rfl rfl rfl rfl (info_ptc _) (by simp only [pcells_size, ptc_size]) (ptc_one _) ?_; intro w4 hM4; dsimp only [List.set] at hM4; clear hM3; go_frame)
    | (go_at_call 13; (with_reducible change Calls _ _ #[Value.int .u64 (7)] _ _); refine (wOf_lit n7 7 h7 E7.out _).mono ?_; rintro e w5 ⟨rfl, hB5⟩; have hM5 := hM4.on hB5; clear hB5 hM4; (try unfold WV); go_frame)
    | ((with_reducible change wpList _ _ _ (Oper.mk (some 12) _ _ _ _ _ :: _) _ _); refine kBuildAny _ _ #[(0, .int .u8 1), (1, .int .u8 2), (2, .int .u8 3)] _ rfl rfl (by simp [Act.eval]) hf1b.out ?_; go_frame)
    | (go_at_call 13; (with_reducible change Calls _ _ #[Value.int .u64 (11)] _ _); refine (wOf_lit n11 11 h11 E11.out _).mono ?_; rintro e w6 ⟨rfl, hB6⟩; have hM6 := hM5.on hB6; clear hB6 hM5; (try unfold WV); go_frame)
    | (go_at_call 12; (with_reducible change Calls _ _ #[Value.agg (wcells n7), Value.agg (bcells f1), Value.agg (wcells n11)] _ _); refine (sSign_some lf1 zf1.out hsig.out _ (hG.below hM6.below) (hO.below hM6.below) (hB.below hM6.below) (hN.below hM6.below)).mono ?_; rintro e w7 ⟨rfl, hB7⟩; have hM7 := hM6.on hB7; clear hB7 hM6; (try unfold WV); go_frame)
    | ((with_reducible change wpList _ _ _ (Oper.mk (some 3) _ _ _ _ _ :: _) _ _); refine mmAlloc hM7 _ _ rfl rfl zero_Sig ?_; intro w8 hM8; clear hM7; go_frame)
    | ((with_reducible change wpList _ _ _ (Oper.mk none (Op.store _ (Operand.tmp 3) (Operand.tmp 15)) _ _ _ _ :: _) _ _); refine mmStoreAt hM8 0 _ _ _ _ _ _ (wcells2 r s) rfl rfl rfl rfl rfl (info_SigC _ _) rfl (wcells2_one _ _) ?_; intro w9 hM9; dsimp only [List.set] at hM9; clear hM8; go_frame)
    | ((with_reducible change wpList _ _ _ (Oper.mk (some 18) _ _ _ _ _ :: _) _ _); refine kEqlI _ _ _ _ .i64 (0) (0) true rfl rfl rfl rfl (by decide) ?_; go_frame)
    | ((with_reducible change wpList _ _ _ (Oper.mk (some 21) _ _ _ _ _ :: _) _ _); refine kEqlI _ _ _ _ .i64 (0) (0) true rfl rfl rfl rfl (by decide) ?_; go_frame)
    | ((with_reducible change wpList _ _ _ (Oper.mk (some 24) _ _ _ _ _ :: _) _ _); refine kLoadRow _ _ _ _ _ _ rfl rfl rfl (hM9.get 1 rfl) Tryd.underlying30 rfl (info_ptc _) ?_; go_frame)
    | ((with_reducible change wpList _ _ _ (Oper.mk (some 25) _ _ _ _ _ :: _) _ _); refine kBuildAny _ _ #[(0, .int .u8 1), (1, .int .u8 2), (2, .int .u8 3)] _ rfl rfl (by simp [Act.eval]) hf1b.out ?_; go_frame)
    | ((with_reducible change wpList _ _ _ (Oper.mk (some 26) _ _ _ _ _ :: _) _ _); refine kLoadRow _ _ _ _ _ _ rfl rfl rfl (hM9.get 0 rfl) Tryd.underlying35 rfl (info_SigC _ _) ?_; go_frame)
    | (go_at_call 20; (with_reducible change Calls _ _ #[Value.agg (ptc p), Value.agg (bcells f1), Value.agg (wcells2 r s)] _ _); refine (sVerify_as op mr ms lf1 zf1.out hv1.out _ (hG.below hM9.below) (hO.below hM9.below) (hB.below hM9.below) (hN.below hM9.below)).mono ?_; rintro e w10 ⟨rfl, hB10⟩; have hM10 := hM9.on hB10; clear hB10 hM9; (try unfold WV); go_frame)
    | ((with_reducible change wpList _ _ _ (Oper.mk (some 30) _ _ _ _ _ :: _) _ _); refine kLoadRow _ _ _ _ _ _ rfl rfl rfl (hM10.get 1 rfl) Tryd.underlying30 rfl (info_ptc _) ?_; go_frame)
    | ((with_reducible change wpList _ _ _ (Oper.mk (some 31) _ _ _ _ _ :: _) _ _); refine kBuildAny _ _ #[(0, .int .u8 1), (1, .int .u8 2), (2, .int .u8 4)] _ rfl rfl (by simp [Act.eval]) hf2b.out ?_; go_frame)
    | ((with_reducible change wpList _ _ _ (Oper.mk (some 32) _ _ _ _ _ :: _) _ _); refine kLoadRow _ _ _ _ _ _ rfl rfl rfl (hM10.get 0 rfl) Tryd.underlying35 rfl (info_SigC _ _) ?_; go_frame)
    | (go_at_call 20; (with_reducible change Calls _ _ #[Value.agg (ptc p), Value.agg (bcells f2), Value.agg (wcells2 r s)] _ _); refine (sVerify_as op mr ms lf2 zf2.out hv2.out _ (hG.below hM10.below) (hO.below hM10.below) (hB.below hM10.below) (hN.below hM10.below)).mono ?_; rintro e w11 ⟨rfl, hB11⟩; have hM11 := hM10.on hB11; clear hB11 hM10; (try unfold WV); go_frame))
  go_ret
  exact ⟨rfl, hM11.below⟩
end Go.Proofs.YtfgffjmpjoipeaaDoor
