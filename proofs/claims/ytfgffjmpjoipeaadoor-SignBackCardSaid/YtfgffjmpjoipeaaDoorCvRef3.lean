/-
  The reference of layer 4: Times by points.
-/
import Derived.Test.YtfgffjmpjoipeaaDoorCvRef2
import Derived.Test.YtfgffjmpjoipeaaDoorCvAdd
namespace Go.Proofs.YtfgffjmpjoipeaaDoor
open Go Go.RowKit

open Cv
theorem mm_nil_of {w : World} {v : Value} {n : Nat} (_ : NumT w v n) : Mm w w [] := mm_nil w
theorem eSum_as (s t : Cv.Spot PP) {a1 b1 c1 a2 b2 c2 : Value} (w : World) (ha1 : NumT w a1 s.X.val) (hb1 : NumT w b1 s.Y.val) (hc1 : NumT w c1 s.Z.val) (ha2 : NumT w a2 t.X.val) (hb2 : NumT w b2 t.Y.val) (hc2 : NumT w c2 t.Z.val) :
    Calls Tryd.prog 48 #[.agg #[a1, b1, c1], .agg #[a2, b2, c2]] w (SpotPost w (Spot.sum s t).X.val (Spot.sum s t).Y.val (Spot.sum s t).Z.val) := by
  have := eSum_nat s.X.isLt s.Y.isLt s.Z.isLt t.X.isLt t.Y.isLt t.Z.isLt w ha1 hb1 hc1 ha2 hb2 hc2
  rw [FP_of_val, FP_of_val, FP_of_val, FP_of_val, FP_of_val, FP_of_val] at this; exact this
theorem ePoint_as (s : Cv.Spot PP) {a b c : Value} (w : World) (ha : NumT w a s.X.val) (hb : NumT w b s.Y.val) (hc : NumT w c s.Z.val) :
    Calls Tryd.prog 49 #[.agg #[a, b, c]] w fun e w' => e = .returned (.agg (ptc (spotPt s))) ∧ Below w.heap.size w w' := by
  have := ePoint_nat s.X.isLt s.Y.isLt s.Z.isLt w ha hb hc
  rw [FP_of_val, FP_of_val, FP_of_val] at this; exact this
def spotOf : Pt PP → Cv.Spot PP
  | .o => ⟨0, 1, 0⟩
  | .mk x y => ⟨x, y, 1⟩
theorem spotOf_rep (p : Pt PP) : Rep (spotOf p) p := by cases p with
  | o => exact rep_o goodP
  | mk x y => exact rep_mk goodP x y
theorem eOf_as (p : Pt PP) (w : World) : Calls Tryd.prog 47 #[.agg (ptc p)] w (SpotPost w (spotOf p).X.val (spotOf p).Y.val (spotOf p).Z.val) := by
  cases p with
  | o => exact eOf_o w
  | mk x y => exact eOf_mk x.isLt y.isLt w
theorem dBits_num {v : Value} {n k : Nat} {w : World} (h : Num w v n k) (hk : k ≤ 1000) : Calls Tryd.prog 45 #[v] w fun e w' => e = .returned (.int .i64 (blen n : Int)) ∧ Below w.heap.size w w' := by
  obtain ⟨l, h1, h2, h3, h4⟩ := h
  subst h3
  exact (dBits_any l v w h1 h2 (by omega)).mono fun _ _ ⟨e1, e2⟩ => ⟨e1, e2 ▸ Below.refl _ _⟩
theorem low_bit {k N : Nat} : k % 2 ^ (N + 1) = k % 2 ^ N + 2 ^ N * (k / 2 ^ N % 2) := by rw [Nat.pow_succ, Nat.mod_mul]
theorem low_all (k : Nat) : k % 2 ^ blen k = k := Nat.mod_eq_of_lt (blen_lt k)
set_option maxRecDepth 100000 in
set_option maxHeartbeats 8000000 in
theorem eTimes_pt {k : Nat} (mk : k < M256) {p : Pt PP} (hp : p.On) (w : World) :
    Calls Tryd.prog 19 #[WV k, .agg (ptc p)] w fun e w' => e = .returned (.agg (ptc (Pt.times ivP p k))) ∧ Below w.heap.size w w' := by
  have hbk : blen k ≤ 256 := (blen_le k 256).2 mk
  have hM0 := mm_nil w
  (try unfold WV)
  go_enter Tryd.func19, Tryd.ntmps19
  go_wp2_with (first
    | ((with_reducible change wpList _ _ _ (Oper.mk (some 2) _ _ _ _ _ :: _) _ _); refine mmBox hM0 _ _ (wcells k) rfl rfl rfl ?_; intro w1 hM1; clear hM0; go_frame)
    | ((with_reducible change wpList _ _ _ (Oper.mk (some 3) _ _ _ _ _ :: _) _ _); refine mmBox hM1 _ _ (ptc p) rfl rfl rfl ?_; intro w2 hM2; clear hM1; go_frame)
    | ((with_reducible change wpList _ _ _ (Oper.mk (some 4) _ _ _ _ _ :: _) _ _); refine mmAlloc hM2 _ _ rfl rfl zero_Point ?_; intro w3 hM3; clear hM2; go_frame))
  refine region_symT 6 _ [4, 5] [5, 6] [.val (.agg (pcells 0 0 true)), .prop (fun w v => SpotIs w v (((spotOf .o)).X.val) (((spotOf .o)).Y.val) (((spotOf .o)).Z.val)) (fun _ _ _ hb h => h.below hb), .val (.agg (ptc p)), .prop (fun w v => SpotIs w v (((spotOf p)).X.val) (((spotOf p)).Y.val) (((spotOf p)).Z.val)) (fun _ _ _ hb h => h.below hb), .hold w3.heap.size 78 (#[.slice none 0 0, .slice none 0 0, .slice none 0 0]), .hold w3.heap.size 78 (#[.slice none 0 0, .slice none 0 0, .slice none 0 0])] rfl (by kernel_rfl) (by kernel_rfl) (by kernel_rfl) (by kernel_rfl) rfl (by intro s hs; simp only [List.mem_cons, List.not_mem_nil, or_false] at hs; rcases hs with rfl | rfl <;> rfl) (steps_all ⟨?_, ?_, ?_, ?_, ?_, ?_, trivial⟩) ?_
  · exact fun A W sz ot hbel ap dp => kBuildPointN rfl rfl (sE ap sz rfl)
  · intro A W sz ot hbel ap dp
    refine kCall1 47 _ _ _ rfl rfl (by kernel_rfl) (sD dp 0 .data) ?_
    refine (eOf_as .o W).mono ?_
    rintro e r ⟨xa, xb, xc, rfl, hNa, hNb, hNc, hBc⟩
    exact ⟨_, rfl, (sV ap sz hBc ⟨xa, xb, xc, rfl, hNa, hNb, hNc⟩)⟩
  · exact fun A W sz ot hbel ap dp => kLoadRow _ _ _ _ _ _ rfl rfl (sO ot 3) ((hM3.get 1 rfl).on hbel) Tryd.underlying30 rfl (info_ptc _) (sE ap sz rfl)
  · intro A W sz ot hbel ap dp
    refine kCall1 47 _ _ _ rfl rfl (by kernel_rfl) (sD dp 2 .data) ?_
    refine (eOf_as p W).mono ?_
    rintro e r ⟨xa, xb, xc, rfl, hNa, hNb, hNc, hBc⟩
    exact ⟨_, rfl, (sV ap sz hBc ⟨xa, xb, xc, rfl, hNa, hNb, hNc⟩)⟩
  · intro A W sz ot hbel ap dp
    refine kAllocL _ _ rfl rfl zero_Spot ?_
    intro r hR hl hBc
    exact (sA ap sz hl hBc ⟨_, rfl, hbel.size, hR⟩ rfl)
  · intro A W sz ot hbel ap dp
    refine kAllocL _ _ rfl rfl zero_Spot ?_
    intro r hR hl hBc
    exact (sA ap sz hl hBc ⟨_, rfl, hbel.size, hR⟩ rfl)
  intro w4 hB4
  dsimp only [AllV]
  intro x4_10 hS4_10
  obtain ⟨xa4_10, xb4_10, xc4_10, rfl, hNa4_10, hNb4_10, hNc4_10⟩ := hS4_10
  intro x4_12 hS4_12
  obtain ⟨xa4_12, xb4_12, xc4_12, rfl, hNa4_12, hNb4_12, hNc4_12⟩ := hS4_12
  intro g4_5 hg4_5 hR4_5
  intro g4_6 hg4_6 hR4_6
  intro hap
  dsimp only [putAll, List.take, List.drop]
  go_frame
  have hM4 := hM3.on hB4
  replace hM4 := hM4.cons hR4_5 (Nat.le_trans hM3.size hg4_5) (fun p hp => by have := hM3.lt hp; omega)
  have hne4_6_4_5 : g4_6 ≠ g4_5 := fun e => hap 5 (by simp) 4 (by simp) (by decide) g4_6 rfl (by rw [e]; rfl)
  replace hM4 := hM4.cons hR4_6 (Nat.le_trans hM3.size hg4_6) (List.forall_mem_cons.2 ⟨hne4_6_4_5, fun p hp => by have := hM3.lt hp; omega⟩)
  clear hB4 hM3 hap hg4_5 hR4_5 hg4_6 hR4_6
  have hM5 := mm_nil w4
  go_wp2_with (first
    | ((with_reducible change wpList _ _ _ (Oper.mk none (Op.store _ (Operand.tmp 5) (Operand.tmp 10)) _ _ _ _ :: _) _ _); have hJ := (Mm.join hM4 hM5); dsimp only [List.append, List.cons_append, List.nil_append] at hJ; refine mmStoreSp hJ 1 _ _ _ _ _ _ (#[xa4_10, xb4_10, xc4_10]) rfl rfl rfl rfl rfl (info_SpotC _ _ _) rfl (spot_one (NumT.one (hNa4_10.below hM5.below)) (NumT.one (hNb4_10.below hM5.below)) (NumT.one (hNc4_10.below hM5.below))) ?_; intro w6 hM6 hW; have hT6_1_0 := NumT.wrote (hNa4_10.below hM5.below) (hJ.get 1 rfl) (spot_sl rfl rfl rfl) hW; have hT6_1_1 := NumT.wrote (hNb4_10.below hM5.below) (hJ.get 1 rfl) (spot_sl rfl rfl rfl) hW; have hT6_1_2 := NumT.wrote (hNc4_10.below hM5.below) (hJ.get 1 rfl) (spot_sl rfl rfl rfl) hW; have hT6_s12_0 := NumT.wrote (hNa4_12.below hM5.below) (hJ.get 1 rfl) (spot_sl rfl rfl rfl) hW; have hT6_s12_1 := NumT.wrote (hNb4_12.below hM5.below) (hJ.get 1 rfl) (spot_sl rfl rfl rfl) hW; have hT6_s12_2 := NumT.wrote (hNc4_12.below hM5.below) (hJ.get 1 rfl) (spot_sl rfl rfl rfl) hW; dsimp only [List.set] at hM6; clear hJ hW; have hM7 := mm_nil w6; go_frame)
    | ((with_reducible change wpList _ _ _ (Oper.mk none (Op.store _ (Operand.tmp 6) (Operand.tmp 12)) _ _ _ _ :: _) _ _); have hJ := (Mm.join hM6 hM7); dsimp only [List.append, List.cons_append, List.nil_append] at hJ; refine mmStoreSp hJ 0 _ _ _ _ _ _ (#[xa4_12, xb4_12, xc4_12]) rfl rfl rfl rfl rfl (info_SpotC _ _ _) rfl (spot_one (NumT.one (hT6_s12_0.below hM7.below)) (NumT.one (hT6_s12_1.below hM7.below)) (NumT.one (hT6_s12_2.below hM7.below))) ?_; intro w8 hM8 hW; have hT8_0_0 := NumT.wrote (hT6_s12_0.below hM7.below) (hJ.get 0 rfl) (spot_sl rfl rfl rfl) hW; have hT8_0_1 := NumT.wrote (hT6_s12_1.below hM7.below) (hJ.get 0 rfl) (spot_sl rfl rfl rfl) hW; have hT8_0_2 := NumT.wrote (hT6_s12_2.below hM7.below) (hJ.get 0 rfl) (spot_sl rfl rfl rfl) hW; have hT8_1_0 := NumT.wrote (hT6_1_0.below hM7.below) (hJ.get 0 rfl) (spot_sl rfl rfl rfl) hW; have hT8_1_1 := NumT.wrote (hT6_1_1.below hM7.below) (hJ.get 0 rfl) (spot_sl rfl rfl rfl) hW; have hT8_1_2 := NumT.wrote (hT6_1_2.below hM7.below) (hJ.get 0 rfl) (spot_sl rfl rfl rfl) hW; dsimp only [List.set] at hM8; clear hJ hW; have hM9 := mm_nil w8; go_frame)
    | ((with_reducible change wpList _ _ _ (Oper.mk (some 13) _ _ _ _ _ :: _) _ _); refine kLoadRow _ _ _ _ _ _ rfl rfl rfl ((hM8.get 4 rfl).on hM9.below) Tryd.underlying24 rfl (info_WideC _) ?_; go_frame)
    | (go_at_call 41; (with_reducible change Calls _ _ #[Value.agg (wcells k)] _ _); refine (dOf_num k mk _).mono ?_; rintro e w10 ⟨x10, rfl, hN10, hB10⟩; have hM10 := hM9.on hB10; clear hB10 hM9; have hM11 := mm_nil w10; go_frame)
    | (go_at_call 45; (with_reducible change Calls _ _ #[x10] _ _); refine (dBits_num (hN10.below hM11.below) (by decide)).mono ?_; rintro e w12 ⟨rfl, hB12⟩; have hM12 := hM11.on hB12; clear hB12 hM11; (try unfold WV); go_frame))
  have hJ := (Mm.join (Mm.join hM8 hM10) hM12)
  dsimp only [List.append, List.cons_append, List.nil_append] at hJ
  go_loopw [8] (fun i wr => ∃ (N : Nat) (s t : Cv.Spot PP) (a1 b1 c1 a2 b2 c2 : Value), i = .int .i64 (N : Int) ∧ N ≤ blen k ∧ Hid (Rep s (Pt.times ivP p (k % 2 ^ N)) ∧ Rep t (Pt.times ivP p (2 ^ N))) ∧ NumT wr a1 s.X.val ∧ NumT wr b1 s.Y.val ∧ NumT wr c1 s.Z.val ∧ NumT wr a2 t.X.val ∧ NumT wr b2 t.Y.val ∧ NumT wr c2 t.Z.val ∧ Mm w wr [(g4_6, 78, #[a2, b2, c2]), (g4_5, 78, #[a1, b1, c1]), (w2.heap.size, 30, pcells 0 0 false), (w1.heap.size, 30, ptc p), (w.heap.size, 24, wcells k)]) (fun i _ => blen k - (intOf i).toNat)
  case atStart => exact ⟨0, spotOf .o, spotOf p, _, _, _, _, _, _, rfl, Nat.zero_le _, Lib.hid ⟨by rw [Nat.pow_zero, Nat.mod_one]; exact spotOf_rep .o, by rw [Nat.pow_zero, Good.times_one]; exact spotOf_rep p⟩, ((hT8_1_0.below hM10.below).below hM12.below), ((hT8_1_1.below hM10.below).below hM12.below), ((hT8_1_2.below hM10.below).below hM12.below), ((hT8_0_0.below hM10.below).below hM12.below), ((hT8_0_1.below hM10.below).below hM12.below), ((hT8_0_2.below hM10.below).below hM12.below), hJ⟩
  case round =>
    obtain ⟨N, s, t, a1, b1, c1, a2, b2, c2, rfl, hN, HI, ha1, hb1, hc1, ha2, hb2, hc2, hM0⟩ := hrel
    clear hJ
    have hon := goodP.times_on hp
    by_cases hlt : N < blen k
    · have hd : decide ((N : Int) < (blen k : Int)) = true := by simp; omega
      have hN2 : N < 256 := by omega
      by_cases hbit : k / 2 ^ N % 2 = 1
      · have hbit2 : ((limb k (N / 64) : Int) / 2 ^ (N % 64)).tmod 2 = 1 := by have h := limb_shr1 k N; rw [shr_val, Int.tmod_eq_emod_of_nonneg (Int.natCast_nonneg _)]; omega
        have HN := Lib.hid (show Rep ((Spot.sum s t)) (Pt.times ivP p (k % 2 ^ (N + 1))) ∧ Rep ((Spot.sum t t)) (Pt.times ivP p (2 ^ (N + 1))) by
          obtain ⟨h1, h2⟩ := HI.out
          refine ⟨?_, ?_⟩
          · rw [low_bit, hbit, Nat.mul_one, goodP.times_add hp]; exact goodP.sum_rep (hon _) (hon _) h1 h2
          · rw [Nat.pow_succ, Nat.mul_two, goodP.times_add hp]; exact goodP.sum_rep (hon _) (hon _) h2 h2)
        clear HI hbit
        have hM200 := mm_nil_of ha1
        go_wp2_with (first
          | ((with_reducible change wpList _ _ _ (Oper.mk (some 23) _ _ _ _ _ :: _) _ _); refine kIndexAddr1 _ _ _ _ _ _ _ (N / 64) _ rfl rfl rfl rfl Tryd.underlying24 info_w64 (by omega) (by omega) ?_; go_frame)
          | ((with_reducible change wpList _ _ _ (Oper.mk (some 24) _ _ _ _ _ :: _) _ _); refine kLoad1 _ _ _ _ _ _ _ _ rfl rfl rfl ((hM0.get 4 rfl).on hM200.below) Tryd.underlying22 rfl (wcells_get k (N / 64) (by omega)) ?_; go_frame)
          | ((with_reducible change wpList _ _ _ (Oper.mk (some 31) _ _ _ _ _ :: _) _ _); refine kLoadRow _ _ _ _ _ _ rfl rfl rfl ((hM0.get 1 rfl).on hM200.below) Tryd.underlying78 rfl (info_SpotC _ _ _) ?_; go_frame)
          | ((with_reducible change wpList _ _ _ (Oper.mk (some 32) _ _ _ _ _ :: _) _ _); refine kLoadRow _ _ _ _ _ _ rfl rfl rfl ((hM0.get 0 rfl).on hM200.below) Tryd.underlying78 rfl (info_SpotC _ _ _) ?_; go_frame)
          | (go_at_call 48; (with_reducible change Calls _ _ #[Value.agg (#[a1, b1, c1]), Value.agg (#[a2, b2, c2])] _ _); refine (eSum_as s t _ (ha1.below hM200.below) (hb1.below hM200.below) (hc1.below hM200.below) (ha2.below hM200.below) (hb2.below hM200.below) (hc2.below hM200.below)).mono ?_; rintro e w201 ⟨xa201, xb201, xc201, rfl, hNa201, hNb201, hNc201, hB201⟩; have hM201 := hM200.on hB201; clear hB201 hM200; have hM202 := mm_nil w201; go_frame)
          | ((with_reducible change wpList _ _ _ (Oper.mk none (Op.store _ (Operand.tmp 5) (Operand.tmp 33)) _ _ _ _ :: _) _ _); have hJ := (Mm.join (Mm.join hM0 hM201) hM202); dsimp only [List.append, List.cons_append, List.nil_append] at hJ; refine mmStoreSp hJ 1 _ _ _ _ _ _ (#[xa201, xb201, xc201]) rfl rfl rfl rfl rfl (info_SpotC _ _ _) rfl (spot_one (NumT.one (hNa201.below hM202.below)) (NumT.one (hNb201.below hM202.below)) (NumT.one (hNc201.below hM202.below))) ?_; intro w203 hM203 hW; have hT203_0_0 := NumT.wrote ((ha2.below hM201.below).below hM202.below) (hJ.get 1 rfl) (spot_sl (NumT.sl ((ha1.below hM201.below).below hM202.below)) (NumT.sl ((hb1.below hM201.below).below hM202.below)) (NumT.sl ((hc1.below hM201.below).below hM202.below))) hW; have hT203_0_1 := NumT.wrote ((hb2.below hM201.below).below hM202.below) (hJ.get 1 rfl) (spot_sl (NumT.sl ((ha1.below hM201.below).below hM202.below)) (NumT.sl ((hb1.below hM201.below).below hM202.below)) (NumT.sl ((hc1.below hM201.below).below hM202.below))) hW; have hT203_0_2 := NumT.wrote ((hc2.below hM201.below).below hM202.below) (hJ.get 1 rfl) (spot_sl (NumT.sl ((ha1.below hM201.below).below hM202.below)) (NumT.sl ((hb1.below hM201.below).below hM202.below)) (NumT.sl ((hc1.below hM201.below).below hM202.below))) hW; have hT203_1_0 := NumT.wrote (hNa201.below hM202.below) (hJ.get 1 rfl) (spot_sl (NumT.sl ((ha1.below hM201.below).below hM202.below)) (NumT.sl ((hb1.below hM201.below).below hM202.below)) (NumT.sl ((hc1.below hM201.below).below hM202.below))) hW; have hT203_1_1 := NumT.wrote (hNb201.below hM202.below) (hJ.get 1 rfl) (spot_sl (NumT.sl ((ha1.below hM201.below).below hM202.below)) (NumT.sl ((hb1.below hM201.below).below hM202.below)) (NumT.sl ((hc1.below hM201.below).below hM202.below))) hW; have hT203_1_2 := NumT.wrote (hNc201.below hM202.below) (hJ.get 1 rfl) (spot_sl (NumT.sl ((ha1.below hM201.below).below hM202.below)) (NumT.sl ((hb1.below hM201.below).below hM202.below)) (NumT.sl ((hc1.below hM201.below).below hM202.below))) hW; dsimp only [List.set] at hM203; clear hJ hW; have hM204 := mm_nil w203; go_frame)
          | ((with_reducible change wpList _ _ _ (Oper.mk (some 34) _ _ _ _ _ :: _) _ _); refine kLoadRow _ _ _ _ _ _ rfl rfl rfl ((hM203.get 0 rfl).on hM204.below) Tryd.underlying78 rfl (info_SpotC _ _ _) ?_; go_frame)
          | ((with_reducible change wpList _ _ _ (Oper.mk (some 35) _ _ _ _ _ :: _) _ _); refine kLoadRow _ _ _ _ _ _ rfl rfl rfl ((hM203.get 0 rfl).on hM204.below) Tryd.underlying78 rfl (info_SpotC _ _ _) ?_; go_frame)
          | (go_at_call 48; (with_reducible change Calls _ _ #[Value.agg (#[a2, b2, c2]), Value.agg (#[a2, b2, c2])] _ _); refine (eSum_as t t _ (hT203_0_0.below hM204.below) (hT203_0_1.below hM204.below) (hT203_0_2.below hM204.below) (hT203_0_0.below hM204.below) (hT203_0_1.below hM204.below) (hT203_0_2.below hM204.below)).mono ?_; rintro e w205 ⟨xa205, xb205, xc205, rfl, hNa205, hNb205, hNc205, hB205⟩; have hM205 := hM204.on hB205; clear hB205 hM204; have hM206 := mm_nil w205; go_frame)
          | ((with_reducible change wpList _ _ _ (Oper.mk none (Op.store _ (Operand.tmp 6) (Operand.tmp 36)) _ _ _ _ :: _) _ _); have hJ := (Mm.join (Mm.join hM203 hM205) hM206); dsimp only [List.append, List.cons_append, List.nil_append] at hJ; refine mmStoreSp hJ 0 _ _ _ _ _ _ (#[xa205, xb205, xc205]) rfl rfl rfl rfl rfl (info_SpotC _ _ _) rfl (spot_one (NumT.one (hNa205.below hM206.below)) (NumT.one (hNb205.below hM206.below)) (NumT.one (hNc205.below hM206.below))) ?_; intro w207 hM207 hW; have hT207_0_0 := NumT.wrote (hNa205.below hM206.below) (hJ.get 0 rfl) (spot_sl (NumT.sl ((hT203_0_0.below hM205.below).below hM206.below)) (NumT.sl ((hT203_0_1.below hM205.below).below hM206.below)) (NumT.sl ((hT203_0_2.below hM205.below).below hM206.below))) hW; have hT207_0_1 := NumT.wrote (hNb205.below hM206.below) (hJ.get 0 rfl) (spot_sl (NumT.sl ((hT203_0_0.below hM205.below).below hM206.below)) (NumT.sl ((hT203_0_1.below hM205.below).below hM206.below)) (NumT.sl ((hT203_0_2.below hM205.below).below hM206.below))) hW; have hT207_0_2 := NumT.wrote (hNc205.below hM206.below) (hJ.get 0 rfl) (spot_sl (NumT.sl ((hT203_0_0.below hM205.below).below hM206.below)) (NumT.sl ((hT203_0_1.below hM205.below).below hM206.below)) (NumT.sl ((hT203_0_2.below hM205.below).below hM206.below))) hW; have hT207_1_0 := NumT.wrote ((hT203_1_0.below hM205.below).below hM206.below) (hJ.get 0 rfl) (spot_sl (NumT.sl ((hT203_0_0.below hM205.below).below hM206.below)) (NumT.sl ((hT203_0_1.below hM205.below).below hM206.below)) (NumT.sl ((hT203_0_2.below hM205.below).below hM206.below))) hW; have hT207_1_1 := NumT.wrote ((hT203_1_1.below hM205.below).below hM206.below) (hJ.get 0 rfl) (spot_sl (NumT.sl ((hT203_0_0.below hM205.below).below hM206.below)) (NumT.sl ((hT203_0_1.below hM205.below).below hM206.below)) (NumT.sl ((hT203_0_2.below hM205.below).below hM206.below))) hW; have hT207_1_2 := NumT.wrote ((hT203_1_2.below hM205.below).below hM206.below) (hJ.get 0 rfl) (spot_sl (NumT.sl ((hT203_0_0.below hM205.below).below hM206.below)) (NumT.sl ((hT203_0_1.below hM205.below).below hM206.below)) (NumT.sl ((hT203_0_2.below hM205.below).below hM206.below))) hW; dsimp only [List.set] at hM207; clear hJ hW; have hM208 := mm_nil w207; go_frame))
        have hJ := (Mm.join hM207 hM208)
        dsimp only [List.append, List.cons_append, List.nil_append] at hJ
        go_roundw
        case rel => exact ⟨N + 1, ((Spot.sum s t)), ((Spot.sum t t)), _, _, _, _, _, _, by go_num, by omega, HN, (hT207_1_0.below hM208.below), (hT207_1_1.below hM208.below), (hT207_1_2.below hM208.below), (hT207_0_0.below hM208.below), (hT207_0_1.below hM208.below), (hT207_0_2.below hM208.below), hJ⟩
        case measure => simp [intOf]; try omega
      skip
      · have hbit2 : ((limb k (N / 64) : Int) / 2 ^ (N % 64)).tmod 2 = 0 := by have h := limb_shr1 k N; rw [shr_val, Int.tmod_eq_emod_of_nonneg (Int.natCast_nonneg _)]; omega
        have HN := Lib.hid (show Rep s (Pt.times ivP p (k % 2 ^ (N + 1))) ∧ Rep ((Spot.sum t t)) (Pt.times ivP p (2 ^ (N + 1))) by
          obtain ⟨h1, h2⟩ := HI.out
          refine ⟨?_, ?_⟩
          · rw [low_bit, show k / 2 ^ N % 2 = 0 by omega, Nat.mul_zero, Nat.add_zero]; exact h1
          · rw [Nat.pow_succ, Nat.mul_two, goodP.times_add hp]; exact goodP.sum_rep (hon _) (hon _) h2 h2)
        clear HI hbit
        have hM200 := mm_nil_of ha1
        go_wp2_with (first
          | ((with_reducible change wpList _ _ _ (Oper.mk (some 23) _ _ _ _ _ :: _) _ _); refine kIndexAddr1 _ _ _ _ _ _ _ (N / 64) _ rfl rfl rfl rfl Tryd.underlying24 info_w64 (by omega) (by omega) ?_; go_frame)
          | ((with_reducible change wpList _ _ _ (Oper.mk (some 24) _ _ _ _ _ :: _) _ _); refine kLoad1 _ _ _ _ _ _ _ _ rfl rfl rfl ((hM0.get 4 rfl).on hM200.below) Tryd.underlying22 rfl (wcells_get k (N / 64) (by omega)) ?_; go_frame)
          | ((with_reducible change wpList _ _ _ (Oper.mk (some 34) _ _ _ _ _ :: _) _ _); refine kLoadRow _ _ _ _ _ _ rfl rfl rfl ((hM0.get 0 rfl).on hM200.below) Tryd.underlying78 rfl (info_SpotC _ _ _) ?_; go_frame)
          | ((with_reducible change wpList _ _ _ (Oper.mk (some 35) _ _ _ _ _ :: _) _ _); refine kLoadRow _ _ _ _ _ _ rfl rfl rfl ((hM0.get 0 rfl).on hM200.below) Tryd.underlying78 rfl (info_SpotC _ _ _) ?_; go_frame)
          | (go_at_call 48; (with_reducible change Calls _ _ #[Value.agg (#[a2, b2, c2]), Value.agg (#[a2, b2, c2])] _ _); refine (eSum_as t t _ (ha2.below hM200.below) (hb2.below hM200.below) (hc2.below hM200.below) (ha2.below hM200.below) (hb2.below hM200.below) (hc2.below hM200.below)).mono ?_; rintro e w201 ⟨xa201, xb201, xc201, rfl, hNa201, hNb201, hNc201, hB201⟩; have hM201 := hM200.on hB201; clear hB201 hM200; have hM202 := mm_nil w201; go_frame)
          | ((with_reducible change wpList _ _ _ (Oper.mk none (Op.store _ (Operand.tmp 6) (Operand.tmp 36)) _ _ _ _ :: _) _ _); have hJ := (Mm.join (Mm.join hM0 hM201) hM202); dsimp only [List.append, List.cons_append, List.nil_append] at hJ; refine mmStoreSp hJ 0 _ _ _ _ _ _ (#[xa201, xb201, xc201]) rfl rfl rfl rfl rfl (info_SpotC _ _ _) rfl (spot_one (NumT.one (hNa201.below hM202.below)) (NumT.one (hNb201.below hM202.below)) (NumT.one (hNc201.below hM202.below))) ?_; intro w203 hM203 hW; have hT203_0_0 := NumT.wrote (hNa201.below hM202.below) (hJ.get 0 rfl) (spot_sl (NumT.sl ((ha2.below hM201.below).below hM202.below)) (NumT.sl ((hb2.below hM201.below).below hM202.below)) (NumT.sl ((hc2.below hM201.below).below hM202.below))) hW; have hT203_0_1 := NumT.wrote (hNb201.below hM202.below) (hJ.get 0 rfl) (spot_sl (NumT.sl ((ha2.below hM201.below).below hM202.below)) (NumT.sl ((hb2.below hM201.below).below hM202.below)) (NumT.sl ((hc2.below hM201.below).below hM202.below))) hW; have hT203_0_2 := NumT.wrote (hNc201.below hM202.below) (hJ.get 0 rfl) (spot_sl (NumT.sl ((ha2.below hM201.below).below hM202.below)) (NumT.sl ((hb2.below hM201.below).below hM202.below)) (NumT.sl ((hc2.below hM201.below).below hM202.below))) hW; have hT203_1_0 := NumT.wrote ((ha1.below hM201.below).below hM202.below) (hJ.get 0 rfl) (spot_sl (NumT.sl ((ha2.below hM201.below).below hM202.below)) (NumT.sl ((hb2.below hM201.below).below hM202.below)) (NumT.sl ((hc2.below hM201.below).below hM202.below))) hW; have hT203_1_1 := NumT.wrote ((hb1.below hM201.below).below hM202.below) (hJ.get 0 rfl) (spot_sl (NumT.sl ((ha2.below hM201.below).below hM202.below)) (NumT.sl ((hb2.below hM201.below).below hM202.below)) (NumT.sl ((hc2.below hM201.below).below hM202.below))) hW; have hT203_1_2 := NumT.wrote ((hc1.below hM201.below).below hM202.below) (hJ.get 0 rfl) (spot_sl (NumT.sl ((ha2.below hM201.below).below hM202.below)) (NumT.sl ((hb2.below hM201.below).below hM202.below)) (NumT.sl ((hc2.below hM201.below).below hM202.below))) hW; dsimp only [List.set] at hM203; clear hJ hW; have hM204 := mm_nil w203; go_frame))
        have hJ := (Mm.join hM203 hM204)
        dsimp only [List.append, List.cons_append, List.nil_append] at hJ
        go_roundw
        case rel => exact ⟨N + 1, s, ((Spot.sum t t)), _, _, _, _, _, _, by go_num, by omega, HN, (hT203_1_0.below hM204.below), (hT203_1_1.below hM204.below), (hT203_1_2.below hM204.below), (hT203_0_0.below hM204.below), (hT203_0_1.below hM204.below), (hT203_0_2.below hM204.below), hJ⟩
        case measure => simp [intOf]; try omega
    · have hd : decide ((N : Int) < (blen k : Int)) = false := by simp; omega
      have R := Lib.hid (show ptc (spotPt s) = ptc (Pt.times ivP p k) by
        have h := HI.out.1
        rw [show N = blen k by omega, low_all] at h
        rw [spotPt_rep h])
      have hM200 := mm_nil_of ha1
      go_wp2_with (first
        | ((with_reducible change wpList _ _ _ (Oper.mk (some 37) _ _ _ _ _ :: _) _ _); refine kLoadRow _ _ _ _ _ _ rfl rfl rfl ((hM0.get 1 rfl).on hM200.below) Tryd.underlying78 rfl (info_SpotC _ _ _) ?_; go_frame)
        | (go_at_call 49; (with_reducible change Calls _ _ #[Value.agg (#[a1, b1, c1])] _ _); refine (ePoint_as s _ (ha1.below hM200.below) (hb1.below hM200.below) (hc1.below hM200.below)).mono ?_; rintro e w201 ⟨rfl, hB201⟩; have hM201 := hM200.on hB201; clear hB201 hM200; (try unfold WV); go_frame)
        | ((with_reducible change wpList _ _ _ (Oper.mk none (Op.store _ (Operand.tmp 4) (Operand.tmp 38)) _ _ _ _ :: _) _ _); have hJ := (Mm.join hM0 hM201); dsimp only [List.append, List.cons_append, List.nil_append] at hJ; refine mmStoreAt hJ 2 _ _ _ _ _ _ (ptc (spotPt s)) rfl rfl rfl rfl rfl (info_ptc _) (by simp only [pcells_size, ptc_size]) (ptc_one _) ?_; intro w202 hM202; dsimp only [List.set] at hM202; clear hJ; go_frame))
      exact result_row Tryd.results19 rfl (hM202.get 2 rfl) Tryd.underlying30 rfl (info_ptc _) rfl ⟨by rw [R.out], hM202.below⟩
end Go.Proofs.YtfgffjmpjoipeaaDoor
