/-
  The walk of the statement CurveNames.
-/
import Derived.Test.YtecibidncelebaaDoorCvLaw1
import Derived.Test.YtecibidncelebaaDoorCvParse
namespace Go.Proofs.YtecibidncelebaaDoor
open Go Go.RowKit

open Cv
/-- the X of twice the base -/
def twoX : Nat := 89565891926547004231252920425935692360644145829622209833684329913297188986597
theorem limbs_two : (limb twoX 0 : Int) = 12370272968204394213 ∧ (limb twoX 1 : Int) = 6662950628856118439 ∧ (limb twoX 2 : Int) = 3478257130916576472 ∧ (limb twoX 3 : Int) = 14268669794154544493 := by decide +kernel
theorem built_twoL : Tryd.prog.built 24 [(0, .int .u64 12370272968204394213), (1, .int .u64 6662950628856118439), (2, .int .u64 3478257130916576472), (3, .int .u64 14268669794154544493)] = some #[.int .u64 12370272968204394213, .int .u64 6662950628856118439, .int .u64 3478257130916576472, .int .u64 14268669794154544493] := by kernel_rfl
theorem built_two : Tryd.prog.built 24 [(0, .int .u64 12370272968204394213), (1, .int .u64 6662950628856118439), (2, .int .u64 3478257130916576472), (3, .int .u64 14268669794154544493)] = some (wcells twoX) := by
  obtain ⟨h0, h1, h2, h3⟩ := limbs_two
  rw [wcells_lit, h0, h1, h2, h3]; exact built_twoL
set_option maxRecDepth 100000 in
theorem two_spot : (Spot.sum gSpot gSpot).Z ≠ 0 ∧ (Spot.sum gSpot gSpot).X = FP twoX * (Spot.sum gSpot gSpot).Z := by decide +kernel
theorem pX_two : pX (Pt.add ivP gPt gPt) = twoX := by
  have h := goodP.sum_rep gPt_on gPt_on gSpot_rep gSpot_rep
  obtain ⟨hz, hx⟩ := two_spot
  cases hq : Pt.add ivP gPt gPt with
  | o => rw [hq] at h; exact absurd h.2.1 hz
  | mk x y =>
    rw [hq] at h
    have h2 := h.2.1
    rw [hx, Fin.mul_comm, Fin.mul_comm x] at h2
    have h3 := goodP.cancel hz h2
    show x.val = twoX
    rw [← h3]; exact Nat.mod_eq_of_lt (by decide)
theorem cParse_nil (w : World) (hG : Glob 2 PP w) (hO : GlobP 0 0 0 true w) : Calls Tryd.prog 12 #[.slice none 0 0] w fun e w' => e = .returned (.tuple #[.agg (pcells 0 0 false), .int .i64 41]) ∧ Below w.heap.size w w' :=
  cParse_any (l := []) w hG hO (isVals_nil w)
set_option maxRecDepth 100000 in
set_option maxHeartbeats 8000000 in
theorem CurveNames_any (w : World) (hG : Glob 2 PP w) (hO : GlobP 0 0 0 true w) (hB : GlobPt 1 gPt w) :
    Calls Tryd.prog 3 #[] w fun e w' => e = .returned (.bool true) ∧ Below w.heap.size w w' := by
  obtain ⟨nN, HnN⟩ : ∃ n, Hid (NN = n) := ⟨_, Lib.hid rfl⟩
  have mnN : nN < M256 := by rw [← HnN.out]; decide
  have hPN := Lib.hid (show PrimeIs false nN by rw [← HnN.out]; exact rPrime_false)
  obtain ⟨n0, H0⟩ : ∃ n, Hid (n = 0) := ⟨0, Lib.hid rfl⟩
  have h0 : n0 < 18446744073709551616 := by rw [H0.out]; decide
  have mn0 : n0 < M256 := by rw [H0.out]; decide
  have E0 : (0 : Int) = (n0 : Int) := by rw [H0.out]; rfl
  replace E0 := Lib.hid E0
  obtain ⟨q13, Hq13⟩ : ∃ q, Hid (Pt.add ivP gPt gPt = q) := ⟨_, Lib.hid rfl⟩
  have oq13 : q13.On := by rw [← Hq13.out]; exact goodP.add_on gPt_on gPt_on
  obtain ⟨q20, Hq20⟩ : ∃ q, Hid (Pt.times ivP gPt nN = q) := ⟨_, Lib.hid rfl⟩
  have oq20 : q20.On := by rw [← Hq20.out]; exact goodP.times_on gPt_on _
  obtain ⟨q37, Hq37⟩ : ∃ q, Hid (Pt.times ivP q13 n0 = q) := ⟨_, Lib.hid rfl⟩
  have oq37 : q37.On := by rw [← Hq37.out]; exact goodP.times_on oq13 _
  have h22 := Lib.hid (show q20 = .o by rw [← Hq20.out, ← HnN.out]; exact base_N)
  have h32 := Lib.hid (show pX q13 = twoX by rw [← Hq13.out]; exact pX_two)
  have h39 := Lib.hid (show q37 = .o by rw [← Hq37.out, H0.out]; rfl)
  have hM0 := mm_nil w
  (try unfold WV)
  go_enter Tryd.func3, Tryd.ntmps3
  go_wp2_with (first
    | (go_at_call 11; (with_reducible change Calls _ _ #[Value.bool false] _ _); refine (hPN.out _).mono ?_; rintro e w1 ⟨x1, rfl, hN1, hB1⟩; have hM1 := hM0.on hB1; clear hB1 hM0; have hM2 := mm_nil w1; go_frame)
    | (go_at_call 10; (with_reducible change Calls _ _ #[x1] _ _); refine (dWide_num (hN1.below hM2.below)).mono ?_; rintro e w3 ⟨rfl, hB3⟩; have hM3 := hM2.on hB3; clear hB3 hM2; (try unfold WV); go_frame)
    | ((with_reducible change wpList _ _ _ (Oper.mk (some 1) _ _ _ _ _ :: _) _ _); refine mmAlloc hM3 _ _ rfl rfl zero_Wide ?_; intro w4 hM4; clear hM3; go_frame)
    | ((with_reducible change wpList _ _ _ (Oper.mk none (Op.store _ (Operand.tmp 1) (Operand.tmp 6)) _ _ _ _ :: _) _ _); refine mmStoreAt hM4 0 _ _ _ _ _ _ (wcells nN) rfl rfl rfl rfl rfl (info_WideC _) (by simp only [wcells_size]) (wcells_one _) ?_; intro w5 hM5; dsimp only [List.set] at hM5; clear hM4; go_frame)
    | (go_at_call 12; (with_reducible change Calls _ _ #[Value.slice none 0 0] _ _); refine (cParse_nil _ ((hG.below hM1.below).below hM5.below) ((hO.below hM1.below).below hM5.below)).mono ?_; rintro e w6 ⟨rfl, hB6⟩; have hM6 := hM5.on hB6; clear hB6 hM5; (try unfold WV); go_frame)
    | ((with_reducible change wpList _ _ _ (Oper.mk (some 2) _ _ _ _ _ :: _) _ _); refine mmAlloc hM6 _ _ rfl rfl zero_Point ?_; intro w7 hM7; clear hM6; go_frame)
    | ((with_reducible change wpList _ _ _ (Oper.mk none (Op.store _ (Operand.tmp 2) (Operand.tmp 9)) _ _ _ _ :: _) _ _); refine mmStoreAt hM7 0 _ _ _ _ _ _ (pcells 0 0 false) rfl rfl rfl rfl rfl (info_PointC _ _ _) (by simp only [pcells_size]) (pcells_one _ _ _) ?_; intro w8 hM8; dsimp only [List.set] at hM8; clear hM7; go_frame)
    | (go_at_call 14; refine (cBase_pt _ ((hB.below hM1.below).below hM8.below)).mono ?_; rintro e w9 ⟨rfl, hB9⟩; have hM9 := hM8.on hB9; clear hB9 hM8; (try unfold WV); go_frame)
    | (go_at_call 14; refine (cBase_pt _ ((hB.below hM1.below).below hM9.below)).mono ?_; rintro e w10 ⟨rfl, hB10⟩; have hM10 := hM9.on hB10; clear hB10 hM9; (try unfold WV); go_frame)
    | (go_at_call 13; (with_reducible change Calls _ _ #[Value.agg (ptc gPt), Value.agg (ptc gPt)] _ _); refine (cAdd_q gPt_on gPt_on Hq13.out _ ((hG.below hM1.below).below hM10.below) ((hO.below hM1.below).below hM10.below)).mono ?_; rintro e w11 ⟨rfl, hB11⟩; have hM11 := hM10.on hB11; clear hB11 hM10; (try unfold WV); go_frame)
    | ((with_reducible change wpList _ _ _ (Oper.mk (some 4) _ _ _ _ _ :: _) _ _); refine mmAlloc hM11 _ _ rfl rfl zero_Point ?_; intro w12 hM12; clear hM11; go_frame)
    | ((with_reducible change wpList _ _ _ (Oper.mk none (Op.store _ (Operand.tmp 4) (Operand.tmp 13)) _ _ _ _ :: _) _ _); refine mmStoreAt hM12 0 _ _ _ _ _ _ (ptc q13) rfl rfl rfl rfl rfl (info_ptc _) (by simp only [pcells_size, ptc_size]) (ptc_one _) ?_; intro w13 hM13; dsimp only [List.set] at hM13; clear hM12; go_frame))
  refine region_symT 28 _ [] [] [.val (.bool true), .val (.bool true), .val (.bool true), .val (.bool true), .val (.agg (wcells nN)), .val (.agg (ptc gPt)), .val (.agg (ptc q20)), .val (.agg (ptc .o)), .val (.bool true), .val (.bool true), .val (.bool true), .val (.int .i64 (41)), .val (.bool true), .val (.bool true), .val (.bool true), .val (.pointer (some ⟨w11.heap.size, 0, none⟩)), .val (.agg (wcells ((pX q13)))), .val (.agg (wcells twoX)), .val (.bool true), .val (.bool true), .val (.bool true), .val (.agg (wcells n0)), .val (.agg (ptc q13)), .val (.agg (ptc q37)), .val (.agg (ptc .o)), .val (.bool true), .val (.bool true), .val (.bool true)] rfl (by kernel_rfl) (by kernel_rfl) (by kernel_rfl) (by kernel_rfl) rfl (by intro s hs; cases hs) (steps_all ⟨?_, ?_, ?_, ?_, ?_, ?_, ?_, ?_, ?_, ?_, ?_, ?_, ?_, ?_, ?_, ?_, ?_, ?_, ?_, ?_, ?_, ?_, ?_, ?_, ?_, ?_, ?_, ?_, trivial⟩) ?_
  · intro A W hsz hoth hbel hX hdep
    refine kCall0 15 _ rfl rfl (by kernel_rfl)  ?_
    refine (curveAlive_pt W (((hG.below hM1.below).below hM13.below).below hbel) (((hO.below hM1.below).below hM13.below).below hbel) (((hB.below hM1.below).below hM13.below).below hbel)).mono ?_
    rintro e r ⟨rfl, hBc⟩
    exact ⟨_, rfl, (symVT hX hsz rfl (show 14 < 41 by decide) rfl hBc rfl)⟩
  · intro A W hsz hoth hbel hX hdep
    exact kMoveV _ (.bool true) rfl rfl (by have h := hdep ⟨0, .data⟩ (by simp) rfl; exact h) (symVT hX hsz rfl (show 15 < 41 by decide) rfl (Below.refl _ _) rfl)
  · intro A W hsz hoth hbel hX hdep
    exact kPick _ _ _ true (.bool true) rfl rfl (by have h := hdep ⟨1, .data⟩ (by simp) rfl; exact h) rfl (symVT hX hsz rfl (show 16 < 41 by decide) rfl (Below.refl _ _) rfl)
  · intro A W hsz hoth hbel hX hdep
    exact kMoveV _ (.bool true) rfl rfl (by have h := hdep ⟨2, .data⟩ (by simp) rfl; exact h) (symVT hX hsz rfl (show 17 < 41 by decide) rfl (Below.refl _ _) rfl)
  · intro A W hsz hoth hbel hX hdep
    exact kLoadRow _ _ _ _ _ _ rfl (wanted_of rfl rfl (by have h := hdep ⟨3, .guard⟩ (by simp) rfl; exact h)) ((hoth 1 (free2_of (by kernel_rfl))).trans rfl) ((hM13.get 2 rfl).on hbel) Tryd.underlying24 rfl (info_WideC _) (symVT hX hsz rfl (show 18 < 41 by decide) rfl (Below.refl _ _) rfl)
  · intro A W hsz hoth hbel hX hdep
    refine kCall0 14 _ rfl (wanted_of rfl rfl (by have h := hdep ⟨3, .chain⟩ (by simp) rfl; exact h)) (by kernel_rfl)  ?_
    refine (cBase_pt W (((hB.below hM1.below).below hM13.below).below hbel)).mono ?_
    rintro e r ⟨rfl, hBc⟩
    exact ⟨_, rfl, (symVT hX hsz rfl (show 19 < 41 by decide) rfl hBc rfl)⟩
  · intro A W hsz hoth hbel hX hdep
    refine kCall2 16 _ _ _ _ _ rfl (wanted_of rfl rfl (by have h := hdep ⟨3, .guard⟩ (by simp) rfl; exact h)) (by kernel_rfl) (by have h := hdep ⟨4, .data⟩ (by simp) rfl; exact h) (by have h := hdep ⟨5, .data⟩ (by simp) rfl; exact h) ?_
    refine (cTimes_q mnN gPt_on Hq20.out W (((hG.below hM1.below).below hM13.below).below hbel) (((hO.below hM1.below).below hM13.below).below hbel) (((hB.below hM1.below).below hM13.below).below hbel)).mono ?_
    rintro e r ⟨rfl, hBc⟩
    exact ⟨_, rfl, (symVT hX hsz rfl (show 20 < 41 by decide) rfl hBc rfl)⟩
  · intro A W hsz hoth hbel hX hdep
    refine kCall0 17 _ rfl (wanted_of rfl rfl (by have h := hdep ⟨3, .guard⟩ (by simp) rfl; exact h)) (by kernel_rfl)  ?_
    refine (nowhere_any W).mono ?_
    rintro e r ⟨rfl, hBc⟩
    exact ⟨_, rfl, (symVT hX hsz rfl (show 21 < 41 by decide) rfl hBc rfl)⟩
  · intro A W hsz hoth hbel hX hdep
    exact kEqlPt _ _ _ q20 .o true rfl (wanted_of rfl rfl (by have h := hdep ⟨3, .guard⟩ (by simp) rfl; exact h)) (by have h := hdep ⟨6, .data⟩ (by simp) rfl; exact h) (by have h := hdep ⟨7, .data⟩ (by simp) rfl; exact h) (eq_yes h22.out) (symVT hX hsz rfl (show 22 < 41 by decide) rfl (Below.refl _ _) rfl)
  · intro A W hsz hoth hbel hX hdep
    exact kPick _ _ _ true (.bool true) rfl rfl (by have h := hdep ⟨3, .data⟩ (by simp) rfl; exact h) (by have h := hdep ⟨8, .data⟩ (by simp) rfl; exact h) (symVT hX hsz rfl (show 23 < 41 by decide) rfl (Below.refl _ _) rfl)
  · intro A W hsz hoth hbel hX hdep
    exact kMoveV _ (.bool true) rfl rfl (by have h := hdep ⟨9, .data⟩ (by simp) rfl; exact h) (symVT hX hsz rfl (show 24 < 41 by decide) rfl (Below.refl _ _) rfl)
  · intro A W hsz hoth hbel hX hdep
    exact kMoveV _ (.int .i64 (41)) rfl (wanted_of rfl rfl (by have h := hdep ⟨10, .guard⟩ (by simp) rfl; exact h)) ((hoth 3 (free2_of (by kernel_rfl))).trans rfl) (symVT hX hsz rfl (show 25 < 41 by decide) rfl (Below.refl _ _) rfl)
  · intro A W hsz hoth hbel hX hdep
    exact kEqlI _ _ _ _ .i64 (41) (41) true rfl (wanted_of rfl rfl (by have h := hdep ⟨10, .guard⟩ (by simp) rfl; exact h)) (by have h := hdep ⟨11, .data⟩ (by simp) rfl; exact h) rfl (by decide) (symVT hX hsz rfl (show 26 < 41 by decide) rfl (Below.refl _ _) rfl)
  · intro A W hsz hoth hbel hX hdep
    exact kPick _ _ _ true (.bool true) rfl rfl (by have h := hdep ⟨10, .data⟩ (by simp) rfl; exact h) (by have h := hdep ⟨12, .data⟩ (by simp) rfl; exact h) (symVT hX hsz rfl (show 27 < 41 by decide) rfl (Below.refl _ _) rfl)
  · intro A W hsz hoth hbel hX hdep
    exact kMoveV _ (.bool true) rfl rfl (by have h := hdep ⟨13, .data⟩ (by simp) rfl; exact h) (symVT hX hsz rfl (show 28 < 41 by decide) rfl (Below.refl _ _) rfl)
  · intro A W hsz hoth hbel hX hdep
    exact kFieldPoint0 _ _ rfl (wanted_of rfl rfl (by have h := hdep ⟨14, .guard⟩ (by simp) rfl; exact h)) ((hoth 4 (free2_of (by kernel_rfl))).trans rfl) (symVT hX hsz rfl (show 29 < 41 by decide) rfl (Below.refl _ _) rfl)
  · intro A W hsz hoth hbel hX hdep
    exact kLoadAs _ _ _ _ _ 4 _ _ _ rfl (wanted_of rfl rfl (by have h := hdep ⟨14, .guard⟩ (by simp) rfl; exact h)) (by have h := hdep ⟨15, .data⟩ (by simp) rfl; exact h) ((hM13.get 0 rfl).on hbel) Tryd.underlying24 rfl info_Wide (by rw [ptc_size]; decide) (ptc_at0 _) (symVT hX hsz rfl (show 30 < 41 by decide) rfl (Below.refl _ _) rfl)
  · intro A W hsz hoth hbel hX hdep
    exact kBuildAny _ _ #[(0, .int .u64 12370272968204394213), (1, .int .u64 6662950628856118439), (2, .int .u64 3478257130916576472), (3, .int .u64 14268669794154544493)] _ rfl (wanted_of rfl rfl (by have h := hdep ⟨14, .guard⟩ (by simp) rfl; exact h)) (by simp [Act.eval]) built_two (symVT hX hsz rfl (show 31 < 41 by decide) rfl (Below.refl _ _) rfl)
  · intro A W hsz hoth hbel hX hdep
    exact kEqlW _ _ _ ((pX q13)) (twoX) true rfl (wanted_of rfl rfl (by have h := hdep ⟨14, .guard⟩ (by simp) rfl; exact h)) (by have h := hdep ⟨16, .data⟩ (by simp) rfl; exact h) (by have h := hdep ⟨17, .data⟩ (by simp) rfl; exact h) (eqlW_yes h32.out) (symVT hX hsz rfl (show 32 < 41 by decide) rfl (Below.refl _ _) rfl)
  · intro A W hsz hoth hbel hX hdep
    exact kPick _ _ _ true (.bool true) rfl rfl (by have h := hdep ⟨14, .data⟩ (by simp) rfl; exact h) (by have h := hdep ⟨18, .data⟩ (by simp) rfl; exact h) (symVT hX hsz rfl (show 33 < 41 by decide) rfl (Below.refl _ _) rfl)
  · intro A W hsz hoth hbel hX hdep
    exact kMoveV _ (.bool true) rfl rfl (by have h := hdep ⟨19, .data⟩ (by simp) rfl; exact h) (symVT hX hsz rfl (show 34 < 41 by decide) rfl (Below.refl _ _) rfl)
  · intro A W hsz hoth hbel hX hdep
    refine kCall1 18 _ _ _ rfl (wanted_of rfl rfl (by have h := hdep ⟨20, .chain⟩ (by simp) rfl; exact h)) (by kernel_rfl) rfl ?_
    refine (wOf_lit n0 0 h0 E0.out W).mono ?_
    rintro e r ⟨rfl, hBc⟩
    exact ⟨_, rfl, (symVT hX hsz rfl (show 35 < 41 by decide) rfl hBc rfl)⟩
  · intro A W hsz hoth hbel hX hdep
    exact kLoadRow _ _ _ _ _ _ rfl (wanted_of rfl rfl (by have h := hdep ⟨20, .guard⟩ (by simp) rfl; exact h)) ((hoth 4 (free2_of (by kernel_rfl))).trans rfl) ((hM13.get 0 rfl).on hbel) Tryd.underlying30 rfl (info_ptc _) (symVT hX hsz rfl (show 36 < 41 by decide) rfl (Below.refl _ _) rfl)
  · intro A W hsz hoth hbel hX hdep
    refine kCall2 16 _ _ _ _ _ rfl (wanted_of rfl rfl (by have h := hdep ⟨20, .guard⟩ (by simp) rfl; exact h)) (by kernel_rfl) (by have h := hdep ⟨21, .data⟩ (by simp) rfl; exact h) (by have h := hdep ⟨22, .data⟩ (by simp) rfl; exact h) ?_
    refine (cTimes_q mn0 oq13 Hq37.out W (((hG.below hM1.below).below hM13.below).below hbel) (((hO.below hM1.below).below hM13.below).below hbel) (((hB.below hM1.below).below hM13.below).below hbel)).mono ?_
    rintro e r ⟨rfl, hBc⟩
    exact ⟨_, rfl, (symVT hX hsz rfl (show 37 < 41 by decide) rfl hBc rfl)⟩
  · intro A W hsz hoth hbel hX hdep
    refine kCall0 17 _ rfl (wanted_of rfl rfl (by have h := hdep ⟨20, .guard⟩ (by simp) rfl; exact h)) (by kernel_rfl)  ?_
    refine (nowhere_any W).mono ?_
    rintro e r ⟨rfl, hBc⟩
    exact ⟨_, rfl, (symVT hX hsz rfl (show 38 < 41 by decide) rfl hBc rfl)⟩
  · intro A W hsz hoth hbel hX hdep
    exact kEqlPt _ _ _ q37 .o true rfl (wanted_of rfl rfl (by have h := hdep ⟨20, .guard⟩ (by simp) rfl; exact h)) (by have h := hdep ⟨23, .data⟩ (by simp) rfl; exact h) (by have h := hdep ⟨24, .data⟩ (by simp) rfl; exact h) (eq_yes h39.out) (symVT hX hsz rfl (show 39 < 41 by decide) rfl (Below.refl _ _) rfl)
  · intro A W hsz hoth hbel hX hdep
    exact kPick _ _ _ true (.bool true) rfl rfl (by have h := hdep ⟨20, .data⟩ (by simp) rfl; exact h) (by have h := hdep ⟨25, .data⟩ (by simp) rfl; exact h) (symVT hX hsz rfl (show 40 < 41 by decide) rfl (Below.refl _ _) rfl)
  · intro A W hsz hoth hbel hX hdep
    exact kAssignV _ (.bool true) rfl rfl (by have h := hdep ⟨26, .data⟩ (by simp) rfl; exact h) (symVT hX hsz rfl (show 0 < 41 by decide) rfl (Below.refl _ _) rfl)
  intro w14 hB14
  dsimp only [AllV]
  intro hap
  dsimp only [putAll, List.take, List.drop]
  go_frame
  have hM14 := hM13.on hB14
  clear hB14 hM13 hap
  go_wp2_with fail
  go_ret
  exact ⟨rfl, ((hM1.below).trans (hM14.below.mono (hM1.below).size))⟩
end Go.Proofs.YtecibidncelebaaDoor
