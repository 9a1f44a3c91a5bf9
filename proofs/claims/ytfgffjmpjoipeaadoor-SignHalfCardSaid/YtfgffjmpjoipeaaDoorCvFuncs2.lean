/-
  Contracts of package curve: On, Add, Base; and those of one more point, by points.
-/
import Derived.Test.YtfgffjmpjoipeaaDoorCvFuncs
namespace Go.Proofs.YtfgffjmpjoipeaaDoor
open Go Go.RowKit

open Cv
theorem eta_jac (a : Jac PP) : (⟨FP a.x.val, FP a.y.val, FP a.z.val⟩ : Jac PP) = a := by rw [FP_of_val, FP_of_val, FP_of_val]
theorem twice_as {m : Nat} (Hm0 : m = PP) (a : Jac PP) (w : World) (hG : Glob 3 m w) : Calls Tryd.prog 77 #[.agg (jc a)] w fun e w' => e = .returned (.agg (jc a.twice)) ∧ Below w.heap.size w w' := by
  have := twice_nat Hm0 a.x.isLt a.y.isLt a.z.isLt w hG
  rw [eta_jac] at this; exact this
theorem point_as (a : Jac PP) (w : World) (hG : Glob 3 PP w) (hO : GlobP 2 0 0 true w) : Calls Tryd.prog 80 #[.agg (jc a)] w fun e w' => e = .returned (.agg (ptc (a.pt ivP))) ∧ Below w.heap.size w w' := by
  have := point_nat a.x.isLt a.y.isLt a.z.isLt w hG hO
  rw [eta_jac] at this; exact this
theorem plus_as (a : Jac PP) (q : Pt PP) (w : World) (hG : Glob 3 PP w) (hO : GlobP 2 0 0 true w) : Calls Tryd.prog 79 #[.agg (jc a), .agg (ptc q)] w fun e w' => e = .returned (.agg (jc (a.plus q))) ∧ Below w.heap.size w w' := by
  cases q with
  | o => exact plus_o w hO
  | mk u v =>
    unfold Jac.plus
    simp only
    by_cases hz : a.z = 0
    · rw [if_pos hz]
      have := plus_first a.x.isLt a.y.isLt a.z.isLt u.isLt v.isLt (by rw [hz]; rfl) w hG hO
      rw [FP_of_val, FP_of_val] at this; exact this
    · rw [if_neg hz]
      have hz' : FP a.z.val ≠ 0 := by rw [FP_of_val]; exact hz
      by_cases ha : a.along u = 0
      · have ha' : (⟨FP a.x.val, FP a.y.val, FP a.z.val⟩ : Jac PP).along (FP u.val) = 0 := by rw [eta_jac, FP_of_val]; exact ha
        by_cases hu : a.up v = 0
        · rw [if_pos ⟨ha, hu⟩]
          have := plus_same a.x.isLt a.y.isLt a.z.isLt u.isLt v.isLt hz' ha' (by rw [eta_jac, FP_of_val]; exact hu) w hG hO
          rw [eta_jac] at this; exact this
        · rw [if_neg fun e => hu e.2]
          have := plus_across a.x.isLt a.y.isLt a.z.isLt u.isLt v.isLt hz' ha' (by rw [eta_jac, FP_of_val]; exact hu) w hG hO
          rw [eta_jac, FP_of_val, FP_of_val] at this; exact this
      · rw [if_neg fun e => ha e.1]
        have := plus_chord a.x.isLt a.y.isLt a.z.isLt u.isLt v.isLt hz' (by rw [eta_jac, FP_of_val]; exact ha) w hG hO
        rw [eta_jac, FP_of_val, FP_of_val] at this; exact this
/-- is it on the curve? -/
def onB (x y : Nat) (b : Bool) : Bool := if b then decide (x = 0 ∧ y = 0) else decide (x < PP ∧ y < PP ∧ FP y * FP y = FP x * FP x * FP x + 7)
theorem onB_pt {p : Pt PP} (h : p.On) : ∃ x y b, ptc p = pcells x y b ∧ x < M256 ∧ y < M256 ∧ onB x y b = true := by
  cases p with
  | o => exact ⟨0, 0, true, rfl, by decide, by decide, rfl⟩
  | mk x y =>
    have h : y * y = x * x * x + 7 := h
    exact ⟨x.val, y.val, false, rfl, val_lt x, val_lt y, decide_eq_true ⟨x.isLt, y.isLt, by rw [FP_of_val, FP_of_val]; exact h⟩⟩
theorem sq_FP {m x v : Nat} (Hm : m = PP) (h : (x * x % m * x % m + 7) % m = v) : FP v = FP x * FP x * FP x + 7 := by
  subst h; subst Hm; rw [FP_mod, FP_add, FP_mod, FP_mul, FP_mod, FP_mul]; rfl
set_option maxRecDepth 100000 in
set_option maxHeartbeats 8000000 in
theorem cOn_any {x y : Nat} (mx : x < M256) (my : y < M256) (b : Bool) (w : World) (hG : Glob 3 PP w) (hO : GlobP 2 0 0 true w) :
    Calls Tryd.prog 50 #[.agg (pcells x y b)] w fun e w' => e = .returned (.bool (onB x y b)) ∧ Below w.heap.size w w' := by
  obtain ⟨m, Hm⟩ : ∃ m, Hid (m = PP) := ⟨_, Lib.hid rfl⟩
  have hm : Modu m := by rw [Hm.out]; exact modu_P
  rw [← Hm.out] at hG
  obtain ⟨bb, Hb⟩ : ∃ c, Hid (onB x y b = c) := ⟨_, Lib.hid rfl⟩
  rw [Hb.out]
  cases b with
  | true =>
    have F8 := Lib.hid (show decide (x % M256 = 0 % M256 ∧ y % M256 = 0 % M256 ∧ true = true) = bb by rw [← Hb.out, Nat.mod_eq_of_lt mx, Nat.mod_eq_of_lt my]; unfold onB; simp)
    clear Hb
    have hM0 := mm_nil w
    (try unfold WV)
    go_enter Tryd.func50, Tryd.ntmps50
    go_wp2_with (first
      | ((with_reducible change wpList _ _ _ (Oper.mk (some 1) _ _ _ _ _ :: _) _ _); refine mmBox hM0 _ _ (pcells x y true) rfl rfl rfl ?_; intro w1 hM1; clear hM0; go_frame)
      | ((with_reducible change wpList _ _ _ (Oper.mk (some 4) _ _ _ _ _ :: _) _ _); refine kFieldPoint2 _ _ rfl rfl rfl ?_; go_frame)
      | ((with_reducible change wpList _ _ _ (Oper.mk (some 5) _ _ _ _ _ :: _) _ _); refine kLoad1 _ _ _ _ _ _ _ _ rfl rfl rfl (hM1.get 0 rfl) Tryd.underlying4 rfl (pcells_at8 _ _ _) ?_; go_frame)
      | ((with_reducible change wpList _ _ _ (Oper.mk (some 6) _ _ _ _ _ :: _) _ _); refine kLoadRow _ _ _ _ _ _ rfl rfl rfl (hM1.get 0 rfl) Tryd.underlying30 rfl (info_PointC _ _ _) ?_; go_frame)
      | ((with_reducible change wpList _ _ _ (Oper.mk (some 7) _ _ _ _ _ :: _) _ _); refine kLoadGP _ _ _ _ _ rfl rfl rfl (hO.below hM1.below) ?_; go_frame)
      | ((with_reducible change wpList _ _ _ (Oper.mk (some 8) _ _ _ _ _ :: _) _ _); refine kEqlP _ _ _ x y true 0 0 true bb rfl rfl rfl rfl (F8.out) ?_; go_frame))
    go_ret
    exact ⟨rfl, hM1.below⟩
  | false =>
    by_cases hx : x < PP
    · by_cases hy : y < PP
      · skip
        obtain ⟨v26, Hv26, mv26⟩ := nameMod hm (y * y)
        obtain ⟨v29, Hv29, mv29⟩ := nameMod hm (x * x % m * x % m + 7)
        have F13 := Lib.hid (show decide (x < m) = true by rw [Hm.out]; exact decide_eq_true hx)
        have F18 := Lib.hid (show decide (y < m) = true by rw [Hm.out]; exact decide_eq_true hy)
        have F30 := Lib.hid (show decide (v26 % M256 = v29 % M256) = bb by
            rw [Nat.mod_eq_of_lt mv26, Nat.mod_eq_of_lt mv29, ← Hb.out]
            have E1 := FPm_mul Hm.out Hv26.out
            have E2 := sq_FP Hm.out Hv29.out
            have L1 := FPm_lt Hm.out Hv26.out
            have L2 := FPm_lt Hm.out Hv29.out
            unfold onB
            rw [if_neg (by decide)]
            refine decide_eq_decide.2 ⟨fun e => ⟨hx, hy, by rw [← E1, ← E2, e]⟩, fun e => FP_inj L1 L2 (by rw [E1, E2]; exact e.2.2)⟩)
        clear Hb hx hy
        have hM0 := mm_nil w
        (try unfold WV)
        go_enter Tryd.func50, Tryd.ntmps50
        go_wp2_with (first
          | ((with_reducible change wpList _ _ _ (Oper.mk (some 1) _ _ _ _ _ :: _) _ _); refine mmBox hM0 _ _ (pcells x y false) rfl rfl rfl ?_; intro w1 hM1; clear hM0; go_frame)
          | ((with_reducible change wpList _ _ _ (Oper.mk (some 4) _ _ _ _ _ :: _) _ _); refine kFieldPoint2 _ _ rfl rfl rfl ?_; go_frame)
          | ((with_reducible change wpList _ _ _ (Oper.mk (some 5) _ _ _ _ _ :: _) _ _); refine kLoad1 _ _ _ _ _ _ _ _ rfl rfl rfl (hM1.get 0 rfl) Tryd.underlying4 rfl (pcells_at8 _ _ _) ?_; go_frame)
          | (go_at_call 74; refine (fP_any m _ (hG.below hM1.below)).mono ?_; rintro e w2 ⟨rfl, hR2, hB2⟩; have hM2 := hM1.new hR2 hB2; clear hB2 hR2 hM1; go_frame))
        refine region_symT 23 _ [] [] [.val (.pointer (some ⟨w1.heap.size, 0, none⟩)), .val (.pointer (some ⟨w.heap.size, 0, none⟩)), .val (.agg (wcells x)), .val (.bool true), .val (.bool true), .val (.pointer (some ⟨w1.heap.size, 0, none⟩)), .val (.pointer (some ⟨w.heap.size, 4, none⟩)), .val (.agg (wcells y)), .val (.bool true), .val (.bool true), .val (.bool true), .val (.pointer (some ⟨w1.heap.size, 0, none⟩)), .val (.pointer (some ⟨w.heap.size, 4, none⟩)), .val (.agg (wcells y)), .val (.pointer (some ⟨w.heap.size, 4, none⟩)), .val (.agg (wcells y)), .val (.agg (wcells v26)), .val (.pointer (some ⟨w.heap.size, 0, none⟩)), .val (.agg (wcells x)), .val (.agg (wcells v29)), .val (.bool bb), .val (.bool bb), .val (.bool bb)] rfl (by kernel_rfl) (by kernel_rfl) (by kernel_rfl) (by kernel_rfl) rfl (by intro s hs; cases hs) (steps_all ⟨?_, ?_, ?_, ?_, ?_, ?_, ?_, ?_, ?_, ?_, ?_, ?_, ?_, ?_, ?_, ?_, ?_, ?_, ?_, ?_, ?_, ?_, ?_, trivial⟩) ?_
        · exact fun A W sz ot hbel ap dp => kMoveV _ _ rfl rfl (sO ot 3) (sE ap sz rfl)
        · exact fun A W sz ot hbel ap dp => kFieldPoint0 _ _ rfl rfl (sO ot 1) (sE ap sz rfl)
        · exact fun A W sz ot hbel ap dp => kLoadAs _ _ _ _ _ 4 _ _ _ rfl rfl (sD dp 1 .data) ((hM2.get 1 rfl).on hbel) Tryd.underlying24 rfl info_Wide (by rw [pcells_size]; decide) (pcells_at0 _ _ _) (sE ap sz rfl)
        · exact fun A W sz ot hbel ap dp => sCall2 56 rfl (sD dp 0 .data) (sD dp 2 .data) (sC (fIn_as hm (w1.heap.size) mx F13.out W ((hM2.get 0 rfl).on hbel)) ap sz (fun _ => rfl))
        · exact fun A W sz ot hbel ap dp => kMoveV _ _ rfl rfl (sD dp 3 .data) (sE ap sz rfl)
        · exact fun A W sz ot hbel ap dp => kMoveV _ _ rfl (wanted_of rfl rfl (sD dp 4 .guard)) (sO ot 3) (sE ap sz rfl)
        · exact fun A W sz ot hbel ap dp => kFieldPoint1 _ _ rfl (wanted_of rfl rfl (sD dp 4 .guard)) (sO ot 1) (sE ap sz rfl)
        · exact fun A W sz ot hbel ap dp => kLoadAs _ _ _ _ _ 4 _ _ _ rfl (wanted_of rfl rfl (sD dp 4 .guard)) (sD dp 6 .data) ((hM2.get 1 rfl).on hbel) Tryd.underlying24 rfl info_Wide (by rw [pcells_size]; decide) (pcells_at4 _ _ _) (sE ap sz rfl)
        · exact fun A W sz ot hbel ap dp => sCall2 56 rfl (sD dp 5 .data) (sD dp 7 .data) (sC (fIn_as hm (w1.heap.size) my F18.out W ((hM2.get 0 rfl).on hbel)) ap sz (fun _ => rfl)) (wanted_of rfl rfl (sD dp 4 .chain))
        · exact fun A W sz ot hbel ap dp => kPick _ _ _ true (.bool true) rfl rfl (sD dp 4 .data) (sD dp 8 .data) (sE ap sz rfl)
        · exact fun A W sz ot hbel ap dp => kMoveV _ _ rfl rfl (sD dp 9 .data) (sE ap sz rfl)
        · exact fun A W sz ot hbel ap dp => kMoveV _ _ rfl (wanted_of rfl rfl (sD dp 10 .guard)) (sO ot 3) (sE ap sz rfl)
        · exact fun A W sz ot hbel ap dp => kFieldPoint1 _ _ rfl (wanted_of rfl rfl (sD dp 10 .guard)) (sO ot 1) (sE ap sz rfl)
        · exact fun A W sz ot hbel ap dp => kLoadAs _ _ _ _ _ 4 _ _ _ rfl (wanted_of rfl rfl (sD dp 10 .guard)) (sD dp 12 .data) ((hM2.get 1 rfl).on hbel) Tryd.underlying24 rfl info_Wide (by rw [pcells_size]; decide) (pcells_at4 _ _ _) (sE ap sz rfl)
        · exact fun A W sz ot hbel ap dp => kFieldPoint1 _ _ rfl (wanted_of rfl rfl (sD dp 10 .guard)) (sO ot 1) (sE ap sz rfl)
        · exact fun A W sz ot hbel ap dp => kLoadAs _ _ _ _ _ 4 _ _ _ rfl (wanted_of rfl rfl (sD dp 10 .guard)) (sD dp 14 .data) ((hM2.get 1 rfl).on hbel) Tryd.underlying24 rfl info_Wide (by rw [pcells_size]; decide) (pcells_at4 _ _ _) (sE ap sz rfl)
        · exact fun A W sz ot hbel ap dp => sCall3 34 rfl (sD dp 11 .data) (sD dp 13 .data) (sD dp 15 .data) (sC (fMul_as hm (w1.heap.size) my my Hv26.out W ((hM2.get 0 rfl).on hbel)) ap sz (fun _ => rfl)) (wanted_of rfl rfl (sD dp 10 .chain))
        · exact fun A W sz ot hbel ap dp => kFieldPoint0 _ _ rfl (wanted_of rfl rfl (sD dp 10 .guard)) (sO ot 1) (sE ap sz rfl)
        · exact fun A W sz ot hbel ap dp => kLoadAs _ _ _ _ _ 4 _ _ _ rfl (wanted_of rfl rfl (sD dp 10 .guard)) (sD dp 17 .data) ((hM2.get 1 rfl).on hbel) Tryd.underlying24 rfl info_Wide (by rw [pcells_size]; decide) (pcells_at0 _ _ _) (sE ap sz rfl)
        · exact fun A W sz ot hbel ap dp => sCall1 75 rfl (sD dp 18 .data) (sC (squareAt_as hm mx Hv29.out W ((hG.below hM2.below).below hbel)) ap sz (fun _ => rfl)) (wanted_of rfl rfl (sD dp 10 .guard))
        · exact fun A W sz ot hbel ap dp => kEqlW _ _ _ (v26) (v29) bb rfl (wanted_of rfl rfl (sD dp 10 .guard)) (sD dp 16 .data) (sD dp 19 .data) (F30.out) (sE ap sz rfl)
        · exact fun A W sz ot hbel ap dp => kPick _ _ _ true (.bool bb) rfl rfl (sD dp 10 .data) (sD dp 20 .data) (sE ap sz rfl)
        · exact fun A W sz ot hbel ap dp => kAssignV _ _ rfl rfl (sD dp 21 .data) (sE ap sz rfl)
        intro w3 hB3
        dsimp only [AllV]
        intro hap
        dsimp only [putAll, List.take, List.drop]
        go_frame
        have hM3 := hM2.on hB3
        clear hB3 hM2 hap
        go_wp2_with fail
        go_ret
        exact ⟨rfl, hM3.below⟩
      · skip
        have R := Lib.hid (show bb = false by rw [← Hb.out]; unfold onB; rw [if_neg (by decide)]; exact decide_eq_false fun e => hy e.2.1)
        have F13 := Lib.hid (show decide (x < m) = true by rw [Hm.out]; exact decide_eq_true hx)
        have F18 := Lib.hid (show decide (y < m) = false by rw [Hm.out]; exact decide_eq_false hy)
        clear Hb hx hy
        have hM0 := mm_nil w
        (try unfold WV)
        go_enter Tryd.func50, Tryd.ntmps50
        go_wp2_with (first
          | ((with_reducible change wpList _ _ _ (Oper.mk (some 1) _ _ _ _ _ :: _) _ _); refine mmBox hM0 _ _ (pcells x y false) rfl rfl rfl ?_; intro w1 hM1; clear hM0; go_frame)
          | ((with_reducible change wpList _ _ _ (Oper.mk (some 4) _ _ _ _ _ :: _) _ _); refine kFieldPoint2 _ _ rfl rfl rfl ?_; go_frame)
          | ((with_reducible change wpList _ _ _ (Oper.mk (some 5) _ _ _ _ _ :: _) _ _); refine kLoad1 _ _ _ _ _ _ _ _ rfl rfl rfl (hM1.get 0 rfl) Tryd.underlying4 rfl (pcells_at8 _ _ _) ?_; go_frame)
          | (go_at_call 74; refine (fP_any m _ (hG.below hM1.below)).mono ?_; rintro e w2 ⟨rfl, hR2, hB2⟩; have hM2 := hM1.new hR2 hB2; clear hB2 hR2 hM1; go_frame))
        refine region_symT 23 _ [] [] [.val (.pointer (some ⟨w1.heap.size, 0, none⟩)), .val (.pointer (some ⟨w.heap.size, 0, none⟩)), .val (.agg (wcells x)), .val (.bool true), .val (.bool true), .val (.pointer (some ⟨w1.heap.size, 0, none⟩)), .val (.pointer (some ⟨w.heap.size, 4, none⟩)), .val (.agg (wcells y)), .val (.bool false), .val (.bool false), .val (.bool false), .val (undef), .val (undef), .val (undef), .val (undef), .val (undef), .val (undef), .val (undef), .val (undef), .val (undef), .val (undef), .val (.bool false), .val (.bool false)] rfl (by kernel_rfl) (by kernel_rfl) (by kernel_rfl) (by kernel_rfl) rfl (by intro s hs; cases hs) (steps_all ⟨?_, ?_, ?_, ?_, ?_, ?_, ?_, ?_, ?_, ?_, ?_, ?_, ?_, ?_, ?_, ?_, ?_, ?_, ?_, ?_, ?_, ?_, ?_, trivial⟩) ?_
        · exact fun A W sz ot hbel ap dp => kMoveV _ _ rfl rfl (sO ot 3) (sE ap sz rfl)
        · exact fun A W sz ot hbel ap dp => kFieldPoint0 _ _ rfl rfl (sO ot 1) (sE ap sz rfl)
        · exact fun A W sz ot hbel ap dp => kLoadAs _ _ _ _ _ 4 _ _ _ rfl rfl (sD dp 1 .data) ((hM2.get 1 rfl).on hbel) Tryd.underlying24 rfl info_Wide (by rw [pcells_size]; decide) (pcells_at0 _ _ _) (sE ap sz rfl)
        · exact fun A W sz ot hbel ap dp => sCall2 56 rfl (sD dp 0 .data) (sD dp 2 .data) (sC (fIn_as hm (w1.heap.size) mx F13.out W ((hM2.get 0 rfl).on hbel)) ap sz (fun _ => rfl))
        · exact fun A W sz ot hbel ap dp => kMoveV _ _ rfl rfl (sD dp 3 .data) (sE ap sz rfl)
        · exact fun A W sz ot hbel ap dp => kMoveV _ _ rfl (wanted_of rfl rfl (sD dp 4 .guard)) (sO ot 3) (sE ap sz rfl)
        · exact fun A W sz ot hbel ap dp => kFieldPoint1 _ _ rfl (wanted_of rfl rfl (sD dp 4 .guard)) (sO ot 1) (sE ap sz rfl)
        · exact fun A W sz ot hbel ap dp => kLoadAs _ _ _ _ _ 4 _ _ _ rfl (wanted_of rfl rfl (sD dp 4 .guard)) (sD dp 6 .data) ((hM2.get 1 rfl).on hbel) Tryd.underlying24 rfl info_Wide (by rw [pcells_size]; decide) (pcells_at4 _ _ _) (sE ap sz rfl)
        · exact fun A W sz ot hbel ap dp => sCall2 56 rfl (sD dp 5 .data) (sD dp 7 .data) (sC (fIn_as hm (w1.heap.size) my F18.out W ((hM2.get 0 rfl).on hbel)) ap sz (fun _ => rfl)) (wanted_of rfl rfl (sD dp 4 .chain))
        · exact fun A W sz ot hbel ap dp => kPick _ _ _ true (.bool false) rfl rfl (sD dp 4 .data) (sD dp 8 .data) (sE ap sz rfl)
        · exact fun A W sz ot hbel ap dp => kMoveV _ _ rfl rfl (sD dp 9 .data) (sE ap sz rfl)
        · exact fun A W sz ot hbel ap dp => wpList_skip (unwanted_of rfl rfl (sD dp 10 .guard) (.inl rfl)) (sE ap sz rfl)
        · exact fun A W sz ot hbel ap dp => wpList_skip (unwanted_of rfl rfl (sD dp 10 .guard) (.inl rfl)) (sE ap sz rfl)
        · exact fun A W sz ot hbel ap dp => wpList_skip (unwanted_of rfl rfl (sD dp 10 .guard) (.inl rfl)) (sE ap sz rfl)
        · exact fun A W sz ot hbel ap dp => wpList_skip (unwanted_of rfl rfl (sD dp 10 .guard) (.inl rfl)) (sE ap sz rfl)
        · exact fun A W sz ot hbel ap dp => wpList_skip (unwanted_of rfl rfl (sD dp 10 .guard) (.inl rfl)) (sE ap sz rfl)
        · exact fun A W sz ot hbel ap dp => wpList_skip (unwanted_of rfl rfl (sD dp 10 .chain) (.inl rfl)) (sE ap sz rfl)
        · exact fun A W sz ot hbel ap dp => wpList_skip (unwanted_of rfl rfl (sD dp 10 .guard) (.inl rfl)) (sE ap sz rfl)
        · exact fun A W sz ot hbel ap dp => wpList_skip (unwanted_of rfl rfl (sD dp 10 .guard) (.inl rfl)) (sE ap sz rfl)
        · exact fun A W sz ot hbel ap dp => wpList_skip (unwanted_of rfl rfl (sD dp 10 .guard) (.inl rfl)) (sE ap sz rfl)
        · exact fun A W sz ot hbel ap dp => wpList_skip (unwanted_of rfl rfl (sD dp 10 .guard) (.inl rfl)) (sE ap sz rfl)
        · exact fun A W sz ot hbel ap dp => kPick _ _ _ false (.bool false) rfl rfl (sD dp 10 .data) rfl (sE ap sz rfl)
        · exact fun A W sz ot hbel ap dp => kAssignV _ _ rfl rfl (sD dp 21 .data) (sE ap sz rfl)
        intro w3 hB3
        dsimp only [AllV]
        intro hap
        dsimp only [putAll, List.take, List.drop]
        go_frame
        have hM3 := hM2.on hB3
        clear hB3 hM2 hap
        go_wp2_with fail
        go_ret
        exact ⟨by rw [R.out] <;> rfl, hM3.below⟩
    · skip
      have R := Lib.hid (show bb = false by rw [← Hb.out]; unfold onB; rw [if_neg (by decide)]; exact decide_eq_false fun e => hx e.1)
      have F13 := Lib.hid (show decide (x < m) = false by rw [Hm.out]; exact decide_eq_false hx)
      clear Hb hx
      have hM0 := mm_nil w
      (try unfold WV)
      go_enter Tryd.func50, Tryd.ntmps50
      go_wp2_with (first
        | ((with_reducible change wpList _ _ _ (Oper.mk (some 1) _ _ _ _ _ :: _) _ _); refine mmBox hM0 _ _ (pcells x y false) rfl rfl rfl ?_; intro w1 hM1; clear hM0; go_frame)
        | ((with_reducible change wpList _ _ _ (Oper.mk (some 4) _ _ _ _ _ :: _) _ _); refine kFieldPoint2 _ _ rfl rfl rfl ?_; go_frame)
        | ((with_reducible change wpList _ _ _ (Oper.mk (some 5) _ _ _ _ _ :: _) _ _); refine kLoad1 _ _ _ _ _ _ _ _ rfl rfl rfl (hM1.get 0 rfl) Tryd.underlying4 rfl (pcells_at8 _ _ _) ?_; go_frame)
        | (go_at_call 74; refine (fP_any m _ (hG.below hM1.below)).mono ?_; rintro e w2 ⟨rfl, hR2, hB2⟩; have hM2 := hM1.new hR2 hB2; clear hB2 hR2 hM1; go_frame))
      refine region_symT 23 _ [] [] [.val (.pointer (some ⟨w1.heap.size, 0, none⟩)), .val (.pointer (some ⟨w.heap.size, 0, none⟩)), .val (.agg (wcells x)), .val (.bool false), .val (.bool false), .val (undef), .val (undef), .val (undef), .val (undef), .val (.bool false), .val (.bool false), .val (undef), .val (undef), .val (undef), .val (undef), .val (undef), .val (undef), .val (undef), .val (undef), .val (undef), .val (undef), .val (.bool false), .val (.bool false)] rfl (by kernel_rfl) (by kernel_rfl) (by kernel_rfl) (by kernel_rfl) rfl (by intro s hs; cases hs) (steps_all ⟨?_, ?_, ?_, ?_, ?_, ?_, ?_, ?_, ?_, ?_, ?_, ?_, ?_, ?_, ?_, ?_, ?_, ?_, ?_, ?_, ?_, ?_, ?_, trivial⟩) ?_
      · exact fun A W sz ot hbel ap dp => kMoveV _ _ rfl rfl (sO ot 3) (sE ap sz rfl)
      · exact fun A W sz ot hbel ap dp => kFieldPoint0 _ _ rfl rfl (sO ot 1) (sE ap sz rfl)
      · exact fun A W sz ot hbel ap dp => kLoadAs _ _ _ _ _ 4 _ _ _ rfl rfl (sD dp 1 .data) ((hM2.get 1 rfl).on hbel) Tryd.underlying24 rfl info_Wide (by rw [pcells_size]; decide) (pcells_at0 _ _ _) (sE ap sz rfl)
      · exact fun A W sz ot hbel ap dp => sCall2 56 rfl (sD dp 0 .data) (sD dp 2 .data) (sC (fIn_as hm (w1.heap.size) mx F13.out W ((hM2.get 0 rfl).on hbel)) ap sz (fun _ => rfl))
      · exact fun A W sz ot hbel ap dp => kMoveV _ _ rfl rfl (sD dp 3 .data) (sE ap sz rfl)
      · exact fun A W sz ot hbel ap dp => wpList_skip (unwanted_of rfl rfl (sD dp 4 .guard) (.inl rfl)) (sE ap sz rfl)
      · exact fun A W sz ot hbel ap dp => wpList_skip (unwanted_of rfl rfl (sD dp 4 .guard) (.inl rfl)) (sE ap sz rfl)
      · exact fun A W sz ot hbel ap dp => wpList_skip (unwanted_of rfl rfl (sD dp 4 .guard) (.inl rfl)) (sE ap sz rfl)
      · exact fun A W sz ot hbel ap dp => wpList_skip (unwanted_of rfl rfl (sD dp 4 .chain) (.inl rfl)) (sE ap sz rfl)
      · exact fun A W sz ot hbel ap dp => kPick _ _ _ false (.bool false) rfl rfl (sD dp 4 .data) rfl (sE ap sz rfl)
      · exact fun A W sz ot hbel ap dp => kMoveV _ _ rfl rfl (sD dp 9 .data) (sE ap sz rfl)
      · exact fun A W sz ot hbel ap dp => wpList_skip (unwanted_of rfl rfl (sD dp 10 .guard) (.inl rfl)) (sE ap sz rfl)
      · exact fun A W sz ot hbel ap dp => wpList_skip (unwanted_of rfl rfl (sD dp 10 .guard) (.inl rfl)) (sE ap sz rfl)
      · exact fun A W sz ot hbel ap dp => wpList_skip (unwanted_of rfl rfl (sD dp 10 .guard) (.inl rfl)) (sE ap sz rfl)
      · exact fun A W sz ot hbel ap dp => wpList_skip (unwanted_of rfl rfl (sD dp 10 .guard) (.inl rfl)) (sE ap sz rfl)
      · exact fun A W sz ot hbel ap dp => wpList_skip (unwanted_of rfl rfl (sD dp 10 .guard) (.inl rfl)) (sE ap sz rfl)
      · exact fun A W sz ot hbel ap dp => wpList_skip (unwanted_of rfl rfl (sD dp 10 .chain) (.inl rfl)) (sE ap sz rfl)
      · exact fun A W sz ot hbel ap dp => wpList_skip (unwanted_of rfl rfl (sD dp 10 .guard) (.inl rfl)) (sE ap sz rfl)
      · exact fun A W sz ot hbel ap dp => wpList_skip (unwanted_of rfl rfl (sD dp 10 .guard) (.inl rfl)) (sE ap sz rfl)
      · exact fun A W sz ot hbel ap dp => wpList_skip (unwanted_of rfl rfl (sD dp 10 .guard) (.inl rfl)) (sE ap sz rfl)
      · exact fun A W sz ot hbel ap dp => wpList_skip (unwanted_of rfl rfl (sD dp 10 .guard) (.inl rfl)) (sE ap sz rfl)
      · exact fun A W sz ot hbel ap dp => kPick _ _ _ false (.bool false) rfl rfl (sD dp 10 .data) rfl (sE ap sz rfl)
      · exact fun A W sz ot hbel ap dp => kAssignV _ _ rfl rfl (sD dp 21 .data) (sE ap sz rfl)
      intro w3 hB3
      dsimp only [AllV]
      intro hap
      dsimp only [putAll, List.take, List.drop]
      go_frame
      have hM3 := hM2.on hB3
      clear hB3 hM2 hap
      go_wp2_with fail
      go_ret
      exact ⟨by rw [R.out] <;> rfl, hM3.below⟩
set_option maxRecDepth 100000 in
set_option maxHeartbeats 8000000 in
theorem cBase_any (w : World) (hB : GlobP 0 gX gY false w) : Calls Tryd.prog 28 #[] w fun e w' => e = .returned (.agg (ptc gPt)) ∧ Below w.heap.size w w' := by
  have R := Lib.hid (show Value.agg (pcells gX gY false) = .agg (ptc gPt) by show _ = Value.agg (pcells (FP gX).val (FP gY).val false); rw [← val_of (show gX < PP by decide) rfl, ← val_of (show gY < PP by decide) rfl])
  have hM0 := mm_nil w
  (try unfold WV)
  go_enter Tryd.func28, Tryd.ntmps28
  go_wp2_with (first
    | ((with_reducible change wpList _ _ _ (Oper.mk (some 0) _ _ _ _ _ :: _) _ _); refine mmAlloc hM0 _ _ rfl rfl zero_Point ?_; intro w1 hM1; clear hM0; go_frame)
    | ((with_reducible change wpList _ _ _ (Oper.mk (some 1) _ _ _ _ _ :: _) _ _); refine kLoadGP _ _ _ _ _ rfl rfl rfl (hB.below hM1.below) ?_; go_frame)
    | ((with_reducible change wpList _ _ _ (Oper.mk none (Op.store _ (Operand.tmp 0) (Operand.tmp 1)) _ _ _ _ :: _) _ _); refine mmStoreAt hM1 0 _ _ _ _ _ _ (pcells gX gY false) rfl rfl rfl rfl rfl (info_PointC _ _ _) (by simp only [pcells_size]) (pcells_one _ _ _) ?_; intro w2 hM2; dsimp only [List.set] at hM2; clear hM1; go_frame))
  exact result_row Tryd.results28 rfl (hM2.get 0 rfl) Tryd.underlying30 rfl (info_PointC _ _ _) rfl ⟨by rw [R.out] <;> rfl, hM2.below⟩
end Go.Proofs.YtfgffjmpjoipeaaDoor
