/-
  Contracts of package curve: On, Add, Base; and those of one more point, by points.
-/
import Derived.Test.YtecibidncelebaaDoorCvFuncs
namespace Go.Proofs.YtecibidncelebaaDoor
open Go Go.RowKit

open Cv
theorem FPm_ne {m v : Nat} (Hm : m = PP) (h : FP v ≠ 0) : v % m ≠ 0 := fun e => h (by subst Hm; exact Fin.ext e)
theorem eta_jac (a : Jac PP) : (⟨FP a.x.val, FP a.y.val, FP a.z.val⟩ : Jac PP) = a := by rw [FP_of_val, FP_of_val, FP_of_val]
theorem twice_as {m : Nat} (Hm0 : m = PP) (a : Jac PP) (w : World) (hG : Glob 2 m w) : Calls Tryd.prog 52 #[.agg (jc a)] w fun e w' => e = .returned (.agg (jc a.twice)) ∧ Below w.heap.size w w' := by
  have := twice_nat Hm0 a.x.isLt a.y.isLt a.z.isLt w hG
  rw [eta_jac] at this; exact this
theorem point_as (a : Jac PP) (w : World) (hG : Glob 2 PP w) (hO : GlobP 0 0 0 true w) : Calls Tryd.prog 55 #[.agg (jc a)] w fun e w' => e = .returned (.agg (ptc (a.pt ivP))) ∧ Below w.heap.size w w' := by
  have := point_nat a.x.isLt a.y.isLt a.z.isLt w hG hO
  rw [eta_jac] at this; exact this
theorem plus_as (a : Jac PP) (q : Pt PP) (w : World) (hG : Glob 2 PP w) (hO : GlobP 0 0 0 true w) : Calls Tryd.prog 54 #[.agg (jc a), .agg (ptc q)] w fun e w' => e = .returned (.agg (jc (a.plus q))) ∧ Below w.heap.size w w' := by
  cases q with
  | o => exact plus_o w hO
  | mk u v =>
    unfold Jac.plus
    simp only
    by_cases hz : a.z = 0
    · rw [if_pos hz]
      have := plus_first a.x.isLt a.y.isLt a.z.isLt u.isLt v.isLt (by rw [hz]; rfl) w hG hO
      rw [FP_of_val, FP_of_val] at this; exact this
    · rw [if_neg hz]
      have hz' : FP a.z.val ≠ 0 := by rw [FP_of_val]; exact hz
      by_cases ha : a.along u = 0
      · have ha' : (⟨FP a.x.val, FP a.y.val, FP a.z.val⟩ : Jac PP).along (FP u.val) = 0 := by rw [eta_jac, FP_of_val]; exact ha
        by_cases hu : a.up v = 0
        · rw [if_pos ⟨ha, hu⟩]
          have := plus_same a.x.isLt a.y.isLt a.z.isLt u.isLt v.isLt hz' ha' (by rw [eta_jac, FP_of_val]; exact hu) w hG hO
          rw [eta_jac] at this; exact this
        · rw [if_neg fun e => hu e.2]
          have := plus_across a.x.isLt a.y.isLt a.z.isLt u.isLt v.isLt hz' ha' (by rw [eta_jac, FP_of_val]; exact hu) w hG hO
          rw [eta_jac, FP_of_val, FP_of_val] at this; exact this
      · rw [if_neg fun e => ha e.1]
        have := plus_chord a.x.isLt a.y.isLt a.z.isLt u.isLt v.isLt hz' (by rw [eta_jac, FP_of_val]; exact ha) w hG hO
        rw [eta_jac, FP_of_val, FP_of_val] at this; exact this
/-- is it on the curve? -/
def onB (x y : Nat) (b : Bool) : Bool := if b then decide (x = 0 ∧ y = 0) else decide (x < PP ∧ y < PP ∧ FP y * FP y = FP x * FP x * FP x + 7)
theorem onB_pt {p : Pt PP} (h : p.On) : ∃ x y b, ptc p = pcells x y b ∧ x < M256 ∧ y < M256 ∧ onB x y b = true := by
  cases p with
  | o => exact ⟨0, 0, true, rfl, by decide, by decide, rfl⟩
  | mk x y =>
    have h : y * y = x * x * x + 7 := h
    exact ⟨x.val, y.val, false, rfl, val_lt x, val_lt y, decide_eq_true ⟨x.isLt, y.isLt, by rw [FP_of_val, FP_of_val]; exact h⟩⟩
theorem sq_FP {m x v : Nat} (Hm : m = PP) (h : (x * x % m * x % m + 7) % m = v) : FP v = FP x * FP x * FP x + 7 := by
  subst h; subst Hm; rw [FP_mod, FP_add, FP_mod, FP_mul, FP_mod, FP_mul]; rfl
set_option maxRecDepth 100000 in
set_option maxHeartbeats 8000000 in
theorem cOn_any {x y : Nat} (mx : x < M256) (my : y < M256) (b : Bool) (w : World) (hG : Glob 2 PP w) (hO : GlobP 0 0 0 true w) :
    Calls Tryd.prog 20 #[.agg (pcells x y b)] w fun e w' => e = .returned (.bool (onB x y b)) ∧ Below w.heap.size w w' := by
  obtain ⟨m, Hm⟩ : ∃ m, Hid (m = PP) := ⟨_, Lib.hid rfl⟩
  have hm : Modu m := by rw [Hm.out]; exact modu_P
  rw [← Hm.out] at hG
  obtain ⟨bb, Hb⟩ : ∃ c, Hid (onB x y b = c) := ⟨_, Lib.hid rfl⟩
  rw [Hb.out]
  cases b with
  | true =>
    have F8 := Lib.hid (show decide (x % M256 = 0 % M256 ∧ y % M256 = 0 % M256 ∧ true = true) = bb by rw [← Hb.out, Nat.mod_eq_of_lt mx, Nat.mod_eq_of_lt my]; unfold onB; simp)
    clear Hb
    have hM0 := mm_nil w
    (try unfold WV)
    go_enter Tryd.func20, Tryd.ntmps20
    go_wp2_with (first
      | ((with_reducible change wpList _ _ _ (Oper.mk (some 1) _ _ _ _ _ :: _) _ _); refine mmBox hM0 _ _ (pcells x y true) rfl rfl rfl ?_; intro w1 hM1; clear hM0; go_frame)
      | ((with_reducible change wpList _ _ _ (Oper.mk (some 4) _ _ _ _ _ :: _) _ _); refine kFieldPoint2 _ _ rfl rfl rfl ?_; go_frame)
      | ((with_reducible change wpList _ _ _ (Oper.mk (some 5) _ _ _ _ _ :: _) _ _); refine kLoad1 _ _ _ _ _ _ _ _ rfl rfl rfl (hM1.get 0 rfl) Tryd.underlying4 rfl (pcells_at8 _ _ _) ?_; go_frame)
      | ((with_reducible change wpList _ _ _ (Oper.mk (some 6) _ _ _ _ _ :: _) _ _); refine kLoadRow _ _ _ _ _ _ rfl rfl rfl (hM1.get 0 rfl) Tryd.underlying30 rfl (info_PointC _ _ _) ?_; go_frame)
      | ((with_reducible change wpList _ _ _ (Oper.mk (some 7) _ _ _ _ _ :: _) _ _); refine kLoadGP _ _ _ _ _ rfl rfl rfl (hO.below hM1.below) ?_; go_frame)
      | ((with_reducible change wpList _ _ _ (Oper.mk (some 8) _ _ _ _ _ :: _) _ _); refine kEqlP _ _ _ x y true 0 0 true bb rfl rfl rfl rfl (F8.out) ?_; go_frame))
    go_ret
    exact ⟨rfl, hM1.below⟩
  | false =>
    by_cases hx : x < PP
    · by_cases hy : y < PP
      · skip
        obtain ⟨v26, Hv26⟩ : ∃ n, Hid (y * y % m = n) := ⟨_, Lib.hid rfl⟩
        have mv26 : v26 < M256 := by rw [← Hv26.out]; exact hm.mod _
        obtain ⟨v29, Hv29⟩ : ∃ n, Hid ((x * x % m * x % m + 7) % m = n) := ⟨_, Lib.hid rfl⟩
        have mv29 : v29 < M256 := by rw [← Hv29.out]; exact hm.mod _
        have F13 := Lib.hid (show decide (x < m) = true by rw [Hm.out]; exact decide_eq_true hx)
        have F18 := Lib.hid (show decide (y < m) = true by rw [Hm.out]; exact decide_eq_true hy)
        have F30 := Lib.hid (show decide (v26 % M256 = v29 % M256) = bb by
            rw [Nat.mod_eq_of_lt mv26, Nat.mod_eq_of_lt mv29, ← Hb.out]
            have E1 := FPm_mul Hm.out Hv26.out
            have E2 := sq_FP Hm.out Hv29.out
            have L1 := FPm_lt Hm.out Hv26.out
            have L2 := FPm_lt Hm.out Hv29.out
            unfold onB
            rw [if_neg (by decide)]
            refine decide_eq_decide.2 ⟨fun e => ⟨hx, hy, by rw [← E1, ← E2, e]⟩, fun e => FP_inj L1 L2 (by rw [E1, E2]; exact e.2.2)⟩)
        clear Hb hx hy
        have hM0 := mm_nil w
        (try unfold WV)
        go_enter Tryd.func20, Tryd.ntmps20
        go_wp2_with (first
          | ((with_reducible change wpList _ _ _ (Oper.mk (some 1) _ _ _ _ _ :: _) _ _); refine mmBox hM0 _ _ (pcells x y false) rfl rfl rfl ?_; intro w1 hM1; clear hM0; go_frame)
          | ((with_reducible change wpList _ _ _ (Oper.mk (some 4) _ _ _ _ _ :: _) _ _); refine kFieldPoint2 _ _ rfl rfl rfl ?_; go_frame)
          | ((with_reducible change wpList _ _ _ (Oper.mk (some 5) _ _ _ _ _ :: _) _ _); refine kLoad1 _ _ _ _ _ _ _ _ rfl rfl rfl (hM1.get 0 rfl) Tryd.underlying4 rfl (pcells_at8 _ _ _) ?_; go_frame)
          | (go_at_call 32; refine (fP_any m _ (hG.below hM1.below)).mono ?_; rintro e w2 ⟨rfl, hR2, hB2⟩; have hM2 := hM1.new hR2 hB2; clear hB2 hR2 hM1; go_frame))
        refine region_symT 23 _ [] [] [.val (.pointer (some ⟨w1.heap.size, 0, none⟩)), .val (.pointer (some ⟨w.heap.size, 0, none⟩)), .val (.agg (wcells x)), .val (.bool true), .val (.bool true), .val (.pointer (some ⟨w1.heap.size, 0, none⟩)), .val (.pointer (some ⟨w.heap.size, 4, none⟩)), .val (.agg (wcells y)), .val (.bool true), .val (.bool true), .val (.bool true), .val (.pointer (some ⟨w1.heap.size, 0, none⟩)), .val (.pointer (some ⟨w.heap.size, 4, none⟩)), .val (.agg (wcells y)), .val (.pointer (some ⟨w.heap.size, 4, none⟩)), .val (.agg (wcells y)), .val (.agg (wcells v26)), .val (.pointer (some ⟨w.heap.size, 0, none⟩)), .val (.agg (wcells x)), .val (.agg (wcells v29)), .val (.bool bb), .val (.bool bb), .val (.bool bb)] rfl (by kernel_rfl) (by kernel_rfl) (by kernel_rfl) (by kernel_rfl) rfl (by intro s hs; cases hs) (steps_all ⟨?_, ?_, ?_, ?_, ?_, ?_, ?_, ?_, ?_, ?_, ?_, ?_, ?_, ?_, ?_, ?_, ?_, ?_, ?_, ?_, ?_, ?_, ?_, trivial⟩) ?_
        · intro A W hsz hoth hbel hX hdep
          exact kMoveV _ (.pointer (some ⟨w1.heap.size, 0, none⟩)) rfl rfl ((hoth 3 (free2_of (by kernel_rfl))).trans rfl) (symVT hX hsz rfl (show 10 < 32 by decide) rfl (Below.refl _ _) rfl)
        · intro A W hsz hoth hbel hX hdep
          exact kFieldPoint0 _ _ rfl rfl ((hoth 1 (free2_of (by kernel_rfl))).trans rfl) (symVT hX hsz rfl (show 11 < 32 by decide) rfl (Below.refl _ _) rfl)
        · intro A W hsz hoth hbel hX hdep
          exact kLoadAs _ _ _ _ _ 4 _ _ _ rfl rfl (by have h := hdep ⟨1, .data⟩ (by simp) rfl; exact h) ((hM2.get 1 rfl).on hbel) Tryd.underlying24 rfl info_Wide (by rw [pcells_size]; decide) (pcells_at0 _ _ _) (symVT hX hsz rfl (show 12 < 32 by decide) rfl (Below.refl _ _) rfl)
        · intro A W hsz hoth hbel hX hdep
          refine kCall2 35 _ _ _ _ _ rfl rfl (by kernel_rfl) (by have h := hdep ⟨0, .data⟩ (by simp) rfl; exact h) (by have h := hdep ⟨2, .data⟩ (by simp) rfl; exact h) ?_
          refine (fIn_as hm (w1.heap.size) mx F13.out W ((hM2.get 0 rfl).on hbel)).mono ?_
          rintro e r ⟨rfl, hBc⟩
          exact ⟨_, rfl, (symVT hX hsz rfl (show 13 < 32 by decide) rfl hBc rfl)⟩
        · intro A W hsz hoth hbel hX hdep
          exact kMoveV _ (.bool true) rfl rfl (by have h := hdep ⟨3, .data⟩ (by simp) rfl; exact h) (symVT hX hsz rfl (show 14 < 32 by decide) rfl (Below.refl _ _) rfl)
        · intro A W hsz hoth hbel hX hdep
          exact kMoveV _ (.pointer (some ⟨w1.heap.size, 0, none⟩)) rfl (wanted_of rfl rfl (by have h := hdep ⟨4, .guard⟩ (by simp) rfl; exact h)) ((hoth 3 (free2_of (by kernel_rfl))).trans rfl) (symVT hX hsz rfl (show 15 < 32 by decide) rfl (Below.refl _ _) rfl)
        · intro A W hsz hoth hbel hX hdep
          exact kFieldPoint1 _ _ rfl (wanted_of rfl rfl (by have h := hdep ⟨4, .guard⟩ (by simp) rfl; exact h)) ((hoth 1 (free2_of (by kernel_rfl))).trans rfl) (symVT hX hsz rfl (show 16 < 32 by decide) rfl (Below.refl _ _) rfl)
        · intro A W hsz hoth hbel hX hdep
          exact kLoadAs _ _ _ _ _ 4 _ _ _ rfl (wanted_of rfl rfl (by have h := hdep ⟨4, .guard⟩ (by simp) rfl; exact h)) (by have h := hdep ⟨6, .data⟩ (by simp) rfl; exact h) ((hM2.get 1 rfl).on hbel) Tryd.underlying24 rfl info_Wide (by rw [pcells_size]; decide) (pcells_at4 _ _ _) (symVT hX hsz rfl (show 17 < 32 by decide) rfl (Below.refl _ _) rfl)
        · intro A W hsz hoth hbel hX hdep
          refine kCall2 35 _ _ _ _ _ rfl (wanted_of rfl rfl (by have h := hdep ⟨4, .chain⟩ (by simp) rfl; exact h)) (by kernel_rfl) (by have h := hdep ⟨5, .data⟩ (by simp) rfl; exact h) (by have h := hdep ⟨7, .data⟩ (by simp) rfl; exact h) ?_
          refine (fIn_as hm (w1.heap.size) my F18.out W ((hM2.get 0 rfl).on hbel)).mono ?_
          rintro e r ⟨rfl, hBc⟩
          exact ⟨_, rfl, (symVT hX hsz rfl (show 18 < 32 by decide) rfl hBc rfl)⟩
        · intro A W hsz hoth hbel hX hdep
          exact kPick _ _ _ true (.bool true) rfl rfl (by have h := hdep ⟨4, .data⟩ (by simp) rfl; exact h) (by have h := hdep ⟨8, .data⟩ (by simp) rfl; exact h) (symVT hX hsz rfl (show 19 < 32 by decide) rfl (Below.refl _ _) rfl)
        · intro A W hsz hoth hbel hX hdep
          exact kMoveV _ (.bool true) rfl rfl (by have h := hdep ⟨9, .data⟩ (by simp) rfl; exact h) (symVT hX hsz rfl (show 20 < 32 by decide) rfl (Below.refl _ _) rfl)
        · intro A W hsz hoth hbel hX hdep
          exact kMoveV _ (.pointer (some ⟨w1.heap.size, 0, none⟩)) rfl (wanted_of rfl rfl (by have h := hdep ⟨10, .guard⟩ (by simp) rfl; exact h)) ((hoth 3 (free2_of (by kernel_rfl))).trans rfl) (symVT hX hsz rfl (show 21 < 32 by decide) rfl (Below.refl _ _) rfl)
        · intro A W hsz hoth hbel hX hdep
          exact kFieldPoint1 _ _ rfl (wanted_of rfl rfl (by have h := hdep ⟨10, .guard⟩ (by simp) rfl; exact h)) ((hoth 1 (free2_of (by kernel_rfl))).trans rfl) (symVT hX hsz rfl (show 22 < 32 by decide) rfl (Below.refl _ _) rfl)
        · intro A W hsz hoth hbel hX hdep
          exact kLoadAs _ _ _ _ _ 4 _ _ _ rfl (wanted_of rfl rfl (by have h := hdep ⟨10, .guard⟩ (by simp) rfl; exact h)) (by have h := hdep ⟨12, .data⟩ (by simp) rfl; exact h) ((hM2.get 1 rfl).on hbel) Tryd.underlying24 rfl info_Wide (by rw [pcells_size]; decide) (pcells_at4 _ _ _) (symVT hX hsz rfl (show 23 < 32 by decide) rfl (Below.refl _ _) rfl)
        · intro A W hsz hoth hbel hX hdep
          exact kFieldPoint1 _ _ rfl (wanted_of rfl rfl (by have h := hdep ⟨10, .guard⟩ (by simp) rfl; exact h)) ((hoth 1 (free2_of (by kernel_rfl))).trans rfl) (symVT hX hsz rfl (show 24 < 32 by decide) rfl (Below.refl _ _) rfl)
        · intro A W hsz hoth hbel hX hdep
          exact kLoadAs _ _ _ _ _ 4 _ _ _ rfl (wanted_of rfl rfl (by have h := hdep ⟨10, .guard⟩ (by simp) rfl; exact h)) (by have h := hdep ⟨14, .data⟩ (by simp) rfl; exact h) ((hM2.get 1 rfl).on hbel) Tryd.underlying24 rfl info_Wide (by rw [pcells_size]; decide) (pcells_at4 _ _ _) (symVT hX hsz rfl (show 25 < 32 by decide) rfl (Below.refl _ _) rfl)
        · intro A W hsz hoth hbel hX hdep
          refine kCall3 38 _ _ _ _ _ _ _ rfl (wanted_of rfl rfl (by have h := hdep ⟨10, .chain⟩ (by simp) rfl; exact h)) (by kernel_rfl) (by have h := hdep ⟨11, .data⟩ (by simp) rfl; exact h) (by have h := hdep ⟨13, .data⟩ (by simp) rfl; exact h) (by have h := hdep ⟨15, .data⟩ (by simp) rfl; exact h) ?_
          refine (fMul_as hm (w1.heap.size) my my Hv26.out W ((hM2.get 0 rfl).on hbel)).mono ?_
          rintro e r ⟨rfl, hBc⟩
          exact ⟨_, rfl, (symVT hX hsz rfl (show 26 < 32 by decide) rfl hBc rfl)⟩
        · intro A W hsz hoth hbel hX hdep
          exact kFieldPoint0 _ _ rfl (wanted_of rfl rfl (by have h := hdep ⟨10, .guard⟩ (by simp) rfl; exact h)) ((hoth 1 (free2_of (by kernel_rfl))).trans rfl) (symVT hX hsz rfl (show 27 < 32 by decide) rfl (Below.refl _ _) rfl)
        · intro A W hsz hoth hbel hX hdep
          exact kLoadAs _ _ _ _ _ 4 _ _ _ rfl (wanted_of rfl rfl (by have h := hdep ⟨10, .guard⟩ (by simp) rfl; exact h)) (by have h := hdep ⟨17, .data⟩ (by simp) rfl; exact h) ((hM2.get 1 rfl).on hbel) Tryd.underlying24 rfl info_Wide (by rw [pcells_size]; decide) (pcells_at0 _ _ _) (symVT hX hsz rfl (show 28 < 32 by decide) rfl (Below.refl _ _) rfl)
        · intro A W hsz hoth hbel hX hdep
          refine kCall1 34 _ _ _ rfl (wanted_of rfl rfl (by have h := hdep ⟨10, .guard⟩ (by simp) rfl; exact h)) (by kernel_rfl) (by have h := hdep ⟨18, .data⟩ (by simp) rfl; exact h) ?_
          refine (squareAt_as hm mx Hv29.out W ((hG.below hM2.below).below hbel)).mono ?_
          rintro e r ⟨rfl, hBc⟩
          exact ⟨_, rfl, (symVT hX hsz rfl (show 29 < 32 by decide) rfl hBc rfl)⟩
        · intro A W hsz hoth hbel hX hdep
          exact kEqlW _ _ _ (v26) (v29) bb rfl (wanted_of rfl rfl (by have h := hdep ⟨10, .guard⟩ (by simp) rfl; exact h)) (by have h := hdep ⟨16, .data⟩ (by simp) rfl; exact h) (by have h := hdep ⟨19, .data⟩ (by simp) rfl; exact h) (F30.out) (symVT hX hsz rfl (show 30 < 32 by decide) rfl (Below.refl _ _) rfl)
        · intro A W hsz hoth hbel hX hdep
          exact kPick _ _ _ true (.bool bb) rfl rfl (by have h := hdep ⟨10, .data⟩ (by simp) rfl; exact h) (by have h := hdep ⟨20, .data⟩ (by simp) rfl; exact h) (symVT hX hsz rfl (show 31 < 32 by decide) rfl (Below.refl _ _) rfl)
        · intro A W hsz hoth hbel hX hdep
          exact kAssignV _ (.bool bb) rfl rfl (by have h := hdep ⟨21, .data⟩ (by simp) rfl; exact h) (symVT hX hsz rfl (show 2 < 32 by decide) rfl (Below.refl _ _) rfl)
        intro w3 hB3
        dsimp only [AllV]
        intro hap
        dsimp only [putAll, List.take, List.drop]
        go_frame
        have hM3 := hM2.on hB3
        clear hB3 hM2 hap
        go_wp2_with fail
        go_ret
        exact ⟨rfl, hM3.below⟩
      · skip
        have R := Lib.hid (show bb = false by rw [← Hb.out]; unfold onB; rw [if_neg (by decide)]; exact decide_eq_false fun e => hy e.2.1)
        have F13 := Lib.hid (show decide (x < m) = true by rw [Hm.out]; exact decide_eq_true hx)
        have F18 := Lib.hid (show decide (y < m) = false by rw [Hm.out]; exact decide_eq_false hy)
        clear Hb hx hy
        have hM0 := mm_nil w
        (try unfold WV)
        go_enter Tryd.func20, Tryd.ntmps20
        go_wp2_with (first
          | ((with_reducible change wpList _ _ _ (Oper.mk (some 1) _ _ _ _ _ :: _) _ _); refine mmBox hM0 _ _ (pcells x y false) rfl rfl rfl ?_; intro w1 hM1; clear hM0; go_frame)
          | ((with_reducible change wpList _ _ _ (Oper.mk (some 4) _ _ _ _ _ :: _) _ _); refine kFieldPoint2 _ _ rfl rfl rfl ?_; go_frame)
          | ((with_reducible change wpList _ _ _ (Oper.mk (some 5) _ _ _ _ _ :: _) _ _); refine kLoad1 _ _ _ _ _ _ _ _ rfl rfl rfl (hM1.get 0 rfl) Tryd.underlying4 rfl (pcells_at8 _ _ _) ?_; go_frame)
          | (go_at_call 32; refine (fP_any m _ (hG.below hM1.below)).mono ?_; rintro e w2 ⟨rfl, hR2, hB2⟩; have hM2 := hM1.new hR2 hB2; clear hB2 hR2 hM1; go_frame))
        refine region_symT 23 _ [] [] [.val (.pointer (some ⟨w1.heap.size, 0, none⟩)), .val (.pointer (some ⟨w.heap.size, 0, none⟩)), .val (.agg (wcells x)), .val (.bool true), .val (.bool true), .val (.pointer (some ⟨w1.heap.size, 0, none⟩)), .val (.pointer (some ⟨w.heap.size, 4, none⟩)), .val (.agg (wcells y)), .val (.bool false), .val (.bool false), .val (.bool false), .val (undef), .val (undef), .val (undef), .val (undef), .val (undef), .val (undef), .val (undef), .val (undef), .val (undef), .val (undef), .val (.bool false), .val (.bool false)] rfl (by kernel_rfl) (by kernel_rfl) (by kernel_rfl) (by kernel_rfl) rfl (by intro s hs; cases hs) (steps_all ⟨?_, ?_, ?_, ?_, ?_, ?_, ?_, ?_, ?_, ?_, ?_, ?_, ?_, ?_, ?_, ?_, ?_, ?_, ?_, ?_, ?_, ?_, ?_, trivial⟩) ?_
        · intro A W hsz hoth hbel hX hdep
          exact kMoveV _ (.pointer (some ⟨w1.heap.size, 0, none⟩)) rfl rfl ((hoth 3 (free2_of (by kernel_rfl))).trans rfl) (symVT hX hsz rfl (show 10 < 32 by decide) rfl (Below.refl _ _) rfl)
        · intro A W hsz hoth hbel hX hdep
          exact kFieldPoint0 _ _ rfl rfl ((hoth 1 (free2_of (by kernel_rfl))).trans rfl) (symVT hX hsz rfl (show 11 < 32 by decide) rfl (Below.refl _ _) rfl)
        · intro A W hsz hoth hbel hX hdep
          exact kLoadAs _ _ _ _ _ 4 _ _ _ rfl rfl (by have h := hdep ⟨1, .data⟩ (by simp) rfl; exact h) ((hM2.get 1 rfl).on hbel) Tryd.underlying24 rfl info_Wide (by rw [pcells_size]; decide) (pcells_at0 _ _ _) (symVT hX hsz rfl (show 12 < 32 by decide) rfl (Below.refl _ _) rfl)
        · intro A W hsz hoth hbel hX hdep
          refine kCall2 35 _ _ _ _ _ rfl rfl (by kernel_rfl) (by have h := hdep ⟨0, .data⟩ (by simp) rfl; exact h) (by have h := hdep ⟨2, .data⟩ (by simp) rfl; exact h) ?_
          refine (fIn_as hm (w1.heap.size) mx F13.out W ((hM2.get 0 rfl).on hbel)).mono ?_
          rintro e r ⟨rfl, hBc⟩
          exact ⟨_, rfl, (symVT hX hsz rfl (show 13 < 32 by decide) rfl hBc rfl)⟩
        · intro A W hsz hoth hbel hX hdep
          exact kMoveV _ (.bool true) rfl rfl (by have h := hdep ⟨3, .data⟩ (by simp) rfl; exact h) (symVT hX hsz rfl (show 14 < 32 by decide) rfl (Below.refl _ _) rfl)
        · intro A W hsz hoth hbel hX hdep
          exact kMoveV _ (.pointer (some ⟨w1.heap.size, 0, none⟩)) rfl (wanted_of rfl rfl (by have h := hdep ⟨4, .guard⟩ (by simp) rfl; exact h)) ((hoth 3 (free2_of (by kernel_rfl))).trans rfl) (symVT hX hsz rfl (show 15 < 32 by decide) rfl (Below.refl _ _) rfl)
        · intro A W hsz hoth hbel hX hdep
          exact kFieldPoint1 _ _ rfl (wanted_of rfl rfl (by have h := hdep ⟨4, .guard⟩ (by simp) rfl; exact h)) ((hoth 1 (free2_of (by kernel_rfl))).trans rfl) (symVT hX hsz rfl (show 16 < 32 by decide) rfl (Below.refl _ _) rfl)
        · intro A W hsz hoth hbel hX hdep
          exact kLoadAs _ _ _ _ _ 4 _ _ _ rfl (wanted_of rfl rfl (by have h := hdep ⟨4, .guard⟩ (by simp) rfl; exact h)) (by have h := hdep ⟨6, .data⟩ (by simp) rfl; exact h) ((hM2.get 1 rfl).on hbel) Tryd.underlying24 rfl info_Wide (by rw [pcells_size]; decide) (pcells_at4 _ _ _) (symVT hX hsz rfl (show 17 < 32 by decide) rfl (Below.refl _ _) rfl)
        · intro A W hsz hoth hbel hX hdep
          refine kCall2 35 _ _ _ _ _ rfl (wanted_of rfl rfl (by have h := hdep ⟨4, .chain⟩ (by simp) rfl; exact h)) (by kernel_rfl) (by have h := hdep ⟨5, .data⟩ (by simp) rfl; exact h) (by have h := hdep ⟨7, .data⟩ (by simp) rfl; exact h) ?_
          refine (fIn_as hm (w1.heap.size) my F18.out W ((hM2.get 0 rfl).on hbel)).mono ?_
          rintro e r ⟨rfl, hBc⟩
          exact ⟨_, rfl, (symVT hX hsz rfl (show 18 < 32 by decide) rfl hBc rfl)⟩
        · intro A W hsz hoth hbel hX hdep
          exact kPick _ _ _ true (.bool false) rfl rfl (by have h := hdep ⟨4, .data⟩ (by simp) rfl; exact h) (by have h := hdep ⟨8, .data⟩ (by simp) rfl; exact h) (symVT hX hsz rfl (show 19 < 32 by decide) rfl (Below.refl _ _) rfl)
        · intro A W hsz hoth hbel hX hdep
          exact kMoveV _ (.bool false) rfl rfl (by have h := hdep ⟨9, .data⟩ (by simp) rfl; exact h) (symVT hX hsz rfl (show 20 < 32 by decide) rfl (Below.refl _ _) rfl)
        · intro A W hsz hoth hbel hX hdep
          exact wpList_skip (unwanted_of rfl rfl (by have h := hdep ⟨10, .guard⟩ (by simp) rfl; exact h) (.inl rfl)) (symVT hX hsz rfl (show 21 < 32 by decide) rfl (Below.refl _ _) rfl)
        · intro A W hsz hoth hbel hX hdep
          exact wpList_skip (unwanted_of rfl rfl (by have h := hdep ⟨10, .guard⟩ (by simp) rfl; exact h) (.inl rfl)) (symVT hX hsz rfl (show 22 < 32 by decide) rfl (Below.refl _ _) rfl)
        · intro A W hsz hoth hbel hX hdep
          exact wpList_skip (unwanted_of rfl rfl (by have h := hdep ⟨10, .guard⟩ (by simp) rfl; exact h) (.inl rfl)) (symVT hX hsz rfl (show 23 < 32 by decide) rfl (Below.refl _ _) rfl)
        · intro A W hsz hoth hbel hX hdep
          exact wpList_skip (unwanted_of rfl rfl (by have h := hdep ⟨10, .guard⟩ (by simp) rfl; exact h) (.inl rfl)) (symVT hX hsz rfl (show 24 < 32 by decide) rfl (Below.refl _ _) rfl)
        · intro A W hsz hoth hbel hX hdep
          exact wpList_skip (unwanted_of rfl rfl (by have h := hdep ⟨10, .guard⟩ (by simp) rfl; exact h) (.inl rfl)) (symVT hX hsz rfl (show 25 < 32 by decide) rfl (Below.refl _ _) rfl)
        · intro A W hsz hoth hbel hX hdep
          exact wpList_skip (unwanted_of rfl rfl (by have h := hdep ⟨10, .chain⟩ (by simp) rfl; exact h) (.inl rfl)) (symVT hX hsz rfl (show 26 < 32 by decide) rfl (Below.refl _ _) rfl)
        · intro A W hsz hoth hbel hX hdep
          exact wpList_skip (unwanted_of rfl rfl (by have h := hdep ⟨10, .guard⟩ (by simp) rfl; exact h) (.inl rfl)) (symVT hX hsz rfl (show 27 < 32 by decide) rfl (Below.refl _ _) rfl)
        · intro A W hsz hoth hbel hX hdep
          exact wpList_skip (unwanted_of rfl rfl (by have h := hdep ⟨10, .guard⟩ (by simp) rfl; exact h) (.inl rfl)) (symVT hX hsz rfl (show 28 < 32 by decide) rfl (Below.refl _ _) rfl)
        · intro A W hsz hoth hbel hX hdep
          exact wpList_skip (unwanted_of rfl rfl (by have h := hdep ⟨10, .guard⟩ (by simp) rfl; exact h) (.inl rfl)) (symVT hX hsz rfl (show 29 < 32 by decide) rfl (Below.refl _ _) rfl)
        · intro A W hsz hoth hbel hX hdep
          exact wpList_skip (unwanted_of rfl rfl (by have h := hdep ⟨10, .guard⟩ (by simp) rfl; exact h) (.inl rfl)) (symVT hX hsz rfl (show 30 < 32 by decide) rfl (Below.refl _ _) rfl)
        · intro A W hsz hoth hbel hX hdep
          exact kPick _ _ _ false (.bool false) rfl rfl (by have h := hdep ⟨10, .data⟩ (by simp) rfl; exact h) rfl (symVT hX hsz rfl (show 31 < 32 by decide) rfl (Below.refl _ _) rfl)
        · intro A W hsz hoth hbel hX hdep
          exact kAssignV _ (.bool false) rfl rfl (by have h := hdep ⟨21, .data⟩ (by simp) rfl; exact h) (symVT hX hsz rfl (show 2 < 32 by decide) rfl (Below.refl _ _) rfl)
        intro w3 hB3
        dsimp only [AllV]
        intro hap
        dsimp only [putAll, List.take, List.drop]
        go_frame
        have hM3 := hM2.on hB3
        clear hB3 hM2 hap
        go_wp2_with fail
        go_ret
        exact ⟨by rw [R.out] <;> rfl, hM3.below⟩
    · skip
      have R := Lib.hid (show bb = false by rw [← Hb.out]; unfold onB; rw [if_neg (by decide)]; exact decide_eq_false fun e => hx e.1)
      have F13 := Lib.hid (show decide (x < m) = false by rw [Hm.out]; exact decide_eq_false hx)
      clear Hb hx
      have hM0 := mm_nil w
      (try unfold WV)
      go_enter Tryd.func20, Tryd.ntmps20
      go_wp2_with (first
        | ((with_reducible change wpList _ _ _ (Oper.mk (some 1) _ _ _ _ _ :: _) _ _); refine mmBox hM0 _ _ (pcells x y false) rfl rfl rfl ?_; intro w1 hM1; clear hM0; go_frame)
        | ((with_reducible change wpList _ _ _ (Oper.mk (some 4) _ _ _ _ _ :: _) _ _); refine kFieldPoint2 _ _ rfl rfl rfl ?_; go_frame)
        | ((with_reducible change wpList _ _ _ (Oper.mk (some 5) _ _ _ _ _ :: _) _ _); refine kLoad1 _ _ _ _ _ _ _ _ rfl rfl rfl (hM1.get 0 rfl) Tryd.underlying4 rfl (pcells_at8 _ _ _) ?_; go_frame)
        | (go_at_call 32; refine (fP_any m _ (hG.below hM1.below)).mono ?_; rintro e w2 ⟨rfl, hR2, hB2⟩; have hM2 := hM1.new hR2 hB2; clear hB2 hR2 hM1; go_frame))
      refine region_symT 23 _ [] [] [.val (.pointer (some ⟨w1.heap.size, 0, none⟩)), .val (.pointer (some ⟨w.heap.size, 0, none⟩)), .val (.agg (wcells x)), .val (.bool false), .val (.bool false), .val (undef), .val (undef), .val (undef), .val (undef), .val (.bool false), .val (.bool false), .val (undef), .val (undef), .val (undef), .val (undef), .val (undef), .val (undef), .val (undef), .val (undef), .val (undef), .val (undef), .val (.bool false), .val (.bool false)] rfl (by kernel_rfl) (by kernel_rfl) (by kernel_rfl) (by kernel_rfl) rfl (by intro s hs; cases hs) (steps_all ⟨?_, ?_, ?_, ?_, ?_, ?_, ?_, ?_, ?_, ?_, ?_, ?_, ?_, ?_, ?_, ?_, ?_, ?_, ?_, ?_, ?_, ?_, ?_, trivial⟩) ?_
      · intro A W hsz hoth hbel hX hdep
        exact kMoveV _ (.pointer (some ⟨w1.heap.size, 0, none⟩)) rfl rfl ((hoth 3 (free2_of (by kernel_rfl))).trans rfl) (symVT hX hsz rfl (show 10 < 32 by decide) rfl (Below.refl _ _) rfl)
      · intro A W hsz hoth hbel hX hdep
        exact kFieldPoint0 _ _ rfl rfl ((hoth 1 (free2_of (by kernel_rfl))).trans rfl) (symVT hX hsz rfl (show 11 < 32 by decide) rfl (Below.refl _ _) rfl)
      · intro A W hsz hoth hbel hX hdep
        exact kLoadAs _ _ _ _ _ 4 _ _ _ rfl rfl (by have h := hdep ⟨1, .data⟩ (by simp) rfl; exact h) ((hM2.get 1 rfl).on hbel) Tryd.underlying24 rfl info_Wide (by rw [pcells_size]; decide) (pcells_at0 _ _ _) (symVT hX hsz rfl (show 12 < 32 by decide) rfl (Below.refl _ _) rfl)
      · intro A W hsz hoth hbel hX hdep
        refine kCall2 35 _ _ _ _ _ rfl rfl (by kernel_rfl) (by have h := hdep ⟨0, .data⟩ (by simp) rfl; exact h) (by have h := hdep ⟨2, .data⟩ (by simp) rfl; exact h) ?_
        refine (fIn_as hm (w1.heap.size) mx F13.out W ((hM2.get 0 rfl).on hbel)).mono ?_
        rintro e r ⟨rfl, hBc⟩
        exact ⟨_, rfl, (symVT hX hsz rfl (show 13 < 32 by decide) rfl hBc rfl)⟩
      · intro A W hsz hoth hbel hX hdep
        exact kMoveV _ (.bool false) rfl rfl (by have h := hdep ⟨3, .data⟩ (by simp) rfl; exact h) (symVT hX hsz rfl (show 14 < 32 by decide) rfl (Below.refl _ _) rfl)
      · intro A W hsz hoth hbel hX hdep
        exact wpList_skip (unwanted_of rfl rfl (by have h := hdep ⟨4, .guard⟩ (by simp) rfl; exact h) (.inl rfl)) (symVT hX hsz rfl (show 15 < 32 by decide) rfl (Below.refl _ _) rfl)
      · intro A W hsz hoth hbel hX hdep
        exact wpList_skip (unwanted_of rfl rfl (by have h := hdep ⟨4, .guard⟩ (by simp) rfl; exact h) (.inl rfl)) (symVT hX hsz rfl (show 16 < 32 by decide) rfl (Below.refl _ _) rfl)
      · intro A W hsz hoth hbel hX hdep
        exact wpList_skip (unwanted_of rfl rfl (by have h := hdep ⟨4, .guard⟩ (by simp) rfl; exact h) (.inl rfl)) (symVT hX hsz rfl (show 17 < 32 by decide) rfl (Below.refl _ _) rfl)
      · intro A W hsz hoth hbel hX hdep
        exact wpList_skip (unwanted_of rfl rfl (by have h := hdep ⟨4, .chain⟩ (by simp) rfl; exact h) (.inl rfl)) (symVT hX hsz rfl (show 18 < 32 by decide) rfl (Below.refl _ _) rfl)
      · intro A W hsz hoth hbel hX hdep
        exact kPick _ _ _ false (.bool false) rfl rfl (by have h := hdep ⟨4, .data⟩ (by simp) rfl; exact h) rfl (symVT hX hsz rfl (show 19 < 32 by decide) rfl (Below.refl _ _) rfl)
      · intro A W hsz hoth hbel hX hdep
        exact kMoveV _ (.bool false) rfl rfl (by have h := hdep ⟨9, .data⟩ (by simp) rfl; exact h) (symVT hX hsz rfl (show 20 < 32 by decide) rfl (Below.refl _ _) rfl)
      · intro A W hsz hoth hbel hX hdep
        exact wpList_skip (unwanted_of rfl rfl (by have h := hdep ⟨10, .guard⟩ (by simp) rfl; exact h) (.inl rfl)) (symVT hX hsz rfl (show 21 < 32 by decide) rfl (Below.refl _ _) rfl)
      · intro A W hsz hoth hbel hX hdep
        exact wpList_skip (unwanted_of rfl rfl (by have h := hdep ⟨10, .guard⟩ (by simp) rfl; exact h) (.inl rfl)) (symVT hX hsz rfl (show 22 < 32 by decide) rfl (Below.refl _ _) rfl)
      · intro A W hsz hoth hbel hX hdep
        exact wpList_skip (unwanted_of rfl rfl (by have h := hdep ⟨10, .guard⟩ (by simp) rfl; exact h) (.inl rfl)) (symVT hX hsz rfl (show 23 < 32 by decide) rfl (Below.refl _ _) rfl)
      · intro A W hsz hoth hbel hX hdep
        exact wpList_skip (unwanted_of rfl rfl (by have h := hdep ⟨10, .guard⟩ (by simp) rfl; exact h) (.inl rfl)) (symVT hX hsz rfl (show 24 < 32 by decide) rfl (Below.refl _ _) rfl)
      · intro A W hsz hoth hbel hX hdep
        exact wpList_skip (unwanted_of rfl rfl (by have h := hdep ⟨10, .guard⟩ (by simp) rfl; exact h) (.inl rfl)) (symVT hX hsz rfl (show 25 < 32 by decide) rfl (Below.refl _ _) rfl)
      · intro A W hsz hoth hbel hX hdep
        exact wpList_skip (unwanted_of rfl rfl (by have h := hdep ⟨10, .chain⟩ (by simp) rfl; exact h) (.inl rfl)) (symVT hX hsz rfl (show 26 < 32 by decide) rfl (Below.refl _ _) rfl)
      · intro A W hsz hoth hbel hX hdep
        exact wpList_skip (unwanted_of rfl rfl (by have h := hdep ⟨10, .guard⟩ (by simp) rfl; exact h) (.inl rfl)) (symVT hX hsz rfl (show 27 < 32 by decide) rfl (Below.refl _ _) rfl)
      · intro A W hsz hoth hbel hX hdep
        exact wpList_skip (unwanted_of rfl rfl (by have h := hdep ⟨10, .guard⟩ (by simp) rfl; exact h) (.inl rfl)) (symVT hX hsz rfl (show 28 < 32 by decide) rfl (Below.refl _ _) rfl)
      · intro A W hsz hoth hbel hX hdep
        exact wpList_skip (unwanted_of rfl rfl (by have h := hdep ⟨10, .guard⟩ (by simp) rfl; exact h) (.inl rfl)) (symVT hX hsz rfl (show 29 < 32 by decide) rfl (Below.refl _ _) rfl)
      · intro A W hsz hoth hbel hX hdep
        exact wpList_skip (unwanted_of rfl rfl (by have h := hdep ⟨10, .guard⟩ (by simp) rfl; exact h) (.inl rfl)) (symVT hX hsz rfl (show 30 < 32 by decide) rfl (Below.refl _ _) rfl)
      · intro A W hsz hoth hbel hX hdep
        exact kPick _ _ _ false (.bool false) rfl rfl (by have h := hdep ⟨10, .data⟩ (by simp) rfl; exact h) rfl (symVT hX hsz rfl (show 31 < 32 by decide) rfl (Below.refl _ _) rfl)
      · intro A W hsz hoth hbel hX hdep
        exact kAssignV _ (.bool false) rfl rfl (by have h := hdep ⟨21, .data⟩ (by simp) rfl; exact h) (symVT hX hsz rfl (show 2 < 32 by decide) rfl (Below.refl _ _) rfl)
      intro w3 hB3
      dsimp only [AllV]
      intro hap
      dsimp only [putAll, List.take, List.drop]
      go_frame
      have hM3 := hM2.on hB3
      clear hB3 hM2 hap
      go_wp2_with fail
      go_ret
      exact ⟨by rw [R.out] <;> rfl, hM3.below⟩
set_option maxRecDepth 100000 in
set_option maxHeartbeats 8000000 in
theorem rise_same {m x y v : Nat} (Hm0 : m = PP) (lx : x < PP) (ly : y < PP) (hy : FP y + FP y ≠ 0) (hv : (3 * (FP x * FP x) * ivP (FP y + FP y)).val = v) (w : World) (hG : Glob 2 m w) :
    Calls Tryd.prog 36 #[.agg (pcells x y false), .agg (pcells x y false)] w fun e w' => e = .returned (WV v) ∧ Below w.heap.size w w' := by
  have Hm := Lib.hid Hm0
  have hm : Modu m := by rw [Hm.out]; exact modu_P
  clear Hm0
  have mx := lt_M lx
  have my := lt_M ly
  obtain ⟨n3, H3⟩ : ∃ n, Hid (n = 3) := ⟨3, Lib.hid rfl⟩
  have h3 : n3 < 18446744073709551616 := by rw [H3.out]; decide
  have mn3 : n3 < M256 := by rw [H3.out]; decide
  have E3 : (3 : Int) = (n3 : Int) := by rw [H3.out]; rfl
  replace E3 := Lib.hid E3
  obtain ⟨v16, Hv16⟩ : ∃ n, Hid ((y % m + m - y % m) % m = n) := ⟨_, Lib.hid rfl⟩
  have mv16 : v16 < M256 := by rw [← Hv16.out]; exact hm.mod _
  obtain ⟨v22, Hv22⟩ : ∃ n, Hid ((x % m + m - x % m) % m = n) := ⟨_, Lib.hid rfl⟩
  have mv22 : v22 < M256 := by rw [← Hv22.out]; exact hm.mod _
  obtain ⟨v33, Hv33⟩ : ∃ n, Hid (x * x % m = n) := ⟨_, Lib.hid rfl⟩
  have mv33 : v33 < M256 := by rw [← Hv33.out]; exact hm.mod _
  obtain ⟨v34, Hv34⟩ : ∃ n, Hid (n3 * v33 % m = n) := ⟨_, Lib.hid rfl⟩
  have mv34 : v34 < M256 := by rw [← Hv34.out]; exact hm.mod _
  obtain ⟨v40, Hv40⟩ : ∃ n, Hid ((y + y) % m = n) := ⟨_, Lib.hid rfl⟩
  have mv40 : v40 < M256 := by rw [← Hv40.out]; exact hm.mod _
  obtain ⟨v44, Hv44⟩ : ∃ n, Hid (v40 ^ (m - 2) % m = n) := ⟨_, Lib.hid rfl⟩
  have mv44 : v44 < M256 := by rw [← Hv44.out]; exact hm.mod _
  obtain ⟨v50, Hv50⟩ : ∃ n, Hid (v34 * v44 % m = n) := ⟨_, Lib.hid rfl⟩
  have mv50 : v50 < M256 := by rw [← Hv50.out]; exact hm.mod _
  have Ev16 := FPm_sub Hm.out Hv16.out
  have Lv16 := FPm_lt Hm.out Hv16.out
  have Ev22 := FPm_sub Hm.out Hv22.out
  have Lv22 := FPm_lt Hm.out Hv22.out
  have Ev33 := FPm_mul Hm.out Hv33.out
  have Lv33 := FPm_lt Hm.out Hv33.out
  have Ev34 := FPm_mul Hm.out Hv34.out
  have Lv34 := FPm_lt Hm.out Hv34.out
  have Ev40 := FPm_add Hm.out Hv40.out
  have Lv40 := FPm_lt Hm.out Hv40.out
  have Ev44 := FPm_inv Hm.out Hv44.out
  have Lv44 := FPm_lt Hm.out Hv44.out
  have Ev50 := FPm_mul Hm.out Hv50.out
  have Lv50 := FPm_lt Hm.out Hv50.out
  have F3 : FP n3 = 3 := by rw [H3.out]; rfl
  have hne := Lib.hid (FPm_ne Hm.out (by rw [Ev40]; exact hy))
  have R := Lib.hid (show v50 = v by rw [← hv]; exact val_of Lv50 (by simp only [Ev50, Ev34, F3, Ev33, Ev44, Ev40]))
  clear hy hv Ev16 Lv16 Ev22 Lv22 Ev33 Lv33 Ev34 Lv34 Ev40 Lv40 Ev44 Lv44 Ev50 Lv50 F3
  have hM0 := mm_nil w
  (try unfold WV)
  go_enter Tryd.func36, Tryd.ntmps36
  go_wp2_with (first
    | ((with_reducible change wpList _ _ _ (Oper.mk (some 2) _ _ _ _ _ :: _) _ _); refine mmBox hM0 _ _ (pcells x y false) rfl rfl rfl ?_; intro w1 hM1; clear hM0; go_frame)
    | ((with_reducible change wpList _ _ _ (Oper.mk (some 3) _ _ _ _ _ :: _) _ _); refine mmBox hM1 _ _ (pcells x y false) rfl rfl rfl ?_; intro w2 hM2; clear hM1; go_frame)
    | ((with_reducible change wpList _ _ _ (Oper.mk (some 4) _ _ _ _ _ :: _) _ _); refine mmAlloc hM2 _ _ rfl rfl zero_Wide ?_; intro w3 hM3; clear hM2; go_frame)
    | (go_at_call 32; refine (fP_any m _ (hG.below hM3.below)).mono ?_; rintro e w4 ⟨rfl, hR4, hB4⟩; have hM4 := hM3.new hR4 hB4; clear hB4 hR4 hM3; go_frame))
  refine region_symT 14 _ [12, 13] [6, 7] [.val (.pointer (some ⟨w3.heap.size, 0, none⟩)), .val (.pointer (some ⟨w1.heap.size, 4, none⟩)), .val (.agg (wcells y)), .val (.pointer (some ⟨w.heap.size, 4, none⟩)), .val (.agg (wcells y)), .val (.agg (wcells v16)), .val (.pointer (some ⟨w3.heap.size, 0, none⟩)), .val (.pointer (some ⟨w1.heap.size, 0, none⟩)), .val (.agg (wcells x)), .val (.pointer (some ⟨w.heap.size, 0, none⟩)), .val (.agg (wcells x)), .val (.agg (wcells v22)), .hold w4.heap.size 24 (wcells 0), .hold w4.heap.size 24 (wcells 0)] rfl (by kernel_rfl) (by kernel_rfl) (by kernel_rfl) (by kernel_rfl) rfl (by intro s hs; simp only [List.mem_cons, List.not_mem_nil, or_false] at hs; rcases hs with rfl | rfl <;> rfl) (steps_all ⟨?_, ?_, ?_, ?_, ?_, ?_, ?_, ?_, ?_, ?_, ?_, ?_, ?_, ?_, trivial⟩) ?_
  · intro A W hsz hoth hbel hX hdep
    exact kMoveV _ (.pointer (some ⟨w3.heap.size, 0, none⟩)) rfl rfl ((hoth 5 (free2_of (by kernel_rfl))).trans rfl) (symVT hX hsz rfl (show 11 < 51 by decide) rfl (Below.refl _ _) rfl)
  · intro A W hsz hoth hbel hX hdep
    exact kFieldPoint1 _ _ rfl rfl ((hoth 3 (free2_of (by kernel_rfl))).trans rfl) (symVT hX hsz rfl (show 12 < 51 by decide) rfl (Below.refl _ _) rfl)
  · intro A W hsz hoth hbel hX hdep
    exact kLoadAs _ _ _ _ _ 4 _ _ _ rfl rfl (by have h := hdep ⟨1, .data⟩ (by simp) rfl; exact h) ((hM4.get 2 rfl).on hbel) Tryd.underlying24 rfl info_Wide (by rw [pcells_size]; decide) (pcells_at4 _ _ _) (symVT hX hsz rfl (show 13 < 51 by decide) rfl (Below.refl _ _) rfl)
  · intro A W hsz hoth hbel hX hdep
    exact kFieldPoint1 _ _ rfl rfl ((hoth 2 (free2_of (by kernel_rfl))).trans rfl) (symVT hX hsz rfl (show 14 < 51 by decide) rfl (Below.refl _ _) rfl)
  · intro A W hsz hoth hbel hX hdep
    exact kLoadAs _ _ _ _ _ 4 _ _ _ rfl rfl (by have h := hdep ⟨3, .data⟩ (by simp) rfl; exact h) ((hM4.get 3 rfl).on hbel) Tryd.underlying24 rfl info_Wide (by rw [pcells_size]; decide) (pcells_at4 _ _ _) (symVT hX hsz rfl (show 15 < 51 by decide) rfl (Below.refl _ _) rfl)
  · intro A W hsz hoth hbel hX hdep
    refine kCall3 37 _ _ _ _ _ _ _ rfl rfl (by kernel_rfl) (by have h := hdep ⟨0, .data⟩ (by simp) rfl; exact h) (by have h := hdep ⟨2, .data⟩ (by simp) rfl; exact h) (by have h := hdep ⟨4, .data⟩ (by simp) rfl; exact h) ?_
    refine (fSub_as hm (w3.heap.size) my my Hv16.out W ((hM4.get 0 rfl).on hbel)).mono ?_
    rintro e r ⟨rfl, hBc⟩
    exact ⟨_, rfl, (symVT hX hsz rfl (show 16 < 51 by decide) rfl hBc rfl)⟩
  · intro A W hsz hoth hbel hX hdep
    exact kMoveV _ (.pointer (some ⟨w3.heap.size, 0, none⟩)) rfl rfl ((hoth 5 (free2_of (by kernel_rfl))).trans rfl) (symVT hX hsz rfl (show 17 < 51 by decide) rfl (Below.refl _ _) rfl)
  · intro A W hsz hoth hbel hX hdep
    exact kFieldPoint0 _ _ rfl rfl ((hoth 3 (free2_of (by kernel_rfl))).trans rfl) (symVT hX hsz rfl (show 18 < 51 by decide) rfl (Below.refl _ _) rfl)
  · intro A W hsz hoth hbel hX hdep
    exact kLoadAs _ _ _ _ _ 4 _ _ _ rfl rfl (by have h := hdep ⟨7, .data⟩ (by simp) rfl; exact h) ((hM4.get 2 rfl).on hbel) Tryd.underlying24 rfl info_Wide (by rw [pcells_size]; decide) (pcells_at0 _ _ _) (symVT hX hsz rfl (show 19 < 51 by decide) rfl (Below.refl _ _) rfl)
  · intro A W hsz hoth hbel hX hdep
    exact kFieldPoint0 _ _ rfl rfl ((hoth 2 (free2_of (by kernel_rfl))).trans rfl) (symVT hX hsz rfl (show 20 < 51 by decide) rfl (Below.refl _ _) rfl)
  · intro A W hsz hoth hbel hX hdep
    exact kLoadAs _ _ _ _ _ 4 _ _ _ rfl rfl (by have h := hdep ⟨9, .data⟩ (by simp) rfl; exact h) ((hM4.get 3 rfl).on hbel) Tryd.underlying24 rfl info_Wide (by rw [pcells_size]; decide) (pcells_at0 _ _ _) (symVT hX hsz rfl (show 21 < 51 by decide) rfl (Below.refl _ _) rfl)
  · intro A W hsz hoth hbel hX hdep
    refine kCall3 37 _ _ _ _ _ _ _ rfl rfl (by kernel_rfl) (by have h := hdep ⟨6, .data⟩ (by simp) rfl; exact h) (by have h := hdep ⟨8, .data⟩ (by simp) rfl; exact h) (by have h := hdep ⟨10, .data⟩ (by simp) rfl; exact h) ?_
    refine (fSub_as hm (w3.heap.size) mx mx Hv22.out W ((hM4.get 0 rfl).on hbel)).mono ?_
    rintro e r ⟨rfl, hBc⟩
    exact ⟨_, rfl, (symVT hX hsz rfl (show 22 < 51 by decide) rfl hBc rfl)⟩
  · intro A W hsz hoth hbel hX hdep
    refine kAllocL _ _ rfl rfl zero_Wide ?_
    intro r hR hl hBc
    exact (symAT hX hsz rfl (show 6 < 51 by decide) hl hBc ⟨_, rfl, hbel.size, hR⟩)
  · intro A W hsz hoth hbel hX hdep
    refine kAllocL _ _ rfl rfl zero_Wide ?_
    intro r hR hl hBc
    exact (symAT hX hsz rfl (show 7 < 51 by decide) hl hBc ⟨_, rfl, hbel.size, hR⟩)
  intro w5 hB5
  dsimp only [AllV]
  intro g5_6 hg5_6 hR5_6
  intro g5_7 hg5_7 hR5_7
  intro hap
  dsimp only [putAll, List.take, List.drop]
  go_frame
  have hM5 := hM4.on hB5
  replace hM5 := hM5.cons hR5_6 (Nat.le_trans hM4.size hg5_6) (fun p hp => by have := hM4.lt hp; omega)
  have hne5_7_5_6 : g5_7 ≠ g5_6 := fun e => hap 13 (by simp) 12 (by simp) (by decide) g5_7 rfl (by rw [e]; rfl)
  replace hM5 := hM5.cons hR5_7 (Nat.le_trans hM4.size hg5_7) (List.forall_mem_cons.2 ⟨hne5_7_5_6, fun p hp => by have := hM4.lt hp; omega⟩)
  clear hB5 hM4 hap hg5_6 hR5_6 hg5_7 hR5_7
  go_wp2_with (first
    | ((with_reducible change wpList _ _ _ (Oper.mk none (Op.store _ (Operand.tmp 6) (Operand.tmp 16)) _ _ _ _ :: _) _ _); refine mmStoreAt hM5 1 _ _ _ _ _ _ (wcells v16) rfl rfl rfl rfl rfl (info_WideC _) (by simp only [wcells_size]) (wcells_one _) ?_; intro w6 hM6; dsimp only [List.set] at hM6; clear hM5; go_frame)
    | ((with_reducible change wpList _ _ _ (Oper.mk none (Op.store _ (Operand.tmp 7) (Operand.tmp 22)) _ _ _ _ :: _) _ _); refine mmStoreAt hM6 0 _ _ _ _ _ _ (wcells v22) rfl rfl rfl rfl rfl (info_WideC _) (by simp only [wcells_size]) (wcells_one _) ?_; intro w7 hM7; dsimp only [List.set] at hM7; clear hM6; go_frame)
    | ((with_reducible change wpList _ _ _ (Oper.mk (some 23) _ _ _ _ _ :: _) _ _); refine kLoadRow _ _ _ _ _ _ rfl rfl rfl (hM7.get 5 rfl) Tryd.underlying30 rfl (info_PointC _ _ _) ?_; go_frame)
    | ((with_reducible change wpList _ _ _ (Oper.mk (some 24) _ _ _ _ _ :: _) _ _); refine kLoadRow _ _ _ _ _ _ rfl rfl rfl (hM7.get 4 rfl) Tryd.underlying30 rfl (info_PointC _ _ _) ?_; go_frame)
    | ((with_reducible change wpList _ _ _ (Oper.mk (some 25) _ _ _ _ _ :: _) _ _); refine kEqlP _ _ _ x y false x y false true rfl rfl rfl rfl (eqP_yes ⟨rfl, rfl, rfl⟩) ?_; go_frame))
  refine region_symT 15 _ [] [] [.val (.pointer (some ⟨w3.heap.size, 0, none⟩)), .val (.agg (wcells n3)), .val (.pointer (some ⟨w3.heap.size, 0, none⟩)), .val (.pointer (some ⟨w.heap.size, 0, none⟩)), .val (.agg (wcells x)), .val (.pointer (some ⟨w.heap.size, 0, none⟩)), .val (.agg (wcells x)), .val (.agg (wcells v33)), .val (.agg (wcells v34)), .val (.pointer (some ⟨w3.heap.size, 0, none⟩)), .val (.pointer (some ⟨w.heap.size, 4, none⟩)), .val (.agg (wcells y)), .val (.pointer (some ⟨w.heap.size, 4, none⟩)), .val (.agg (wcells y)), .val (.agg (wcells v40))] rfl (by kernel_rfl) (by kernel_rfl) (by kernel_rfl) (by kernel_rfl) rfl (by intro s hs; cases hs) (steps_all ⟨?_, ?_, ?_, ?_, ?_, ?_, ?_, ?_, ?_, ?_, ?_, ?_, ?_, ?_, ?_, trivial⟩) ?_
  · intro A W hsz hoth hbel hX hdep
    exact kMoveV _ (.pointer (some ⟨w3.heap.size, 0, none⟩)) rfl rfl ((hoth 5 (free2_of (by kernel_rfl))).trans rfl) (symVT hX hsz rfl (show 26 < 51 by decide) rfl (Below.refl _ _) rfl)
  · intro A W hsz hoth hbel hX hdep
    refine kCall1 18 _ _ _ rfl rfl (by kernel_rfl) rfl ?_
    refine (wOf_lit n3 3 h3 E3.out W).mono ?_
    rintro e r ⟨rfl, hBc⟩
    exact ⟨_, rfl, (symVT hX hsz rfl (show 27 < 51 by decide) rfl hBc rfl)⟩
  · intro A W hsz hoth hbel hX hdep
    exact kMoveV _ (.pointer (some ⟨w3.heap.size, 0, none⟩)) rfl rfl ((hoth 5 (free2_of (by kernel_rfl))).trans rfl) (symVT hX hsz rfl (show 28 < 51 by decide) rfl (Below.refl _ _) rfl)
  · intro A W hsz hoth hbel hX hdep
    exact kFieldPoint0 _ _ rfl rfl ((hoth 2 (free2_of (by kernel_rfl))).trans rfl) (symVT hX hsz rfl (show 29 < 51 by decide) rfl (Below.refl _ _) rfl)
  · intro A W hsz hoth hbel hX hdep
    exact kLoadAs _ _ _ _ _ 4 _ _ _ rfl rfl (by have h := hdep ⟨3, .data⟩ (by simp) rfl; exact h) ((hM7.get 5 rfl).on hbel) Tryd.underlying24 rfl info_Wide (by rw [pcells_size]; decide) (pcells_at0 _ _ _) (symVT hX hsz rfl (show 30 < 51 by decide) rfl (Below.refl _ _) rfl)
  · intro A W hsz hoth hbel hX hdep
    exact kFieldPoint0 _ _ rfl rfl ((hoth 2 (free2_of (by kernel_rfl))).trans rfl) (symVT hX hsz rfl (show 31 < 51 by decide) rfl (Below.refl _ _) rfl)
  · intro A W hsz hoth hbel hX hdep
    exact kLoadAs _ _ _ _ _ 4 _ _ _ rfl rfl (by have h := hdep ⟨5, .data⟩ (by simp) rfl; exact h) ((hM7.get 5 rfl).on hbel) Tryd.underlying24 rfl info_Wide (by rw [pcells_size]; decide) (pcells_at0 _ _ _) (symVT hX hsz rfl (show 32 < 51 by decide) rfl (Below.refl _ _) rfl)
  · intro A W hsz hoth hbel hX hdep
    refine kCall3 38 _ _ _ _ _ _ _ rfl rfl (by kernel_rfl) (by have h := hdep ⟨2, .data⟩ (by simp) rfl; exact h) (by have h := hdep ⟨4, .data⟩ (by simp) rfl; exact h) (by have h := hdep ⟨6, .data⟩ (by simp) rfl; exact h) ?_
    refine (fMul_as hm (w3.heap.size) mx mx Hv33.out W ((hM7.get 2 rfl).on hbel)).mono ?_
    rintro e r ⟨rfl, hBc⟩
    exact ⟨_, rfl, (symVT hX hsz rfl (show 33 < 51 by decide) rfl hBc rfl)⟩
  · intro A W hsz hoth hbel hX hdep
    refine kCall3 38 _ _ _ _ _ _ _ rfl rfl (by kernel_rfl) (by have h := hdep ⟨0, .data⟩ (by simp) rfl; exact h) (by have h := hdep ⟨1, .data⟩ (by simp) rfl; exact h) (by have h := hdep ⟨7, .data⟩ (by simp) rfl; exact h) ?_
    refine (fMul_as hm (w3.heap.size) mn3 mv33 Hv34.out W ((hM7.get 2 rfl).on hbel)).mono ?_
    rintro e r ⟨rfl, hBc⟩
    exact ⟨_, rfl, (symVT hX hsz rfl (show 34 < 51 by decide) rfl hBc rfl)⟩
  · intro A W hsz hoth hbel hX hdep
    exact kMoveV _ (.pointer (some ⟨w3.heap.size, 0, none⟩)) rfl rfl ((hoth 5 (free2_of (by kernel_rfl))).trans rfl) (symVT hX hsz rfl (show 35 < 51 by decide) rfl (Below.refl _ _) rfl)
  · intro A W hsz hoth hbel hX hdep
    exact kFieldPoint1 _ _ rfl rfl ((hoth 2 (free2_of (by kernel_rfl))).trans rfl) (symVT hX hsz rfl (show 36 < 51 by decide) rfl (Below.refl _ _) rfl)
  · intro A W hsz hoth hbel hX hdep
    exact kLoadAs _ _ _ _ _ 4 _ _ _ rfl rfl (by have h := hdep ⟨10, .data⟩ (by simp) rfl; exact h) ((hM7.get 5 rfl).on hbel) Tryd.underlying24 rfl info_Wide (by rw [pcells_size]; decide) (pcells_at4 _ _ _) (symVT hX hsz rfl (show 37 < 51 by decide) rfl (Below.refl _ _) rfl)
  · intro A W hsz hoth hbel hX hdep
    exact kFieldPoint1 _ _ rfl rfl ((hoth 2 (free2_of (by kernel_rfl))).trans rfl) (symVT hX hsz rfl (show 38 < 51 by decide) rfl (Below.refl _ _) rfl)
  · intro A W hsz hoth hbel hX hdep
    exact kLoadAs _ _ _ _ _ 4 _ _ _ rfl rfl (by have h := hdep ⟨12, .data⟩ (by simp) rfl; exact h) ((hM7.get 5 rfl).on hbel) Tryd.underlying24 rfl info_Wide (by rw [pcells_size]; decide) (pcells_at4 _ _ _) (symVT hX hsz rfl (show 39 < 51 by decide) rfl (Below.refl _ _) rfl)
  · intro A W hsz hoth hbel hX hdep
    refine kCall3 61 _ _ _ _ _ _ _ rfl rfl (by kernel_rfl) (by have h := hdep ⟨9, .data⟩ (by simp) rfl; exact h) (by have h := hdep ⟨11, .data⟩ (by simp) rfl; exact h) (by have h := hdep ⟨13, .data⟩ (by simp) rfl; exact h) ?_
    refine (fAdd_as hm (w3.heap.size) my my Hv40.out.symm W ((hM7.get 2 rfl).on hbel)).mono ?_
    rintro e r ⟨rfl, hBc⟩
    exact ⟨_, rfl, (symVT hX hsz rfl (show 40 < 51 by decide) rfl hBc rfl)⟩
  intro w8 hB8
  dsimp only [AllV]
  intro hap
  dsimp only [putAll, List.take, List.drop]
  go_frame
  have hM8 := hM7.on hB8
  clear hB8 hM7 hap
  go_wp2_with (first
    | ((with_reducible change wpList _ _ _ (Oper.mk none (Op.store _ (Operand.tmp 6) (Operand.tmp 34)) _ _ _ _ :: _) _ _); refine mmStoreAt hM8 1 _ _ _ _ _ _ (wcells v34) rfl rfl rfl rfl rfl (info_WideC _) (by simp only [wcells_size]) (wcells_one _) ?_; intro w9 hM9; dsimp only [List.set] at hM9; clear hM8; go_frame)
    | ((with_reducible change wpList _ _ _ (Oper.mk none (Op.store _ (Operand.tmp 7) (Operand.tmp 40)) _ _ _ _ :: _) _ _); refine mmStoreAt hM9 0 _ _ _ _ _ _ (wcells v40) rfl rfl rfl rfl rfl (info_WideC _) (by simp only [wcells_size]) (wcells_one _) ?_; intro w10 hM10; dsimp only [List.set] at hM10; clear hM9; go_frame)
    | ((with_reducible change wpList _ _ _ (Oper.mk (some 43) _ _ _ _ _ :: _) _ _); refine kLoadRow _ _ _ _ _ _ rfl rfl rfl (hM10.get 0 rfl) Tryd.underlying24 rfl (info_WideC _) ?_; go_frame)
    | (go_at_call 63; (with_reducible change Calls _ _ #[Value.pointer (some ⟨w3.heap.size, 0, none⟩), Value.agg (wcells v40)] _ _); refine (fInv_as hm (w3.heap.size) mv40 hne.out Hv44.out _ (hM10.get 2 rfl)).mono ?_; rintro e w11 ⟨rfl, hB11⟩; have hM11 := hM10.on hB11; clear hB11 hM10; (try unfold WV); go_frame)
    | ((with_reducible change wpList _ _ _ (Oper.mk (some 8) _ _ _ _ _ :: _) _ _); refine mmAlloc hM11 _ _ rfl rfl zero_Wide ?_; intro w12 hM12; clear hM11; go_frame)
    | ((with_reducible change wpList _ _ _ (Oper.mk none (Op.store _ (Operand.tmp 8) (Operand.tmp 45)) _ _ _ _ :: _) _ _); refine mmStoreAt hM12 0 _ _ _ _ _ _ (wcells v44) rfl rfl rfl rfl rfl (info_WideC _) (by simp only [wcells_size]) (wcells_one _) ?_; intro w13 hM13; dsimp only [List.set] at hM13; clear hM12; go_frame)
    | ((with_reducible change wpList _ _ _ (Oper.mk (some 48) _ _ _ _ _ :: _) _ _); refine kLoadRow _ _ _ _ _ _ rfl rfl rfl (hM13.get 2 rfl) Tryd.underlying24 rfl (info_WideC _) ?_; go_frame)
    | ((with_reducible change wpList _ _ _ (Oper.mk (some 49) _ _ _ _ _ :: _) _ _); refine kLoadRow _ _ _ _ _ _ rfl rfl rfl (hM13.get 0 rfl) Tryd.underlying24 rfl (info_WideC _) ?_; go_frame)
    | (go_at_call 38; (with_reducible change Calls _ _ #[Value.pointer (some ⟨w3.heap.size, 0, none⟩), Value.agg (wcells v34), Value.agg (wcells v44)] _ _); refine (fMul_as hm (w3.heap.size) mv34 mv44 Hv50.out _ (hM13.get 3 rfl)).mono ?_; rintro e w14 ⟨rfl, hB14⟩; have hM14 := hM13.on hB14; clear hB14 hM13; (try unfold WV); go_frame)
    | ((with_reducible change wpList _ _ _ (Oper.mk none (Op.store _ (Operand.tmp 4) (Operand.tmp 50)) _ _ _ _ :: _) _ _); refine mmStoreAt hM14 4 _ _ _ _ _ _ (wcells v50) rfl rfl rfl rfl rfl (info_WideC _) (by simp only [wcells_size]) (wcells_one _) ?_; intro w15 hM15; dsimp only [List.set] at hM15; clear hM14; go_frame))
  exact result_row Tryd.results36 rfl (hM15.get 4 rfl) Tryd.underlying24 rfl (info_WideC _) rfl ⟨by rw [R.out] <;> rfl, hM15.below⟩
set_option maxRecDepth 100000 in
set_option maxHeartbeats 8000000 in
theorem rise_other {m x1 y1 x2 y2 v : Nat} (Hm0 : m = PP) (lx1 : x1 < PP) (ly1 : y1 < PP) (lx2 : x2 < PP) (ly2 : y2 < PP) (hx : FP x2 - FP x1 ≠ 0) (hv : ((FP y2 - FP y1) * ivP (FP x2 - FP x1)).val = v) (w : World) (hG : Glob 2 m w) :
    Calls Tryd.prog 36 #[.agg (pcells x1 y1 false), .agg (pcells x2 y2 false)] w fun e w' => e = .returned (WV v) ∧ Below w.heap.size w w' := by
  have Hm := Lib.hid Hm0
  have hm : Modu m := by rw [Hm.out]; exact modu_P
  clear Hm0
  have mx1 := lt_M lx1
  have my1 := lt_M ly1
  have mx2 := lt_M lx2
  have my2 := lt_M ly2
  obtain ⟨v16, Hv16⟩ : ∃ n, Hid ((y2 % m + m - y1 % m) % m = n) := ⟨_, Lib.hid rfl⟩
  have mv16 : v16 < M256 := by rw [← Hv16.out]; exact hm.mod _
  obtain ⟨v22, Hv22⟩ : ∃ n, Hid ((x2 % m + m - x1 % m) % m = n) := ⟨_, Lib.hid rfl⟩
  have mv22 : v22 < M256 := by rw [← Hv22.out]; exact hm.mod _
  obtain ⟨v44, Hv44⟩ : ∃ n, Hid (v22 ^ (m - 2) % m = n) := ⟨_, Lib.hid rfl⟩
  have mv44 : v44 < M256 := by rw [← Hv44.out]; exact hm.mod _
  obtain ⟨v50, Hv50⟩ : ∃ n, Hid (v16 * v44 % m = n) := ⟨_, Lib.hid rfl⟩
  have mv50 : v50 < M256 := by rw [← Hv50.out]; exact hm.mod _
  have Ev16 := FPm_sub Hm.out Hv16.out
  have Lv16 := FPm_lt Hm.out Hv16.out
  have Ev22 := FPm_sub Hm.out Hv22.out
  have Lv22 := FPm_lt Hm.out Hv22.out
  have Ev44 := FPm_inv Hm.out Hv44.out
  have Lv44 := FPm_lt Hm.out Hv44.out
  have Ev50 := FPm_mul Hm.out Hv50.out
  have Lv50 := FPm_lt Hm.out Hv50.out
  have h25 := Lib.hid (show x1 ≠ x2 from fun e => hx (by rw [e, Fin.sub_self]))
  have hne := Lib.hid (FPm_ne Hm.out (by rw [Ev22]; exact hx))
  have R := Lib.hid (show v50 = v by rw [← hv]; exact val_of Lv50 (by simp only [Ev50, Ev16, Ev44, Ev22]))
  clear hx hv Ev16 Lv16 Ev22 Lv22 Ev44 Lv44 Ev50 Lv50
  have hM0 := mm_nil w
  (try unfold WV)
  go_enter Tryd.func36, Tryd.ntmps36
  go_wp2_with (first
    | ((with_reducible change wpList _ _ _ (Oper.mk (some 2) _ _ _ _ _ :: _) _ _); refine mmBox hM0 _ _ (pcells x1 y1 false) rfl rfl rfl ?_; intro w1 hM1; clear hM0; go_frame)
    | ((with_reducible change wpList _ _ _ (Oper.mk (some 3) _ _ _ _ _ :: _) _ _); refine mmBox hM1 _ _ (pcells x2 y2 false) rfl rfl rfl ?_; intro w2 hM2; clear hM1; go_frame)
    | ((with_reducible change wpList _ _ _ (Oper.mk (some 4) _ _ _ _ _ :: _) _ _); refine mmAlloc hM2 _ _ rfl rfl zero_Wide ?_; intro w3 hM3; clear hM2; go_frame)
    | (go_at_call 32; refine (fP_any m _ (hG.below hM3.below)).mono ?_; rintro e w4 ⟨rfl, hR4, hB4⟩; have hM4 := hM3.new hR4 hB4; clear hB4 hR4 hM3; go_frame))
  refine region_symT 14 _ [12, 13] [6, 7] [.val (.pointer (some ⟨w3.heap.size, 0, none⟩)), .val (.pointer (some ⟨w1.heap.size, 4, none⟩)), .val (.agg (wcells y2)), .val (.pointer (some ⟨w.heap.size, 4, none⟩)), .val (.agg (wcells y1)), .val (.agg (wcells v16)), .val (.pointer (some ⟨w3.heap.size, 0, none⟩)), .val (.pointer (some ⟨w1.heap.size, 0, none⟩)), .val (.agg (wcells x2)), .val (.pointer (some ⟨w.heap.size, 0, none⟩)), .val (.agg (wcells x1)), .val (.agg (wcells v22)), .hold w4.heap.size 24 (wcells 0), .hold w4.heap.size 24 (wcells 0)] rfl (by kernel_rfl) (by kernel_rfl) (by kernel_rfl) (by kernel_rfl) rfl (by intro s hs; simp only [List.mem_cons, List.not_mem_nil, or_false] at hs; rcases hs with rfl | rfl <;> rfl) (steps_all ⟨?_, ?_, ?_, ?_, ?_, ?_, ?_, ?_, ?_, ?_, ?_, ?_, ?_, ?_, trivial⟩) ?_
  · intro A W hsz hoth hbel hX hdep
    exact kMoveV _ (.pointer (some ⟨w3.heap.size, 0, none⟩)) rfl rfl ((hoth 5 (free2_of (by kernel_rfl))).trans rfl) (symVT hX hsz rfl (show 11 < 51 by decide) rfl (Below.refl _ _) rfl)
  · intro A W hsz hoth hbel hX hdep
    exact kFieldPoint1 _ _ rfl rfl ((hoth 3 (free2_of (by kernel_rfl))).trans rfl) (symVT hX hsz rfl (show 12 < 51 by decide) rfl (Below.refl _ _) rfl)
  · intro A W hsz hoth hbel hX hdep
    exact kLoadAs _ _ _ _ _ 4 _ _ _ rfl rfl (by have h := hdep ⟨1, .data⟩ (by simp) rfl; exact h) ((hM4.get 2 rfl).on hbel) Tryd.underlying24 rfl info_Wide (by rw [pcells_size]; decide) (pcells_at4 _ _ _) (symVT hX hsz rfl (show 13 < 51 by decide) rfl (Below.refl _ _) rfl)
  · intro A W hsz hoth hbel hX hdep
    exact kFieldPoint1 _ _ rfl rfl ((hoth 2 (free2_of (by kernel_rfl))).trans rfl) (symVT hX hsz rfl (show 14 < 51 by decide) rfl (Below.refl _ _) rfl)
  · intro A W hsz hoth hbel hX hdep
    exact kLoadAs _ _ _ _ _ 4 _ _ _ rfl rfl (by have h := hdep ⟨3, .data⟩ (by simp) rfl; exact h) ((hM4.get 3 rfl).on hbel) Tryd.underlying24 rfl info_Wide (by rw [pcells_size]; decide) (pcells_at4 _ _ _) (symVT hX hsz rfl (show 15 < 51 by decide) rfl (Below.refl _ _) rfl)
  · intro A W hsz hoth hbel hX hdep
    refine kCall3 37 _ _ _ _ _ _ _ rfl rfl (by kernel_rfl) (by have h := hdep ⟨0, .data⟩ (by simp) rfl; exact h) (by have h := hdep ⟨2, .data⟩ (by simp) rfl; exact h) (by have h := hdep ⟨4, .data⟩ (by simp) rfl; exact h) ?_
    refine (fSub_as hm (w3.heap.size) my2 my1 Hv16.out W ((hM4.get 0 rfl).on hbel)).mono ?_
    rintro e r ⟨rfl, hBc⟩
    exact ⟨_, rfl, (symVT hX hsz rfl (show 16 < 51 by decide) rfl hBc rfl)⟩
  · intro A W hsz hoth hbel hX hdep
    exact kMoveV _ (.pointer (some ⟨w3.heap.size, 0, none⟩)) rfl rfl ((hoth 5 (free2_of (by kernel_rfl))).trans rfl) (symVT hX hsz rfl (show 17 < 51 by decide) rfl (Below.refl _ _) rfl)
  · intro A W hsz hoth hbel hX hdep
    exact kFieldPoint0 _ _ rfl rfl ((hoth 3 (free2_of (by kernel_rfl))).trans rfl) (symVT hX hsz rfl (show 18 < 51 by decide) rfl (Below.refl _ _) rfl)
  · intro A W hsz hoth hbel hX hdep
    exact kLoadAs _ _ _ _ _ 4 _ _ _ rfl rfl (by have h := hdep ⟨7, .data⟩ (by simp) rfl; exact h) ((hM4.get 2 rfl).on hbel) Tryd.underlying24 rfl info_Wide (by rw [pcells_size]; decide) (pcells_at0 _ _ _) (symVT hX hsz rfl (show 19 < 51 by decide) rfl (Below.refl _ _) rfl)
  · intro A W hsz hoth hbel hX hdep
    exact kFieldPoint0 _ _ rfl rfl ((hoth 2 (free2_of (by kernel_rfl))).trans rfl) (symVT hX hsz rfl (show 20 < 51 by decide) rfl (Below.refl _ _) rfl)
  · intro A W hsz hoth hbel hX hdep
    exact kLoadAs _ _ _ _ _ 4 _ _ _ rfl rfl (by have h := hdep ⟨9, .data⟩ (by simp) rfl; exact h) ((hM4.get 3 rfl).on hbel) Tryd.underlying24 rfl info_Wide (by rw [pcells_size]; decide) (pcells_at0 _ _ _) (symVT hX hsz rfl (show 21 < 51 by decide) rfl (Below.refl _ _) rfl)
  · intro A W hsz hoth hbel hX hdep
    refine kCall3 37 _ _ _ _ _ _ _ rfl rfl (by kernel_rfl) (by have h := hdep ⟨6, .data⟩ (by simp) rfl; exact h) (by have h := hdep ⟨8, .data⟩ (by simp) rfl; exact h) (by have h := hdep ⟨10, .data⟩ (by simp) rfl; exact h) ?_
    refine (fSub_as hm (w3.heap.size) mx2 mx1 Hv22.out W ((hM4.get 0 rfl).on hbel)).mono ?_
    rintro e r ⟨rfl, hBc⟩
    exact ⟨_, rfl, (symVT hX hsz rfl (show 22 < 51 by decide) rfl hBc rfl)⟩
  · intro A W hsz hoth hbel hX hdep
    refine kAllocL _ _ rfl rfl zero_Wide ?_
    intro r hR hl hBc
    exact (symAT hX hsz rfl (show 6 < 51 by decide) hl hBc ⟨_, rfl, hbel.size, hR⟩)
  · intro A W hsz hoth hbel hX hdep
    refine kAllocL _ _ rfl rfl zero_Wide ?_
    intro r hR hl hBc
    exact (symAT hX hsz rfl (show 7 < 51 by decide) hl hBc ⟨_, rfl, hbel.size, hR⟩)
  intro w5 hB5
  dsimp only [AllV]
  intro g5_6 hg5_6 hR5_6
  intro g5_7 hg5_7 hR5_7
  intro hap
  dsimp only [putAll, List.take, List.drop]
  go_frame
  have hM5 := hM4.on hB5
  replace hM5 := hM5.cons hR5_6 (Nat.le_trans hM4.size hg5_6) (fun p hp => by have := hM4.lt hp; omega)
  have hne5_7_5_6 : g5_7 ≠ g5_6 := fun e => hap 13 (by simp) 12 (by simp) (by decide) g5_7 rfl (by rw [e]; rfl)
  replace hM5 := hM5.cons hR5_7 (Nat.le_trans hM4.size hg5_7) (List.forall_mem_cons.2 ⟨hne5_7_5_6, fun p hp => by have := hM4.lt hp; omega⟩)
  clear hB5 hM4 hap hg5_6 hR5_6 hg5_7 hR5_7
  go_wp2_with (first
    | ((with_reducible change wpList _ _ _ (Oper.mk none (Op.store _ (Operand.tmp 6) (Operand.tmp 16)) _ _ _ _ :: _) _ _); refine mmStoreAt hM5 1 _ _ _ _ _ _ (wcells v16) rfl rfl rfl rfl rfl (info_WideC _) (by simp only [wcells_size]) (wcells_one _) ?_; intro w6 hM6; dsimp only [List.set] at hM6; clear hM5; go_frame)
    | ((with_reducible change wpList _ _ _ (Oper.mk none (Op.store _ (Operand.tmp 7) (Operand.tmp 22)) _ _ _ _ :: _) _ _); refine mmStoreAt hM6 0 _ _ _ _ _ _ (wcells v22) rfl rfl rfl rfl rfl (info_WideC _) (by simp only [wcells_size]) (wcells_one _) ?_; intro w7 hM7; dsimp only [List.set] at hM7; clear hM6; go_frame)
    | ((with_reducible change wpList _ _ _ (Oper.mk (some 23) _ _ _ _ _ :: _) _ _); refine kLoadRow _ _ _ _ _ _ rfl rfl rfl (hM7.get 5 rfl) Tryd.underlying30 rfl (info_PointC _ _ _) ?_; go_frame)
    | ((with_reducible change wpList _ _ _ (Oper.mk (some 24) _ _ _ _ _ :: _) _ _); refine kLoadRow _ _ _ _ _ _ rfl rfl rfl (hM7.get 4 rfl) Tryd.underlying30 rfl (info_PointC _ _ _) ?_; go_frame)
    | ((with_reducible change wpList _ _ _ (Oper.mk (some 25) _ _ _ _ _ :: _) _ _); refine kEqlP _ _ _ x1 y1 false x2 y2 false false rfl rfl rfl rfl (eqP_no mx1 my1 mx2 my2 (fun e => h25.out e.1)) ?_; go_frame)
    | ((with_reducible change wpList _ _ _ (Oper.mk (some 43) _ _ _ _ _ :: _) _ _); refine kLoadRow _ _ _ _ _ _ rfl rfl rfl (hM7.get 0 rfl) Tryd.underlying24 rfl (info_WideC _) ?_; go_frame)
    | (go_at_call 63; (with_reducible change Calls _ _ #[Value.pointer (some ⟨w3.heap.size, 0, none⟩), Value.agg (wcells v22)] _ _); refine (fInv_as hm (w3.heap.size) mv22 hne.out Hv44.out _ (hM7.get 2 rfl)).mono ?_; rintro e w8 ⟨rfl, hB8⟩; have hM8 := hM7.on hB8; clear hB8 hM7; (try unfold WV); go_frame)
    | ((with_reducible change wpList _ _ _ (Oper.mk (some 8) _ _ _ _ _ :: _) _ _); refine mmAlloc hM8 _ _ rfl rfl zero_Wide ?_; intro w9 hM9; clear hM8; go_frame)
    | ((with_reducible change wpList _ _ _ (Oper.mk none (Op.store _ (Operand.tmp 8) (Operand.tmp 45)) _ _ _ _ :: _) _ _); refine mmStoreAt hM9 0 _ _ _ _ _ _ (wcells v44) rfl rfl rfl rfl rfl (info_WideC _) (by simp only [wcells_size]) (wcells_one _) ?_; intro w10 hM10; dsimp only [List.set] at hM10; clear hM9; go_frame)
    | ((with_reducible change wpList _ _ _ (Oper.mk (some 48) _ _ _ _ _ :: _) _ _); refine kLoadRow _ _ _ _ _ _ rfl rfl rfl (hM10.get 2 rfl) Tryd.underlying24 rfl (info_WideC _) ?_; go_frame)
    | ((with_reducible change wpList _ _ _ (Oper.mk (some 49) _ _ _ _ _ :: _) _ _); refine kLoadRow _ _ _ _ _ _ rfl rfl rfl (hM10.get 0 rfl) Tryd.underlying24 rfl (info_WideC _) ?_; go_frame)
    | (go_at_call 38; (with_reducible change Calls _ _ #[Value.pointer (some ⟨w3.heap.size, 0, none⟩), Value.agg (wcells v16), Value.agg (wcells v44)] _ _); refine (fMul_as hm (w3.heap.size) mv16 mv44 Hv50.out _ (hM10.get 3 rfl)).mono ?_; rintro e w11 ⟨rfl, hB11⟩; have hM11 := hM10.on hB11; clear hB11 hM10; (try unfold WV); go_frame)
    | ((with_reducible change wpList _ _ _ (Oper.mk none (Op.store _ (Operand.tmp 4) (Operand.tmp 50)) _ _ _ _ :: _) _ _); refine mmStoreAt hM11 4 _ _ _ _ _ _ (wcells v50) rfl rfl rfl rfl rfl (info_WideC _) (by simp only [wcells_size]) (wcells_one _) ?_; intro w12 hM12; dsimp only [List.set] at hM12; clear hM11; go_frame))
  exact result_row Tryd.results36 rfl (hM12.get 4 rfl) Tryd.underlying24 rfl (info_WideC _) rfl ⟨by rw [R.out] <;> rfl, hM12.below⟩
set_option maxRecDepth 100000 in
set_option maxHeartbeats 8000000 in
theorem cBase_any (w : World) (hB : GlobP 1 gX gY false w) : Calls Tryd.prog 14 #[] w fun e w' => e = .returned (.agg (ptc gPt)) ∧ Below w.heap.size w w' := by
  have R := Lib.hid (show Value.agg (pcells gX gY false) = .agg (ptc gPt) by show _ = Value.agg (pcells (FP gX).val (FP gY).val false); rw [← val_of (show gX < PP by decide) rfl, ← val_of (show gY < PP by decide) rfl])
  have hM0 := mm_nil w
  (try unfold WV)
  go_enter Tryd.func14, Tryd.ntmps14
  go_wp2_with (first
    | ((with_reducible change wpList _ _ _ (Oper.mk (some 0) _ _ _ _ _ :: _) _ _); refine mmAlloc hM0 _ _ rfl rfl zero_Point ?_; intro w1 hM1; clear hM0; go_frame)
    | ((with_reducible change wpList _ _ _ (Oper.mk (some 1) _ _ _ _ _ :: _) _ _); refine kLoadGP _ _ _ _ _ rfl rfl rfl (hB.below hM1.below) ?_; go_frame)
    | ((with_reducible change wpList _ _ _ (Oper.mk none (Op.store _ (Operand.tmp 0) (Operand.tmp 1)) _ _ _ _ :: _) _ _); refine mmStoreAt hM1 0 _ _ _ _ _ _ (pcells gX gY false) rfl rfl rfl rfl rfl (info_PointC _ _ _) (by simp only [pcells_size]) (pcells_one _ _ _) ?_; intro w2 hM2; dsimp only [List.set] at hM2; clear hM1; go_frame))
  exact result_row Tryd.results14 rfl (hM2.get 0 rfl) Tryd.underlying30 rfl (info_PointC _ _ _) rfl ⟨by rw [R.out] <;> rfl, hM2.below⟩
set_option maxRecDepth 100000 in
set_option maxHeartbeats 8000000 in
theorem nowhere_any (w : World) : Calls Tryd.prog 17 #[] w fun e w' => e = .returned (.agg (ptc .o)) ∧ Below w.heap.size w w' := by
  have hM0 := mm_nil w
  (try unfold WV)
  go_enter Tryd.func17, Tryd.ntmps17
  go_wp2_with (first
    | ((with_reducible change wpList _ _ _ (Oper.mk (some 0) _ _ _ _ _ :: _) _ _); refine mmAlloc hM0 _ _ rfl rfl zero_Point ?_; intro w1 hM1; clear hM0; go_frame)
    | ((with_reducible change wpList _ _ _ (Oper.mk (some 1) _ _ _ _ _ :: _) _ _); refine kBuildPointN rfl rfl ?_; go_frame)
    | ((with_reducible change wpList _ _ _ (Oper.mk none (Op.store _ (Operand.tmp 0) (Operand.tmp 1)) _ _ _ _ :: _) _ _); refine mmStoreAt hM1 0 _ _ _ _ _ _ (pcells 0 0 true) rfl rfl rfl rfl rfl (info_PointC _ _ _) (by simp only [pcells_size]) (pcells_one _ _ _) ?_; intro w2 hM2; dsimp only [List.set] at hM2; clear hM1; go_frame))
  exact result_row Tryd.results17 rfl (hM2.get 0 rfl) Tryd.underlying30 rfl (info_PointC _ _ _) rfl ⟨rfl, hM2.below⟩
end Go.Proofs.YtecibidncelebaaDoor
