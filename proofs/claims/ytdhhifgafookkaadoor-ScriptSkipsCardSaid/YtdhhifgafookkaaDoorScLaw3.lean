/-
  Layer 7: the walk of ScriptSkips.
-/
import Derived.Test.YtdhhifgafookkaaDoorScLaw2
namespace Go.Proofs.YtdhhifgafookkaaDoor
open Go Go.RowKit

theorem kFree {P : Program} {ops : Array Oper} {Q : Exit → Act → World → Prop} {rest : List Oper} {o : Oper} {a : Act} {w : World} (hg : Region.wanted o (yielded ops a.tmps) = true) (h : wpList P ops Q ({ o with guard := none } :: rest) a w) : wpList P ops Q (o :: rest) a w := by
  unfold wpList at h ⊢
  rw [if_pos hg]
  rw [if_pos (show Region.wanted { o with guard := none } (yielded ops a.tmps) = true from rfl)] at h
  exact h
set_option maxRecDepth 100000 in
set_option maxHeartbeats 8000000 in
theorem scriptSkips_walk (t0 : Bool) {l1 l2 : List UInt8} {v1 v2 : Value} (W : World) (w1 : IsVals W v1 (l1.map VB)) (w2 : IsVals W v2 (l2.map VB)) : Calls Tryd.prog 5 #[.bool t0, v1, v2] W fun e W' => e = .returned (.bool true) ∧ Below W.heap.size W W' := by
  obtain ⟨i, hi, hz, hs1, hby⟩ := b8Info
  obtain ⟨iy, hiy, hzy, hsy, hbyy⟩ := bysInfo
  obtain ⟨N, hN⟩ : ∃ N, l1.length = N := ⟨_, rfl⟩
  obtain ⟨M, hM⟩ : ∃ M, l2.length = M := ⟨_, rfl⟩
  by_cases k0 : 70 < N
  · have g0 : decide ((N : Int) > 70) = true := by simp; omega
    have hB0 := Below.refl W.heap.size W
    have hsz0 := hB0.size
    go_enter Tryd.func5, Tryd.ntmps5
    go_wp2_with (first
      | (go_at_call 8; refine (scriptAlive_any _).mono ?_; rintro e0 p1 ⟨rfl, hBB⟩; have hB1 := hB0.trans (hBB.mono hsz0); have hsz1 := hB1.size; clear hB0 hsz0 hBB; go_frame)
      | ((with_reducible change wpList _ _ _ (Oper.mk (some 18) _ _ _ _ _ :: _) _ _); refine kLenN _ _ _ v1 _ N rfl rfl rfl (w1.below hB1) (by rw [List.length_map, hN]) Tryd.underlying22 ?_; go_frame)
      | ((with_reducible change wpList _ _ _ (Oper.mk (some 19) _ _ _ _ _ :: _) _ _); refine kGtrI _ _ _ _ .i64 (N : Int) 70 true rfl rfl rfl rfl g0 ?_; go_frame))
    go_ret
    exact ⟨rfl, hB1⟩
  have g0 : decide ((N : Int) > 70) = false := by simp; omega
  by_cases k1 : 70 < M
  · have g1 : decide ((M : Int) > 70) = true := by simp; omega
    have hB0 := Below.refl W.heap.size W
    have hsz0 := hB0.size
    go_enter Tryd.func5, Tryd.ntmps5
    go_wp2_with (first
      | (go_at_call 8; refine (scriptAlive_any _).mono ?_; rintro e0 p1 ⟨rfl, hBB⟩; have hB1 := hB0.trans (hBB.mono hsz0); have hsz1 := hB1.size; clear hB0 hsz0 hBB; go_frame)
      | ((with_reducible change wpList _ _ _ (Oper.mk (some 18) _ _ _ _ _ :: _) _ _); refine kLenN _ _ _ v1 _ N rfl rfl rfl (w1.below hB1) (by rw [List.length_map, hN]) Tryd.underlying22 ?_; go_frame)
      | ((with_reducible change wpList _ _ _ (Oper.mk (some 19) _ _ _ _ _ :: _) _ _); refine kGtrI _ _ _ _ .i64 (N : Int) 70 false rfl rfl rfl rfl g0 ?_; go_frame)
      | ((with_reducible change wpList _ _ _ (Oper.mk (some 22) _ _ _ _ _ :: _) _ _); refine kLenN _ _ _ v2 _ M rfl rfl rfl (w2.below hB1) (by rw [List.length_map, hM]) Tryd.underlying22 ?_; go_frame)
      | ((with_reducible change wpList _ _ _ (Oper.mk (some 23) _ _ _ _ _ :: _) _ _); refine kGtrI _ _ _ _ .i64 (M : Int) 70 true rfl rfl rfl rfl g1 ?_; go_frame))
    go_ret
    exact ⟨rfl, hB1⟩
  have g1 : decide ((M : Int) > 70) = false := by simp; omega
  have ha : l1.length ≤ 70 := by omega
  have hb : l2.length ≤ 70 := by omega
  have o1 := vals_oneS w1
  have o2 := vals_oneS w2
  obtain ⟨PA, hPA⟩ : ∃ PA, pushL l1 = PA := ⟨_, rfl⟩
  obtain ⟨PB, hPB⟩ : ∃ PB, pushL l2 = PB := ⟨_, rfl⟩
  have hPAl : PA.length ≤ 73 := by rw [← hPA]; exact pushL_le' ha
  have hPBl : PB.length ≤ 73 := by rw [← hPB]; exact pushL_le' hb
  have hp1 : ∀ (w : World) (u : Value), AreLists w u [l1] → Calls Tryd.prog 13 #[.slice none 0 0, u] w fun e w' => ∃ v, e = .returned v ∧ IsVals w' v (PA.map VB) ∧ Below w.heap.size w w' := fun w u h => hPA ▸ pushOne w h (by omega)
  have hp2 : ∀ (w : World) (u : Value), AreLists w u [l2] → Calls Tryd.prog 13 #[.slice none 0 0, u] w fun e w' => ∃ v, e = .returned v ∧ IsVals w' v (PB.map VB) ∧ Below w.heap.size w w' := fun w u h => hPB ▸ pushOne w h (by omega)
  cases t0 with
  | true =>
    obtain ⟨q, hq⟩ : ∃ q, trueB l1 = q := ⟨_, rfl⟩
    have hrl : runS calm [] ([] ++ [81] ++ [99] ++ PA ++ [103] ++ PB ++ [104]) = some (if q then 0 else 74) := by
      have h := skips_lock true false ha hb
      rw [hPA, hPB] at h
      rw [← hq]
      simpa [flagL] using h
    have hrt : runS calm [] ([] ++ [81] ++ [100] ++ PB ++ [103] ++ PA ++ [104]) = some (if q then 0 else 74) := by
      have h := skips_lock true true hb ha
      rw [hPA, hPB] at h
      rw [← hq]
      simpa [flagL] using h
    have hrd : runS calm [] ([0, 99] ++ [255, 172, 118, 106] ++ PA ++ [104] ++ ([] ++ [81] ++ [99] ++ PA ++ [103] ++ PB ++ [104])) = some (if q then 0 else 74) := by
      have h := skips_dead true ha hb
      rw [hPA, hPB] at h
      rw [← hq]
      simpa [flagL] using h
    clear hPA hPB
    have hB0 := Below.refl W.heap.size W
    have hsz0 := hB0.size
    go_enter Tryd.func5, Tryd.ntmps5
    go_wp2_with (first
      | (go_at_call 8; refine (scriptAlive_any _).mono ?_; rintro e0 p1 ⟨rfl, hBB⟩; have hB1 := hB0.trans (hBB.mono hsz0); have hsz1 := hB1.size; clear hB0 hsz0 hBB; go_frame)
      | ((with_reducible change wpList _ _ _ (Oper.mk (some 18) _ _ _ _ _ :: _) _ _); refine kLenN _ _ _ v1 _ N rfl rfl rfl (w1.below hB1) (by rw [List.length_map, hN]) Tryd.underlying22 ?_; go_frame)
      | ((with_reducible change wpList _ _ _ (Oper.mk (some 19) _ _ _ _ _ :: _) _ _); refine kGtrI _ _ _ _ .i64 (N : Int) 70 false rfl rfl rfl rfl g0 ?_; go_frame)
      | ((with_reducible change wpList _ _ _ (Oper.mk (some 22) _ _ _ _ _ :: _) _ _); refine kLenN _ _ _ v2 _ M rfl rfl rfl (w2.below hB1) (by rw [List.length_map, hM]) Tryd.underlying22 ?_; go_frame)
      | ((with_reducible change wpList _ _ _ (Oper.mk (some 23) _ _ _ _ _ :: _) _ _); refine kGtrI _ _ _ _ .i64 (M : Int) 70 false rfl rfl rfl rfl g1 ?_; go_frame)
      | ((with_reducible change wpList _ _ _ (Oper.mk (some 26) _ _ _ _ _ :: _) _ _); refine kBuildSlice1 _ _ _ v1 rfl rfl Tryd.underlying40 iy _ hiy hzy hsy rfl o1 ?_; intro p2 hRr hzz hBB; clear hzz; have hLs := areLists_one hRr ((w1.below hB1).below hBB); clear hRr; have hB2 := hB1.trans (hBB.mono hsz1); have hsz2 := hB2.size; clear hB1 hsz1 hBB; go_frame)
      | (go_at_call 13; refine (hp1 _ _ hLs).mono ?_; rintro e0 p3 ⟨f1, rfl, hFst, hBB⟩; clear hLs; have hB3 := hB2.trans (hBB.mono hsz2); have hsz3 := hB3.size; clear hB2 hsz2 hBB; go_frame)
      | ((with_reducible change wpList _ _ _ (Oper.mk (some 29) _ _ _ _ _ :: _) _ _); refine kBuildSlice1 _ _ _ v2 rfl rfl Tryd.underlying40 iy _ hiy hzy hsy rfl o2 ?_; intro p4 hRr hzz hBB; clear hzz; have hLs := areLists_one hRr ((w2.below hB3).below hBB); clear hRr; have hB4 := hB3.trans (hBB.mono hsz3); have hsz4 := hB4.size; have hFst_4 := hFst.below hBB; clear hB3 hsz3 hFst hBB; go_frame)
      | (go_at_call 13; refine (hp2 _ _ hLs).mono ?_; rintro e0 p5 ⟨f2, rfl, hSnd, hBB⟩; clear hLs; have hB5 := hB4.trans (hBB.mono hsz4); have hsz5 := hB5.size; have hFst_5 := hFst_4.below hBB; clear hB4 hsz4 hFst_4 hBB; go_frame)
      | ((with_reducible change wpList _ _ _ (Oper.mk (some 31) _ _ _ _ _ :: _) _ _); refine kBuildSlice1 _ _ _ (VB 0) rfl rfl Tryd.underlying22 i _ hi hz hs1 rfl rfl ?_; intro p6 hRr hzz hBB; clear hzz; have hF0 : IsVals p6 _ (([0] : List UInt8).map VB) := isVals_lit (l := [VB 0]) hRr; clear hRr; have hB6 := hB5.trans (hBB.mono hsz5); have hsz6 := hB6.size; have hFst_6 := hFst_5.below hBB; have hSnd_6 := hSnd.below hBB; clear hB5 hsz5 hFst_5 hSnd hBB; go_frame)
      | ((with_reducible change wpList _ _ _ (Oper.mk (some 33) _ _ _ _ _ :: _) _ _); refine kBuildSlice1 _ _ _ (VB 81) rfl rfl Tryd.underlying22 i _ hi hz hs1 rfl rfl ?_; intro p7 hRr hzz hBB; clear hzz; have hF1 : IsVals p7 _ (([81] : List UInt8).map VB) := isVals_lit (l := [VB 81]) hRr; clear hRr; have hB7 := hB6.trans (hBB.mono hsz6); have hsz7 := hB7.size; have hFst_7 := hFst_6.below hBB; have hSnd_7 := hSnd_6.below hBB; have hF0_7 := hF0.below hBB; clear hB6 hsz6 hFst_6 hSnd_6 hF0 hBB; go_frame)
      | ((with_reducible change wpList _ _ _ (Oper.mk (some 34) _ _ _ _ _ :: _) _ _); refine kBuildSlice0 _ _ rfl rfl Tryd.underlying22 i hi ?_; intro r7_0 hRr hzz hA0; clear hzz; have hO0 : OwnB r7_0 p7.heap.size _ [] := own_empty (Nat.le_refl _) hRr; clear hRr; have hAs0 := hA0.size; go_frame)
      | ((with_reducible change wpList _ _ _ (Oper.mk (some 36) _ _ _ _ _ :: _) _ _); refine kAppB _ _ rfl rfl p7.heap.size _ _ ([]) [81] hO0 (hF1.below hA0) rfl rfl (by simp <;> omega) hAs0 ?_; intro v36 r7_1 hO1 hBB; have hA1 := hA0.trans hBB; have hAs1 := hA1.size; clear hO0 hA0 hAs0 hBB; go_frame)
      | ((with_reducible change wpList _ _ _ (Oper.mk (some 37) _ _ _ _ _ :: _) _ _); refine kBuildSlice1 _ _ _ (VB 99) rfl rfl Tryd.underlying22 i _ hi hz hs1 rfl rfl ?_; intro r7_2 hRr hzz hBB; clear hzz; have hX : IsVals r7_2 _ (([99] : List UInt8).map VB) := isVals_lit (l := [VB 99]) hRr; clear hRr; have hO2 := hO1.below hBB; have hA2 := hA1.trans (hBB.mono hAs1); have hAs2 := hA2.size; clear hO1 hA1 hAs1 hBB; go_frame)
      | ((with_reducible change wpList _ _ _ (Oper.mk (some 38) _ _ _ _ _ :: _) _ _); refine kAppB _ _ rfl rfl p7.heap.size _ _ ([] ++ [81]) [99] hO2 hX rfl rfl (by simp <;> omega) hAs2 ?_; intro v38 r7_3 hO3 hBB; have hA3 := hA2.trans hBB; have hAs3 := hA3.size; clear hO2 hA2 hAs2 hBB; clear hX; go_frame)
      | ((with_reducible change wpList _ _ _ (Oper.mk (some 40) _ _ _ _ _ :: _) _ _); refine kAppB _ _ rfl rfl p7.heap.size _ _ ([] ++ [81] ++ [99]) PA hO3 (hFst_7.below hA3) rfl rfl (by simp <;> omega) hAs3 ?_; intro v40 r7_4 hO4 hBB; have hA4 := hA3.trans hBB; have hAs4 := hA4.size; clear hO3 hA3 hAs3 hBB; go_frame)
      | ((with_reducible change wpList _ _ _ (Oper.mk (some 41) _ _ _ _ _ :: _) _ _); refine kBuildSlice1 _ _ _ (VB 103) rfl rfl Tryd.underlying22 i _ hi hz hs1 rfl rfl ?_; intro r7_5 hRr hzz hBB; clear hzz; have hX : IsVals r7_5 _ (([103] : List UInt8).map VB) := isVals_lit (l := [VB 103]) hRr; clear hRr; have hO5 := hO4.below hBB; have hA5 := hA4.trans (hBB.mono hAs4); have hAs5 := hA5.size; clear hO4 hA4 hAs4 hBB; go_frame)
      | ((with_reducible change wpList _ _ _ (Oper.mk (some 42) _ _ _ _ _ :: _) _ _); refine kAppB _ _ rfl rfl p7.heap.size _ _ ([] ++ [81] ++ [99] ++ PA) [103] hO5 hX rfl rfl (by simp <;> omega) hAs5 ?_; intro v42 r7_6 hO6 hBB; have hA6 := hA5.trans hBB; have hAs6 := hA6.size; clear hO5 hA5 hAs5 hBB; clear hX; go_frame)
      | ((with_reducible change wpList _ _ _ (Oper.mk (some 44) _ _ _ _ _ :: _) _ _); refine kAppB _ _ rfl rfl p7.heap.size _ _ ([] ++ [81] ++ [99] ++ PA ++ [103]) PB hO6 (hSnd_7.below hA6) rfl rfl (by simp <;> omega) hAs6 ?_; intro v44 r7_7 hO7 hBB; have hA7 := hA6.trans hBB; have hAs7 := hA7.size; clear hO6 hA6 hAs6 hBB; go_frame)
      | ((with_reducible change wpList _ _ _ (Oper.mk (some 45) _ _ _ _ _ :: _) _ _); refine kBuildSlice1 _ _ _ (VB 104) rfl rfl Tryd.underlying22 i _ hi hz hs1 rfl rfl ?_; intro r7_8 hRr hzz hBB; clear hzz; have hX : IsVals r7_8 _ (([104] : List UInt8).map VB) := isVals_lit (l := [VB 104]) hRr; clear hRr; have hO8 := hO7.below hBB; have hA8 := hA7.trans (hBB.mono hAs7); have hAs8 := hA8.size; clear hO7 hA7 hAs7 hBB; go_frame)
      | ((with_reducible change wpList _ _ _ (Oper.mk (some 46) _ _ _ _ _ :: _) _ _); refine kAppB _ _ rfl rfl p7.heap.size _ _ ([] ++ [81] ++ [99] ++ PA ++ [103] ++ PB) [104] hO8 hX rfl rfl (by simp <;> omega) hAs8 ?_; intro v46 r7_9 hO9 hBB; have hA9 := hA8.trans hBB; have hAs9 := hA9.size; clear hO8 hA8 hAs8 hBB; clear hX; have hLock := hO9.vals; clear hO9 hAs9; have hB8 := hB7.trans (hA9.mono hsz7); have hsz8 := hB8.size; have hFst_8 := hFst_7.below hA9; have hSnd_8 := hSnd_7.below hA9; have hF0_8 := hF0_7.below hA9; have hF1_8 := hF1.below hA9; clear hB7 hsz7 hFst_7 hSnd_7 hF0_7 hF1 hA9; go_frame)
      | ((with_reducible change wpList _ _ _ (Oper.mk (some 50) _ _ _ _ _ :: _) _ _); refine kBuildSlice0 _ _ rfl rfl Tryd.underlying22 i hi ?_; intro r8_0 hRr hzz hA0; clear hzz; have hO0 : OwnB r8_0 r7_9.heap.size _ [] := own_empty (Nat.le_refl _) hRr; clear hRr; have hAs0 := hA0.size; go_frame)
      | ((with_reducible change wpList _ _ _ (Oper.mk (some 52) _ _ _ _ _ :: _) _ _); refine kAppB _ _ rfl rfl r7_9.heap.size _ _ ([]) [81] hO0 (hF1_8.below hA0) rfl rfl (by simp <;> omega) hAs0 ?_; intro v52 r8_1 hO1 hBB; have hA1 := hA0.trans hBB; have hAs1 := hA1.size; clear hO0 hA0 hAs0 hBB; go_frame)
      | ((with_reducible change wpList _ _ _ (Oper.mk (some 53) _ _ _ _ _ :: _) _ _); refine kBuildSlice1 _ _ _ (VB 100) rfl rfl Tryd.underlying22 i _ hi hz hs1 rfl rfl ?_; intro r8_2 hRr hzz hBB; clear hzz; have hX : IsVals r8_2 _ (([100] : List UInt8).map VB) := isVals_lit (l := [VB 100]) hRr; clear hRr; have hO2 := hO1.below hBB; have hA2 := hA1.trans (hBB.mono hAs1); have hAs2 := hA2.size; clear hO1 hA1 hAs1 hBB; go_frame)
      | ((with_reducible change wpList _ _ _ (Oper.mk (some 54) _ _ _ _ _ :: _) _ _); refine kAppB _ _ rfl rfl r7_9.heap.size _ _ ([] ++ [81]) [100] hO2 hX rfl rfl (by simp <;> omega) hAs2 ?_; intro v54 r8_3 hO3 hBB; have hA3 := hA2.trans hBB; have hAs3 := hA3.size; clear hO2 hA2 hAs2 hBB; clear hX; go_frame)
      | ((with_reducible change wpList _ _ _ (Oper.mk (some 56) _ _ _ _ _ :: _) _ _); refine kAppB _ _ rfl rfl r7_9.heap.size _ _ ([] ++ [81] ++ [100]) PB hO3 (hSnd_8.below hA3) rfl rfl (by simp <;> omega) hAs3 ?_; intro v56 r8_4 hO4 hBB; have hA4 := hA3.trans hBB; have hAs4 := hA4.size; clear hO3 hA3 hAs3 hBB; go_frame)
      | ((with_reducible change wpList _ _ _ (Oper.mk (some 57) _ _ _ _ _ :: _) _ _); refine kBuildSlice1 _ _ _ (VB 103) rfl rfl Tryd.underlying22 i _ hi hz hs1 rfl rfl ?_; intro r8_5 hRr hzz hBB; clear hzz; have hX : IsVals r8_5 _ (([103] : List UInt8).map VB) := isVals_lit (l := [VB 103]) hRr; clear hRr; have hO5 := hO4.below hBB; have hA5 := hA4.trans (hBB.mono hAs4); have hAs5 := hA5.size; clear hO4 hA4 hAs4 hBB; go_frame)
      | ((with_reducible change wpList _ _ _ (Oper.mk (some 58) _ _ _ _ _ :: _) _ _); refine kAppB _ _ rfl rfl r7_9.heap.size _ _ ([] ++ [81] ++ [100] ++ PB) [103] hO5 hX rfl rfl (by simp <;> omega) hAs5 ?_; intro v58 r8_6 hO6 hBB; have hA6 := hA5.trans hBB; have hAs6 := hA6.size; clear hO5 hA5 hAs5 hBB; clear hX; go_frame)
      | ((with_reducible change wpList _ _ _ (Oper.mk (some 60) _ _ _ _ _ :: _) _ _); refine kAppB _ _ rfl rfl r7_9.heap.size _ _ ([] ++ [81] ++ [100] ++ PB ++ [103]) PA hO6 (hFst_8.below hA6) rfl rfl (by simp <;> omega) hAs6 ?_; intro v60 r8_7 hO7 hBB; have hA7 := hA6.trans hBB; have hAs7 := hA7.size; clear hO6 hA6 hAs6 hBB; go_frame)
      | ((with_reducible change wpList _ _ _ (Oper.mk (some 61) _ _ _ _ _ :: _) _ _); refine kBuildSlice1 _ _ _ (VB 104) rfl rfl Tryd.underlying22 i _ hi hz hs1 rfl rfl ?_; intro r8_8 hRr hzz hBB; clear hzz; have hX : IsVals r8_8 _ (([104] : List UInt8).map VB) := isVals_lit (l := [VB 104]) hRr; clear hRr; have hO8 := hO7.below hBB; have hA8 := hA7.trans (hBB.mono hAs7); have hAs8 := hA8.size; clear hO7 hA7 hAs7 hBB; go_frame)
      | ((with_reducible change wpList _ _ _ (Oper.mk (some 62) _ _ _ _ _ :: _) _ _); refine kAppB _ _ rfl rfl r7_9.heap.size _ _ ([] ++ [81] ++ [100] ++ PB ++ [103] ++ PA) [104] hO8 hX rfl rfl (by simp <;> omega) hAs8 ?_; intro v62 r8_9 hO9 hBB; have hA9 := hA8.trans hBB; have hAs9 := hA9.size; clear hO8 hA8 hAs8 hBB; clear hX; have hTurn := hO9.vals; clear hO9 hAs9; have hB9 := hB8.trans (hA9.mono hsz8); have hsz9 := hB9.size; have hFst_9 := hFst_8.below hA9; have hSnd_9 := hSnd_8.below hA9; have hF0_9 := hF0_8.below hA9; have hF1_9 := hF1_8.below hA9; have hLock_9 := hLock.below hA9; clear hB8 hsz8 hFst_8 hSnd_8 hF0_8 hF1_8 hLock hA9; go_frame)
      | ((with_reducible change wpList _ _ _ (Oper.mk (some 63) _ _ _ _ _ :: _) _ _); refine kBuildSlice2 _ _ _ _ (VB 0) (VB 99) rfl rfl Tryd.underlying22 i _ hi hz hs1 rfl rfl rfl rfl ?_; intro r9_0 hRr hzz hA0; clear hzz; have hO0 := own_lit (base := r8_9.heap.size) [0, 99] (Nat.le_refl _) (by simp) hRr; clear hRr; have hAs0 := hA0.size; go_frame)
      | ((with_reducible change wpList _ _ _ (Oper.mk (some 64) _ _ _ _ _ :: _) _ _); refine kBuildSlice4 _ _ _ _ _ _ (VB 255) (VB 172) (VB 118) (VB 106) rfl rfl Tryd.underlying22 i _ hi hz hs1 rfl rfl rfl rfl rfl rfl rfl rfl ?_; intro r9_1 hRr hzz hBB; clear hzz; have hX : IsVals r9_1 _ (([255, 172, 118, 106] : List UInt8).map VB) := isVals_lit (l := [VB 255, VB 172, VB 118, VB 106]) hRr; clear hRr; have hO1 := hO0.below hBB; have hA1 := hA0.trans (hBB.mono hAs0); have hAs1 := hA1.size; clear hO0 hA0 hAs0 hBB; go_frame)
      | ((with_reducible change wpList _ _ _ (Oper.mk (some 65) _ _ _ _ _ :: _) _ _); refine kAppB _ _ rfl rfl r8_9.heap.size _ _ ([0, 99]) [255, 172, 118, 106] hO1 hX rfl rfl (by simp <;> omega) hAs1 ?_; intro v65 r9_2 hO2 hBB; have hA2 := hA1.trans hBB; have hAs2 := hA2.size; clear hO1 hA1 hAs1 hBB; clear hX; go_frame)
      | ((with_reducible change wpList _ _ _ (Oper.mk (some 67) _ _ _ _ _ :: _) _ _); refine kAppB _ _ rfl rfl r8_9.heap.size _ _ ([0, 99] ++ [255, 172, 118, 106]) PA hO2 (hFst_9.below hA2) rfl rfl (by simp <;> omega) hAs2 ?_; intro v67 r9_3 hO3 hBB; have hA3 := hA2.trans hBB; have hAs3 := hA3.size; clear hO2 hA2 hAs2 hBB; go_frame)
      | ((with_reducible change wpList _ _ _ (Oper.mk (some 68) _ _ _ _ _ :: _) _ _); refine kBuildSlice1 _ _ _ (VB 104) rfl rfl Tryd.underlying22 i _ hi hz hs1 rfl rfl ?_; intro r9_4 hRr hzz hBB; clear hzz; have hX : IsVals r9_4 _ (([104] : List UInt8).map VB) := isVals_lit (l := [VB 104]) hRr; clear hRr; have hO4 := hO3.below hBB; have hA4 := hA3.trans (hBB.mono hAs3); have hAs4 := hA4.size; clear hO3 hA3 hAs3 hBB; go_frame)
      | ((with_reducible change wpList _ _ _ (Oper.mk (some 69) _ _ _ _ _ :: _) _ _); refine kAppB _ _ rfl rfl r8_9.heap.size _ _ ([0, 99] ++ [255, 172, 118, 106] ++ PA) [104] hO4 hX rfl rfl (by simp <;> omega) hAs4 ?_; intro v69 r9_5 hO5 hBB; have hA5 := hA4.trans hBB; have hAs5 := hA5.size; clear hO4 hA4 hAs4 hBB; clear hX; have hDead := own_less hsz9 hO5; clear hO5 hAs5; have hB10 := hB9.trans (hA5.mono hsz9); have hsz10 := hB10.size; have hFst_10 := hFst_9.below hA5; have hSnd_10 := hSnd_9.below hA5; have hF0_10 := hF0_9.below hA5; have hF1_10 := hF1_9.below hA5; have hLock_10 := hLock_9.below hA5; have hTurn_10 := hTurn.below hA5; clear hB9 hsz9 hFst_9 hSnd_9 hF0_9 hF1_9 hLock_9 hTurn hA5; go_frame)
      | ((with_reducible change wpList _ _ _ (Oper.mk (some 71) _ _ _ _ _ :: _) _ _); refine kBuildAny _ _ #[] _ rfl rfl (by simp) built_hash0 ?_; go_frame)
      | (go_at_call 15; (with_reducible change Calls _ _ #[_, v46, _] _ _); refine (open0 (b := q) _ (isVals_nil _) hLock_10 hrl (dec_if q)).mono ?_; rintro e0 p11 ⟨rfl, hBB⟩; have hB11 := hB10.trans (hBB.mono hsz10); have hsz11 := hB11.size; have hFst_11 := hFst_10.below hBB; have hSnd_11 := hSnd_10.below hBB; have hF0_11 := hF0_10.below hBB; have hF1_11 := hF1_10.below hBB; have hLock_11 := hLock_10.below hBB; have hTurn_11 := hTurn_10.below hBB; have hDead_11 := hDead.below hBB; clear hB10 hsz10 hFst_10 hSnd_10 hF0_10 hF1_10 hLock_10 hTurn_10 hDead hBB; go_frame)
      | (go_at_call 11; refine (scTrue_any _ (w1.below hB11) (by omega)).mono ?_; rintro e w9 ⟨rfl, rfl⟩; rw [hq]; go_frame)
      | ((with_reducible change wpList _ _ _ (Oper.mk (some 76) _ _ _ _ _ :: _) _ _); refine kEqlBool _ _ _ _ q q true rfl rfl rfl rfl Tryd.underlying4 (by simp) ?_; go_frame)
      | ((with_reducible change wpList _ _ _ (Oper.mk (some 79) _ _ _ _ _ :: _) _ _); refine kBuildAny _ _ #[] _ rfl rfl (by simp) built_hash0 ?_; go_frame)
      | (go_at_call 15; (with_reducible change Calls _ _ #[_, v62, _] _ _); refine (open0 (b := q) _ (isVals_nil _) hTurn_11 hrt (dec_if q)).mono ?_; rintro e0 p12 ⟨rfl, hBB⟩; clear hTurn_11; have hB12 := hB11.trans (hBB.mono hsz11); have hsz12 := hB12.size; have hFst_12 := hFst_11.below hBB; have hSnd_12 := hSnd_11.below hBB; have hF0_12 := hF0_11.below hBB; have hF1_12 := hF1_11.below hBB; have hLock_12 := hLock_11.below hBB; have hDead_12 := hDead_11.below hBB; clear hB11 hsz11 hFst_11 hSnd_11 hF0_11 hF1_11 hLock_11 hDead_11 hBB; go_frame)
      | ((with_reducible change wpList _ _ _ (Oper.mk (some 82) _ _ _ _ _ :: _) _ _); refine kEqlBool _ _ _ _ q q true rfl rfl rfl rfl Tryd.underlying4 (by simp) ?_; go_frame)
      | ((with_reducible change wpList _ _ _ (Oper.mk (some 87) _ _ _ _ _ :: _) _ _); refine kFree rfl ?_; dsimp only; refine kAppB _ _ rfl rfl W.heap.size _ _ ([0, 99] ++ [255, 172, 118, 106] ++ PA ++ [104]) ([] ++ [81] ++ [99] ++ PA ++ [103] ++ PB ++ [104]) hDead_12 hLock_12 rfl rfl (by simp <;> omega) hsz12 ?_; intro vA pA hOA hBA; have hVA := hOA.vals; have hBX := hB12.trans hBA; have hszX := hBX.size; clear hOA hBA; go_frame)
      | ((with_reducible change wpList _ _ _ (Oper.mk (some 88) _ _ _ _ _ :: _) _ _); refine kBuildAny _ _ #[] _ rfl rfl (by simp) built_hash0 ?_; go_frame)
      | (go_at_call 15; (with_reducible change Calls _ _ #[_, vA, _] _ _); refine (open0 (b := q) _ (isVals_nil _) hVA hrd (dec_if q)).mono ?_; rintro e0 pB ⟨rfl, hBB⟩; have hBY := hBX.trans (hBB.mono hszX); go_frame)
      | ((with_reducible change wpList _ _ _ (Oper.mk (some 91) _ _ _ _ _ :: _) _ _); refine kEqlBool _ _ _ _ q q true rfl rfl rfl rfl Tryd.underlying4 (by simp) ?_; go_frame))
    go_ret
    exact ⟨rfl, hBY⟩
  | false =>
    obtain ⟨q, hq⟩ : ∃ q, trueB l2 = q := ⟨_, rfl⟩
    have hrl : runS calm [] ([] ++ [0] ++ [99] ++ PA ++ [103] ++ PB ++ [104]) = some (if q then 0 else 74) := by
      have h := skips_lock false false ha hb
      rw [hPA, hPB] at h
      rw [← hq]
      simpa [flagL] using h
    have hrt : runS calm [] ([] ++ [0] ++ [100] ++ PB ++ [103] ++ PA ++ [104]) = some (if q then 0 else 74) := by
      have h := skips_lock false true hb ha
      rw [hPA, hPB] at h
      rw [← hq]
      simpa [flagL] using h
    have hrd : runS calm [] ([0, 99] ++ [255, 172, 118, 106] ++ PA ++ [104] ++ ([] ++ [0] ++ [99] ++ PA ++ [103] ++ PB ++ [104])) = some (if q then 0 else 74) := by
      have h := skips_dead false ha hb
      rw [hPA, hPB] at h
      rw [← hq]
      simpa [flagL] using h
    clear hPA hPB
    have hB0 := Below.refl W.heap.size W
    have hsz0 := hB0.size
    go_enter Tryd.func5, Tryd.ntmps5
    go_wp2_with (first
      | (go_at_call 8; refine (scriptAlive_any _).mono ?_; rintro e0 p1 ⟨rfl, hBB⟩; have hB1 := hB0.trans (hBB.mono hsz0); have hsz1 := hB1.size; clear hB0 hsz0 hBB; go_frame)
      | ((with_reducible change wpList _ _ _ (Oper.mk (some 18) _ _ _ _ _ :: _) _ _); refine kLenN _ _ _ v1 _ N rfl rfl rfl (w1.below hB1) (by rw [List.length_map, hN]) Tryd.underlying22 ?_; go_frame)
      | ((with_reducible change wpList _ _ _ (Oper.mk (some 19) _ _ _ _ _ :: _) _ _); refine kGtrI _ _ _ _ .i64 (N : Int) 70 false rfl rfl rfl rfl g0 ?_; go_frame)
      | ((with_reducible change wpList _ _ _ (Oper.mk (some 22) _ _ _ _ _ :: _) _ _); refine kLenN _ _ _ v2 _ M rfl rfl rfl (w2.below hB1) (by rw [List.length_map, hM]) Tryd.underlying22 ?_; go_frame)
      | ((with_reducible change wpList _ _ _ (Oper.mk (some 23) _ _ _ _ _ :: _) _ _); refine kGtrI _ _ _ _ .i64 (M : Int) 70 false rfl rfl rfl rfl g1 ?_; go_frame)
      | ((with_reducible change wpList _ _ _ (Oper.mk (some 26) _ _ _ _ _ :: _) _ _); refine kBuildSlice1 _ _ _ v1 rfl rfl Tryd.underlying40 iy _ hiy hzy hsy rfl o1 ?_; intro p2 hRr hzz hBB; clear hzz; have hLs := areLists_one hRr ((w1.below hB1).below hBB); clear hRr; have hB2 := hB1.trans (hBB.mono hsz1); have hsz2 := hB2.size; clear hB1 hsz1 hBB; go_frame)
      | (go_at_call 13; refine (hp1 _ _ hLs).mono ?_; rintro e0 p3 ⟨f1, rfl, hFst, hBB⟩; clear hLs; have hB3 := hB2.trans (hBB.mono hsz2); have hsz3 := hB3.size; clear hB2 hsz2 hBB; go_frame)
      | ((with_reducible change wpList _ _ _ (Oper.mk (some 29) _ _ _ _ _ :: _) _ _); refine kBuildSlice1 _ _ _ v2 rfl rfl Tryd.underlying40 iy _ hiy hzy hsy rfl o2 ?_; intro p4 hRr hzz hBB; clear hzz; have hLs := areLists_one hRr ((w2.below hB3).below hBB); clear hRr; have hB4 := hB3.trans (hBB.mono hsz3); have hsz4 := hB4.size; have hFst_4 := hFst.below hBB; clear hB3 hsz3 hFst hBB; go_frame)
      | (go_at_call 13; refine (hp2 _ _ hLs).mono ?_; rintro e0 p5 ⟨f2, rfl, hSnd, hBB⟩; clear hLs; have hB5 := hB4.trans (hBB.mono hsz4); have hsz5 := hB5.size; have hFst_5 := hFst_4.below hBB; clear hB4 hsz4 hFst_4 hBB; go_frame)
      | ((with_reducible change wpList _ _ _ (Oper.mk (some 31) _ _ _ _ _ :: _) _ _); refine kBuildSlice1 _ _ _ (VB 0) rfl rfl Tryd.underlying22 i _ hi hz hs1 rfl rfl ?_; intro p6 hRr hzz hBB; clear hzz; have hF0 : IsVals p6 _ (([0] : List UInt8).map VB) := isVals_lit (l := [VB 0]) hRr; clear hRr; have hB6 := hB5.trans (hBB.mono hsz5); have hsz6 := hB6.size; have hFst_6 := hFst_5.below hBB; have hSnd_6 := hSnd.below hBB; clear hB5 hsz5 hFst_5 hSnd hBB; go_frame)
      | ((with_reducible change wpList _ _ _ (Oper.mk (some 34) _ _ _ _ _ :: _) _ _); refine kBuildSlice0 _ _ rfl rfl Tryd.underlying22 i hi ?_; intro r6_0 hRr hzz hA0; clear hzz; have hO0 : OwnB r6_0 p6.heap.size _ [] := own_empty (Nat.le_refl _) hRr; clear hRr; have hAs0 := hA0.size; go_frame)
      | ((with_reducible change wpList _ _ _ (Oper.mk (some 36) _ _ _ _ _ :: _) _ _); refine kAppB _ _ rfl rfl p6.heap.size _ _ ([]) [0] hO0 (hF0.below hA0) rfl rfl (by simp <;> omega) hAs0 ?_; intro v36 r6_1 hO1 hBB; have hA1 := hA0.trans hBB; have hAs1 := hA1.size; clear hO0 hA0 hAs0 hBB; go_frame)
      | ((with_reducible change wpList _ _ _ (Oper.mk (some 37) _ _ _ _ _ :: _) _ _); refine kBuildSlice1 _ _ _ (VB 99) rfl rfl Tryd.underlying22 i _ hi hz hs1 rfl rfl ?_; intro r6_2 hRr hzz hBB; clear hzz; have hX : IsVals r6_2 _ (([99] : List UInt8).map VB) := isVals_lit (l := [VB 99]) hRr; clear hRr; have hO2 := hO1.below hBB; have hA2 := hA1.trans (hBB.mono hAs1); have hAs2 := hA2.size; clear hO1 hA1 hAs1 hBB; go_frame)
      | ((with_reducible change wpList _ _ _ (Oper.mk (some 38) _ _ _ _ _ :: _) _ _); refine kAppB _ _ rfl rfl p6.heap.size _ _ ([] ++ [0]) [99] hO2 hX rfl rfl (by simp <;> omega) hAs2 ?_; intro v38 r6_3 hO3 hBB; have hA3 := hA2.trans hBB; have hAs3 := hA3.size; clear hO2 hA2 hAs2 hBB; clear hX; go_frame)
      | ((with_reducible change wpList _ _ _ (Oper.mk (some 40) _ _ _ _ _ :: _) _ _); refine kAppB _ _ rfl rfl p6.heap.size _ _ ([] ++ [0] ++ [99]) PA hO3 (hFst_6.below hA3) rfl rfl (by simp <;> omega) hAs3 ?_; intro v40 r6_4 hO4 hBB; have hA4 := hA3.trans hBB; have hAs4 := hA4.size; clear hO3 hA3 hAs3 hBB; go_frame)
      | ((with_reducible change wpList _ _ _ (Oper.mk (some 41) _ _ _ _ _ :: _) _ _); refine kBuildSlice1 _ _ _ (VB 103) rfl rfl Tryd.underlying22 i _ hi hz hs1 rfl rfl ?_; intro r6_5 hRr hzz hBB; clear hzz; have hX : IsVals r6_5 _ (([103] : List UInt8).map VB) := isVals_lit (l := [VB 103]) hRr; clear hRr; have hO5 := hO4.below hBB; have hA5 := hA4.trans (hBB.mono hAs4); have hAs5 := hA5.size; clear hO4 hA4 hAs4 hBB; go_frame)
      | ((with_reducible change wpList _ _ _ (Oper.mk (some 42) _ _ _ _ _ :: _) _ _); refine kAppB _ _ rfl rfl p6.heap.size _ _ ([] ++ [0] ++ [99] ++ PA) [103] hO5 hX rfl rfl (by simp <;> omega) hAs5 ?_; intro v42 r6_6 hO6 hBB; have hA6 := hA5.trans hBB; have hAs6 := hA6.size; clear hO5 hA5 hAs5 hBB; clear hX; go_frame)
      | ((with_reducible change wpList _ _ _ (Oper.mk (some 44) _ _ _ _ _ :: _) _ _); refine kAppB _ _ rfl rfl p6.heap.size _ _ ([] ++ [0] ++ [99] ++ PA ++ [103]) PB hO6 (hSnd_6.below hA6) rfl rfl (by simp <;> omega) hAs6 ?_; intro v44 r6_7 hO7 hBB; have hA7 := hA6.trans hBB; have hAs7 := hA7.size; clear hO6 hA6 hAs6 hBB; go_frame)
      | ((with_reducible change wpList _ _ _ (Oper.mk (some 45) _ _ _ _ _ :: _) _ _); refine kBuildSlice1 _ _ _ (VB 104) rfl rfl Tryd.underlying22 i _ hi hz hs1 rfl rfl ?_; intro r6_8 hRr hzz hBB; clear hzz; have hX : IsVals r6_8 _ (([104] : List UInt8).map VB) := isVals_lit (l := [VB 104]) hRr; clear hRr; have hO8 := hO7.below hBB; have hA8 := hA7.trans (hBB.mono hAs7); have hAs8 := hA8.size; clear hO7 hA7 hAs7 hBB; go_frame)
      | ((with_reducible change wpList _ _ _ (Oper.mk (some 46) _ _ _ _ _ :: _) _ _); refine kAppB _ _ rfl rfl p6.heap.size _ _ ([] ++ [0] ++ [99] ++ PA ++ [103] ++ PB) [104] hO8 hX rfl rfl (by simp <;> omega) hAs8 ?_; intro v46 r6_9 hO9 hBB; have hA9 := hA8.trans hBB; have hAs9 := hA9.size; clear hO8 hA8 hAs8 hBB; clear hX; have hLock := hO9.vals; clear hO9 hAs9; have hB7 := hB6.trans (hA9.mono hsz6); have hsz7 := hB7.size; have hFst_7 := hFst_6.below hA9; have hSnd_7 := hSnd_6.below hA9; have hF0_7 := hF0.below hA9; clear hB6 hsz6 hFst_6 hSnd_6 hF0 hA9; go_frame)
      | ((with_reducible change wpList _ _ _ (Oper.mk (some 50) _ _ _ _ _ :: _) _ _); refine kBuildSlice0 _ _ rfl rfl Tryd.underlying22 i hi ?_; intro r7_0 hRr hzz hA0; clear hzz; have hO0 : OwnB r7_0 r6_9.heap.size _ [] := own_empty (Nat.le_refl _) hRr; clear hRr; have hAs0 := hA0.size; go_frame)
      | ((with_reducible change wpList _ _ _ (Oper.mk (some 52) _ _ _ _ _ :: _) _ _); refine kAppB _ _ rfl rfl r6_9.heap.size _ _ ([]) [0] hO0 (hF0_7.below hA0) rfl rfl (by simp <;> omega) hAs0 ?_; intro v52 r7_1 hO1 hBB; have hA1 := hA0.trans hBB; have hAs1 := hA1.size; clear hO0 hA0 hAs0 hBB; go_frame)
      | ((with_reducible change wpList _ _ _ (Oper.mk (some 53) _ _ _ _ _ :: _) _ _); refine kBuildSlice1 _ _ _ (VB 100) rfl rfl Tryd.underlying22 i _ hi hz hs1 rfl rfl ?_; intro r7_2 hRr hzz hBB; clear hzz; have hX : IsVals r7_2 _ (([100] : List UInt8).map VB) := isVals_lit (l := [VB 100]) hRr; clear hRr; have hO2 := hO1.below hBB; have hA2 := hA1.trans (hBB.mono hAs1); have hAs2 := hA2.size; clear hO1 hA1 hAs1 hBB; go_frame)
      | ((with_reducible change wpList _ _ _ (Oper.mk (some 54) _ _ _ _ _ :: _) _ _); refine kAppB _ _ rfl rfl r6_9.heap.size _ _ ([] ++ [0]) [100] hO2 hX rfl rfl (by simp <;> omega) hAs2 ?_; intro v54 r7_3 hO3 hBB; have hA3 := hA2.trans hBB; have hAs3 := hA3.size; clear hO2 hA2 hAs2 hBB; clear hX; go_frame)
      | ((with_reducible change wpList _ _ _ (Oper.mk (some 56) _ _ _ _ _ :: _) _ _); refine kAppB _ _ rfl rfl r6_9.heap.size _ _ ([] ++ [0] ++ [100]) PB hO3 (hSnd_7.below hA3) rfl rfl (by simp <;> omega) hAs3 ?_; intro v56 r7_4 hO4 hBB; have hA4 := hA3.trans hBB; have hAs4 := hA4.size; clear hO3 hA3 hAs3 hBB; go_frame)
      | ((with_reducible change wpList _ _ _ (Oper.mk (some 57) _ _ _ _ _ :: _) _ _); refine kBuildSlice1 _ _ _ (VB 103) rfl rfl Tryd.underlying22 i _ hi hz hs1 rfl rfl ?_; intro r7_5 hRr hzz hBB; clear hzz; have hX : IsVals r7_5 _ (([103] : List UInt8).map VB) := isVals_lit (l := [VB 103]) hRr; clear hRr; have hO5 := hO4.below hBB; have hA5 := hA4.trans (hBB.mono hAs4); have hAs5 := hA5.size; clear hO4 hA4 hAs4 hBB; go_frame)
      | ((with_reducible change wpList _ _ _ (Oper.mk (some 58) _ _ _ _ _ :: _) _ _); refine kAppB _ _ rfl rfl r6_9.heap.size _ _ ([] ++ [0] ++ [100] ++ PB) [103] hO5 hX rfl rfl (by simp <;> omega) hAs5 ?_; intro v58 r7_6 hO6 hBB; have hA6 := hA5.trans hBB; have hAs6 := hA6.size; clear hO5 hA5 hAs5 hBB; clear hX; go_frame)
      | ((with_reducible change wpList _ _ _ (Oper.mk (some 60) _ _ _ _ _ :: _) _ _); refine kAppB _ _ rfl rfl r6_9.heap.size _ _ ([] ++ [0] ++ [100] ++ PB ++ [103]) PA hO6 (hFst_7.below hA6) rfl rfl (by simp <;> omega) hAs6 ?_; intro v60 r7_7 hO7 hBB; have hA7 := hA6.trans hBB; have hAs7 := hA7.size; clear hO6 hA6 hAs6 hBB; go_frame)
      | ((with_reducible change wpList _ _ _ (Oper.mk (some 61) _ _ _ _ _ :: _) _ _); refine kBuildSlice1 _ _ _ (VB 104) rfl rfl Tryd.underlying22 i _ hi hz hs1 rfl rfl ?_; intro r7_8 hRr hzz hBB; clear hzz; have hX : IsVals r7_8 _ (([104] : List UInt8).map VB) := isVals_lit (l := [VB 104]) hRr; clear hRr; have hO8 := hO7.below hBB; have hA8 := hA7.trans (hBB.mono hAs7); have hAs8 := hA8.size; clear hO7 hA7 hAs7 hBB; go_frame)
      | ((with_reducible change wpList _ _ _ (Oper.mk (some 62) _ _ _ _ _ :: _) _ _); refine kAppB _ _ rfl rfl r6_9.heap.size _ _ ([] ++ [0] ++ [100] ++ PB ++ [103] ++ PA) [104] hO8 hX rfl rfl (by simp <;> omega) hAs8 ?_; intro v62 r7_9 hO9 hBB; have hA9 := hA8.trans hBB; have hAs9 := hA9.size; clear hO8 hA8 hAs8 hBB; clear hX; have hTurn := hO9.vals; clear hO9 hAs9; have hB8 := hB7.trans (hA9.mono hsz7); have hsz8 := hB8.size; have hFst_8 := hFst_7.below hA9; have hSnd_8 := hSnd_7.below hA9; have hF0_8 := hF0_7.below hA9; have hLock_8 := hLock.below hA9; clear hB7 hsz7 hFst_7 hSnd_7 hF0_7 hLock hA9; go_frame)
      | ((with_reducible change wpList _ _ _ (Oper.mk (some 63) _ _ _ _ _ :: _) _ _); refine kBuildSlice2 _ _ _ _ (VB 0) (VB 99) rfl rfl Tryd.underlying22 i _ hi hz hs1 rfl rfl rfl rfl ?_; intro r8_0 hRr hzz hA0; clear hzz; have hO0 := own_lit (base := r7_9.heap.size) [0, 99] (Nat.le_refl _) (by simp) hRr; clear hRr; have hAs0 := hA0.size; go_frame)
      | ((with_reducible change wpList _ _ _ (Oper.mk (some 64) _ _ _ _ _ :: _) _ _); refine kBuildSlice4 _ _ _ _ _ _ (VB 255) (VB 172) (VB 118) (VB 106) rfl rfl Tryd.underlying22 i _ hi hz hs1 rfl rfl rfl rfl rfl rfl rfl rfl ?_; intro r8_1 hRr hzz hBB; clear hzz; have hX : IsVals r8_1 _ (([255, 172, 118, 106] : List UInt8).map VB) := isVals_lit (l := [VB 255, VB 172, VB 118, VB 106]) hRr; clear hRr; have hO1 := hO0.below hBB; have hA1 := hA0.trans (hBB.mono hAs0); have hAs1 := hA1.size; clear hO0 hA0 hAs0 hBB; go_frame)
      | ((with_reducible change wpList _ _ _ (Oper.mk (some 65) _ _ _ _ _ :: _) _ _); refine kAppB _ _ rfl rfl r7_9.heap.size _ _ ([0, 99]) [255, 172, 118, 106] hO1 hX rfl rfl (by simp <;> omega) hAs1 ?_; intro v65 r8_2 hO2 hBB; have hA2 := hA1.trans hBB; have hAs2 := hA2.size; clear hO1 hA1 hAs1 hBB; clear hX; go_frame)
      | ((with_reducible change wpList _ _ _ (Oper.mk (some 67) _ _ _ _ _ :: _) _ _); refine kAppB _ _ rfl rfl r7_9.heap.size _ _ ([0, 99] ++ [255, 172, 118, 106]) PA hO2 (hFst_8.below hA2) rfl rfl (by simp <;> omega) hAs2 ?_; intro v67 r8_3 hO3 hBB; have hA3 := hA2.trans hBB; have hAs3 := hA3.size; clear hO2 hA2 hAs2 hBB; go_frame)
      | ((with_reducible change wpList _ _ _ (Oper.mk (some 68) _ _ _ _ _ :: _) _ _); refine kBuildSlice1 _ _ _ (VB 104) rfl rfl Tryd.underlying22 i _ hi hz hs1 rfl rfl ?_; intro r8_4 hRr hzz hBB; clear hzz; have hX : IsVals r8_4 _ (([104] : List UInt8).map VB) := isVals_lit (l := [VB 104]) hRr; clear hRr; have hO4 := hO3.below hBB; have hA4 := hA3.trans (hBB.mono hAs3); have hAs4 := hA4.size; clear hO3 hA3 hAs3 hBB; go_frame)
      | ((with_reducible change wpList _ _ _ (Oper.mk (some 69) _ _ _ _ _ :: _) _ _); refine kAppB _ _ rfl rfl r7_9.heap.size _ _ ([0, 99] ++ [255, 172, 118, 106] ++ PA) [104] hO4 hX rfl rfl (by simp <;> omega) hAs4 ?_; intro v69 r8_5 hO5 hBB; have hA5 := hA4.trans hBB; have hAs5 := hA5.size; clear hO4 hA4 hAs4 hBB; clear hX; have hDead := own_less hsz8 hO5; clear hO5 hAs5; have hB9 := hB8.trans (hA5.mono hsz8); have hsz9 := hB9.size; have hFst_9 := hFst_8.below hA5; have hSnd_9 := hSnd_8.below hA5; have hF0_9 := hF0_8.below hA5; have hLock_9 := hLock_8.below hA5; have hTurn_9 := hTurn.below hA5; clear hB8 hsz8 hFst_8 hSnd_8 hF0_8 hLock_8 hTurn hA5; go_frame)
      | ((with_reducible change wpList _ _ _ (Oper.mk (some 71) _ _ _ _ _ :: _) _ _); refine kBuildAny _ _ #[] _ rfl rfl (by simp) built_hash0 ?_; go_frame)
      | (go_at_call 15; (with_reducible change Calls _ _ #[_, v46, _] _ _); refine (open0 (b := q) _ (isVals_nil _) hLock_9 hrl (dec_if q)).mono ?_; rintro e0 p10 ⟨rfl, hBB⟩; have hB10 := hB9.trans (hBB.mono hsz9); have hsz10 := hB10.size; have hFst_10 := hFst_9.below hBB; have hSnd_10 := hSnd_9.below hBB; have hF0_10 := hF0_9.below hBB; have hLock_10 := hLock_9.below hBB; have hTurn_10 := hTurn_9.below hBB; have hDead_10 := hDead.below hBB; clear hB9 hsz9 hFst_9 hSnd_9 hF0_9 hLock_9 hTurn_9 hDead hBB; go_frame)
      | (go_at_call 11; refine (scTrue_any _ (w2.below hB10) (by omega)).mono ?_; rintro e w9 ⟨rfl, rfl⟩; rw [hq]; go_frame)
      | ((with_reducible change wpList _ _ _ (Oper.mk (some 76) _ _ _ _ _ :: _) _ _); refine kEqlBool _ _ _ _ q q true rfl rfl rfl rfl Tryd.underlying4 (by simp) ?_; go_frame)
      | ((with_reducible change wpList _ _ _ (Oper.mk (some 79) _ _ _ _ _ :: _) _ _); refine kBuildAny _ _ #[] _ rfl rfl (by simp) built_hash0 ?_; go_frame)
      | (go_at_call 15; (with_reducible change Calls _ _ #[_, v62, _] _ _); refine (open0 (b := q) _ (isVals_nil _) hTurn_10 hrt (dec_if q)).mono ?_; rintro e0 p11 ⟨rfl, hBB⟩; clear hTurn_10; have hB11 := hB10.trans (hBB.mono hsz10); have hsz11 := hB11.size; have hFst_11 := hFst_10.below hBB; have hSnd_11 := hSnd_10.below hBB; have hF0_11 := hF0_10.below hBB; have hLock_11 := hLock_10.below hBB; have hDead_11 := hDead_10.below hBB; clear hB10 hsz10 hFst_10 hSnd_10 hF0_10 hLock_10 hDead_10 hBB; go_frame)
      | ((with_reducible change wpList _ _ _ (Oper.mk (some 82) _ _ _ _ _ :: _) _ _); refine kEqlBool _ _ _ _ q q true rfl rfl rfl rfl Tryd.underlying4 (by simp) ?_; go_frame)
      | ((with_reducible change wpList _ _ _ (Oper.mk (some 87) _ _ _ _ _ :: _) _ _); refine kFree rfl ?_; dsimp only; refine kAppB _ _ rfl rfl W.heap.size _ _ ([0, 99] ++ [255, 172, 118, 106] ++ PA ++ [104]) ([] ++ [0] ++ [99] ++ PA ++ [103] ++ PB ++ [104]) hDead_11 hLock_11 rfl rfl (by simp <;> omega) hsz11 ?_; intro vA pA hOA hBA; have hVA := hOA.vals; have hBX := hB11.trans hBA; have hszX := hBX.size; clear hOA hBA; go_frame)
      | ((with_reducible change wpList _ _ _ (Oper.mk (some 88) _ _ _ _ _ :: _) _ _); refine kBuildAny _ _ #[] _ rfl rfl (by simp) built_hash0 ?_; go_frame)
      | (go_at_call 15; (with_reducible change Calls _ _ #[_, vA, _] _ _); refine (open0 (b := q) _ (isVals_nil _) hVA hrd (dec_if q)).mono ?_; rintro e0 pB ⟨rfl, hBB⟩; have hBY := hBX.trans (hBB.mono hszX); go_frame)
      | ((with_reducible change wpList _ _ _ (Oper.mk (some 91) _ _ _ _ _ :: _) _ _); refine kEqlBool _ _ _ _ q q true rfl rfl rfl rfl Tryd.underlying4 (by simp) ?_; go_frame))
    go_ret
    exact ⟨rfl, hBY⟩
end Go.Proofs.YtdhhifgafookkaaDoor
