/-
  Layer 7: the walk of ScriptMoves.
-/
import Derived.Test.YtdhhifgafookkaaDoorScLaw1
namespace Go.Proofs.YtdhhifgafookkaaDoor
open Go Go.RowKit

section
variable {P : Program} {ops : Array Oper} {Q : Exit → Act → World → Prop} {rest : List Oper} {o : Oper} {a : Act} {w : World}
theorem kBuildSlice4 (T E : TypeId) (x0 x1 x2 x3 : Operand) (v0 v1 v2 v3 : Value) (ho : o.op = .buildSlice T 4 #[(0, x0), (1, x1), (2, x2), (3, x3)]) (hg : Region.wanted o (yielded ops a.tmps) = true) (ht : P.underlying T = some (.slice E)) (i : TypeInfo) (z : Value) (hi : P.info? E = some i) (hz : i.zero = some z) (hsize : i.size = 1)
    (hx0 : a.eval x0 = v0) (h0 : v0.oneCell' = true) (hx1 : a.eval x1 = v1) (h1 : v1.oneCell' = true) (hx2 : a.eval x2 = v2) (h2 : v2.oneCell' = true) (hx3 : a.eval x3 = v3) (h3 : v3.oneCell' = true)
    (h : ∀ w1, Row w1 w.heap.size E #[v0, v1, v2, v3] → w1.heap.size = w.heap.size + 1 → Below w.heap.size w w1 → wpList P ops Q rest (a.put o.dst (.slice (some ⟨w.heap.size, 0, none⟩) 4 4)) w1) : wpList P ops Q (o :: rest) a w := by
  refine BigFrame.wpList_want hg fun K hK => ?_
  unfold Oper.wp execOp
  have hrun : (Instr.buildSlice T 4 #[(0, v0), (1, v1), (2, v2), (3, v3)]).run P w = .ok (.slice (some ⟨w.heap.size, 0, none⟩) 4 4) (w.alloc (.cells #[v0, v1, v2, v3] E)) := by
    simp [Instr.buildSlice, run_underlying ht, sizeOf, typeInfo, hi, hsize, zeroValue, hz, Instr.fill, cells_one h0, cells_one h1, cells_one h2, cells_one h3, newRow, newObj, Sem.run]
    rw [map_range]; rfl
  simp only [ho, List.map_toArray, List.map_cons, List.map_nil, hx0, hx1, hx2, hx3, Sem.run_bind, hrun, Result.andThen_ok, Sem.run_pure]
  exact hK _ _ (h _ (heap_alloc_new w _) (by simp) ((Below.refl _ _).alloc (Nat.le_refl _) _))
end
theorem areLists_two {w : World} {g : Nat} {E : TypeId} {x y : Value} {l m : List UInt8} (h : Row w g E #[x, y]) (hx : IsVals w x (l.map VB)) (hy : IsVals w y (m.map VB)) : AreLists w (.slice (some ⟨g, 0, none⟩) 2 2) [l, m] :=
  ⟨[x, y], rfl, isVals_lit (l := [x, y]) h, fun i z L h1 h2 => by
    match i, h1, h2 with
    | 0, h1, h2 => simp at h1 h2; subst h1; subst h2; exact hx
    | 1, h1, h2 => simp at h1 h2; subst h1; subst h2; exact hy⟩
theorem push_two (a b : List UInt8) : [] ++ pushesL [a, b] = pushL a ++ pushL b := by simp [pushesL]
theorem push_one (a : List UInt8) : [] ++ pushesL [a] = pushL a := by simp [pushesL]
theorem dec_if (q : Bool) : decide ((if q then 0 else 74) = 0) = q := by cases q <;> rfl
/-- the answer of a push -/
theorem pushTwo {a b : List UInt8} {u : Value} (w : World) (hu : AreLists w u [a, b]) (ha : a.length ≤ 1000) (hb : b.length ≤ 1000) : Calls Tryd.prog 13 #[.slice none 0 0, u] w fun e w' => ∃ v, e = .returned v ∧ IsVals w' v ((pushL a ++ pushL b).map VB) ∧ Below w.heap.size w w' := by
  refine (scPush_any (l := []) w (isVals_nil w) hu (by simp) (by simp) (by simp [ha, hb])).mono ?_
  rintro e w' ⟨v, rfl, hO, hB⟩
  rw [push_two] at hO
  exact ⟨v, rfl, hO.vals, hB⟩
theorem pushOne {a : List UInt8} {u : Value} (w : World) (hu : AreLists w u [a]) (ha : a.length ≤ 1000) : Calls Tryd.prog 13 #[.slice none 0 0, u] w fun e w' => ∃ v, e = .returned v ∧ IsVals w' v ((pushL a).map VB) ∧ Below w.heap.size w w' := by
  refine (scPush_any (l := []) w (isVals_nil w) hu (by simp) (by simp) (by simp [ha])).mono ?_
  rintro e w' ⟨v, rfl, hO, hB⟩
  rw [push_one] at hO
  exact ⟨v, rfl, hO.vals, hB⟩
set_option maxRecDepth 100000 in
set_option maxHeartbeats 8000000 in
theorem scriptMoves_walk {l0 l1 : List UInt8} {v0 v1 : Value} (W : World) (w0 : IsVals W v0 (l0.map VB)) (w1 : IsVals W v1 (l1.map VB)) : Calls Tryd.prog 6 #[v0, v1] W fun e W' => e = .returned (.bool true) ∧ Below W.heap.size W W' := by
  obtain ⟨i, hi, hz, hs1, hby⟩ := b8Info
  obtain ⟨iy, hiy, hzy, hsy, hbyy⟩ := bysInfo
  obtain ⟨N, hN⟩ : ∃ N, l0.length = N := ⟨_, rfl⟩
  obtain ⟨M, hM⟩ : ∃ M, l1.length = M := ⟨_, rfl⟩
  by_cases k0 : 200 < N
  · have g0 : decide ((N : Int) > 200) = true := by simp; omega
    have hB0 := Below.refl W.heap.size W
    have hsz0 := hB0.size
    go_enter Tryd.func6, Tryd.ntmps6
    go_wp2_with (first
      | (go_at_call 8; refine (scriptAlive_any _).mono ?_; rintro e0 p1 ⟨rfl, hBB⟩; have hB1 := hB0.trans (hBB.mono hsz0); have hsz1 := hB1.size; clear hB0 hsz0 hBB; go_frame)
      | ((with_reducible change wpList _ _ _ (Oper.mk (some 10) _ _ _ _ _ :: _) _ _); refine kLenN _ _ _ v0 _ N rfl rfl rfl (w0.below hB1) (by rw [List.length_map, hN]) Tryd.underlying22 ?_; go_frame)
      | ((with_reducible change wpList _ _ _ (Oper.mk (some 11) _ _ _ _ _ :: _) _ _); refine kGtrI _ _ _ _ .i64 (N : Int) 200 true rfl rfl rfl rfl g0 ?_; go_frame))
    go_ret
    exact ⟨rfl, hB1⟩
  have g0 : decide ((N : Int) > 200) = false := by simp; omega
  by_cases k1 : 200 < M
  · have g1 : decide ((M : Int) > 200) = true := by simp; omega
    have hB0 := Below.refl W.heap.size W
    have hsz0 := hB0.size
    go_enter Tryd.func6, Tryd.ntmps6
    go_wp2_with (first
      | (go_at_call 8; refine (scriptAlive_any _).mono ?_; rintro e0 p1 ⟨rfl, hBB⟩; have hB1 := hB0.trans (hBB.mono hsz0); have hsz1 := hB1.size; clear hB0 hsz0 hBB; go_frame)
      | ((with_reducible change wpList _ _ _ (Oper.mk (some 10) _ _ _ _ _ :: _) _ _); refine kLenN _ _ _ v0 _ N rfl rfl rfl (w0.below hB1) (by rw [List.length_map, hN]) Tryd.underlying22 ?_; go_frame)
      | ((with_reducible change wpList _ _ _ (Oper.mk (some 11) _ _ _ _ _ :: _) _ _); refine kGtrI _ _ _ _ .i64 (N : Int) 200 false rfl rfl rfl rfl g0 ?_; go_frame)
      | ((with_reducible change wpList _ _ _ (Oper.mk (some 14) _ _ _ _ _ :: _) _ _); refine kLenN _ _ _ v1 _ M rfl rfl rfl (w1.below hB1) (by rw [List.length_map, hM]) Tryd.underlying22 ?_; go_frame)
      | ((with_reducible change wpList _ _ _ (Oper.mk (some 15) _ _ _ _ _ :: _) _ _); refine kGtrI _ _ _ _ .i64 (M : Int) 200 true rfl rfl rfl rfl g1 ?_; go_frame))
    go_ret
    exact ⟨rfl, hB1⟩
  have g1 : decide ((M : Int) > 200) = false := by simp; omega
  have ha : l0.length ≤ 200 := by omega
  have hb : l1.length ≤ 200 := by omega
  have o0 := vals_oneS w0
  have o1 := vals_oneS w1
  obtain ⟨q, hq⟩ : ∃ q, (l0 == l1) = q := ⟨_, rfl⟩
  have hq2 : (l1 == l0) = q := by rw [← hq]; exact BEq.comm
  have m1 := moves_1 ha hb
  have m2 := moves_2 ha hb
  have m4 := moves_4 ha hb
  rw [hq2] at m1 m4
  rw [hq] at m2
  have hB0 := Below.refl W.heap.size W
  have hsz0 := hB0.size
  go_enter Tryd.func6, Tryd.ntmps6
  go_wp2_with (first
    | (go_at_call 8; refine (scriptAlive_any _).mono ?_; rintro e0 p1 ⟨rfl, hBB⟩; have hB1 := hB0.trans (hBB.mono hsz0); have hsz1 := hB1.size; clear hB0 hsz0 hBB; go_frame)
    | ((with_reducible change wpList _ _ _ (Oper.mk (some 10) _ _ _ _ _ :: _) _ _); refine kLenN _ _ _ v0 _ N rfl rfl rfl (w0.below hB1) (by rw [List.length_map, hN]) Tryd.underlying22 ?_; go_frame)
    | ((with_reducible change wpList _ _ _ (Oper.mk (some 11) _ _ _ _ _ :: _) _ _); refine kGtrI _ _ _ _ .i64 (N : Int) 200 false rfl rfl rfl rfl g0 ?_; go_frame)
    | ((with_reducible change wpList _ _ _ (Oper.mk (some 14) _ _ _ _ _ :: _) _ _); refine kLenN _ _ _ v1 _ M rfl rfl rfl (w1.below hB1) (by rw [List.length_map, hM]) Tryd.underlying22 ?_; go_frame)
    | ((with_reducible change wpList _ _ _ (Oper.mk (some 15) _ _ _ _ _ :: _) _ _); refine kGtrI _ _ _ _ .i64 (M : Int) 200 false rfl rfl rfl rfl g1 ?_; go_frame)
    | ((with_reducible change wpList _ _ _ (Oper.mk (some 19) _ _ _ _ _ :: _) _ _); refine kBuildSlice2 _ _ _ _ v0 v1 rfl rfl Tryd.underlying40 iy _ hiy hzy hsy rfl o0 rfl o1 ?_; intro p2 hRr hzz hBB; clear hzz; have hLs := areLists_two hRr ((w0.below hB1).below hBB) ((w1.below hB1).below hBB); clear hRr; have hB2 := hB1.trans (hBB.mono hsz1); have hsz2 := hB2.size; clear hB1 hsz1 hBB; go_frame)
    | (go_at_call 13; refine (pushTwo _ hLs (by omega) (by omega)).mono ?_; rintro e0 p3 ⟨t, rfl, hT, hBB⟩; have hB3 := hB2.trans (hBB.mono hsz2); have hsz3 := hB3.size; clear hB2 hsz2 hBB; go_frame)
    | ((with_reducible change wpList _ _ _ (Oper.mk (some 22) _ _ _ _ _ :: _) _ _); refine kToString _ _ _ _ v0 l0 rfl rfl rfl (w0.below hB3) Tryd.underlying22 Tryd.underlying5 Tryd.underlying9 ?_; go_frame)
    | ((with_reducible change wpList _ _ _ (Oper.mk (some 24) _ _ _ _ _ :: _) _ _); refine kToString _ _ _ _ v1 l1 rfl rfl rfl (w1.below hB3) Tryd.underlying22 Tryd.underlying5 Tryd.underlying9 ?_; go_frame)
    | ((with_reducible change wpList _ _ _ (Oper.mk (some 25) _ _ _ _ _ :: _) _ _); refine kEqlStr _ _ _ _ l0 l1 q rfl rfl rfl rfl hq ?_; go_frame)
    | ((with_reducible change wpList _ _ _ (Oper.mk (some 27) _ _ _ _ _ :: _) _ _); refine kBuildSlice1 _ _ _ (VB 135) rfl rfl Tryd.underlying22 i _ hi hz hs1 rfl rfl ?_; intro p4 hRr hzz hBB; clear hzz; have hL27 : IsVals p4 _ (([135] : List UInt8).map VB) := isVals_lit (l := [VB 135]) hRr; clear hRr; have hB4 := hB3.trans (hBB.mono hsz3); have hsz4 := hB4.size; have hT_4 := hT.below hBB; clear hB3 hsz3 hT hBB; go_frame)
    | (go_at_call 16; refine (opensW0 (b := q) _ hT_4 hL27 m1 (dec_if q)).mono ?_; rintro e0 p5 ⟨rfl, hBB⟩; have hB5 := hB4.trans (hBB.mono hsz4); have hsz5 := hB5.size; have hT_5 := hT_4.below hBB; clear hB4 hsz4 hT_4 hBB; go_frame)
    | ((with_reducible change wpList _ _ _ (Oper.mk (some 30) _ _ _ _ _ :: _) _ _); refine kNeqBool _ _ _ _ q q false rfl rfl rfl rfl Tryd.underlying4 (by simp) ?_; go_frame)
    | ((with_reducible change wpList _ _ _ (Oper.mk (some 33) _ _ _ _ _ :: _) _ _); refine kBuildSlice2 _ _ _ _ (VB 124) (VB 135) rfl rfl Tryd.underlying22 i _ hi hz hs1 rfl rfl rfl rfl ?_; intro p6 hRr hzz hBB; clear hzz; have hL33 : IsVals p6 _ (([124, 135] : List UInt8).map VB) := isVals_lit (l := [VB 124, VB 135]) hRr; clear hRr; have hB6 := hB5.trans (hBB.mono hsz5); have hsz6 := hB6.size; have hT_6 := hT_5.below hBB; clear hB5 hsz5 hT_5 hBB; go_frame)
    | (go_at_call 16; refine (opensW0 (b := q) _ hT_6 hL33 m2 (dec_if q)).mono ?_; rintro e0 p7 ⟨rfl, hBB⟩; have hB7 := hB6.trans (hBB.mono hsz6); have hsz7 := hB7.size; have hT_7 := hT_6.below hBB; clear hB6 hsz6 hT_6 hBB; go_frame)
    | ((with_reducible change wpList _ _ _ (Oper.mk (some 36) _ _ _ _ _ :: _) _ _); refine kNeqBool _ _ _ _ q q false rfl rfl rfl rfl Tryd.underlying4 (by simp) ?_; go_frame)
    | ((with_reducible change wpList _ _ _ (Oper.mk (some 40) _ _ _ _ _ :: _) _ _); refine kBuildSlice2 _ _ _ _ (VB 118) (VB 135) rfl rfl Tryd.underlying22 i _ hi hz hs1 rfl rfl rfl rfl ?_; intro p8 hRr hzz hBB; clear hzz; have hL40 : IsVals p8 _ (([118, 135] : List UInt8).map VB) := isVals_lit (l := [VB 118, VB 135]) hRr; clear hRr; have hB8 := hB7.trans (hBB.mono hsz7); have hsz8 := hB8.size; have hT_8 := hT_7.below hBB; clear hB7 hsz7 hT_7 hBB; go_frame)
    | (go_at_call 16; refine (opensW0 (b := true) _ hT_8 hL40 (moves_3 ha hb) rfl).mono ?_; rintro e0 p9 ⟨rfl, hBB⟩; have hB9 := hB8.trans (hBB.mono hsz8); have hsz9 := hB9.size; have hT_9 := hT_8.below hBB; clear hB8 hsz8 hT_8 hBB; go_frame)
    | ((with_reducible change wpList _ _ _ (Oper.mk (some 46) _ _ _ _ _ :: _) _ _); refine kBuildSlice3 _ _ _ _ _ (VB 124) (VB 124) (VB 135) rfl rfl Tryd.underlying22 i _ hi hz hs1 rfl rfl rfl rfl rfl rfl ?_; intro p10 hRr hzz hBB; clear hzz; have hL46 : IsVals p10 _ (([124, 124, 135] : List UInt8).map VB) := isVals_lit (l := [VB 124, VB 124, VB 135]) hRr; clear hRr; have hB10 := hB9.trans (hBB.mono hsz9); have hsz10 := hB10.size; have hT_10 := hT_9.below hBB; clear hB9 hsz9 hT_9 hBB; go_frame)
    | (go_at_call 16; refine (opensW0 (b := q) _ hT_10 hL46 m4 (dec_if q)).mono ?_; rintro e0 p11 ⟨rfl, hBB⟩; have hB11 := hB10.trans (hBB.mono hsz10); have hsz11 := hB11.size; have hT_11 := hT_10.below hBB; clear hB10 hsz10 hT_10 hBB; go_frame)
    | ((with_reducible change wpList _ _ _ (Oper.mk (some 49) _ _ _ _ _ :: _) _ _); refine kNeqBool _ _ _ _ q q false rfl rfl rfl rfl Tryd.underlying4 (by simp) ?_; go_frame)
    | ((with_reducible change wpList _ _ _ (Oper.mk (some 52) _ _ _ _ _ :: _) _ _); refine kBuildSlice4 _ _ _ _ _ _ (VB 120) (VB 124) (VB 117) (VB 135) rfl rfl Tryd.underlying22 i _ hi hz hs1 rfl rfl rfl rfl rfl rfl rfl rfl ?_; intro p12 hRr hzz hBB; clear hzz; have hL52 : IsVals p12 _ (([120, 124, 117, 135] : List UInt8).map VB) := isVals_lit (l := [VB 120, VB 124, VB 117, VB 135]) hRr; clear hRr; have hB12 := hB11.trans (hBB.mono hsz11); have hsz12 := hB12.size; have hT_12 := hT_11.below hBB; clear hB11 hsz11 hT_11 hBB; go_frame)
    | (go_at_call 16; refine (opensW0 (b := true) _ hT_12 hL52 (moves_5 ha hb) rfl).mono ?_; rintro e0 p13 ⟨rfl, hBB⟩; have hB13 := hB12.trans (hBB.mono hsz12); have hsz13 := hB13.size; have hT_13 := hT_12.below hBB; clear hB12 hsz12 hT_12 hBB; go_frame)
    | ((with_reducible change wpList _ _ _ (Oper.mk (some 56) _ _ _ _ _ :: _) _ _); refine kBuildSlice2 _ _ _ _ (VB 109) (VB 81) rfl rfl Tryd.underlying22 i _ hi hz hs1 rfl rfl rfl rfl ?_; intro p14 hRr hzz hBB; clear hzz; have hL56 : IsVals p14 _ (([109, 81] : List UInt8).map VB) := isVals_lit (l := [VB 109, VB 81]) hRr; clear hRr; have hB14 := hB13.trans (hBB.mono hsz13); have hsz14 := hB14.size; have hT_14 := hT_13.below hBB; clear hB13 hsz13 hT_13 hBB; go_frame)
    | (go_at_call 16; refine (opensW0 (b := true) _ hT_14 hL56 (moves_6 ha hb) rfl).mono ?_; rintro e0 p15 ⟨rfl, hBB⟩; have hB15 := hB14.trans (hBB.mono hsz14); have hsz15 := hB15.size; have hT_15 := hT_14.below hBB; clear hB14 hsz14 hT_14 hBB; go_frame)
    | ((with_reducible change wpList _ _ _ (Oper.mk (some 61) _ _ _ _ _ :: _) _ _); refine kBuildSlice1 _ _ _ (VB 109) rfl rfl Tryd.underlying22 i _ hi hz hs1 rfl rfl ?_; intro p16 hRr hzz hBB; clear hzz; have hL61 : IsVals p16 _ (([109] : List UInt8).map VB) := isVals_lit (l := [VB 109]) hRr; clear hRr; have hB16 := hB15.trans (hBB.mono hsz15); have hsz16 := hB16.size; have hT_16 := hT_15.below hBB; clear hB15 hsz15 hT_15 hBB; go_frame)
    | ((with_reducible change wpList _ _ _ (Oper.mk (some 62) _ _ _ _ _ :: _) _ _); refine kBuildAny _ _ #[] _ rfl rfl (by simp) built_hash0 ?_; go_frame)
    | (go_at_call 7; refine (run0 (z := 74) _ hT_16 hL61 (moves_7 ha hb) (by rfl)).mono ?_; rintro e0 p17 ⟨rfl, hBB⟩; have hB17 := hB16.trans (hBB.mono hsz16); have hsz17 := hB17.size; have hT_17 := hT_16.below hBB; have hL61_17 := hL61.below hBB; clear hB16 hsz16 hT_16 hL61 hBB; go_frame))
  go_ret
  exact ⟨rfl, hB17⟩
end Go.Proofs.YtdhhifgafookkaaDoor
