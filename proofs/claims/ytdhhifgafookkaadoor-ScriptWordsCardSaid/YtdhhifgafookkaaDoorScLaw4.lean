/-
  Layer 7: the walk of ScriptWords.
-/
import Derived.Test.YtdhhifgafookkaaDoorScLaw2
import Derived.Laws.Concat
namespace Go.Proofs.YtdhhifgafookkaaDoor
open Go Go.RowKit

section
variable {P : Program} {ops : Array Oper} {o : Oper} {a : Act} {S : World → Prop}
theorem yAddStr (T T2 : TypeId) (x y : Operand) (l m : List UInt8) (hl : l.length + m.length ≤ 1000000) (ho : o.op = .binOp .add T x y T2) (hg : Region.wanted o (yielded ops a.tmps) = true) (hx : a.eval x = textV l) (hy : a.eval y = textV m) : YieldsIf P ops S o (textV (l ++ m)) a :=
  yOf hg fun w _ => by
    have h1 : (⟨l.toArray⟩ : ByteArray).size = l.length := by simp [ByteArray.size]
    have h2 : (⟨m.toArray⟩ : ByteArray).size = m.length := by simp [ByteArray.size]
    have hr := run_string_add_sum (P := P) (w := w) ⟨l.toArray⟩ ⟨m.toArray⟩ (by rw [h1, h2]; omega)
    rw [ByteArray.mk_append_mk] at hr
    unfold execOp
    simp only [ho, hx, hy]
    rw [Sem.run_bind]
    show ((binOp .add T (textV l) (textV m)).run P w).andThen _ = _
    rw [show binOp .add T (textV l) (textV m) = Op.stringOp .add ⟨l.toArray⟩ ⟨m.toArray⟩ from rfl, hr]
    rfl
theorem yNeqBool (T T2 : TypeId) (x y : Operand) (b c d : Bool) (ho : o.op = .binOp .neq T x y T2) (hg : Region.wanted o (yielded ops a.tmps) = true) (hx : a.eval x = .bool b) (hy : a.eval y = .bool c) (ht : P.underlying T = some .bool) (hd : (b != c) = d) : YieldsIf P ops S o (.bool d) a :=
  yOf hg fun w _ => by
    subst hd
    have hr := run_neqBool (P := P) (w := w) T b c x y ht
    unfold execOp
    simp only [ho, hx, hy]
    rw [Sem.run_bind, hr]; rfl
end
/-- a word's answers, by their values -/
def NextV (C U Z : Int) (D : List UInt8) (w : World) (e : Ending) (w' : World) : Prop := ∃ vd, e = .returned (.tuple #[.int .u8 C, vd, .int .i64 U, .int .i64 Z]) ∧ IsVals w' vd (D.map VB) ∧ Below w.heap.size w w'
theorem next_v (r : Option (UInt8 × List UInt8 × Nat)) : ∃ (C U Z : Int) (D : List UInt8), ∀ w e w', NextPost w r e w' → NextV C U Z D w e w' := by
  cases r with
  | none => exact ⟨0, 0, 71, [], fun w e w' ⟨h1, h2⟩ => ⟨_, h1, isVals_nil _, h2⟩⟩
  | some p =>
    obtain ⟨c, d, u⟩ := p
    exact ⟨B c, u, 0, d, fun w e w' ⟨v, h1, h2, h3⟩ => ⟨v, h1, h2.vals, h3⟩⟩
theorem push_w (x : List UInt8) : [9] ++ pushesL [x, []] = 9 :: (pushL x ++ [0]) := by simp [pushesL]; rfl
set_option maxRecDepth 100000 in
set_option maxHeartbeats 8000000 in
theorem scriptWords_walk {l0 l1 : List UInt8} {v0 v1 : Value} (W : World) (w0 : IsVals W v0 (l0.map VB)) (w1 : IsVals W v1 (l1.map VB)) : Calls Tryd.prog 4 #[v0, v1] W fun e W' => e = .returned (.bool true) ∧ Below W.heap.size W W' := by
  obtain ⟨i, hi, hz, hs1, hby⟩ := b8Info
  obtain ⟨iy, hiy, hzy, hsy, hbyy⟩ := bysInfo
  obtain ⟨N, hN⟩ : ∃ N, l0.length = N := ⟨_, rfl⟩
  obtain ⟨M, hM⟩ : ∃ M, l1.length = M := ⟨_, rfl⟩
  by_cases k0 : 1000 < N
  · have g0 : decide ((N : Int) > 1000) = true := by simp; omega
    have hB0 := Below.refl W.heap.size W
    have hsz0 := hB0.size
    go_enter Tryd.func4, Tryd.ntmps4
    go_wp2_with (first
      | (go_at_call 8; refine (scriptAlive_any _).mono ?_; rintro e0 p1 ⟨rfl, hBB⟩; have hB1 := hB0.trans (hBB.mono hsz0); have hsz1 := hB1.size; clear hB0 hsz0 hBB; go_frame)
      | ((with_reducible change wpList _ _ _ (Oper.mk (some 21) _ _ _ _ _ :: _) _ _); refine kLenN _ _ _ v0 _ N rfl rfl rfl (w0.below hB1) (by rw [List.length_map, hN]) Tryd.underlying22 ?_; go_frame)
      | ((with_reducible change wpList _ _ _ (Oper.mk (some 22) _ _ _ _ _ :: _) _ _); refine kGtrI _ _ _ _ .i64 (N : Int) 1000 true rfl rfl rfl rfl g0 ?_; go_frame))
    go_ret
    exact ⟨rfl, hB1⟩
  have g0 : decide ((N : Int) > 1000) = false := by simp; omega
  by_cases k1 : 520 < M
  · have g1 : decide ((M : Int) > 520) = true := by simp; omega
    have hB0 := Below.refl W.heap.size W
    have hsz0 := hB0.size
    go_enter Tryd.func4, Tryd.ntmps4
    go_wp2_with (first
      | (go_at_call 8; refine (scriptAlive_any _).mono ?_; rintro e0 p1 ⟨rfl, hBB⟩; have hB1 := hB0.trans (hBB.mono hsz0); have hsz1 := hB1.size; clear hB0 hsz0 hBB; go_frame)
      | ((with_reducible change wpList _ _ _ (Oper.mk (some 21) _ _ _ _ _ :: _) _ _); refine kLenN _ _ _ v0 _ N rfl rfl rfl (w0.below hB1) (by rw [List.length_map, hN]) Tryd.underlying22 ?_; go_frame)
      | ((with_reducible change wpList _ _ _ (Oper.mk (some 22) _ _ _ _ _ :: _) _ _); refine kGtrI _ _ _ _ .i64 (N : Int) 1000 false rfl rfl rfl rfl g0 ?_; go_frame)
      | ((with_reducible change wpList _ _ _ (Oper.mk (some 25) _ _ _ _ _ :: _) _ _); refine kLenN _ _ _ v1 _ M rfl rfl rfl (w1.below hB1) (by rw [List.length_map, hM]) Tryd.underlying22 ?_; go_frame)
      | ((with_reducible change wpList _ _ _ (Oper.mk (some 26) _ _ _ _ _ :: _) _ _); refine kGtrI _ _ _ _ .i64 (M : Int) 520 true rfl rfl rfl rfl g1 ?_; go_frame))
    go_ret
    exact ⟨rfl, hB1⟩
  have g1 : decide ((M : Int) > 520) = false := by simp; omega
  have o1 := vals_oneS w1
  obtain ⟨C, U, Z, D, hnv⟩ := next_v (nextS l0)
  have hn1 : ∀ w, IsVals w v0 (l0.map VB) → Calls Tryd.prog 9 #[v0] w (NextV C U Z D w) := fun w h => (scNext_any w h (by omega)).mono (fun e w' => hnv w e w')
  have hn2 : ∀ w, IsVals w v0 (l0.map VB) → Calls Tryd.prog 10 #[v0] w (NextV C U Z D w) := fun w h => (mNext_any w h (by omega)).mono (fun e w' => hnv w e w')
  clear hnv
  obtain ⟨X, hX⟩ : ∃ X, pushL l1 = X := ⟨_, rfl⟩
  have hXl : X.length ≤ 523 := by rw [← hX]; exact pushL_le' (by omega)
  obtain ⟨K, hK⟩ : ∃ K, X.length = K := ⟨_, rfl⟩
  have hpw : ∀ (w : World) (t u : Value), IsVals w t (([9] : List UInt8).map VB) → AreLists w u [l1, []] → Calls Tryd.prog 13 #[t, u] w fun e w' => ∃ v, e = .returned v ∧ IsVals w' v ((9 :: (X ++ [0])).map VB) ∧ Below w.heap.size w w' := fun w t u h1 h2 => (scPush_any w h1 h2 (by simp) (by simp) (by simp; omega)).mono (by
    rintro e w' ⟨v, rfl, hO, hB⟩
    rw [push_w, hX] at hO
    exact ⟨v, rfl, hO.vals, hB⟩)
  have hmp : ∀ w, IsVals w v1 (l1.map VB) → Calls Tryd.prog 14 #[v1] w fun e w' => ∃ v, e = .returned v ∧ IsVals w' v (X.map VB) ∧ Below w.heap.size w w' := fun w h => (mPush_any w h (by omega)).mono (by
    rintro e w' ⟨v, rfl, hO, hB⟩
    rw [hX] at hO
    exact ⟨v, rfl, hO.vals, hB⟩)
  have hn3 : ∀ (w : World) (u : Value), IsVals w u ((X ++ [0]).map VB) → Calls Tryd.prog 9 #[u] w fun e w' => ∃ v, (∃ c : UInt8, e = .returned (.tuple #[VB c, v, .int .i64 (K : Int), .int .i64 0])) ∧ IsVals w' v (l1.map VB) ∧ Below w.heap.size w w' := fun w u h => (scNext_any w h (by simp; omega)).mono (by
    obtain ⟨c, hc, _⟩ := next_push (x := l1) (by omega) [0]
    rw [hX] at hc
    rw [hc, hK]
    rintro e w' ⟨v, rfl, hO, hB⟩
    exact ⟨v, ⟨c, rfl⟩, hO.vals, hB⟩)
  have hB0 := Below.refl W.heap.size W
  have hsz0 := hB0.size
  go_enter Tryd.func4, Tryd.ntmps4
  go_wp2_with (first
    | (go_at_call 8; refine (scriptAlive_any _).mono ?_; rintro e0 p1 ⟨rfl, hBB⟩; have hB1 := hB0.trans (hBB.mono hsz0); have hsz1 := hB1.size; clear hB0 hsz0 hBB; go_frame)
    | ((with_reducible change wpList _ _ _ (Oper.mk (some 21) _ _ _ _ _ :: _) _ _); refine kLenN _ _ _ v0 _ N rfl rfl rfl (w0.below hB1) (by rw [List.length_map, hN]) Tryd.underlying22 ?_; go_frame)
    | ((with_reducible change wpList _ _ _ (Oper.mk (some 22) _ _ _ _ _ :: _) _ _); refine kGtrI _ _ _ _ .i64 (N : Int) 1000 false rfl rfl rfl rfl g0 ?_; go_frame)
    | ((with_reducible change wpList _ _ _ (Oper.mk (some 25) _ _ _ _ _ :: _) _ _); refine kLenN _ _ _ v1 _ M rfl rfl rfl (w1.below hB1) (by rw [List.length_map, hM]) Tryd.underlying22 ?_; go_frame)
    | ((with_reducible change wpList _ _ _ (Oper.mk (some 26) _ _ _ _ _ :: _) _ _); refine kGtrI _ _ _ _ .i64 (M : Int) 520 false rfl rfl rfl rfl g1 ?_; go_frame)
    | (go_at_call 9; refine (hn1 _ (w0.below hB1)).mono ?_; rintro e0 p2 ⟨vd, rfl, hD, hBB⟩; have hB2 := hB1.trans (hBB.mono hsz1); have hsz2 := hB2.size; clear hB1 hsz1 hBB; go_frame)
    | (go_at_call 10; refine (hn2 _ (w0.below hB2)).mono ?_; rintro e0 p3 ⟨vm, rfl, hE, hBB⟩; have hB3 := hB2.trans (hBB.mono hsz2); have hsz3 := hB3.size; have hD_3 := hD.below hBB; clear hB2 hsz2 hD hBB; go_frame))
  refine region_mixD [(0, true), (1, true), (2, true), (3, true), (4, true), (5, true), (6, true), (7, true), (8, true), (9, true), (10, true), (11, true), (12, true), (13, true), (14, true), (15, true), (16, true), (17, true), (18, true), (19, true), (20, true), (21, true), (23, true), (24, true), (22, false), (25, false), (26, true), (27, true)] (fun w => (IsVals w vd (D.map VB) ∧ IsVals w vm (D.map VB)) ∧ IsVals w v1 (l1.map VB)) (by kernel_rfl) (by kernel_rfl) rfl ?_
  intro q1 hBd hsd
  have hD1 := hD_3.below hBd
  have hE1 := hE.below hBd
  have hB1 := hB3.trans (hBd.mono hsz3)
  have hX1 := w1.below hB1
  clear hBd hsd hD_3 hE hB3 hsz3
  simp only [List.map_cons, List.map_nil]
  dsimp only [List.filterMap, List.getElem?_cons_zero, List.getElem?_cons_succ]
  have hS := (⟨⟨hD1, hE1⟩, hX1⟩ : ((IsVals q1 vd (D.map VB) ∧ IsVals q1 vm (D.map VB)) ∧ IsVals q1 v1 (l1.map VB)))
  refine dY _ hS (yMove _ (.int .u8 C) rfl rfl rfl) ?_; go_frame
  refine dY _ hS (yMove _ (.int .u8 C) rfl rfl rfl) ?_; go_frame
  refine dY _ hS (yNeqI _ _ _ _ .u8 C C false rfl rfl rfl rfl (by simp)) ?_; go_frame
  refine dY _ hS (yMove _ (.bool false) rfl rfl rfl) ?_; go_frame
  refine dY _ hS (yMove _ (vd) rfl rfl rfl) ?_; go_frame
  refine dY _ hS (yStr _ _ _ _ vd D rfl rfl rfl (fun _ h => h.1.1) Tryd.underlying22 Tryd.underlying5 Tryd.underlying9) ?_; go_frame
  refine dY _ hS (yMove _ (vm) rfl rfl rfl) ?_; go_frame
  refine dY _ hS (yStr _ _ _ _ vm D rfl rfl rfl (fun _ h => h.1.2) Tryd.underlying22 Tryd.underlying5 Tryd.underlying9) ?_; go_frame
  refine dY _ hS (yNeqStr _ _ _ _ D D false rfl rfl rfl rfl (by simp)) ?_; go_frame
  refine dY _ hS (yPick _ _ _ false (.bool false) rfl rfl rfl rfl) ?_; go_frame
  refine dY _ hS (yMove _ (.bool false) rfl rfl rfl) ?_; go_frame
  refine dY _ hS (yMove _ (.int .i64 U) rfl rfl rfl) ?_; go_frame
  refine dY _ hS (yMove _ (.int .i64 U) rfl rfl rfl) ?_; go_frame
  refine dY _ hS (yNeqI _ _ _ _ .i64 U U false rfl rfl rfl rfl (by simp)) ?_; go_frame
  refine dY _ hS (yPick _ _ _ false (.bool false) rfl rfl rfl rfl) ?_; go_frame
  refine dY _ hS (yMove _ (.bool false) rfl rfl rfl) ?_; go_frame
  refine dY _ hS (yMove _ (.int .i64 Z) rfl rfl rfl) ?_; go_frame
  refine dY _ hS (yMove _ (.int .i64 Z) rfl rfl rfl) ?_; go_frame
  refine dY _ hS (yNeqI _ _ _ _ .i64 Z Z false rfl rfl rfl rfl (by simp)) ?_; go_frame
  refine dY _ hS (yPick _ _ _ false (.bool false) rfl rfl rfl rfl) ?_; go_frame
  refine dY _ hS (yMove _ (.bool false) rfl rfl rfl) ?_; go_frame
  refine dY _ hS (yMove _ (v1) rfl rfl rfl) ?_; go_frame
  refine dY _ hS (yMove _ (v1) rfl rfl rfl) ?_; go_frame
  refine dY _ hS (yStr _ _ _ _ v1 l1 rfl rfl rfl (fun _ h => h.2) Tryd.underlying22 Tryd.underlying5 Tryd.underlying9) ?_; go_frame
  refine dLoud ?_
  refine kCall1 11 _ _ _ rfl rfl (by kernel_rfl) rfl ?_
  refine (scTrue_any _ hX1 (by omega)).mono ?_
  rintro e q2 ⟨rfl, rfl⟩
  refine ⟨_, rfl, mixOn ⟨(fun w => (IsVals w vd (D.map VB) ∧ IsVals w vm (D.map VB)) ∧ IsVals w v1 (l1.map VB)), (fun _ h => h), hS, ?_⟩⟩
  go_frame
  refine dLoud ?_
  refine kCall1 12 _ _ _ rfl rfl (by kernel_rfl) rfl ?_
  refine (mTrue_any l1 _ (by omega)).mono ?_
  rintro e q3 ⟨rfl, rfl⟩
  refine ⟨_, rfl, mixOn ⟨(fun w => (IsVals w vd (D.map VB) ∧ IsVals w vm (D.map VB)) ∧ IsVals w v1 (l1.map VB)), (fun _ h => h), hS, ?_⟩⟩
  go_frame
  refine dY _ hS (yNeqBool _ _ _ _ (trueB l1) (trueB l1) false rfl rfl rfl rfl Tryd.underlying4 (by simp)) ?_; go_frame
  refine dY _ hS (yPick _ _ _ false (.bool false) rfl rfl rfl rfl) ?_; go_frame
  refine dDone ?_
  clear hS hD1 hE1 hX1
  have hsz1 := hB1.size
  go_wp2_with (first
    | ((with_reducible change wpList _ _ _ (Oper.mk (some 70) _ _ _ _ _ :: _) _ _); refine kBuildSlice1 _ _ _ (VB 9) rfl rfl Tryd.underlying22 i _ hi hz hs1 rfl rfl ?_; intro p2 hRr hzz hBB; clear hzz; have hL70 : IsVals p2 _ (([9] : List UInt8).map VB) := isVals_lit (l := [VB 9]) hRr; clear hRr; have hB2 := hB1.trans (hBB.mono hsz1); have hsz2 := hB2.size; clear hB1 hsz1 hBB; go_frame)
    | ((with_reducible change wpList _ _ _ (Oper.mk (some 72) _ _ _ _ _ :: _) _ _); refine kBuildSlice2 _ _ _ _ v1 (.slice none 0 0) rfl rfl Tryd.underlying40 iy _ hiy hzy hsy rfl o1 rfl rfl ?_; intro p3 hRr hzz hBB; clear hzz; have hLs := areLists_two (m := []) hRr ((w1.below hB2).below hBB) (isVals_nil _); clear hRr; have hB3 := hB2.trans (hBB.mono hsz2); have hsz3 := hB3.size; have hL70_3 := hL70.below hBB; clear hB2 hsz2 hL70 hBB; go_frame)
    | (go_at_call 13; refine (hpw _ _ _ hL70_3 hLs).mono ?_; rintro e0 p4 ⟨pv, rfl, hP, hBB⟩; clear hLs; have hB4 := hB3.trans (hBB.mono hsz3); have hsz4 := hB4.size; clear hB3 hsz3 hBB; go_frame))
  refine region_mixD [(0, true), (1, true), (2, true), (3, false), (4, true), (5, true), (6, true), (7, true)] (fun w => IsVals w pv ((9 :: (X ++ [0])).map VB)) (by kernel_rfl) (by kernel_rfl) rfl ?_
  intro q4 hBd hsd
  have hP4 := hP.below hBd
  have hB9 := hB4.trans (hBd.mono hsz4)
  have hsz9 := hB9.size
  clear hBd hsd hP hB4 hsz4
  simp only [List.map_cons, List.map_nil]
  dsimp only [List.filterMap, List.getElem?_cons_zero, List.getElem?_cons_succ]
  have hS := hP4
  refine dY _ hS (yMove _ (pv) rfl rfl rfl) ?_; go_frame
  refine dY _ hS (yStr _ _ _ _ pv (9 :: (X ++ [0])) rfl rfl rfl (fun _ h => h) Tryd.underlying22 Tryd.underlying5 Tryd.underlying9) ?_; go_frame
  refine dY _ hS (yMove _ (v1) rfl rfl rfl) ?_; go_frame
  refine dLoud ?_
  refine kCall1 14 _ _ _ rfl rfl (by kernel_rfl) rfl ?_
  refine (hmp _ (w1.below hB9)).mono ?_
  rintro e q5 ⟨v5, rfl, hO5, hB5⟩
  have hP5 := hP4.below hB5
  have hB10 := hB9.trans (hB5.mono hsz9)
  have hsz10 := hB10.size
  clear hB9 hsz9 hB5 hP4
  refine ⟨_, rfl, mixOn ⟨(fun w => IsVals w pv ((9 :: (X ++ [0])).map VB) ∧ IsVals w v5 (X.map VB)), (fun _ h => h.1), (⟨hP5, hO5⟩ : IsVals q5 pv ((9 :: (X ++ [0])).map VB) ∧ IsVals q5 v5 (X.map VB)), ?_⟩⟩
  have hS2 := (⟨hP5, hO5⟩ : IsVals q5 pv ((9 :: (X ++ [0])).map VB) ∧ IsVals q5 v5 (X.map VB)); clear hS; have hS := hS2; clear hS2
  go_frame
  refine dY _ hS (yStr _ _ _ _ v5 X rfl rfl rfl (fun _ h => h.2) Tryd.underlying22 Tryd.underlying5 Tryd.underlying9) ?_; go_frame
  refine dY _ hS (yAddStr _ _ _ _ [9] X (by simp <;> omega) rfl rfl rfl rfl) ?_; go_frame
  refine dY _ hS (yAddStr _ _ _ _ ([9] ++ X) [0] (by simp <;> omega) rfl rfl rfl rfl) ?_; go_frame
  refine dY _ hS (yNeqStr _ _ _ _ (9 :: (X ++ [0])) ([9] ++ X ++ [0]) false rfl rfl rfl rfl (by simp)) ?_; go_frame
  refine dDone ?_
  clear hS hO5
  go_wp2_with (first
    | ((with_reducible change wpList _ _ _ (Oper.mk (some 84) _ _ _ _ _ :: _) _ _); refine kSliceFromB _ _ pv (9 :: (X ++ [0])) 1 hP5 (by simp) rfl rfl rfl rfl ?_; intro hQ; go_frame)
    | (go_at_call 9; refine (hn3 _ _ hQ).mono ?_; rintro e q6 ⟨v6, ⟨c6, rfl⟩, hO6, hB6⟩; have hP6 := hP5.below hB6; have hB11 := hB10.trans (hB6.mono hsz10); have hX6 := w1.below hB11; clear hP5 hB10 hB6 hQ; go_frame)
    | ((with_reducible change wpList _ _ _ (Oper.mk (some 94) _ _ _ _ _ :: _) _ _); refine kToString _ _ _ _ v6 l1 rfl rfl rfl hO6 Tryd.underlying22 Tryd.underlying5 Tryd.underlying9 ?_; go_frame)
    | ((with_reducible change wpList _ _ _ (Oper.mk (some 96) _ _ _ _ _ :: _) _ _); refine kToString _ _ _ _ v1 l1 rfl rfl rfl hX6 Tryd.underlying22 Tryd.underlying5 Tryd.underlying9 ?_; go_frame)
    | ((with_reducible change wpList _ _ _ (Oper.mk (some 97) _ _ _ _ _ :: _) _ _); refine kEqlStr _ _ _ _ l1 l1 true rfl rfl rfl rfl (by simp) ?_; go_frame)
    | ((with_reducible change wpList _ _ _ (Oper.mk (some 102) _ _ _ _ _ :: _) _ _); refine kLenN _ _ _ pv _ (K + 2) rfl rfl rfl hP6 (by simp [hK]) Tryd.underlying22 ?_; go_frame)
    | ((with_reducible change wpList _ _ _ (Oper.mk (some 103) _ _ _ _ _ :: _) _ _); refine kSubI _ _ _ _ ((K + 2 : Nat) : Int) 2 (K : Int) (by omega) rfl rfl rfl rfl ?_; go_frame)
    | ((with_reducible change wpList _ _ _ (Oper.mk (some 104) _ _ _ _ _ :: _) _ _); refine kEqlI _ _ _ _ .i64 (K : Int) (K : Int) true rfl rfl rfl rfl (by simp) ?_; go_frame))
  go_ret
  exact ⟨rfl, hB11⟩
end Go.Proofs.YtdhhifgafookkaaDoor
