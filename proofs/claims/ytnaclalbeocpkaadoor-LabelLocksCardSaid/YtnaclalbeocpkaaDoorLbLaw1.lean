/-
  Layer 8: the walks of both Commits, of the statements' examples and of LabelNames.
-/
import Derived.Test.YtnaclalbeocpkaaDoorLbRefL
import Derived.Test.YtnaclalbeocpkaaDoorTwice
import Derived.Laws.Concat
namespace Go.Proofs.YtnaclalbeocpkaaDoor
open Go Go.RowKit

section
variable {P : Program} {ops : Array Oper} {Q : Exit → Act → World → Prop} {rest : List Oper} {o : Oper} {a : Act} {w : World} {S : World → Prop}
theorem run_addStr8 {T : TypeId} (l m : List UInt8) (hl : l.length + m.length ≤ 1000000) (w : World) : (binOp .add T (textV l) (textV m)).run P w = .ok (textV (l ++ m)) w := by
  have h1 : (⟨l.toArray⟩ : ByteArray).size = l.length := by simp [ByteArray.size]
  have h2 : (⟨m.toArray⟩ : ByteArray).size = m.length := by simp [ByteArray.size]
  have hr := run_string_add_sum (P := P) (w := w) ⟨l.toArray⟩ ⟨m.toArray⟩ (by rw [h1, h2]; omega)
  rw [ByteArray.mk_append_mk] at hr
  rw [show binOp .add T (textV l) (textV m) = Op.stringOp .add ⟨l.toArray⟩ ⟨m.toArray⟩ from rfl, hr]
  congr 1
theorem kAddStr8 (T T2 : TypeId) (x y : Operand) (l m : List UInt8) (hl : l.length + m.length ≤ 1000000) (ho : o.op = .binOp .add T x y T2) (hg : Region.wanted o (yielded ops a.tmps) = true) (hx : a.eval x = textV l) (hy : a.eval y = textV m) (h : wpList P ops Q rest (a.put o.dst (textV (l ++ m))) w) : wpList P ops Q (o :: rest) a w := by
  refine kPure _ hg ?_ h
  unfold execOp
  simp only [ho, hx, hy]
  rw [Sem.run_bind]
  show ((binOp .add T (textV l) (textV m)).run P w).andThen _ = _
  rw [run_addStr8 l m hl]
  rfl
end
/-- what Commit answers -/
def commitL (r n : List UInt8) : Nat → Value := fun p => VB (at8 (sha (sha (r ++ n))) p)
set_option maxRecDepth 100000 in
set_option maxHeartbeats 8000000 in
theorem lbCommit_any {r n : List UInt8} (hr : r.length ≤ 1000) (hn : n.length ≤ 1000) (w : World) (hK : Keys w) : Calls Tryd.prog 12 #[textV r, textV n] w fun e w' => e = .returned (.agg (tab 20 (commitL r n))) ∧ Below w.heap.size w w' := by
  obtain ⟨iy, hiy, hzy, hsy, hbyy⟩ := bysInfoL
  have e1 := fun w v (h : Keys w) (h1 : AreLists w v [r, n]) => Short_any [r, n] v w h h1 (by simp) (by simp; omega)
  have e2 : [r, n].flatten = r ++ n := by simp
  rw [e2] at e1
  go_enter Tryd.func12, Tryd.ntmps12
  go_wp2_with (first
    | ((with_reducible change wpList _ _ _ (Oper.mk (some 4) _ _ _ _ _ :: _) _ _); refine kAllocL _ _ rfl rfl zero_Short ?_; intro w1 hR1 hz1 hB1; clear hz1; go_frame)
    | ((with_reducible change wpList _ _ _ (Oper.mk (some 6) _ _ _ _ _ :: _) _ _); refine kToBytes _ _ _ _ r rfl rfl rfl Tryd.underlying9 Tryd.underlying22 Tryd.underlying5 ?_; intro v2 w2 hB2 hV2; have hR2 := hR1.below hB2 hR1.lt; have hB3 := hB1.trans (hB2.mono hB1.size); clear hR1 hB1 hB2; go_frame)
    | ((with_reducible change wpList _ _ _ (Oper.mk (some 8) _ _ _ _ _ :: _) _ _); refine kToBytes _ _ _ _ n rfl rfl rfl Tryd.underlying9 Tryd.underlying22 Tryd.underlying5 ?_; intro v4 w4 hB4 hV4; have hR4 := hR2.below hB4 hR2.lt; have hV3 := hV2.below hB4; have hB5 := hB3.trans (hB4.mono hB3.size); clear hR2 hB3 hB4 hV2; go_frame)
    | ((with_reducible change wpList _ _ _ (Oper.mk (some 9) _ _ _ _ _ :: _) _ _); refine kBuildSlice2 _ _ _ _ _ _ rfl rfl Tryd.underlying57 iy _ hiy hzy hsy rfl (vals_oneS8 hV3) rfl (vals_oneS8 hV4) ?_; intro w5 hL hz5 hB6; clear hz5; have hA := areLists_twoL hL (hV3.below hB6) (hV4.below hB6); have hR6 := hR4.below hB6 hR4.lt; have hB7 := hB5.trans (hB6.mono hB5.size); have hK7 := hK.below hB7; clear hL hV3 hV4 hR4 hB5 hB6; go_frame)
    | (go_at_call 21; refine (e1 _ _ hK7 hA).mono ?_; rintro e w6 ⟨rfl, hB8⟩; have hR8 := hR6.below hB8 hR6.lt; have hB10 := hB7.trans (hB8.mono hB7.size); clear hA hR6 hB7 hB8 hK7; go_frame)
    | ((with_reducible change wpList _ _ _ (Oper.mk none _ _ _ _ _ :: _) _ _); refine kStoreRow _ _ _ _ _ _ _ rfl rfl rfl rfl hR8 (by rw [tab_size8]; exact info_Short) (by rw [tab_size8]; rfl) (tab_one8 _ _) ?_; intro w9 hR9 hW9; have hB9 := hB10.trans (hW9.below (Nat.le_refl _)); go_frame))
  (try simp only [Exit.inBlock, Exit.then])
  exact result_row rfl rfl hR9 Tryd.underlying27 rfl (by rw [tab_size8]; exact info_Short) rfl ⟨rfl, hB9⟩
set_option maxRecDepth 100000 in
set_option maxHeartbeats 8000000 in
theorem nCommit_any {r n : List UInt8} (hr : r.length ≤ 1000) (hn : n.length ≤ 1000) (w : World) : Calls Tryd.prog 13 #[textV r, textV n] w fun e w' => e = .returned (.agg (tab 20 (commitL r n))) ∧ Below w.heap.size w w' := by
  have e1 := fun w v (h1 : IsVals w v ((r ++ n).map VB)) => rShort_any (r ++ n) v w h1 (by simp; omega)
  go_enter Tryd.func13, Tryd.ntmps13
  go_wp2_with (first
    | ((with_reducible change wpList _ _ _ (Oper.mk (some 4) _ _ _ _ _ :: _) _ _); refine kAllocL _ _ rfl rfl zero_Short ?_; intro w1 hR1 hz1 hB1; clear hz1; go_frame)
    | ((with_reducible change wpList _ _ _ (Oper.mk (some 7) _ _ _ _ _ :: _) _ _); refine kAddStr8 _ _ _ _ r n (by omega) rfl rfl rfl rfl ?_; go_frame)
    | ((with_reducible change wpList _ _ _ (Oper.mk (some 8) _ _ _ _ _ :: _) _ _); refine kToBytes _ _ _ _ (r ++ n) rfl rfl rfl Tryd.underlying9 Tryd.underlying22 Tryd.underlying5 ?_; intro v2 w2 hB2 hV2; have hR2 := hR1.below hB2 hR1.lt; have hB3 := hB1.trans (hB2.mono hB1.size); clear hR1 hB1 hB2; go_frame)
    | (go_at_call 22; refine (e1 _ _ hV2).mono ?_; rintro e w6 ⟨rfl, hB8⟩; have hR8 := hR2.below hB8 hR2.lt; have hB10 := hB3.trans (hB8.mono hB3.size); clear hR2 hB3 hB8 hV2; go_frame)
    | ((with_reducible change wpList _ _ _ (Oper.mk none _ _ _ _ _ :: _) _ _); refine kStoreRow _ _ _ _ _ _ _ rfl rfl rfl rfl hR8 (by rw [tab_size8]; exact info_Short) (by rw [tab_size8]; rfl) (tab_one8 _ _) ?_; intro w9 hR9 hW9; have hB9 := hB10.trans (hW9.below (Nat.le_refl _)); go_frame))
  (try simp only [Exit.inBlock, Exit.then])
  exact result_row rfl rfl hR9 Tryd.underlying27 rfl (by rw [tab_size8]; exact info_Short) rfl ⟨rfl, hB9⟩
theorem split_81 : splitS8 [81] = none := by simp [splitS8, readS, kindL, at8, piecesS, cntN, nextS]
theorem split_84 : splitS8 [84] = some (noDeed, [84]) := by simp [splitS8, readS, kindL, at8, rightB, noDeed, hasP, wordsL]
theorem lock_ex : lockS ⟨3, [100, 47, 120], [118], [], z20⟩ [81] = some [83, 3, 100, 47, 120, 1, 118, 109, 117, 81] := by simp [lockS, rightB, kindL, wordsL, pushL]
set_option maxRecDepth 100000 in
set_option maxHeartbeats 8000000 in
theorem labelAlive_any (W : World) (hG : Counts W) : Calls Tryd.prog 7 #[] W fun e W' => e = .returned (.bool true) ∧ Below W.heap.size W W' := by
  obtain ⟨i, hi, hz, hs1, hby⟩ := b8Info
  have hzd : noDeed.Is := rfl
  have e81 := fun w v (h : Counts w) (h1 : IsVals w v (([81] : List UInt8).map VB)) => lbSplit_any w h h1 (by simp)
  have e84 := fun w v (h : Counts w) (h1 : IsVals w v (([84] : List UInt8).map VB)) => lbSplit_any w h h1 (by simp)
  rw [split_81] at e81
  rw [split_84] at e84
  have hB0 := Below.refl W.heap.size W
  go_enter Tryd.func7, Tryd.ntmps7
  go_wp2_with (first
    | ((with_reducible change wpList _ _ _ (Oper.mk (some 8) _ _ _ _ _ :: _) _ _); refine kBuildSlice1 _ _ _ (VB 81) rfl rfl Tryd.underlying22 i _ hi hz hs1 rfl rfl ?_; intro p1 hRr hzz hBB; clear hzz; have hL := own_lit (base := W.heap.size) [81] hB0.size (by decide) hRr; clear hRr; have hB1 := hB0.trans (hBB.mono hB0.size); clear hB0 hBB; go_frame)
    | (go_at_call 14; (with_reducible change Calls _ _ #[.slice (some ⟨W.heap.size, 0, none⟩) 1 1] _ _); refine (e81 _ _ (hG.below hB1) hL.vals).mono ?_; rintro e p2 ⟨vx, rfl, hX, hBB⟩; clear hX hL; have hB2 := hB1.trans (hBB.mono hB1.size); clear hB1 hBB; go_frame)
    | ((with_reducible change wpList _ _ _ (Oper.mk (some 1) _ _ _ _ _ :: _) _ _); refine kAllocL _ _ rfl rfl zero_Deed ?_; intro p3 hR1 hzz hBB; clear hzz; have hs2 := hB2.size; have hB3 := hB2.trans (hBB.mono hB2.size); clear hB2 hBB; go_frame)
    | ((with_reducible change wpList _ _ _ (Oper.mk none (Op.store _ (Operand.tmp 1) (Operand.tmp 10)) _ _ _ _ :: _) _ _); refine kStoreD _ _ _ noDeed _ hR1 rfl rfl rfl rfl ?_; intro p4 hR1b hW1; have hBB := hW1.below hs2; clear hR1 hW1; have hB4 := hB3.trans hBB; clear hB3 hBB; go_frame)
    | ((with_reducible change wpList _ _ _ (Oper.mk (some 14) _ _ _ _ _ :: _) _ _); refine kBuildSlice1 _ _ _ (VB 84) rfl rfl Tryd.underlying22 i _ hi hz hs1 rfl rfl ?_; intro p5 hRr hzz hBB; clear hzz; have hM := own_lit (base := W.heap.size) [84] hB4.size (by decide) hRr; clear hRr; have hB5 := hB4.trans (hBB.mono hB4.size); clear hB4 hBB; go_frame)
    | (go_at_call 14; (with_reducible change Calls _ _ #[.slice (some ⟨p4.heap.size, 0, none⟩) 1 1] _ _); refine (e84 _ _ (hG.below hB5) hM.vals).mono ?_; rintro e p6 ⟨vy, rfl, hY, hBB⟩; clear hM; have hB6 := hB5.trans (hBB.mono hB5.size); clear hB5 hBB; go_frame)
    | ((with_reducible change wpList _ _ _ (Oper.mk (some 4) _ _ _ _ _ :: _) _ _); refine kAllocL _ _ rfl rfl zero_Deed ?_; intro p7 hR4 hzz hBB; clear hzz; have hs6 := hB6.size; have hB7 := hB6.trans (hBB.mono hB6.size); have hY_7 := hY.below hBB; clear hY hB6 hBB; go_frame)
    | ((with_reducible change wpList _ _ _ (Oper.mk none (Op.store _ (Operand.tmp 4) (Operand.tmp 16)) _ _ _ _ :: _) _ _); refine kStoreD _ _ _ noDeed _ hR4 rfl rfl rfl rfl ?_; intro p8 hR4b hW4; have hYY := own_keepW hY_7 hW4 hR4; have hBB := hW4.below hs6; clear hR4 hW4; have hB8 := hB7.trans hBB; clear hY_7 hB7 hBB; go_frame)
    | ((with_reducible change wpList _ _ _ (Oper.mk (some 26) _ _ _ _ _ :: _) _ _); refine kLoadD _ _ _ hR4b rfl rfl rfl ?_; go_frame)
    | ((with_reducible change wpList _ _ _ (Oper.mk (some 27) _ _ _ _ _ :: _) _ _); refine kBuildD0 rfl rfl ?_; go_frame)
    | ((with_reducible change wpList _ _ _ (Oper.mk (some 28) _ _ _ _ _ :: _) _ _); refine kEqlD _ _ _ hzd (by exact hzd) true rfl rfl rfl rfl ((sameD_iff _ _).2 rfl) ?_; go_frame)
    | ((with_reducible change wpList _ _ _ (Oper.mk (some 32) _ _ _ _ _ :: _) _ _); refine kToString _ _ _ _ vy [84] rfl rfl rfl hYY.vals Tryd.underlying22 Tryd.underlying5 Tryd.underlying9 ?_; go_frame)
    | ((with_reducible change wpList _ _ _ (Oper.mk (some 33) _ _ _ _ _ :: _) _ _); refine kEqlStr _ _ _ _ [84] [84] true rfl rfl rfl rfl (by simp) ?_; go_frame))
  go_ret
  exact ⟨rfl, hB8⟩
set_option maxRecDepth 100000 in
set_option maxHeartbeats 8000000 in
theorem labelNames_walk (W : World) (hG : Counts W) : Calls Tryd.prog 3 #[] W fun e W' => e = .returned (.bool true) ∧ Below W.heap.size W W' := by
  obtain ⟨i, hi, hz, hs1, hby⟩ := b8Info
  have eL := fun w v (h : Counts w) (h1 : IsVals w v (([81] : List UInt8).map VB)) => lbLock_any (d := ⟨3, [100, 47, 120], [118], [], z20⟩) rfl w h h1 (by simp)
  rw [lock_ex] at eL
  have hB0 := Below.refl W.heap.size W
  go_enter Tryd.func3, Tryd.ntmps3
  go_wp2_with (first
    | ((with_reducible change wpList _ _ _ (Oper.mk (some 4) _ _ _ _ _ :: _) _ _); refine kBuildD3 _ _ _ 3 [100, 47, 120] [118] rfl rfl rfl rfl rfl ?_; go_frame)
    | ((with_reducible change wpList _ _ _ (Oper.mk (some 5) _ _ _ _ _ :: _) _ _); refine kBuildSlice1 _ _ _ (VB 81) rfl rfl Tryd.underlying22 i _ hi hz hs1 rfl rfl ?_; intro p1 hRr hzz hBB; clear hzz; have hL := own_lit (base := W.heap.size) [81] hB0.size (by decide) hRr; clear hRr; have hB1 := hB0.trans (hBB.mono hB0.size); clear hB0 hBB; go_frame)
    | (go_at_call 6; refine (eL _ _ (hG.below hB1) hL.vals).mono ?_; rintro e p2 ⟨vx, rfl, hX, hBB⟩; clear hL; have hB2 := hB1.trans (hBB.mono hB1.size); clear hB1 hBB; go_frame)
    | (go_at_call 7; refine (labelAlive_any _ (hG.below hB2)).mono ?_; rintro e p3 ⟨rfl, hBB⟩; have hB3 := hB2.trans (hBB.mono hB2.size); have hX_3 := hX.below hBB; clear hX hB2 hBB; go_frame)
    | ((with_reducible change wpList _ _ _ (Oper.mk (some 32) _ _ _ _ _ :: _) _ _); refine kToString _ _ _ _ vx [83, 3, 100, 47, 120, 1, 118, 109, 117, 81] rfl rfl rfl hX_3.vals Tryd.underlying22 Tryd.underlying5 Tryd.underlying9 ?_; go_frame)
    | ((with_reducible change wpList _ _ _ (Oper.mk (some 33) _ _ _ _ _ :: _) _ _); refine kEqlStr _ _ _ _ [83, 3, 100, 47, 120, 1, 118, 109, 117, 81] [83, 3, 100, 47, 120, 1, 118, 109, 117, 81] true rfl rfl rfl rfl (by simp) ?_; go_frame))
  go_ret
  exact ⟨rfl, hB3⟩
end Go.Proofs.YtnaclalbeocpkaaDoor
