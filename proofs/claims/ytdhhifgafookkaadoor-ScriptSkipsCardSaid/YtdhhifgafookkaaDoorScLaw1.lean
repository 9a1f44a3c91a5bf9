/-
  Layer 7: Opens, the chapter's examples, and the walks of ScriptNames and ScriptMoves.
-/
import Derived.Test.YtdhhifgafookkaaDoorScRun2
namespace Go.Proofs.YtdhhifgafookkaaDoor
open Go Go.RowKit

/-- the hash of noughts -/
def hs0 : List Value := List.replicate 32 (Value.int .u8 0)
theorem hs0_len : hs0.length = 32 := rfl
theorem hs0_one : ∀ x ∈ hs0, x.oneCell' = true := fun x hx => by rw [List.eq_of_mem_replicate hx]; rfl
theorem built_hash0L : Tryd.prog.built 26 [] = some (List.replicate 32 (Value.int .u8 0)).toArray := by kernel_rfl
theorem built_hash0 : Tryd.prog.built 26 [] = some hs0.toArray := built_hash0L
theorem run0 {u l : List UInt8} {v1 v2 : Value} {e : Nat} {z : Int} (w : World) (hv1 : IsVals w v1 (u.map VB)) (hv2 : IsVals w v2 (l.map VB)) (hr : runS calm u l = some e) (hz : (e : Int) = z) : Calls Tryd.prog 7 #[v1, v2, .agg hs0.toArray] w fun en w' => en = .returned (.int .i64 z) ∧ Below w.heap.size w w' := by
  subst hz; exact scRun_any (calm_ok _) hs0_len hs0_one w hv1 hv2 hr
set_option maxRecDepth 100000 in
set_option maxHeartbeats 8000000 in
theorem open0 {u l : List UInt8} {v1 v2 : Value} {e : Nat} {b : Bool} (w : World) (hv1 : IsVals w v1 (u.map VB)) (hv2 : IsVals w v2 (l.map VB)) (hr : runS calm u l = some e) (hb : decide (e = 0) = b) : Calls Tryd.prog 15 #[v1, v2, .agg hs0.toArray] w fun en w' => en = .returned (.bool b) ∧ Below w.heap.size w w' := by
  have hb2 : decide ((e : Int) = 0) = b := by rw [← hb]; by_cases h : e = 0 <;> simp [h]
  clear hb
  have hRun := fun w (h1 : IsVals w v1 (u.map VB)) (h2 : IsVals w v2 (l.map VB)) => run0 (z := (e : Int)) w h1 h2 hr rfl
  go_enter Tryd.func15, Tryd.ntmps15
  go_wp2_with (first
    | ((with_reducible change wpList _ _ _ (Oper.mk (some 5) _ _ _ _ _ :: _) _ _); refine kBox _ _ _ rfl rfl rfl ?_; intro w1 hR1 hz1 hB1; clear hz1; have hV1 := hv1.below hB1; have hV2 := hv2.below hB1; have hsz1 := hB1.size; go_frame)
    | ((with_reducible change wpList _ _ _ (Oper.mk (some 9) _ _ _ _ _ :: _) _ _); refine kLoadRow _ _ _ _ _ _ rfl rfl rfl hR1 Tryd.underlying26 rfl (by rw [info_HashR]; rfl) ?_; go_frame)
    | (go_at_call 7; refine (hRun _ hV1 hV2).mono ?_; rintro e w2 ⟨rfl, hB2⟩; clear hRun; go_frame)
    | ((with_reducible change wpList _ _ _ (Oper.mk (some 11) _ _ _ _ _ :: _) _ _); refine kEqlI _ _ _ _ .i64 (e : Int) 0 b rfl rfl rfl rfl hb2 ?_; go_frame))
  go_ret
  exact ⟨rfl, hB1.trans (hB2.mono hsz1)⟩
set_option maxRecDepth 100000 in
set_option maxHeartbeats 8000000 in
theorem opensW0 {u l : List UInt8} {v1 v2 : Value} {e : Nat} {b : Bool} (w : World) (hv1 : IsVals w v1 (u.map VB)) (hv2 : IsVals w v2 (l.map VB)) (hr : runS calm u l = some e) (hb : decide (e = 0) = b) : Calls Tryd.prog 16 #[v1, v2] w fun en w' => en = .returned (.bool b) ∧ Below w.heap.size w w' := by
  have hOp := open0 w hv1 hv2 hr hb
  go_enter Tryd.func16, Tryd.ntmps16
  go_wp2_with (first
    | ((with_reducible change wpList _ _ _ (Oper.mk (some 7) _ _ _ _ _ :: _) _ _); refine kBuildAny _ _ #[] _ rfl rfl (by simp) built_hash0 ?_; go_frame)
    | (go_at_call 15; refine (hOp).mono ?_; rintro e w2 ⟨rfl, hB2⟩; clear hOp; go_frame))
  go_ret
  exact ⟨rfl, hB2⟩
set_option maxRecDepth 100000 in
set_option maxHeartbeats 8000000 in
theorem scriptAlive_any (w : World) : Calls Tryd.prog 8 #[] w fun e w' => e = .returned (.bool true) ∧ Below w.heap.size w w' := by
  obtain ⟨i, hi, hz, hs1, hby⟩ := b8Info
  have hB0 := Below.refl w.heap.size w
  have hsz0 := hB0.size
  go_enter Tryd.func8, Tryd.ntmps8
  go_wp2_with (first
    | ((with_reducible change wpList _ _ _ (Oper.mk (some 1) _ _ _ _ _ :: _) _ _); refine kBuildSlice1 _ _ _ (VB 81) rfl rfl Tryd.underlying22 i _ hi hz hs1 rfl rfl ?_; intro p1 hRr hzz hBB; clear hzz; have hL1 : IsVals p1 _ (([81] : List UInt8).map VB) := isVals_lit (l := [VB 81]) hRr; clear hRr; have hB1 := hB0.trans (hBB.mono hsz0); have hsz1 := hB1.size; clear hB0 hsz0 hBB; go_frame)
    | ((with_reducible change wpList _ _ _ (Oper.mk (some 2) _ _ _ _ _ :: _) _ _); refine kBuildAny _ _ #[] _ rfl rfl (by simp) built_hash0 ?_; go_frame)
    | (go_at_call 7; refine (run0 (z := 0) _ (isVals_nil _) hL1 ex_one (by rfl)).mono ?_; rintro e0 p2 ⟨rfl, hBB⟩; have hB2 := hB1.trans (hBB.mono hsz1); have hsz2 := hB2.size; have hL1_2 := hL1.below hBB; clear hB1 hsz1 hL1 hBB; go_frame)
    | ((with_reducible change wpList _ _ _ (Oper.mk (some 6) _ _ _ _ _ :: _) _ _); refine kBuildSlice1 _ _ _ (VB 0) rfl rfl Tryd.underlying22 i _ hi hz hs1 rfl rfl ?_; intro p3 hRr hzz hBB; clear hzz; have hL6 : IsVals p3 _ (([0] : List UInt8).map VB) := isVals_lit (l := [VB 0]) hRr; clear hRr; have hB3 := hB2.trans (hBB.mono hsz2); have hsz3 := hB3.size; have hL1_3 := hL1_2.below hBB; clear hB2 hsz2 hL1_2 hBB; go_frame)
    | ((with_reducible change wpList _ _ _ (Oper.mk (some 7) _ _ _ _ _ :: _) _ _); refine kBuildAny _ _ #[] _ rfl rfl (by simp) built_hash0 ?_; go_frame)
    | (go_at_call 7; refine (run0 (z := 74) _ (isVals_nil _) hL6 ex_none (by rfl)).mono ?_; rintro e0 p4 ⟨rfl, hBB⟩; have hB4 := hB3.trans (hBB.mono hsz3); have hsz4 := hB4.size; have hL1_4 := hL1_3.below hBB; have hL6_4 := hL6.below hBB; clear hB3 hsz3 hL1_3 hL6 hBB; go_frame)
    | ((with_reducible change wpList _ _ _ (Oper.mk (some 12) _ _ _ _ _ :: _) _ _); refine kBuildSlice2 _ _ _ _ (VB 1) (VB 7) rfl rfl Tryd.underlying22 i _ hi hz hs1 rfl rfl rfl rfl ?_; intro p5 hRr hzz hBB; clear hzz; have hL12 : IsVals p5 _ (([1, 7] : List UInt8).map VB) := isVals_lit (l := [VB 1, VB 7]) hRr; clear hRr; have hB5 := hB4.trans (hBB.mono hsz4); have hsz5 := hB5.size; have hL1_5 := hL1_4.below hBB; have hL6_5 := hL6_4.below hBB; clear hB4 hsz4 hL1_4 hL6_4 hBB; go_frame)
    | ((with_reducible change wpList _ _ _ (Oper.mk (some 13) _ _ _ _ _ :: _) _ _); refine kBuildSlice3 _ _ _ _ _ (VB 1) (VB 7) (VB 135) rfl rfl Tryd.underlying22 i _ hi hz hs1 rfl rfl rfl rfl rfl rfl ?_; intro p6 hRr hzz hBB; clear hzz; have hL13 : IsVals p6 _ (([1, 7, 135] : List UInt8).map VB) := isVals_lit (l := [VB 1, VB 7, VB 135]) hRr; clear hRr; have hB6 := hB5.trans (hBB.mono hsz5); have hsz6 := hB6.size; have hL1_6 := hL1_5.below hBB; have hL6_6 := hL6_5.below hBB; have hL12_6 := hL12.below hBB; clear hB5 hsz5 hL1_5 hL6_5 hL12 hBB; go_frame)
    | ((with_reducible change wpList _ _ _ (Oper.mk (some 14) _ _ _ _ _ :: _) _ _); refine kBuildAny _ _ #[] _ rfl rfl (by simp) built_hash0 ?_; go_frame)
    | (go_at_call 15; refine (open0 (b := true) _ hL12_6 hL13 ex_same rfl).mono ?_; rintro e0 p7 ⟨rfl, hBB⟩; have hB7 := hB6.trans (hBB.mono hsz6); have hsz7 := hB7.size; have hL1_7 := hL1_6.below hBB; have hL6_7 := hL6_6.below hBB; have hL12_7 := hL12_6.below hBB; have hL13_7 := hL13.below hBB; clear hB6 hsz6 hL1_6 hL6_6 hL12_6 hL13 hBB; go_frame))
  go_ret
  exact ⟨rfl, hB7⟩
theorem vals_long {w : World} {g : Nat} (h : Row w g 5 (Array.replicate 2001 (VB 0))) : IsVals w (.slice (some ⟨g, 0, none⟩) 2001 2001) ((List.replicate 2001 (0 : UInt8)).map VB) := by
  have h1 : Row w g 5 ((List.replicate 2001 (0 : UInt8)).map VB).toArray := by rw [List.map_replicate, List.toArray_replicate]; exact h
  have := isVals_lit h1
  rw [List.length_map, List.length_replicate] at this; exact this
theorem ex_long : runS calm (List.replicate 2001 0) [] = some 73 := by unfold runS; rw [if_pos (.inl (by rw [List.length_replicate]; decide))]
set_option maxRecDepth 100000 in
set_option maxHeartbeats 8000000 in
theorem scriptNames_walk (w : World) : Calls Tryd.prog 3 #[] w fun e w' => e = .returned (.bool true) ∧ Below w.heap.size w w' := by
  obtain ⟨i, hi, hz, hs1, hby⟩ := b8Info
  have hB0 := Below.refl w.heap.size w
  have hsz0 := hB0.size
  go_enter Tryd.func3, Tryd.ntmps3
  go_wp2_with (first
    | ((with_reducible change wpList _ _ _ (Oper.mk (some 7) _ _ _ _ _ :: _) _ _); refine kMake _ _ _ _ rfl rfl i _ Tryd.underlying22 hi hz hs1 (VB 0) rfl _ _ _ _ 2001 2001 rfl rfl rfl rfl (by decide) (by rw [hby]; decide) (by decide) ?_; intro p1 hRr hzz hBB; clear hzz; have hLong : IsVals p1 _ ((List.replicate 2001 (0 : UInt8)).map VB) := vals_long hRr; clear hRr; have hB1 := hB0.trans (hBB.mono hsz0); have hsz1 := hB1.size; clear hB0 hsz0 hBB; go_frame)
    | ((with_reducible change wpList _ _ _ (Oper.mk (some 8) _ _ _ _ _ :: _) _ _); refine kBuildSlice1 _ _ _ (VB 255) rfl rfl Tryd.underlying22 i _ hi hz hs1 rfl rfl ?_; intro p2 hRr hzz hBB; clear hzz; have hL8 : IsVals p2 _ (([255] : List UInt8).map VB) := isVals_lit (l := [VB 255]) hRr; clear hRr; have hB2 := hB1.trans (hBB.mono hsz1); have hsz2 := hB2.size; have hLong_2 := hLong.below hBB; clear hB1 hsz1 hLong hBB; go_frame)
    | ((with_reducible change wpList _ _ _ (Oper.mk (some 9) _ _ _ _ _ :: _) _ _); refine kBuildAny _ _ #[] _ rfl rfl (by simp) built_hash0 ?_; go_frame)
    | (go_at_call 7; refine (run0 (z := 71) _ (isVals_nil _) hL8 ex_code (by rfl)).mono ?_; rintro e0 p3 ⟨rfl, hBB⟩; have hB3 := hB2.trans (hBB.mono hsz2); have hsz3 := hB3.size; have hLong_3 := hLong_2.below hBB; have hL8_3 := hL8.below hBB; clear hB2 hsz2 hLong_2 hL8 hBB; go_frame)
    | ((with_reducible change wpList _ _ _ (Oper.mk (some 11) _ _ _ _ _ :: _) _ _); refine kBuildSlice1 _ _ _ (VB 118) rfl rfl Tryd.underlying22 i _ hi hz hs1 rfl rfl ?_; intro p4 hRr hzz hBB; clear hzz; have hL11 : IsVals p4 _ (([118] : List UInt8).map VB) := isVals_lit (l := [VB 118]) hRr; clear hRr; have hB4 := hB3.trans (hBB.mono hsz3); have hsz4 := hB4.size; have hLong_4 := hLong_3.below hBB; have hL8_4 := hL8_3.below hBB; clear hB3 hsz3 hLong_3 hL8_3 hBB; go_frame)
    | ((with_reducible change wpList _ _ _ (Oper.mk (some 12) _ _ _ _ _ :: _) _ _); refine kBuildAny _ _ #[] _ rfl rfl (by simp) built_hash0 ?_; go_frame)
    | (go_at_call 7; refine (run0 (z := 72) _ (isVals_nil _) hL11 ex_stack (by rfl)).mono ?_; rintro e0 p5 ⟨rfl, hBB⟩; have hB5 := hB4.trans (hBB.mono hsz4); have hsz5 := hB5.size; have hLong_5 := hLong_4.below hBB; have hL8_5 := hL8_4.below hBB; have hL11_5 := hL11.below hBB; clear hB4 hsz4 hLong_4 hL8_4 hL11 hBB; go_frame)
    | ((with_reducible change wpList _ _ _ (Oper.mk (some 15) _ _ _ _ _ :: _) _ _); refine kBuildAny _ _ #[] _ rfl rfl (by simp) built_hash0 ?_; go_frame)
    | (go_at_call 7; refine (run0 (z := 73) _ hLong_5 (isVals_nil _) ex_long (by rfl)).mono ?_; rintro e0 p6 ⟨rfl, hBB⟩; have hB6 := hB5.trans (hBB.mono hsz5); have hsz6 := hB6.size; have hLong_6 := hLong_5.below hBB; have hL8_6 := hL8_5.below hBB; have hL11_6 := hL11_5.below hBB; clear hB5 hsz5 hLong_5 hL8_5 hL11_5 hBB; go_frame)
    | ((with_reducible change wpList _ _ _ (Oper.mk (some 17) _ _ _ _ _ :: _) _ _); refine kBuildSlice2 _ _ _ _ (VB 81) (VB 106) rfl rfl Tryd.underlying22 i _ hi hz hs1 rfl rfl rfl rfl ?_; intro p7 hRr hzz hBB; clear hzz; have hL17 : IsVals p7 _ (([81, 106] : List UInt8).map VB) := isVals_lit (l := [VB 81, VB 106]) hRr; clear hRr; have hB7 := hB6.trans (hBB.mono hsz6); have hsz7 := hB7.size; have hLong_7 := hLong_6.below hBB; have hL8_7 := hL8_6.below hBB; have hL11_7 := hL11_6.below hBB; clear hB6 hsz6 hLong_6 hL8_6 hL11_6 hBB; go_frame)
    | ((with_reducible change wpList _ _ _ (Oper.mk (some 18) _ _ _ _ _ :: _) _ _); refine kBuildAny _ _ #[] _ rfl rfl (by simp) built_hash0 ?_; go_frame)
    | (go_at_call 7; refine (run0 (z := 74) _ (isVals_nil _) hL17 ex_false (by rfl)).mono ?_; rintro e0 p8 ⟨rfl, hBB⟩; have hB8 := hB7.trans (hBB.mono hsz7); have hsz8 := hB8.size; have hLong_8 := hLong_7.below hBB; have hL8_8 := hL8_7.below hBB; have hL11_8 := hL11_7.below hBB; have hL17_8 := hL17.below hBB; clear hB7 hsz7 hLong_7 hL8_7 hL11_7 hL17 hBB; go_frame)
    | ((with_reducible change wpList _ _ _ (Oper.mk (some 20) _ _ _ _ _ :: _) _ _); refine kBuildSlice1 _ _ _ (VB 97) rfl rfl Tryd.underlying22 i _ hi hz hs1 rfl rfl ?_; intro p9 hRr hzz hBB; clear hzz; have hL20 : IsVals p9 _ (([97] : List UInt8).map VB) := isVals_lit (l := [VB 97]) hRr; clear hRr; have hB9 := hB8.trans (hBB.mono hsz8); have hsz9 := hB9.size; have hLong_9 := hLong_8.below hBB; have hL8_9 := hL8_8.below hBB; have hL11_9 := hL11_8.below hBB; have hL17_9 := hL17_8.below hBB; clear hB8 hsz8 hLong_8 hL8_8 hL11_8 hL17_8 hBB; go_frame)
    | ((with_reducible change wpList _ _ _ (Oper.mk (some 21) _ _ _ _ _ :: _) _ _); refine kBuildSlice1 _ _ _ (VB 81) rfl rfl Tryd.underlying22 i _ hi hz hs1 rfl rfl ?_; intro p10 hRr hzz hBB; clear hzz; have hL21 : IsVals p10 _ (([81] : List UInt8).map VB) := isVals_lit (l := [VB 81]) hRr; clear hRr; have hB10 := hB9.trans (hBB.mono hsz9); have hsz10 := hB10.size; have hLong_10 := hLong_9.below hBB; have hL8_10 := hL8_9.below hBB; have hL11_10 := hL11_9.below hBB; have hL17_10 := hL17_9.below hBB; have hL20_10 := hL20.below hBB; clear hB9 hsz9 hLong_9 hL8_9 hL11_9 hL17_9 hL20 hBB; go_frame)
    | ((with_reducible change wpList _ _ _ (Oper.mk (some 22) _ _ _ _ _ :: _) _ _); refine kBuildAny _ _ #[] _ rfl rfl (by simp) built_hash0 ?_; go_frame)
    | (go_at_call 7; refine (run0 (z := 71) _ hL20_10 hL21 ex_unlock (by rfl)).mono ?_; rintro e0 p11 ⟨rfl, hBB⟩; have hB11 := hB10.trans (hBB.mono hsz10); have hsz11 := hB11.size; have hLong_11 := hLong_10.below hBB; have hL8_11 := hL8_10.below hBB; have hL11_11 := hL11_10.below hBB; have hL17_11 := hL17_10.below hBB; have hL20_11 := hL20_10.below hBB; have hL21_11 := hL21.below hBB; clear hB10 hsz10 hLong_10 hL8_10 hL11_10 hL17_10 hL20_10 hL21 hBB; go_frame)
    | (go_at_call 8; refine (scriptAlive_any _).mono ?_; rintro e0 p12 ⟨rfl, hBB⟩; have hB12 := hB11.trans (hBB.mono hsz11); have hsz12 := hB12.size; have hLong_12 := hLong_11.below hBB; have hL8_12 := hL8_11.below hBB; have hL11_12 := hL11_11.below hBB; have hL17_12 := hL17_11.below hBB; have hL20_12 := hL20_11.below hBB; have hL21_12 := hL21_11.below hBB; clear hB11 hsz11 hLong_11 hL8_11 hL11_11 hL17_11 hL20_11 hL21_11 hBB; go_frame))
  go_ret
  exact ⟨rfl, hB12⟩
end Go.Proofs.YtdhhifgafookkaaDoor
