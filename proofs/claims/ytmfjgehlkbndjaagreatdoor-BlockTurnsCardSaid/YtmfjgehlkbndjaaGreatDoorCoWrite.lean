/-
  Layer 9: the walks of what writes: references, outputs and coins as bytes, the program's and the reference's.
-/
import Derived.Test.YtmfjgehlkbndjaaGreatDoorCoSame
import Derived.Test.YtmfjgehlkbndjaaGreatDoorPcAll
namespace Go.Proofs.YtmfjgehlkbndjaaGreatDoor
open Go Go.RowKit

theorem clamp4 : clampS 4 = 4 := by decide
theorem clamp8 : clampS 8 = 8 := by decide
theorem ref_vals {w : World} {g : Nat} {l : List UInt8} {n : Nat} (hr : Row w g 60 (refC l n)) (hl : l.length = 32) : IsVals w (.slice (some ⟨g, 0, none⟩) 32 32) (l.map VB) := by
  have h := isVals_row hr 0 32 32 (by rw [refC_size]; decide) (Nat.le_refl _)
  rw [refC_id] at h
  simp only [tab] at h
  rw [list_at32 hl] at h
  exact h
theorem outL_le {n : Int} {l : List UInt8} {m : Nat} (h : l.length ≤ m) : (outL n l).length ≤ m + 17 := by
  have := textL_le h
  unfold outL; rw [List.length_append, fixedL_len]; omega
theorem bysInfoC : ∃ i, Tryz.prog.info? 38 = some i ∧ i.zero = some (.slice none 0 0) ∧ i.size = 1 := by
  have h1 : (Tryz.prog.info? 38).map (·.size) = some 1 := info_bytesP
  have h2 : ((Tryz.prog.info? 38).bind (·.zero)) = some (.slice none 0 0) := by kernel_rfl
  cases hq : Tryz.prog.info? 38 with
  | none => simp [hq] at h1
  | some i =>
    rw [hq] at h1 h2
    exact ⟨i, rfl, h2, by simpa using h1⟩
theorem vals_oneC {w : World} {v : Value} {l : List Value} (h : IsVals w v l) : v.oneCell' = true := by obtain ⟨ao, c, rfl, _⟩ := h; rfl
theorem textsL_one (l : List UInt8) : textsL [l] = textL l := by simp [textsL]
set_option maxRecDepth 100000 in
set_option maxHeartbeats 8000000 in
theorem coRefBytes_any {l : List UInt8} {n : Nat} (hl : l.length = 32) (hn : n < 4294967296) (W0 : World) : Calls Tryz.prog 109 #[.agg (refC l n)] W0 (POwnPost W0 (refL l n)) := by
  have hl0 : l ≠ [] := by intro h; rw [h] at hl; cases hl
  obtain ⟨i, hi, hz, hs1, hby⟩ := b8Info
  go_enter Tryz.func109, Tryz.ntmps109
  go_wp2_with (first
    | ((with_reducible change wpList _ _ _ (Oper.mk (some 1) _ _ _ _ _ :: _) _ _); refine kBoxL _ _ _ rfl rfl rfl ?_; intro w1 hR hz1 hB; clear hz1; go_frame))
  refine region_symT 5 _ [] [] [.val (.pointer (some ⟨W0.heap.size, 0, none⟩)), .val (.slice (some ⟨W0.heap.size, 0, none⟩) 32 32), .val (.pointer (some ⟨W0.heap.size, 32, none⟩)), .val (.int .u32 (n : Int)), .val (.int .u64 (n : Int))] rfl (by kernel_rfl) (by kernel_rfl) (by kernel_rfl) (by kernel_rfl) rfl (by intro s hs; cases hs) (steps_all ⟨?_, ?_, ?_, ?_, ?_, trivial⟩) ?_
  · exact fun A W sz ot hbel ap dp => kFld refCF0 _ _ 0 0 rfl rfl rfl (tO ot 1) (tV ap sz (Below.refl _ _) rfl)
  · exact fun A W sz ot hbel ap dp => kSliceArr _ _ _ 32 _ 0 rfl rfl (tD dp 0 .data) Tryz.underlying24 info_b8P (tV ap sz (Below.refl _ _) rfl)
  · exact fun A W sz ot hbel ap dp => kFld refCF1 _ _ 0 32 rfl rfl rfl (tO ot 1) (tV ap sz (Below.refl _ _) rfl)
  · exact fun A W sz ot hbel ap dp => kLd Tryz.underlying22 rfl _ _ 32 _ (.int .u32 (n : Int)) (hR.below hbel hR.lt) (refC_at l n) rfl rfl (tD dp 2 .data) (tV ap sz (Below.refl _ _) rfl)
  · exact fun A W sz ot hbel ap dp => kConvWU _ n hn rfl rfl (tD dp 3 .data) (tV ap sz (Below.refl _ _) rfl)
  intro w2 hB2
  dsimp only [AllV]
  rintro hap
  dsimp only [putAll, List.take, List.drop]
  go_frame
  clear hap
  have hBB := hB.trans (hB2.mono hB.size)
  have hv2 := ref_vals (hR.below hB2 hR.lt) hl
  have hsz := hBB.size
  go_wp2_with (first
    | (go_at_call 66; refine (pcFixed_any n 4 _ hv2 (by omega)).mono ?_; rintro e w5 ⟨v5, rfl, hO5, hB5⟩; have hO6 := own_less hsz hO5; have hB6 := hBB.trans (hB5.mono hsz); clear hO5 hB5 hv2; go_frame))
  go_ret
  rw [clamp4] at hO6
  exact ⟨_, rfl, hO6, hB6⟩
set_option maxRecDepth 100000 in
set_option maxHeartbeats 8000000 in
theorem zRefBytes_any {l : List UInt8} {n : Nat} (hl : l.length = 32) (hn : n < 4294967296) (W0 : World) : Calls Tryz.prog 77 #[.agg (refC l n)] W0 (POwnPost W0 (refL l n)) := by
  have hl0 : l ≠ [] := by intro h; rw [h] at hl; cases hl
  obtain ⟨i, hi, hz, hs1, hby⟩ := b8Info
  go_enter Tryz.func77, Tryz.ntmps77
  go_wp2_with (first
    | ((with_reducible change wpList _ _ _ (Oper.mk (some 1) _ _ _ _ _ :: _) _ _); refine kBoxL _ _ _ rfl rfl rfl ?_; intro w1 hR hz1 hB; clear hz1; go_frame))
  refine region_symT 8 _ [] [] [.prop (fun w v => IsVals w v (([] : List UInt8).map VB) ∧ fullV v = v) (fun _ _ _ hb h => ⟨h.1.below hb, h.2⟩), .val (.pointer (some ⟨W0.heap.size, 0, none⟩)), .val (.slice (some ⟨W0.heap.size, 0, none⟩) 32 32), .prop (fun w v => OwnB w w1.heap.size v l) (fun _ _ _ hb h => h.below hb), .val (.pointer (some ⟨W0.heap.size, 32, none⟩)), .val (.int .u32 (n : Int)), .val (.int .u64 (n : Int)), .prop (fun w v => OwnB w w1.heap.size v (fixedL n (clampS 4))) (fun _ _ _ hb h => h.below hb)] rfl (by kernel_rfl) (by kernel_rfl) (by kernel_rfl) (by kernel_rfl) rfl (by intro s hs; cases hs) (steps_all ⟨?_, ?_, ?_, ?_, ?_, ?_, ?_, ?_, trivial⟩) ?_
  · exact fun A W sz ot hbel ap dp => kBuildSlice0 _ _ rfl rfl Tryz.underlying38 i hi (fun W1 hRr _ hB' => tV ap sz hB' ⟨isVals_own (own_empty (Nat.le_refl _) hRr), rfl⟩)
  · exact fun A W sz ot hbel ap dp => kFld refCF0 _ _ 0 0 rfl rfl rfl (tO ot 1) (tV ap sz (Below.refl _ _) rfl)
  · exact fun A W sz ot hbel ap dp => kSliceArr _ _ _ 32 _ 0 rfl rfl (tD dp 1 .data) Tryz.underlying24 info_b8P (tV ap sz (Below.refl _ _) rfl)
  · intro A W sz ot hbel ap dp
    have hd := tD dp 0 .data
    exact kAppNew _ _ rfl rfl _ _ [] l hd.1 (ref_vals (hR.below hbel hR.lt) hl) hd.2.symm (tD dp 2 .data) hl0 (by simp; omega) (fun v' W1 hO hB' => tV ap sz hB' (own_less hbel.size hO))
  · exact fun A W sz ot hbel ap dp => kFld refCF1 _ _ 0 32 rfl rfl rfl (tO ot 1) (tV ap sz (Below.refl _ _) rfl)
  · exact fun A W sz ot hbel ap dp => kLd Tryz.underlying22 rfl _ _ 32 _ (.int .u32 (n : Int)) (hR.below hbel hR.lt) (refC_at l n) rfl rfl (tD dp 4 .data) (tV ap sz (Below.refl _ _) rfl)
  · exact fun A W sz ot hbel ap dp => kConvWU _ n hn rfl rfl (tD dp 5 .data) (tV ap sz (Below.refl _ _) rfl)
  · exact fun A W sz ot hbel ap dp => kCall2 38 _ _ _ _ _ rfl rfl (by kernel_rfl) (tD dp 6 .data) rfl ((jFixed_any n (by omega) 4 _).mono (fun e W1 ⟨v, he, hO, hB'⟩ => ⟨v, he, tV ap sz hB' (own_less hbel.size hO)⟩))
  intro w2 hB2
  dsimp only [AllV]
  rintro u0 hu0 u3 hu3 u7 hu7 hap
  dsimp only [putAll, List.take, List.drop]
  go_frame
  clear hap
  have hBB := hB.trans (hB2.mono hB.size)
  rw [clamp4] at hu7
  have hO2 := own_less hB.size hu3
  have hsz := hBB.size
  go_wp2_with (first
    | ((with_reducible change wpList _ _ _ (Oper.mk (some 11) _ _ _ _ _ :: _) _ _); refine kAppB _ _ rfl rfl W0.heap.size _ _ l (fixedL n 4) hO2 hu7.vals rfl rfl (by rw [fixedL_len]; omega) hsz ?_; intro v8 w8 hO8 hB8; have hB9 := hBB.trans hB8; clear hB8; go_frame))
  go_ret
  exact ⟨_, rfl, hO8, hB9⟩
set_option maxRecDepth 100000 in
set_option maxHeartbeats 8000000 in
theorem coOutBytes_any {n : Int} {l : List UInt8} {v : Value} (W0 : World) (hv : IsVals W0 v (l.map VB)) (hl : l.length ≤ 3000) : Calls Tryz.prog 74 #[.agg (outC n v)] W0 (POwnPost W0 (outL n l)) := by
  have hun := u64_lt n
  obtain ⟨iy, hiy, hzy, hsy⟩ := bysInfoC
  go_enter Tryz.func74, Tryz.ntmps74
  go_wp2_with (first
    | ((with_reducible change wpList _ _ _ (Oper.mk (some 1) _ _ _ _ _ :: _) _ _); refine kBoxL _ _ _ rfl rfl rfl ?_; intro w1 hR hz1 hB; clear hz1; have hv1 := hv.below hB; go_frame))
  refine region_symT 7 _ [] [] [.val (.pointer (some ⟨W0.heap.size, 0, none⟩)), .val (.int .i64 n), .val (.int .u64 (u64N n : Int)), .prop (fun w v => OwnB w w1.heap.size v ([] ++ fixedL (u64N n) (clampS 8))) (fun _ _ _ hb h => h.below hb), .val (.pointer (some ⟨W0.heap.size, 1, none⟩)), .val (v), .prop (fun w v => AreLists w v [l]) (fun _ _ _ hb h => h.below hb)] rfl (by kernel_rfl) (by kernel_rfl) (by kernel_rfl) (by kernel_rfl) rfl (by intro s hs; cases hs) (steps_all ⟨?_, ?_, ?_, ?_, ?_, ?_, ?_, trivial⟩) ?_
  · exact fun A W sz ot hbel ap dp => kFld outCF0 _ _ 0 0 rfl rfl rfl (tO ot 1) (tV ap sz (Below.refl _ _) rfl)
  · exact fun A W sz ot hbel ap dp => kLd Tryz.underlying2 rfl _ _ 0 _ (.int .i64 n) (hR.below hbel hR.lt) rfl rfl rfl (tD dp 0 .data) (tV ap sz (Below.refl _ _) rfl)
  · exact fun A W sz ot hbel ap dp => kConvZU _ n rfl rfl (tD dp 1 .data) (tV ap sz (Below.refl _ _) rfl)
  · exact fun A W sz ot hbel ap dp => kCall3 66 _ _ _ _ _ _ _ rfl rfl (by kernel_rfl) rfl (tD dp 2 .data) rfl ((pcFixed_any (u64N n) 8 _ (isVals_nil _) (by simp)).mono (fun e W1 ⟨v, he, hO, hB'⟩ => ⟨v, he, tV ap sz hB' (own_less hbel.size hO)⟩))
  · exact fun A W sz ot hbel ap dp => kFld outCF1 _ _ 0 1 rfl rfl rfl (tO ot 1) (tV ap sz (Below.refl _ _) rfl)
  · exact fun A W sz ot hbel ap dp => kLd Tryz.underlying38 rfl _ _ 1 _ (v) (hR.below hbel hR.lt) rfl rfl rfl (tD dp 4 .data) (tV ap sz (Below.refl _ _) rfl)
  · exact fun A W sz ot hbel ap dp => kBuildSlice1 _ _ _ v rfl rfl Tryz.underlying109 iy _ hiy hzy hsy (tD dp 5 .data) (vals_oneC hv1) (fun W1 hR1 _ hB' => tV ap sz hB' (areLists_one hR1 ((hv1.below hbel).below hB')))
  intro w2 hB2
  dsimp only [AllV]
  rintro u3 hu3 u6 hu6 hap
  dsimp only [putAll, List.take, List.drop]
  go_frame
  clear hap
  have hBB := hB.trans (hB2.mono hB.size)
  rw [clamp8, List.nil_append] at hu3
  have hsz := hBB.size
  go_wp2_with (first
    | (go_at_call 108; refine (pcText_any _ hu3.vals hu6 (by rw [fixedL_len]; omega) (by simp) (by intro L hL; simp at hL; subst hL; omega)).mono ?_; rintro e w5 ⟨v5, rfl, hO5, hB5⟩; have hO6 := own_less hsz hO5; have hB6 := hBB.trans (hB5.mono hsz); clear hO5 hB5; go_frame))
  go_ret
  rw [textsL_one] at hO6
  exact ⟨_, rfl, hO6, hB6⟩
set_option maxRecDepth 100000 in
set_option maxHeartbeats 8000000 in
theorem zOutBytes_any {n : Int} {l : List UInt8} {v : Value} (W0 : World) (hv : IsVals W0 v (l.map VB)) (hl : l.length ≤ 3000) : Calls Tryz.prog 79 #[.agg (outC n v)] W0 (POwnPost W0 (outL n l)) := by
  have hun := u64_lt n
  obtain ⟨iy, hiy, hzy, hsy⟩ := bysInfoC
  go_enter Tryz.func79, Tryz.ntmps79
  go_wp2_with (first
    | ((with_reducible change wpList _ _ _ (Oper.mk (some 1) _ _ _ _ _ :: _) _ _); refine kBoxL _ _ _ rfl rfl rfl ?_; intro w1 hR hz1 hB; clear hz1; have hv1 := hv.below hB; go_frame))
  refine region_symT 7 _ [] [] [.val (.pointer (some ⟨W0.heap.size, 0, none⟩)), .val (.int .i64 n), .val (.int .u64 (u64N n : Int)), .prop (fun w v => OwnB w w1.heap.size v (fixedL (u64N n) (clampS 8))) (fun _ _ _ hb h => h.below hb), .val (.pointer (some ⟨W0.heap.size, 1, none⟩)), .val (v), .prop (fun w v => OwnB w w1.heap.size v (textL l)) (fun _ _ _ hb h => h.below hb)] rfl (by kernel_rfl) (by kernel_rfl) (by kernel_rfl) (by kernel_rfl) rfl (by intro s hs; cases hs) (steps_all ⟨?_, ?_, ?_, ?_, ?_, ?_, ?_, trivial⟩) ?_
  · exact fun A W sz ot hbel ap dp => kFld outCF0 _ _ 0 0 rfl rfl rfl (tO ot 1) (tV ap sz (Below.refl _ _) rfl)
  · exact fun A W sz ot hbel ap dp => kLd Tryz.underlying2 rfl _ _ 0 _ (.int .i64 n) (hR.below hbel hR.lt) rfl rfl rfl (tD dp 0 .data) (tV ap sz (Below.refl _ _) rfl)
  · exact fun A W sz ot hbel ap dp => kConvZU _ n rfl rfl (tD dp 1 .data) (tV ap sz (Below.refl _ _) rfl)
  · exact fun A W sz ot hbel ap dp => kCall2 38 _ _ _ _ _ rfl rfl (by kernel_rfl) (tD dp 2 .data) rfl ((jFixed_any (u64N n) hun 8 _).mono (fun e W1 ⟨v, he, hO, hB'⟩ => ⟨v, he, tV ap sz hB' (own_less hbel.size hO)⟩))
  · exact fun A W sz ot hbel ap dp => kFld outCF1 _ _ 0 1 rfl rfl rfl (tO ot 1) (tV ap sz (Below.refl _ _) rfl)
  · exact fun A W sz ot hbel ap dp => kLd Tryz.underlying38 rfl _ _ 1 _ (v) (hR.below hbel hR.lt) rfl rfl rfl (tD dp 4 .data) (tV ap sz (Below.refl _ _) rfl)
  · exact fun A W sz ot hbel ap dp => kCall1 78 _ _ _ rfl rfl (by kernel_rfl) (tD dp 5 .data) ((jText_any _ (hv1.below hbel) (by omega)).mono (fun e W1 ⟨v, he, hO, hB'⟩ => ⟨v, he, tV ap sz hB' (own_less hbel.size hO)⟩))
  intro w2 hB2
  dsimp only [AllV]
  rintro u3 hu3 u6 hu6 hap
  dsimp only [putAll, List.take, List.drop]
  go_frame
  clear hap
  have hBB := hB.trans (hB2.mono hB.size)
  rw [clamp8] at hu3
  have hO2 := own_less hB.size hu3
  have hsz := hBB.size
  have htl := textL_le hl
  go_wp2_with (first
    | ((with_reducible change wpList _ _ _ (Oper.mk (some 10) _ _ _ _ _ :: _) _ _); refine kAppB _ _ rfl rfl W0.heap.size _ _ (fixedL (u64N n) 8) (textL l) hO2 hu6.vals rfl rfl (by rw [fixedL_len]; omega) hsz ?_; intro v8 w8 hO8 hB8; have hB9 := hBB.trans hB8; clear hB8; go_frame))
  go_ret
  exact ⟨_, rfl, hO8, hB9⟩
end Go.Proofs.YtmfjgehlkbndjaaGreatDoor
