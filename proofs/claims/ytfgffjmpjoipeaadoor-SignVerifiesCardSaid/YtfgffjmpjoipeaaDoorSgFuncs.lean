/-
  Package sign: contracts of isSecret, isHigh, foldX, by and Public.
-/
import Derived.Test.YtfgffjmpjoipeaaDoorSgCells
namespace Go.Proofs.YtfgffjmpjoipeaaDoor
open Go Go.RowKit

open Cv
theorem ptc_x {p : Pt PP} {n : Nat} (h : pX p = n) : (ptc p).extract 0 (0 + 4) = wcells n := h ▸ ptc_at0 p
theorem wLess_as {a b : Nat} {c : Bool} (ma : a < M256) (mb : b < M256) (h : decide (a < b) = c) (w : World) : Calls Tryd.prog 24 #[WV a, WV b] w fun e w' => e = .returned (.bool c) ∧ Below w.heap.size w w' := h ▸ wLess_any a b ma mb w
set_option maxRecDepth 100000 in
set_option maxHeartbeats 8000000 in
theorem isSecret_as {a : Nat} {b : Bool} (ma : a < M256) (h : isSec a = b) (w : World) (hN : Glob 1 NN w) : Calls Tryd.prog 26 #[WV a] w fun e w' => e = .returned (.bool b) ∧ Below w.heap.size w w' := by
  obtain ⟨m, Hm⟩ : ∃ m, Hid (m = NN) := ⟨_, Lib.hid rfl⟩
  have hm : Modu m := by rw [Hm.out]; exact modu_N
  rw [← Hm.out] at hN
  by_cases h0 : a = 0
  · have F0 := Lib.hid (show b = false by rw [← h, h0]; rfl)
    replace h0 := Lib.hid h0
    clear h
    have hM0 := mm_nil w
    (try unfold WV)
    go_enter Tryd.func26, Tryd.ntmps26
    go_wp2_with (first
      | ((with_reducible change wpList _ _ _ (Oper.mk (some 1) _ _ _ _ _ :: _) _ _); refine mmBox hM0 _ _ (wcells a) rfl rfl rfl ?_; intro w1 hM1; clear hM0; go_frame))
    refine region_symT 9 _ [] [] [.val (.agg (wcells a)), .val (.agg (wcells 0)), .val (.bool false), .val (.bool false), .val (undef), .val (undef), .val (undef), .val (.bool false), .val (.bool false)] rfl (by kernel_rfl) (by kernel_rfl) (by kernel_rfl) (by kernel_rfl) rfl (by intro s hs; cases hs) (steps_all ⟨?_, ?_, ?_, ?_, ?_, ?_, ?_, ?_, ?_, trivial⟩) ?_
    · exact fun A W sz ot hbel ap dp => kLoadRow _ _ _ _ _ _ rfl rfl (sO ot 1) ((hM1.get 0 rfl).on hbel) Tryd.underlying24 rfl (info_WideC _) (sE ap sz rfl)
    · exact fun A W sz ot hbel ap dp => kBuildW0 rfl rfl (sE ap sz rfl)
    · exact fun A W sz ot hbel ap dp => kNeqW _ _ _ (a) (0) false rfl rfl (sD dp 0 .data) (sD dp 1 .data) (neqW_no h0.out) (sE ap sz rfl)
    · exact fun A W sz ot hbel ap dp => kMoveV _ _ rfl rfl (sD dp 2 .data) (sE ap sz rfl)
    · exact fun A W sz ot hbel ap dp => wpList_skip (unwanted_of rfl rfl (sD dp 3 .chain) (.inl rfl)) (sE ap sz rfl)
    · exact fun A W sz ot hbel ap dp => wpList_skip (unwanted_of rfl rfl (sD dp 3 .guard) (.inl rfl)) (sE ap sz rfl)
    · exact fun A W sz ot hbel ap dp => wpList_skip (unwanted_of rfl rfl (sD dp 3 .guard) (.inl rfl)) (sE ap sz rfl)
    · exact fun A W sz ot hbel ap dp => kPick _ _ _ false (.bool false) rfl rfl (sD dp 3 .data) rfl (sE ap sz rfl)
    · exact fun A W sz ot hbel ap dp => kAssignV _ _ rfl rfl (sD dp 7 .data) (sE ap sz rfl)
    intro w2 hB2
    dsimp only [AllV]
    intro hap
    dsimp only [putAll, List.take, List.drop]
    go_frame
    have hM2 := hM1.on hB2
    clear hB2 hM1 hap
    go_wp2_with fail
    go_ret
    exact ⟨by rw [F0.out]; rfl, hM2.below⟩
  · have Fb := Lib.hid (show decide (a < m) = b by rw [← h, Hm.out]; unfold isSec; simp [h0])
    replace h0 := Lib.hid h0
    clear h
    have hM0 := mm_nil w
    (try unfold WV)
    go_enter Tryd.func26, Tryd.ntmps26
    go_wp2_with (first
      | ((with_reducible change wpList _ _ _ (Oper.mk (some 1) _ _ _ _ _ :: _) _ _); refine mmBox hM0 _ _ (wcells a) rfl rfl rfl ?_; intro w1 hM1; clear hM0; go_frame))
    refine region_symT 9 _ [] [] [.val (.agg (wcells a)), .val (.agg (wcells 0)), .val (.bool true), .val (.bool true), .hold w1.heap.size 89 (wcells m), .val (.agg (wcells a)), .val (.bool b), .val (.bool b), .val (.bool b)] rfl (by kernel_rfl) (by kernel_rfl) (by kernel_rfl) (by kernel_rfl) rfl (by intro s hs; cases hs) (steps_all ⟨?_, ?_, ?_, ?_, ?_, ?_, ?_, ?_, ?_, trivial⟩) ?_
    · exact fun A W sz ot hbel ap dp => kLoadRow _ _ _ _ _ _ rfl rfl (sO ot 1) ((hM1.get 0 rfl).on hbel) Tryd.underlying24 rfl (info_WideC _) (sE ap sz rfl)
    · exact fun A W sz ot hbel ap dp => kBuildW0 rfl rfl (sE ap sz rfl)
    · exact fun A W sz ot hbel ap dp => kNeqW _ _ _ (a) (0) true rfl rfl (sD dp 0 .data) (sD dp 1 .data) (neqW_yes ma M256_pos h0.out) (sE ap sz rfl)
    · exact fun A W sz ot hbel ap dp => kMoveV _ _ rfl rfl (sD dp 2 .data) (sE ap sz rfl)
    · intro A W sz ot hbel ap dp
      refine kCall0 29 _ rfl (wanted_of rfl rfl (sD dp 3 .chain)) (by kernel_rfl)  ?_
      refine (fN_any m W ((hN.below hM1.below).below hbel)).mono ?_
      rintro e r ⟨rfl, hRn, hBc⟩
      exact ⟨_, rfl, (sV ap sz hBc ⟨_, rfl, hbel.size, hRn⟩)⟩
    · exact fun A W sz ot hbel ap dp => kLoadRow _ _ _ _ _ _ rfl (wanted_of rfl rfl (sD dp 3 .guard)) (sO ot 1) ((hM1.get 0 rfl).on hbel) Tryd.underlying24 rfl (info_WideC _) (sE ap sz rfl)
    · intro A W sz ot hbel ap dp
      obtain ⟨g, dg, hg, hRg⟩ : ∃ g, A.tmps.getD 7 undef = .pointer (some ⟨g, 0, none⟩) ∧ w1.heap.size ≤ g ∧ Row W g 89 (wcells m) := (sD dp 4 .data)
      exact sCall2 56 rfl dg (sD dp 5 .data) (sC (fIn_as hm (g) ma Fb.out W hRg) ap sz (fun _ => rfl)) (wanted_of rfl rfl (sD dp 3 .guard))
    · exact fun A W sz ot hbel ap dp => kPick _ _ _ true (.bool b) rfl rfl (sD dp 3 .data) (sD dp 6 .data) (sE ap sz rfl)
    · exact fun A W sz ot hbel ap dp => kAssignV _ _ rfl rfl (sD dp 7 .data) (sE ap sz rfl)
    intro w2 hB2
    dsimp only [AllV]
    intro g2_7 hg2_7 hR2_7
    intro hap
    dsimp only [putAll, List.take, List.drop]
    go_frame
    have hM2 := hM1.on hB2
    clear hB2 hM1 hap
    go_wp2_with fail
    go_ret
    exact ⟨rfl, hM2.below⟩
set_option maxRecDepth 100000 in
set_option maxHeartbeats 8000000 in
theorem isHigh_as {s : Nat} {b : Bool} (ms : s < M256) (h : isHi s = b) (w : World) (hN : Glob 1 NN w) : Calls Tryd.prog 35 #[WV s] w fun e w' => e = .returned (.bool b) ∧ Below w.heap.size w w' := by
  obtain ⟨m, Hm⟩ : ∃ m, Hid (m = NN) := ⟨_, Lib.hid rfl⟩
  have hm : Modu m := by rw [Hm.out]; exact modu_N
  rw [← Hm.out] at hN
  obtain ⟨y, Hy⟩ : ∃ y, Hid (m / 2 ^ 1 = y) := ⟨_, Lib.hid rfl⟩
  have my : y < M256 := by rw [← Hy.out, Hm.out]; decide
  have Fb := Lib.hid (show decide (y < s) = b by rw [← h, ← Hy.out, Hm.out]; rfl)
  clear h
  have hM0 := mm_nil w
  (try unfold WV)
  go_enter Tryd.func35, Tryd.ntmps35
  go_wp2_with (first
    | ((with_reducible change wpList _ _ _ (Oper.mk (some 1) _ _ _ _ _ :: _) _ _); refine mmBox hM0 _ _ (wcells s) rfl rfl rfl ?_; intro w1 hM1; clear hM0; go_frame)
    | (go_at_call 29; refine (fN_any m _ (hN.below hM1.below)).mono ?_; rintro e w2 ⟨rfl, hR2, hB2⟩; have hM2 := hM1.new hR2 hB2; clear hB2 hR2 hM1; go_frame)
    | (go_at_call 63; (with_reducible change Calls _ _ #[Value.pointer (some ⟨w1.heap.size, 0, none⟩)] _ _); refine (fModulus_any hm (w1.heap.size) _ (hM2.get 0 rfl)).mono ?_; rintro e w3 ⟨rfl, hB3⟩; have hM3 := hM2.on hB3; clear hB3 hM2; (try unfold WV); go_frame)
    | (go_at_call 62; (with_reducible change Calls _ _ #[Value.agg (wcells m), Value.int .i64 (1)] _ _); refine (wRight_as m y 1 hm.lt Hy.out _).mono ?_; rintro e w4 ⟨rfl, hB4⟩; have hM4 := hM3.on hB4; clear hB4 hM3; (try unfold WV); go_frame)
    | ((with_reducible change wpList _ _ _ (Oper.mk (some 3) _ _ _ _ _ :: _) _ _); refine mmAlloc hM4 _ _ rfl rfl zero_Wide ?_; intro w5 hM5; clear hM4; go_frame)
    | ((with_reducible change wpList _ _ _ (Oper.mk none (Op.store _ (Operand.tmp 3) (Operand.tmp 6)) _ _ _ _ :: _) _ _); refine mmStoreAt hM5 0 _ _ _ _ _ _ (wcells y) rfl rfl rfl rfl rfl (info_WideC _) (by simp only [wcells_size]) (wcells_one _) ?_; intro w6 hM6; dsimp only [List.set] at hM6; clear hM5; go_frame)
    | ((with_reducible change wpList _ _ _ (Oper.mk (some 7) _ _ _ _ _ :: _) _ _); refine kLoadRow _ _ _ _ _ _ rfl rfl rfl (hM6.get 0 rfl) Tryd.underlying24 rfl (info_WideC _) ?_; go_frame)
    | ((with_reducible change wpList _ _ _ (Oper.mk (some 8) _ _ _ _ _ :: _) _ _); refine kLoadRow _ _ _ _ _ _ rfl rfl rfl (hM6.get 2 rfl) Tryd.underlying24 rfl (info_WideC _) ?_; go_frame)
    | (go_at_call 24; (with_reducible change Calls _ _ #[Value.agg (wcells y), Value.agg (wcells s)] _ _); refine (wLess_as my ms Fb.out _).mono ?_; rintro e w7 ⟨rfl, hB7⟩; have hM7 := hM6.on hB7; clear hB7 hM6; (try unfold WV); go_frame))
  go_ret
  exact ⟨rfl, hM7.below⟩
set_option maxRecDepth 100000 in
set_option maxHeartbeats 8000000 in
theorem foldX_as {p : Pt PP} {x : Nat} (h : pX p % NN = x) (w : World) (hN : Glob 1 NN w) : Calls Tryd.prog 30 #[.agg (ptc p)] w fun e w' => e = .returned (WV x) ∧ Below w.heap.size w w' := by
  obtain ⟨m, Hm⟩ : ∃ m, Hid (m = NN) := ⟨_, Lib.hid rfl⟩
  have hm : Modu m := by rw [Hm.out]; exact modu_N
  rw [← Hm.out] at hN
  obtain ⟨u, Hu⟩ : ∃ u, Hid (pX p = u) := ⟨_, Lib.hid rfl⟩
  have mu : u < M256 := by rw [← Hu.out]; exact pX_lt p
  obtain ⟨v7, Hv7, mv7⟩ := nameMod hm (u + 0 * M256)
  have R := Lib.hid (show x = v7 by rw [← Hv7.out, ← h, Hm.out, ← Hu.out, Nat.zero_mul, Nat.add_zero])
  clear h
  have hM0 := mm_nil w
  (try unfold WV)
  go_enter Tryd.func30, Tryd.ntmps30
  go_wp2_with (first
    | ((with_reducible change wpList _ _ _ (Oper.mk (some 1) _ _ _ _ _ :: _) _ _); refine mmBox hM0 _ _ (ptc p) rfl rfl rfl ?_; intro w1 hM1; clear hM0; go_frame)
    | ((with_reducible change wpList _ _ _ (Oper.mk (some 2) _ _ _ _ _ :: _) _ _); refine mmAlloc hM1 _ _ rfl rfl zero_Wide ?_; intro w2 hM2; clear hM1; go_frame))
  refine region_symT 5 _ [] [] [.hold w2.heap.size 89 (wcells m), .val (.pointer (some ⟨w.heap.size, 0, none⟩)), .val (.agg (wcells u)), .val (.agg (wcells 0)), .val (.agg (wcells v7))] rfl (by kernel_rfl) (by kernel_rfl) (by kernel_rfl) (by kernel_rfl) rfl (by intro s hs; cases hs) (steps_all ⟨?_, ?_, ?_, ?_, ?_, trivial⟩) ?_
  · intro A W sz ot hbel ap dp
    refine kCall0 29 _ rfl rfl (by kernel_rfl)  ?_
    refine (fN_any m W ((hN.below hM2.below).below hbel)).mono ?_
    rintro e r ⟨rfl, hRn, hBc⟩
    exact ⟨_, rfl, (sV ap sz hBc ⟨_, rfl, hbel.size, hRn⟩)⟩
  · exact fun A W sz ot hbel ap dp => kFieldPoint0 _ _ rfl rfl (sO ot 1) (sE ap sz rfl)
  · exact fun A W sz ot hbel ap dp => kLoadAs _ _ _ _ _ 4 _ _ _ rfl rfl (sD dp 1 .data) ((hM2.get 1 rfl).on hbel) Tryd.underlying24 rfl info_Wide (by rw [ptc_size]; decide) (ptc_x Hu.out) (sE ap sz rfl)
  · exact fun A W sz ot hbel ap dp => kBuildW0 rfl rfl (sE ap sz rfl)
  · intro A W sz ot hbel ap dp
    obtain ⟨g, dg, hg, hRg⟩ : ∃ g, A.tmps.getD 3 undef = .pointer (some ⟨g, 0, none⟩) ∧ w2.heap.size ≤ g ∧ Row W g 89 (wcells m) := (sD dp 0 .data)
    exact sCall3 57 rfl dg (sD dp 2 .data) (sD dp 3 .data) (sC (fFold_as hm (g) mu M256_pos Hv7.out W hRg) ap sz (fun _ => rfl))
  intro w3 hB3
  dsimp only [AllV]
  intro g3_3 hg3_3 hR3_3
  intro hap
  dsimp only [putAll, List.take, List.drop]
  go_frame
  have hM3 := hM2.on hB3
  clear hB3 hM2 hap
  go_wp2_with (first
    | ((with_reducible change wpList _ _ _ (Oper.mk none (Op.store _ (Operand.tmp 2) (Operand.tmp 7)) _ _ _ _ :: _) _ _); refine mmStoreAt hM3 0 _ _ _ _ _ _ (wcells v7) rfl rfl rfl rfl rfl (info_WideC _) (by simp only [wcells_size]) (wcells_one _) ?_; intro w4 hM4; dsimp only [List.set] at hM4; clear hM3; go_frame))
  exact result_row Tryd.results30 rfl (hM4.get 0 rfl) Tryd.underlying24 rfl (info_WideC _) rfl ⟨by rw [R.out], hM4.below⟩
set_option maxRecDepth 100000 in
set_option maxHeartbeats 8000000 in
theorem sBy_as {a b x : Nat} (ma : a < M256) (hb : isSec b = true) (h : a * invN b % NN = x) (w : World) (hN : Glob 1 NN w) : Calls Tryd.prog 31 #[WV a, WV b] w fun e w' => e = .returned (WV x) ∧ Below w.heap.size w w' := by
  have mb := isSec_lt hb
  obtain ⟨m, Hm⟩ : ∃ m, Hid (m = NN) := ⟨_, Lib.hid rfl⟩
  have hm : Modu m := by rw [Hm.out]; exact modu_N
  rw [← Hm.out] at hN
  have hne := Lib.hid (show b % m ≠ 0 by rw [Hm.out]; exact isSec_mod hb)
  obtain ⟨v12, Hv12, mv12⟩ := nameMod hm (b ^ (m - 2))
  obtain ⟨v18, Hv18, mv18⟩ := nameMod hm (a * v12)
  have R := Lib.hid (show x = v18 by rw [← Hv18.out, ← h, ← Hv12.out, Hm.out]; rfl)
  clear h hb
  have hM0 := mm_nil w
  (try unfold WV)
  go_enter Tryd.func31, Tryd.ntmps31
  go_wp2_with (first
    | ((with_reducible change wpList _ _ _ (Oper.mk (some 2) _ _ _ _ _ :: _) _ _); refine mmBox hM0 _ _ (wcells a) rfl rfl rfl ?_; intro w1 hM1; clear hM0; go_frame)
    | ((with_reducible change wpList _ _ _ (Oper.mk (some 3) _ _ _ _ _ :: _) _ _); refine mmBox hM1 _ _ (wcells b) rfl rfl rfl ?_; intro w2 hM2; clear hM1; go_frame)
    | ((with_reducible change wpList _ _ _ (Oper.mk (some 4) _ _ _ _ _ :: _) _ _); refine mmAlloc hM2 _ _ rfl rfl zero_Wide ?_; intro w3 hM3; clear hM2; go_frame)
    | (go_at_call 29; refine (fN_any m _ (hN.below hM3.below)).mono ?_; rintro e w4 ⟨rfl, hR4, hB4⟩; have hM4 := hM3.new hR4 hB4; clear hB4 hR4 hM3; go_frame)
    | ((with_reducible change wpList _ _ _ (Oper.mk (some 11) _ _ _ _ _ :: _) _ _); refine kLoadRow _ _ _ _ _ _ rfl rfl rfl (hM4.get 2 rfl) Tryd.underlying24 rfl (info_WideC _) ?_; go_frame)
    | (go_at_call 58; (with_reducible change Calls _ _ #[Value.pointer (some ⟨w3.heap.size, 0, none⟩), Value.agg (wcells b)] _ _); refine (fInv_as hm (w3.heap.size) mb hne.out Hv12.out _ (hM4.get 0 rfl)).mono ?_; rintro e w5 ⟨rfl, hB5⟩; have hM5 := hM4.on hB5; clear hB5 hM4; (try unfold WV); go_frame)
    | ((with_reducible change wpList _ _ _ (Oper.mk (some 6) _ _ _ _ _ :: _) _ _); refine mmAlloc hM5 _ _ rfl rfl zero_Wide ?_; intro w6 hM6; clear hM5; go_frame)
    | ((with_reducible change wpList _ _ _ (Oper.mk none (Op.store _ (Operand.tmp 6) (Operand.tmp 13)) _ _ _ _ :: _) _ _); refine mmStoreAt hM6 0 _ _ _ _ _ _ (wcells v12) rfl rfl rfl rfl rfl (info_WideC _) (by simp only [wcells_size]) (wcells_one _) ?_; intro w7 hM7; dsimp only [List.set] at hM7; clear hM6; go_frame)
    | ((with_reducible change wpList _ _ _ (Oper.mk (some 16) _ _ _ _ _ :: _) _ _); refine kLoadRow _ _ _ _ _ _ rfl rfl rfl (hM7.get 4 rfl) Tryd.underlying24 rfl (info_WideC _) ?_; go_frame)
    | ((with_reducible change wpList _ _ _ (Oper.mk (some 17) _ _ _ _ _ :: _) _ _); refine kLoadRow _ _ _ _ _ _ rfl rfl rfl (hM7.get 0 rfl) Tryd.underlying24 rfl (info_WideC _) ?_; go_frame)
    | (go_at_call 34; (with_reducible change Calls _ _ #[Value.pointer (some ⟨w3.heap.size, 0, none⟩), Value.agg (wcells a), Value.agg (wcells v12)] _ _); refine (fMul_as hm (w3.heap.size) ma mv12 Hv18.out _ (hM7.get 1 rfl)).mono ?_; rintro e w8 ⟨rfl, hB8⟩; have hM8 := hM7.on hB8; clear hB8 hM7; (try unfold WV); go_frame)
    | ((with_reducible change wpList _ _ _ (Oper.mk none (Op.store _ (Operand.tmp 4) (Operand.tmp 18)) _ _ _ _ :: _) _ _); refine mmStoreAt hM8 2 _ _ _ _ _ _ (wcells v18) rfl rfl rfl rfl rfl (info_WideC _) (by simp only [wcells_size]) (wcells_one _) ?_; intro w9 hM9; dsimp only [List.set] at hM9; clear hM8; go_frame))
  exact result_row Tryd.results31 rfl (hM9.get 2 rfl) Tryd.underlying24 rfl (info_WideC _) rfl ⟨by rw [R.out], hM9.below⟩
set_option maxRecDepth 100000 in
set_option maxHeartbeats 8000000 in
theorem sPublic_yes {a : Nat} {p : Pt PP} (ma : a < M256) (h : isSec a = true) (hp : Pt.times ivP gPt a = p) (w : World) (hG : Glob 3 PP w) (hO : GlobP 2 0 0 true w) (hB : GlobPt 0 gPt w) (hN : Glob 1 NN w) : Calls Tryd.prog 11 #[WV a] w fun e w' => e = .returned (.tuple #[.agg (ptc p), .int .i64 0]) ∧ Below w.heap.size w w' := by
  have h := Lib.hid h
  have hp := Lib.hid hp
  have hM0 := mm_nil w
  (try unfold WV)
  go_enter Tryd.func11, Tryd.ntmps11
  go_wp2_with (first
    | ((with_reducible change wpList _ _ _ (Oper.mk (some 1) _ _ _ _ _ :: _) _ _); refine mmBox hM0 _ _ (wcells a) rfl rfl rfl ?_; intro w1 hM1; clear hM0; go_frame)
    | ((with_reducible change wpList _ _ _ (Oper.mk (some 2) _ _ _ _ _ :: _) _ _); refine mmAlloc hM1 _ _ rfl rfl zero_Point ?_; intro w2 hM2; clear hM1; go_frame)
    | ((with_reducible change wpList _ _ _ (Oper.mk (some 4) _ _ _ _ _ :: _) _ _); refine kLoadRow _ _ _ _ _ _ rfl rfl rfl (hM2.get 1 rfl) Tryd.underlying24 rfl (info_WideC _) ?_; go_frame)
    | (go_at_call 26; (with_reducible change Calls _ _ #[Value.agg (wcells a)] _ _); refine (isSecret_as ma h.out _ (hN.below hM2.below)).mono ?_; rintro e w3 ⟨rfl, hB3⟩; have hM3 := hM2.on hB3; clear hB3 hM2; (try unfold WV); go_frame))
  refine region_symT 3 _ [] [] [.val (.agg (wcells a)), .val (.agg (ptc gPt)), .val (.agg (ptc p))] rfl (by kernel_rfl) (by kernel_rfl) (by kernel_rfl) (by kernel_rfl) rfl (by intro s hs; cases hs) (steps_all ⟨?_, ?_, ?_, trivial⟩) ?_
  · exact fun A W sz ot hbel ap dp => kLoadRow _ _ _ _ _ _ rfl rfl (sO ot 1) ((hM3.get 1 rfl).on hbel) Tryd.underlying24 rfl (info_WideC _) (sE ap sz rfl)
  · intro A W sz ot hbel ap dp
    refine kCall0 28 _ rfl rfl (by kernel_rfl)  ?_
    refine (cBase_pt W ((hB.below hM3.below).below hbel)).mono ?_
    rintro e r ⟨rfl, hBc⟩
    exact ⟨_, rfl, (sV ap sz hBc rfl)⟩
  · exact fun A W sz ot hbel ap dp => sCall2 27 rfl (sD dp 0 .data) (sD dp 1 .data) (sC (cTimes_q ma gPt_on hp.out W ((hG.below hM3.below).below hbel) ((hO.below hM3.below).below hbel) ((hB.below hM3.below).below hbel)) ap sz (fun _ => rfl))
  intro w4 hB4
  dsimp only [AllV]
  intro hap
  dsimp only [putAll, List.take, List.drop]
  go_frame
  have hM4 := hM3.on hB4
  clear hB4 hM3 hap
  go_wp2_with (first
    | ((with_reducible change wpList _ _ _ (Oper.mk none (Op.store _ (Operand.tmp 2) (Operand.tmp 10)) _ _ _ _ :: _) _ _); refine mmStoreAt hM4 0 _ _ _ _ _ _ (ptc p) rfl rfl rfl rfl rfl (info_ptc _) (by simp only [pcells_size, ptc_size]) (ptc_one _) ?_; intro w5 hM5; dsimp only [List.set] at hM5; clear hM4; go_frame))
  exact result_row_tmp Tryd.results11 rfl rfl (hM5.get 0 rfl) Tryd.underlying30 rfl (info_ptc _) rfl ⟨rfl, hM5.below⟩
set_option maxRecDepth 100000 in
set_option maxHeartbeats 8000000 in
theorem sPublic_no {a : Nat} (ma : a < M256) (h : isSec a = false) (w : World) (hN : Glob 1 NN w) : Calls Tryd.prog 11 #[WV a] w fun e w' => e = .returned (.tuple #[.agg (pcells 0 0 false), .int .i64 51]) ∧ Below w.heap.size w w' := by
  have h := Lib.hid h
  have hM0 := mm_nil w
  (try unfold WV)
  go_enter Tryd.func11, Tryd.ntmps11
  go_wp2_with (first
    | ((with_reducible change wpList _ _ _ (Oper.mk (some 1) _ _ _ _ _ :: _) _ _); refine mmBox hM0 _ _ (wcells a) rfl rfl rfl ?_; intro w1 hM1; clear hM0; go_frame)
    | ((with_reducible change wpList _ _ _ (Oper.mk (some 2) _ _ _ _ _ :: _) _ _); refine mmAlloc hM1 _ _ rfl rfl zero_Point ?_; intro w2 hM2; clear hM1; go_frame)
    | ((with_reducible change wpList _ _ _ (Oper.mk (some 4) _ _ _ _ _ :: _) _ _); refine kLoadRow _ _ _ _ _ _ rfl rfl rfl (hM2.get 1 rfl) Tryd.underlying24 rfl (info_WideC _) ?_; go_frame)
    | (go_at_call 26; (with_reducible change Calls _ _ #[Value.agg (wcells a)] _ _); refine (isSecret_as ma h.out _ (hN.below hM2.below)).mono ?_; rintro e w3 ⟨rfl, hB3⟩; have hM3 := hM2.on hB3; clear hB3 hM2; (try unfold WV); go_frame)
    | ((with_reducible change wpList _ _ _ (Oper.mk (some 7) _ _ _ _ _ :: _) _ _); refine kBuildPoint0 rfl rfl ?_; go_frame)
    | ((with_reducible change wpList _ _ _ (Oper.mk none (Op.store _ (Operand.tmp 2) (Operand.tmp 7)) _ _ _ _ :: _) _ _); refine mmStoreAt hM3 0 _ _ _ _ _ _ (pcells 0 0 false) rfl rfl rfl rfl rfl (info_PointC _ _ _) (by simp only [pcells_size]) (pcells_one _ _ _) ?_; intro w4 hM4; dsimp only [List.set] at hM4; clear hM3; go_frame))
  exact result_row_tmp Tryd.results11 rfl rfl (hM4.get 0 rfl) Tryd.underlying30 rfl (info_PointC _ _ _) rfl ⟨rfl, hM4.below⟩
end Go.Proofs.YtfgffjmpjoipeaaDoor
