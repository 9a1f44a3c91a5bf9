/-
  bynamelaw12.WorkTargets, walked.
-/
import Derived.Test.YtdeggdmoijfhdaaWkLaw0
import Derived.Test.YtdeggdmoijfhdaaKit12
namespace Go.Proofs.Ytdeggdmoijfhdaa
open Go Go.RowKit

set_option maxRecDepth 100000 in
set_option maxHeartbeats 32000000 in
theorem WorkTargets_any (b : Nat) (hb : b < 4294967296) (a : Nat) (ha : a < M256) (w : World) : Calls Try.prog 4 #[.int .u32 (b : Int), WV a] w (fun e w' => e = .returned (.bool true) ∧ Below w.heap.size w w') := by
  obtain ⟨c, Hc⟩ : ∃ v_ : Nat, Hid (compactN a = v_) := ⟨_, Lib.hid rfl⟩
  obtain ⟨r, Hr⟩ : ∃ v_ : Nat, Hid (workN b = v_) := ⟨_, Lib.hid rfl⟩
  by_cases h : badN b
  · replace h := Lib.hid h
    have hM0 := mm_nil w
    (try unfold WV)
    go_enter Try.func4, Try.ntmps4
    go_wp2_with (first
      | ((with_reducible change wpList _ _ _ (Oper.mk (some 3) _ _ _ _ _ :: _) _ _); refine mmBox hM0 _ _ (wcells a) rfl rfl rfl ?_; intro w1 hM1; clear hM0; go_frame)
      | (go_at_call 10; refine (workAlive_any _).mono ?_; rintro e w2 ⟨rfl, hB2⟩; have hM2 := hM1.on hB2; clear hB2 hM1; (try unfold WV); go_frame)
      | (go_at_call 9; (with_reducible change Calls _ _ #[Value.int .u32 ((b : Int))] _ _); refine (kExpand_bad hb h.out _).mono ?_; rintro e w3 ⟨rfl, hB3⟩; have hM3 := hM2.on hB3; clear hB3 hM2; (try unfold WV); go_frame)
      | ((with_reducible change wpList _ _ _ (Oper.mk (some 5) _ _ _ _ _ :: _) _ _); refine mmAlloc hM3 _ _ rfl rfl zero_Wide ?_; intro w4 hM4; clear hM3; go_frame)
      | ((with_reducible change wpList _ _ _ (Oper.mk none (Op.store _ (Operand.tmp 5) (Operand.tmp 14)) _ _ _ _ :: _) _ _); refine mmStoreAt hM4 0 _ _ _ _ _ _ (wcells 0) rfl rfl rfl rfl rfl (info_WideC _) (by simp only [wcells_size]) (wcells_one _) ?_; intro w5 hM5; dsimp only [List.set] at hM5; clear hM4; go_frame)
      | (go_at_call 15; (with_reducible change Calls _ _ #[Value.int .u32 ((b : Int))] _ _); refine (qExpand_bad hb h.out _).mono ?_; rintro e w6 ⟨x6, rfl, hN6, hB6⟩; have hM6 := hM5.on hB6; clear hB6 hM5; have hM7 := mm_nil w6; go_frame))
    refine region_symT 26 _ [] [] [.val (.agg (wcells 0)), .val (x6), .val (.agg (wcells 0)), .val (.bool true), .val (.bool true), .val (.int .i64 (121)), .val (.int .i64 (121)), .val (.bool true), .val (.bool true), .val (.bool true), .val (.int .u32 ((b : Int))), .val (.agg (wcells r)), .val (.int .u32 ((b : Int))), .prop (fun w v => Num w v (r) 17) (fun _ _ _ hb h => h.below hb), .val (.agg (wcells r)), .val (.bool true), .val (.bool true), .val (.bool true), .val (.agg (wcells a)), .val (.int .u32 ((c : Int))), .val (.agg (wcells a)), .prop (fun w v => Num w v (a) 16) (fun _ _ _ hb h => h.below hb), .val (.int .u32 ((c : Int))), .val (.bool true), .val (.bool true), .val (.bool true)] rfl (by kernel_rfl) (by kernel_rfl) (by kernel_rfl) (by kernel_rfl) rfl (by intro s hs; cases hs) (steps_all ⟨?_, ?_, ?_, ?_, ?_, ?_, ?_, ?_, ?_, ?_, ?_, ?_, ?_, ?_, ?_, ?_, ?_, ?_, ?_, ?_, ?_, ?_, ?_, ?_, ?_, ?_, trivial⟩) ?_
    · exact fun A W sz ot hbel ap dp => kLoadRow _ _ _ _ _ _ rfl rfl (sO ot 5) (((hM6.get 0 rfl).on hM7.below).on hbel) Try.underlying24 rfl (info_WideC _) (sE ap sz rfl)
    · exact fun A W sz ot hbel ap dp => kMoveV _ _ rfl rfl (sO ot 7) (sE ap sz rfl)
    · exact fun A W sz ot hbel ap dp => sCall1 16 rfl (sD dp 1 .data) (sC (dWide_num ((hN6.below hM7.below).below hbel)) ap sz (fun _ => rfl))
    · exact fun A W sz ot hbel ap dp => kEqlW _ _ _ (0) (0) true rfl rfl (sD dp 0 .data) (sD dp 2 .data) (same_W 0) (sE ap sz rfl)
    · exact fun A W sz ot hbel ap dp => kMoveV _ _ rfl rfl (sD dp 3 .data) (sE ap sz rfl)
    · exact fun A W sz ot hbel ap dp => kMoveV _ _ rfl (wanted_of rfl rfl (sD dp 4 .guard)) (sO ot 6) (sE ap sz rfl)
    · exact fun A W sz ot hbel ap dp => kMoveV _ _ rfl (wanted_of rfl rfl (sD dp 4 .guard)) (sO ot 8) (sE ap sz rfl)
    · exact fun A W sz ot hbel ap dp => kYw (yEqlK _ _ _ _ .i64 (121) (121) true rfl rfl (wanted_of rfl rfl (sD dp 4 .guard)) (sD dp 5 .data) (sD dp 6 .data)) (sE ap sz rfl)
    · exact fun A W sz ot hbel ap dp => kPick _ _ _ true (.bool true) rfl rfl (sD dp 4 .data) (sD dp 7 .data) (sE ap sz rfl)
    · exact fun A W sz ot hbel ap dp => kMoveV _ _ rfl rfl (sD dp 8 .data) (sE ap sz rfl)
    · exact fun A W sz ot hbel ap dp => kMoveV _ _ rfl (wanted_of rfl rfl (sD dp 9 .guard)) (sO ot 0) (sE ap sz rfl)
    · exact fun A W sz ot hbel ap dp => sCall1 17 rfl (sD dp 10 .data) (sC (kWork_as hb Hr.out W) ap sz (fun _ => rfl)) (wanted_of rfl rfl (sD dp 9 .chain))
    · exact fun A W sz ot hbel ap dp => kMoveV _ _ rfl (wanted_of rfl rfl (sD dp 9 .guard)) (sO ot 0) (sE ap sz rfl)
    · intro A W sz ot hbel ap dp
      refine kCall1 18 _ _ _ rfl (wanted_of rfl rfl (sD dp 9 .guard)) (by kernel_rfl) (sD dp 12 .data) ?_
      refine (qWork_num hb Hr.out W).mono ?_
      rintro e r ⟨xx, rfl, hNx, hBc⟩
      exact ⟨_, rfl, (sV ap sz hBc hNx)⟩
    · intro A W sz ot hbel ap dp
      have hN34 := (show Num W (A.tmps.getD 34 undef) (r) 17 from (sD dp 13 .data))
      exact sCall1 16 rfl (rfl : A.eval (Operand.tmp 34) = A.tmps.getD 34 undef) (sC (dWide_num hN34) ap sz (fun _ => rfl)) (wanted_of rfl rfl (sD dp 9 .guard))
    · exact fun A W sz ot hbel ap dp => kEqlW _ _ _ (r) (r) true rfl (wanted_of rfl rfl (sD dp 9 .guard)) (sD dp 11 .data) (sD dp 14 .data) (same_W r) (sE ap sz rfl)
    · exact fun A W sz ot hbel ap dp => kPick _ _ _ true (.bool true) rfl rfl (sD dp 9 .data) (sD dp 15 .data) (sE ap sz rfl)
    · exact fun A W sz ot hbel ap dp => kMoveV _ _ rfl rfl (sD dp 16 .data) (sE ap sz rfl)
    · exact fun A W sz ot hbel ap dp => kLoadRow _ _ _ _ _ _ rfl (wanted_of rfl rfl (sD dp 17 .guard)) (sO ot 3) (((hM6.get 1 rfl).on hM7.below).on hbel) Try.underlying24 rfl (info_WideC _) (sE ap sz rfl)
    · exact fun A W sz ot hbel ap dp => sCall1 13 rfl (sD dp 18 .data) (sC (kCompact_as ha Hc.out W) ap sz (fun _ => rfl)) (wanted_of rfl rfl (sD dp 17 .chain))
    · exact fun A W sz ot hbel ap dp => kLoadRow _ _ _ _ _ _ rfl (wanted_of rfl rfl (sD dp 17 .guard)) (sO ot 3) (((hM6.get 1 rfl).on hM7.below).on hbel) Try.underlying24 rfl (info_WideC _) (sE ap sz rfl)
    · intro A W sz ot hbel ap dp
      refine kCall1 20 _ _ _ rfl (wanted_of rfl rfl (sD dp 17 .guard)) (by kernel_rfl) (sD dp 20 .data) ?_
      refine (dOf_num a ha W).mono ?_
      rintro e r ⟨xx, rfl, hNx, hBc⟩
      exact ⟨_, rfl, (sV ap sz hBc hNx)⟩
    · intro A W sz ot hbel ap dp
      have hN42 := (show Num W (A.tmps.getD 42 undef) (a) 16 from (sD dp 21 .data))
      exact sCall1 19 rfl (rfl : A.eval (Operand.tmp 42) = A.tmps.getD 42 undef) (sC (qCompact_num W hN42 (by decide) ha Hc.out) ap sz (fun _ => rfl)) (wanted_of rfl rfl (sD dp 17 .guard))
    · exact fun A W sz ot hbel ap dp => kYw (yEqlK _ _ _ _ .u32 (c) (c) true (by simp) rfl (wanted_of rfl rfl (sD dp 17 .guard)) (sD dp 19 .data) (sD dp 22 .data)) (sE ap sz rfl)
    · exact fun A W sz ot hbel ap dp => kPick _ _ _ true (.bool true) rfl rfl (sD dp 17 .data) (sD dp 23 .data) (sE ap sz rfl)
    · exact fun A W sz ot hbel ap dp => kAssignV _ _ rfl rfl (sD dp 24 .data) (sE ap sz rfl)
    intro w8 hB8
    dsimp only [AllV]
    intro x8_34 hN8_34
    intro x8_42 hN8_42
    intro hap
    dsimp only [putAll, List.take, List.drop]
    go_frame
    have hM8 := hM7.on hB8
    clear hB8 hM7 hap
    have hM9 := mm_nil w8
    go_wp2_with fail
    go_ret
    exact ⟨rfl, ((((hM6.below).trans (hM8.below.mono (hM6.below).size))).trans (hM9.below.mono (((hM6.below).trans (hM8.below.mono (hM6.below).size))).size))⟩
  · obtain ⟨t, Ht⟩ : ∃ v_ : Nat, Hid (rawN b = v_) := ⟨_, Lib.hid rfl⟩
    replace h := Lib.hid h
    have hM0 := mm_nil w
    (try unfold WV)
    go_enter Try.func4, Try.ntmps4
    go_wp2_with (first
      | ((with_reducible change wpList _ _ _ (Oper.mk (some 3) _ _ _ _ _ :: _) _ _); refine mmBox hM0 _ _ (wcells a) rfl rfl rfl ?_; intro w1 hM1; clear hM0; go_frame)
      | (go_at_call 10; refine (workAlive_any _).mono ?_; rintro e w2 ⟨rfl, hB2⟩; have hM2 := hM1.on hB2; clear hB2 hM1; (try unfold WV); go_frame)
      | (go_at_call 9; (with_reducible change Calls _ _ #[Value.int .u32 ((b : Int))] _ _); refine (kExpand_ok hb h.out Ht.out _).mono ?_; rintro e w3 ⟨rfl, hB3⟩; have hM3 := hM2.on hB3; clear hB3 hM2; (try unfold WV); go_frame)
      | ((with_reducible change wpList _ _ _ (Oper.mk (some 5) _ _ _ _ _ :: _) _ _); refine mmAlloc hM3 _ _ rfl rfl zero_Wide ?_; intro w4 hM4; clear hM3; go_frame)
      | ((with_reducible change wpList _ _ _ (Oper.mk none (Op.store _ (Operand.tmp 5) (Operand.tmp 14)) _ _ _ _ :: _) _ _); refine mmStoreAt hM4 0 _ _ _ _ _ _ (wcells t) rfl rfl rfl rfl rfl (info_WideC _) (by simp only [wcells_size]) (wcells_one _) ?_; intro w5 hM5; dsimp only [List.set] at hM5; clear hM4; go_frame)
      | (go_at_call 15; (with_reducible change Calls _ _ #[Value.int .u32 ((b : Int))] _ _); refine (qExpand_ok hb h.out Ht.out _).mono ?_; rintro e w6 ⟨x6, rfl, hN6, hB6⟩; have hM6 := hM5.on hB6; clear hB6 hM5; have hM7 := mm_nil w6; go_frame))
    refine region_symT 26 _ [] [] [.val (.agg (wcells t)), .val (x6), .val (.agg (wcells t)), .val (.bool true), .val (.bool true), .val (.int .i64 (0)), .val (.int .i64 (0)), .val (.bool true), .val (.bool true), .val (.bool true), .val (.int .u32 ((b : Int))), .val (.agg (wcells r)), .val (.int .u32 ((b : Int))), .prop (fun w v => Num w v (r) 17) (fun _ _ _ hb h => h.below hb), .val (.agg (wcells r)), .val (.bool true), .val (.bool true), .val (.bool true), .val (.agg (wcells a)), .val (.int .u32 ((c : Int))), .val (.agg (wcells a)), .prop (fun w v => Num w v (a) 16) (fun _ _ _ hb h => h.below hb), .val (.int .u32 ((c : Int))), .val (.bool true), .val (.bool true), .val (.bool true)] rfl (by kernel_rfl) (by kernel_rfl) (by kernel_rfl) (by kernel_rfl) rfl (by intro s hs; cases hs) (steps_all ⟨?_, ?_, ?_, ?_, ?_, ?_, ?_, ?_, ?_, ?_, ?_, ?_, ?_, ?_, ?_, ?_, ?_, ?_, ?_, ?_, ?_, ?_, ?_, ?_, ?_, ?_, trivial⟩) ?_
    · exact fun A W sz ot hbel ap dp => kLoadRow _ _ _ _ _ _ rfl rfl (sO ot 5) (((hM6.get 0 rfl).on hM7.below).on hbel) Try.underlying24 rfl (info_WideC _) (sE ap sz rfl)
    · exact fun A W sz ot hbel ap dp => kMoveV _ _ rfl rfl (sO ot 7) (sE ap sz rfl)
    · exact fun A W sz ot hbel ap dp => sCall1 16 rfl (sD dp 1 .data) (sC (dWide_num ((hN6.below hM7.below).below hbel)) ap sz (fun _ => rfl))
    · exact fun A W sz ot hbel ap dp => kEqlW _ _ _ (t) (t) true rfl rfl (sD dp 0 .data) (sD dp 2 .data) (same_W t) (sE ap sz rfl)
    · exact fun A W sz ot hbel ap dp => kMoveV _ _ rfl rfl (sD dp 3 .data) (sE ap sz rfl)
    · exact fun A W sz ot hbel ap dp => kMoveV _ _ rfl (wanted_of rfl rfl (sD dp 4 .guard)) (sO ot 6) (sE ap sz rfl)
    · exact fun A W sz ot hbel ap dp => kMoveV _ _ rfl (wanted_of rfl rfl (sD dp 4 .guard)) (sO ot 8) (sE ap sz rfl)
    · exact fun A W sz ot hbel ap dp => kYw (yEqlK _ _ _ _ .i64 (0) (0) true rfl rfl (wanted_of rfl rfl (sD dp 4 .guard)) (sD dp 5 .data) (sD dp 6 .data)) (sE ap sz rfl)
    · exact fun A W sz ot hbel ap dp => kPick _ _ _ true (.bool true) rfl rfl (sD dp 4 .data) (sD dp 7 .data) (sE ap sz rfl)
    · exact fun A W sz ot hbel ap dp => kMoveV _ _ rfl rfl (sD dp 8 .data) (sE ap sz rfl)
    · exact fun A W sz ot hbel ap dp => kMoveV _ _ rfl (wanted_of rfl rfl (sD dp 9 .guard)) (sO ot 0) (sE ap sz rfl)
    · exact fun A W sz ot hbel ap dp => sCall1 17 rfl (sD dp 10 .data) (sC (kWork_as hb Hr.out W) ap sz (fun _ => rfl)) (wanted_of rfl rfl (sD dp 9 .chain))
    · exact fun A W sz ot hbel ap dp => kMoveV _ _ rfl (wanted_of rfl rfl (sD dp 9 .guard)) (sO ot 0) (sE ap sz rfl)
    · intro A W sz ot hbel ap dp
      refine kCall1 18 _ _ _ rfl (wanted_of rfl rfl (sD dp 9 .guard)) (by kernel_rfl) (sD dp 12 .data) ?_
      refine (qWork_num hb Hr.out W).mono ?_
      rintro e r ⟨xx, rfl, hNx, hBc⟩
      exact ⟨_, rfl, (sV ap sz hBc hNx)⟩
    · intro A W sz ot hbel ap dp
      have hN34 := (show Num W (A.tmps.getD 34 undef) (r) 17 from (sD dp 13 .data))
      exact sCall1 16 rfl (rfl : A.eval (Operand.tmp 34) = A.tmps.getD 34 undef) (sC (dWide_num hN34) ap sz (fun _ => rfl)) (wanted_of rfl rfl (sD dp 9 .guard))
    · exact fun A W sz ot hbel ap dp => kEqlW _ _ _ (r) (r) true rfl (wanted_of rfl rfl (sD dp 9 .guard)) (sD dp 11 .data) (sD dp 14 .data) (same_W r) (sE ap sz rfl)
    · exact fun A W sz ot hbel ap dp => kPick _ _ _ true (.bool true) rfl rfl (sD dp 9 .data) (sD dp 15 .data) (sE ap sz rfl)
    · exact fun A W sz ot hbel ap dp => kMoveV _ _ rfl rfl (sD dp 16 .data) (sE ap sz rfl)
    · exact fun A W sz ot hbel ap dp => kLoadRow _ _ _ _ _ _ rfl (wanted_of rfl rfl (sD dp 17 .guard)) (sO ot 3) (((hM6.get 1 rfl).on hM7.below).on hbel) Try.underlying24 rfl (info_WideC _) (sE ap sz rfl)
    · exact fun A W sz ot hbel ap dp => sCall1 13 rfl (sD dp 18 .data) (sC (kCompact_as ha Hc.out W) ap sz (fun _ => rfl)) (wanted_of rfl rfl (sD dp 17 .chain))
    · exact fun A W sz ot hbel ap dp => kLoadRow _ _ _ _ _ _ rfl (wanted_of rfl rfl (sD dp 17 .guard)) (sO ot 3) (((hM6.get 1 rfl).on hM7.below).on hbel) Try.underlying24 rfl (info_WideC _) (sE ap sz rfl)
    · intro A W sz ot hbel ap dp
      refine kCall1 20 _ _ _ rfl (wanted_of rfl rfl (sD dp 17 .guard)) (by kernel_rfl) (sD dp 20 .data) ?_
      refine (dOf_num a ha W).mono ?_
      rintro e r ⟨xx, rfl, hNx, hBc⟩
      exact ⟨_, rfl, (sV ap sz hBc hNx)⟩
    · intro A W sz ot hbel ap dp
      have hN42 := (show Num W (A.tmps.getD 42 undef) (a) 16 from (sD dp 21 .data))
      exact sCall1 19 rfl (rfl : A.eval (Operand.tmp 42) = A.tmps.getD 42 undef) (sC (qCompact_num W hN42 (by decide) ha Hc.out) ap sz (fun _ => rfl)) (wanted_of rfl rfl (sD dp 17 .guard))
    · exact fun A W sz ot hbel ap dp => kYw (yEqlK _ _ _ _ .u32 (c) (c) true (by simp) rfl (wanted_of rfl rfl (sD dp 17 .guard)) (sD dp 19 .data) (sD dp 22 .data)) (sE ap sz rfl)
    · exact fun A W sz ot hbel ap dp => kPick _ _ _ true (.bool true) rfl rfl (sD dp 17 .data) (sD dp 23 .data) (sE ap sz rfl)
    · exact fun A W sz ot hbel ap dp => kAssignV _ _ rfl rfl (sD dp 24 .data) (sE ap sz rfl)
    intro w8 hB8
    dsimp only [AllV]
    intro x8_34 hN8_34
    intro x8_42 hN8_42
    intro hap
    dsimp only [putAll, List.take, List.drop]
    go_frame
    have hM8 := hM7.on hB8
    clear hB8 hM7 hap
    have hM9 := mm_nil w8
    go_wp2_with fail
    go_ret
    exact ⟨rfl, ((((hM6.below).trans (hM8.below.mono (hM6.below).size))).trans (hM9.below.mono (((hM6.below).trans (hM8.below.mono (hM6.below).size))).size))⟩
end Go.Proofs.Ytdeggdmoijfhdaa
