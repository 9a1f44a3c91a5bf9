/-
  Layer 12: contracts of package work.
-/
import Derived.Test.YtdeggdmoijfhdaaWkKit
import Derived.Test.YtdeggdmoijfhdaaKit12
namespace Go.Proofs.Ytdeggdmoijfhdaa
open Go Go.RowKit

set_option maxRecDepth 100000 in
set_option maxHeartbeats 8000000 in
theorem kParts_as {b m : Nat} {v u : Int} (hv : v = (b : Int)) (hb : b < 4294967296) (hm : b % 8388608 = m) (hu : ((b / 16777216 : Nat) : Int) - 3 = u) (w : World) : Calls Try.prog 25 #[.int .u32 v] w fun e w' => e = .returned (.tuple #[WV m, .int .i64 u]) ∧ Below w.heap.size w w' := by
  subst hv
  obtain ⟨e, He⟩ : ∃ v_ : Nat, Hid (b / 16777216 = v_) := ⟨_, Lib.hid rfl⟩
  rw [He.out] at hu
  have he : e < 256 := by rw [← He.out]; omega
  have hm2 : m < 8388608 := by omega
  have f5 : Hid (b &&& 8388607 = m ∧ b < 4294967296 ∧ 8388607 < 4294967296) := Lib.hid (⟨by rw [← hm]; exact Nat.and_two_pow_sub_one_eq_mod b 23, hb, by decide⟩)
  have f6 : Hid (IntKind.u64.wrap (m : Int) = (m : Int)) := Lib.hid (wrap_u64N (by omega))
  have f9 : Hid (b / 2 ^ 24 = e ∧ 24 ≤ IntKind.u32.bits) := Lib.hid (⟨He.out, by decide⟩)
  have f10 : Hid (IntKind.i64.wrap (e : Int) = (e : Int)) := Lib.hid (wrap_i64N (by omega))
  have f11 : Hid ((e : Int) - 3 = u ∧ -9223372036854775808 ≤ u ∧ u < 9223372036854775808) := Lib.hid (by omega)
  have hm3 : m < 18446744073709551616 := by omega
  clear hm hu
  have hM0 := mm_nil w
  (try unfold WV)
  go_enter Try.func25, Try.ntmps25
  go_wp2_with (first
    | ((with_reducible change wpList _ _ _ (Oper.mk (some 2) _ _ _ _ _ :: _) _ _); refine mmAlloc hM0 _ _ rfl rfl zero_Wide ?_; intro w1 hM1; clear hM0; go_frame)
    | ((with_reducible change wpList _ _ _ (Oper.mk (some 5) _ _ _ _ _ :: _) _ _); refine kYw (yAndW _ _ _ _ b 8388607 m f5.out rfl rfl rfl rfl) ?_; go_frame)
    | ((with_reducible change wpList _ _ _ (Oper.mk (some 6) _ _ _ _ _ :: _) _ _); refine kYw (yConvK Try.underlying28 Try.underlying22 _ m m f6.out rfl rfl rfl) ?_; go_frame)
    | (go_at_call 29; (with_reducible change Calls _ _ #[Value.int .u64 ((m : Int))] _ _); refine (wOf_any m hm3 _).mono ?_; rintro e w2 ⟨rfl, hB2⟩; have hM2 := hM1.on hB2; clear hB2 hM1; (try unfold WV); go_frame)
    | ((with_reducible change wpList _ _ _ (Oper.mk (some 9) _ _ _ _ _ :: _) _ _); refine kYw (yShrN .u32 _ _ _ _ b 24 e f9.out rfl rfl rfl rfl) ?_; go_frame)
    | ((with_reducible change wpList _ _ _ (Oper.mk (some 10) _ _ _ _ _ :: _) _ _); refine kYw (yConvK Try.underlying28 Try.underlying3 _ e e f10.out rfl rfl rfl) ?_; go_frame)
    | ((with_reducible change wpList _ _ _ (Oper.mk (some 11) _ _ _ _ _ :: _) _ _); refine kYw (ySubZ _ _ _ _ e 3 u f11.out rfl rfl rfl rfl) ?_; go_frame)
    | ((with_reducible change wpList _ _ _ (Oper.mk none (Op.store _ (Operand.tmp 2) (Operand.tmp 7)) _ _ _ _ :: _) _ _); refine mmStoreAt hM2 0 _ _ _ _ _ _ (wcells m) rfl rfl rfl rfl rfl (info_WideC _) (by simp only [wcells_size]) (wcells_one _) ?_; intro w3 hM3; dsimp only [List.set] at hM3; clear hM2; go_frame))
  exact result_row_tmp Try.results25 rfl rfl (hM3.get 0 rfl) Try.underlying24 rfl (info_WideC _) rfl ⟨rfl, hM3.below⟩
set_option maxRecDepth 100000 in
set_option maxHeartbeats 8000000 in
theorem kMoved_as {a x : Nat} {u : Int} (ha : a < M256) (hu : -1000 ≤ u ∧ u ≤ 1000) (hx : a * 2 ^ (u * 8).toNat % M256 / 2 ^ (-u * 8).toNat = x) (w : World) : Calls Try.prog 28 #[WV a, .int .i64 u] w fun e w' => e = .returned (WV x) ∧ Below w.heap.size w w' := by
  obtain ⟨y, Hy⟩ : ∃ v_ : Nat, Hid (a * 2 ^ (u * 8).toNat % M256 = v_) := ⟨_, Lib.hid rfl⟩
  rw [Hy.out] at hx
  have hy : y < M256 := by rw [← Hy.out]; exact Nat.mod_lt _ M256_pos
  obtain ⟨z, Hz⟩ : ∃ v_ : Int, Hid (u * 8 = v_) := ⟨_, Lib.hid rfl⟩
  obtain ⟨t, Ht⟩ : ∃ v_ : Int, Hid (-u = v_) := ⟨_, Lib.hid rfl⟩
  obtain ⟨s, Hs⟩ : ∃ v_ : Int, Hid (t * 8 = v_) := ⟨_, Lib.hid rfl⟩
  rw [Hz.out] at Hy
  rw [Ht.out, Hs.out] at hx
  have f7 : Hid (u * 8 = z ∧ -9223372036854775808 ≤ z ∧ z < 9223372036854775808) := Lib.hid (⟨Hz.out, by have := Hz.out; omega, by have := Hz.out; omega⟩)
  have f10 : Hid (-u = t ∧ -9223372036854775808 ≤ t ∧ t < 9223372036854775808) := Lib.hid (⟨Ht.out, by have := Ht.out; omega, by have := Ht.out; omega⟩)
  have f11 : Hid (t * 8 = s ∧ -9223372036854775808 ≤ s ∧ s < 9223372036854775808) := Lib.hid (⟨Hs.out, by have := Ht.out; have := Hs.out; omega, by have := Ht.out; have := Hs.out; omega⟩)
  have f12 : Hid (y / 2 ^ s.toNat = x) := Lib.hid (hx)
  clear hx
  have hM0 := mm_nil w
  (try unfold WV)
  go_enter Try.func28, Try.ntmps28
  go_wp2_with (first
    | ((with_reducible change wpList _ _ _ (Oper.mk (some 2) _ _ _ _ _ :: _) _ _); refine mmBox hM0 _ _ (wcells a) rfl rfl rfl ?_; intro w1 hM1; clear hM0; go_frame)
    | ((with_reducible change wpList _ _ _ (Oper.mk (some 4) _ _ _ _ _ :: _) _ _); refine mmAlloc hM1 _ _ rfl rfl zero_Wide ?_; intro w2 hM2; clear hM1; go_frame)
    | ((with_reducible change wpList _ _ _ (Oper.mk (some 5) _ _ _ _ _ :: _) _ _); refine kLoadRow _ _ _ _ _ _ rfl rfl rfl (hM2.get 1 rfl) Try.underlying24 rfl (info_WideC _) ?_; go_frame)
    | ((with_reducible change wpList _ _ _ (Oper.mk (some 7) _ _ _ _ _ :: _) _ _); refine kYw (yMulZ _ _ _ _ u 8 z f7.out rfl rfl rfl rfl) ?_; go_frame)
    | (go_at_call 47; (with_reducible change Calls _ _ #[Value.agg (wcells a), Value.int .i64 (z)] _ _); refine (wLeft_k f7.out.2.2 Hy.out _).mono ?_; rintro e w3 ⟨rfl, hB3⟩; have hM3 := hM2.on hB3; clear hB3 hM2; (try unfold WV); go_frame)
    | ((with_reducible change wpList _ _ _ (Oper.mk (some 10) _ _ _ _ _ :: _) _ _); refine kYw (yNegZ _ _ u t f10.out rfl rfl rfl) ?_; go_frame)
    | ((with_reducible change wpList _ _ _ (Oper.mk (some 11) _ _ _ _ _ :: _) _ _); refine kYw (yMulZ _ _ _ _ t 8 s f11.out rfl rfl rfl rfl) ?_; go_frame)
    | (go_at_call 26; (with_reducible change Calls _ _ #[Value.agg (wcells y), Value.int .i64 (s)] _ _); refine (wRight_k hy f11.out.2.2 f12.out _).mono ?_; rintro e w4 ⟨rfl, hB4⟩; have hM4 := hM3.on hB4; clear hB4 hM3; (try unfold WV); go_frame)
    | ((with_reducible change wpList _ _ _ (Oper.mk none (Op.store _ (Operand.tmp 4) (Operand.tmp 12)) _ _ _ _ :: _) _ _); refine mmStoreAt hM4 0 _ _ _ _ _ _ (wcells x) rfl rfl rfl rfl rfl (info_WideC _) (by simp only [wcells_size]) (wcells_one _) ?_; intro w5 hM5; dsimp only [List.set] at hM5; clear hM4; go_frame))
  exact result_row Try.results28 rfl (hM5.get 0 rfl) Try.underlying24 rfl (info_WideC _) rfl ⟨rfl, hM5.below⟩
set_option maxRecDepth 100000 in
set_option maxHeartbeats 8000000 in
theorem kEasiest_as {x : Nat} (hx : easyN = x) (w : World) : Calls Try.prog 27 #[] w fun e w' => e = .returned (WV x) ∧ Below w.heap.size w w' := by
  obtain ⟨m, Hm⟩ : ∃ v_ : Nat, Hid (8388607 = v_) := ⟨_, Lib.hid rfl⟩
  obtain ⟨u, Hu⟩ : ∃ v_ : Int, Hid (29 = v_) := ⟨_, Lib.hid rfl⟩
  have f1 : Hid (545259519 % 8388608 = m ∧ ((545259519 / 16777216 : Nat) : Int) - 3 = u) := Lib.hid (⟨by rw [← Hm.out], by rw [← Hu.out]; decide⟩)
  have f4 : Hid (m < M256 ∧ (-1000 ≤ u ∧ u ≤ 1000) ∧ m * 2 ^ (u * 8).toNat % M256 / 2 ^ (-u * 8).toNat = x) := Lib.hid (by rw [← Hm.out, ← Hu.out, ← hx]; exact ⟨by decide, by decide, wk_easy⟩)
  have f0 : Hid ((545259519 : Int) = ((545259519 : Nat) : Int)) := Lib.hid (rfl)
  clear hx Hm Hu
  have hM0 := mm_nil w
  (try unfold WV)
  go_enter Try.func27, Try.ntmps27
  go_wp2_with (first
    | ((with_reducible change wpList _ _ _ (Oper.mk (some 0) _ _ _ _ _ :: _) _ _); refine mmAlloc hM0 _ _ rfl rfl zero_Wide ?_; intro w1 hM1; clear hM0; go_frame)
    | (go_at_call 25; (with_reducible change Calls _ _ #[Value.int .u32 (545259519)] _ _); refine (kParts_as (b := 545259519) f0.out (by decide) f1.out.1 f1.out.2 _).mono ?_; rintro e w2 ⟨rfl, hB2⟩; have hM2 := hM1.on hB2; clear hB2 hM1; (try unfold WV); go_frame)
    | (go_at_call 28; (with_reducible change Calls _ _ #[Value.agg (wcells m), Value.int .i64 (u)] _ _); refine (kMoved_as f4.out.1 f4.out.2.1 f4.out.2.2 _).mono ?_; rintro e w3 ⟨rfl, hB3⟩; have hM3 := hM2.on hB3; clear hB3 hM2; (try unfold WV); go_frame)
    | ((with_reducible change wpList _ _ _ (Oper.mk none (Op.store _ (Operand.tmp 0) (Operand.tmp 4)) _ _ _ _ :: _) _ _); refine mmStoreAt hM3 0 _ _ _ _ _ _ (wcells x) rfl rfl rfl rfl rfl (info_WideC _) (by simp only [wcells_size]) (wcells_one _) ?_; intro w4 hM4; dsimp only [List.set] at hM4; clear hM3; go_frame))
  exact result_row Try.results27 rfl (hM4.get 0 rfl) Try.underlying24 rfl (info_WideC _) rfl ⟨rfl, hM4.below⟩
set_option maxRecDepth 100000 in
set_option maxHeartbeats 8000000 in
theorem kExpand_bad {b : Nat} (hb : b < 4294967296) (h : badN b) (w : World) : Calls Try.prog 9 #[.int .u32 (b : Int)] w fun e w' => e = .returned (.tuple #[WV 0, .int .i64 121]) ∧ Below w.heap.size w w' := by
  obtain ⟨m, Hm⟩ : ∃ v_ : Nat, Hid (b % 8388608 = v_) := ⟨_, Lib.hid rfl⟩
  obtain ⟨u, Hu⟩ : ∃ v_ : Int, Hid (((b / 16777216 : Nat) : Int) - 3 = v_) := ⟨_, Lib.hid rfl⟩
  obtain ⟨q, Hq⟩ : ∃ v_ : Nat, Hid (b / 2 ^ 23 = v_) := ⟨_, Lib.hid rfl⟩
  obtain ⟨p, Hp⟩ : ∃ v_ : Nat, Hid (q &&& 1 = v_) := ⟨_, Lib.hid rfl⟩
  have hm : m < M256 := by rw [← Hm.out]; exact Nat.lt_trans (Nat.mod_lt _ (by decide)) (by decide)
  have hu : -1000 ≤ u ∧ u ≤ 1000 := by have := Hu.out; omega
  have hq : q < 4294967296 := by rw [← Hq.out]; omega
  have f13 : Hid (b / 2 ^ 23 = q ∧ 23 ≤ IntKind.u32.bits) := Lib.hid (⟨Hq.out, by decide⟩)
  have f14 : Hid (q &&& 1 = p ∧ q < 4294967296 ∧ 1 < 4294967296) := Lib.hid (⟨Hp.out, hq, by decide⟩)
  have hp : p = b / 8388608 % 2 := by rw [← Hp.out, ← Hq.out]; exact Nat.and_two_pow_sub_one_eq_mod _ 1
  replace hp := Lib.hid hp
  by_cases h1 : Hid (b / 8388608 % 2 = 1)
  · have f15 : Hid ((!decide ((p : Int) = 0)) = true) := Lib.hid (by rw [hp.out, h1.out]; rfl)
    clear h h1 hp Hq Hp
    have hM0 := mm_nil w
    (try unfold WV)
    go_enter Try.func9, Try.ntmps9
    go_wp2_with (first
      | ((with_reducible change wpList _ _ _ (Oper.mk (some 2) _ _ _ _ _ :: _) _ _); refine mmAlloc hM0 _ _ rfl rfl zero_Wide ?_; intro w1 hM1; clear hM0; go_frame)
      | (go_at_call 25; (with_reducible change Calls _ _ #[Value.int .u32 ((b : Int))] _ _); refine (kParts_as rfl hb Hm.out Hu.out _).mono ?_; rintro e w2 ⟨rfl, hB2⟩; have hM2 := hM1.on hB2; clear hB2 hM1; (try unfold WV); go_frame)
      | ((with_reducible change wpList _ _ _ (Oper.mk (some 4) _ _ _ _ _ :: _) _ _); refine mmAlloc hM2 _ _ rfl rfl zero_Wide ?_; intro w3 hM3; clear hM2; go_frame)
      | ((with_reducible change wpList _ _ _ (Oper.mk none (Op.store _ (Operand.tmp 4) (Operand.tmp 10)) _ _ _ _ :: _) _ _); refine mmStoreAt hM3 0 _ _ _ _ _ _ (wcells m) rfl rfl rfl rfl rfl (info_WideC _) (by simp only [wcells_size]) (wcells_one _) ?_; intro w4 hM4; dsimp only [List.set] at hM4; clear hM3; go_frame))
    refine region_symT 12 _ [] [] [.val (.int .u32 ((b : Int))), .val (.int .u32 ((q : Int))), .val (.int .u32 ((p : Int))), .val (.bool true), .val (.bool true), .val (undef), .val (undef), .val (undef), .val (undef), .val (undef), .val (undef), .val (.bool true)] rfl (by kernel_rfl) (by kernel_rfl) (by kernel_rfl) (by kernel_rfl) rfl (by intro s hs; cases hs) (steps_all ⟨?_, ?_, ?_, ?_, ?_, ?_, ?_, ?_, ?_, ?_, ?_, ?_, trivial⟩) ?_
    · exact fun A W sz ot hbel ap dp => kMoveV _ _ rfl rfl (sO ot 0) (sE ap sz rfl)
    · exact fun A W sz ot hbel ap dp => kYw (yShrN .u32 _ _ _ _ b 23 q f13.out rfl rfl (sD dp 0 .data) rfl) (sE ap sz rfl)
    · exact fun A W sz ot hbel ap dp => kYw (yAndW _ _ _ _ q 1 p f14.out rfl rfl (sD dp 1 .data) rfl) (sE ap sz rfl)
    · exact fun A W sz ot hbel ap dp => kYw (yNeqK _ _ _ _ .u32 p 0 true f15.out rfl rfl (sD dp 2 .data) rfl) (sE ap sz rfl)
    · exact fun A W sz ot hbel ap dp => kMoveV _ _ rfl rfl (sD dp 3 .data) (sE ap sz rfl)
    · exact fun A W sz ot hbel ap dp => wpList_skip (unwanted_of rfl rfl (sD dp 4 .chain) (.inl rfl)) (sE ap sz rfl)
    · exact fun A W sz ot hbel ap dp => wpList_skip (unwanted_of rfl rfl (sD dp 4 .guard) (.inl rfl)) (sE ap sz rfl)
    · exact fun A W sz ot hbel ap dp => wpList_skip (unwanted_of rfl rfl (sD dp 4 .guard) (.inl rfl)) (sE ap sz rfl)
    · exact fun A W sz ot hbel ap dp => wpList_skip (unwanted_of rfl rfl (sD dp 4 .guard) (.inl rfl)) (sE ap sz rfl)
    · exact fun A W sz ot hbel ap dp => wpList_skip (unwanted_of rfl rfl (sD dp 4 .guard) (.inl rfl)) (sE ap sz rfl)
    · exact fun A W sz ot hbel ap dp => wpList_skip (unwanted_of rfl rfl (sD dp 4 .guard) (.inl rfl)) (sE ap sz rfl)
    · exact fun A W sz ot hbel ap dp => kPick _ _ _ true (.bool true) rfl rfl (sD dp 4 .data) rfl (sE ap sz rfl)
    intro w5 hB5
    dsimp only [AllV]
    intro hap
    dsimp only [putAll, List.take, List.drop]
    go_frame
    have hM5 := hM4.on hB5
    clear hB5 hM4 hap
    go_wp2_with (first
      | ((with_reducible change wpList _ _ _ (Oper.mk (some 24) _ _ _ _ _ :: _) _ _); refine kBuildW0 rfl rfl ?_; go_frame)
      | ((with_reducible change wpList _ _ _ (Oper.mk none (Op.store _ (Operand.tmp 2) (Operand.tmp 24)) _ _ _ _ :: _) _ _); refine mmStoreAt hM5 1 _ _ _ _ _ _ (wcells 0) rfl rfl rfl rfl rfl (info_WideC _) (by simp only [wcells_size]) (wcells_one _) ?_; intro w6 hM6; dsimp only [List.set] at hM6; clear hM5; go_frame))
    exact result_row_tmp Try.results9 rfl rfl (hM6.get 1 rfl) Try.underlying24 rfl (info_WideC _) rfl ⟨rfl, hM6.below⟩
  · have hp0 : p = 0 := by rw [hp.out]; have : ¬ (b / 8388608 % 2 = 1) := fun e => h1 (Lib.hid e); omega
    have f15 : Hid ((!decide ((p : Int) = 0)) = false) := Lib.hid (by rw [hp0]; rfl)
    obtain ⟨E, HE⟩ : ∃ v_ : Nat, Hid (easyN = v_) := ⟨_, Lib.hid rfl⟩
    obtain ⟨z, Hz⟩ : ∃ v_ : Int, Hid (u * 8 = v_) := ⟨_, Lib.hid rfl⟩
    obtain ⟨g, Hg⟩ : ∃ v_ : Nat, Hid (E / 2 ^ z.toNat = v_) := ⟨_, Lib.hid rfl⟩
    have hE : E < M256 := by rw [← HE.out]; exact easy_lt
    have hg : g < M256 := by rw [← Hg.out]; exact Nat.lt_of_le_of_lt (Nat.div_le_self _ _) hE
    have f19 : Hid (u * 8 = z ∧ -9223372036854775808 ≤ z ∧ z < 9223372036854775808) := Lib.hid (by have := Hz.out; omega)
    have hov : g < m ↔ easyN < rawN b := by rw [← Hg.out, ← HE.out, ← Hz.out, ← Hm.out, ← Hu.out]; exact wk_over b
    replace hov := Lib.hid hov
    by_cases h2 : easyN < rawN b
    · have f22 : Hid (decide (g < m) = true) := Lib.hid (by simp [hov.out.2 h2])
      clear h h1 h2 hov hp hp0 Hq Hp Hz
      have hM0 := mm_nil w
      (try unfold WV)
      go_enter Try.func9, Try.ntmps9
      go_wp2_with (first
        | ((with_reducible change wpList _ _ _ (Oper.mk (some 2) _ _ _ _ _ :: _) _ _); refine mmAlloc hM0 _ _ rfl rfl zero_Wide ?_; intro w1 hM1; clear hM0; go_frame)
        | (go_at_call 25; (with_reducible change Calls _ _ #[Value.int .u32 ((b : Int))] _ _); refine (kParts_as rfl hb Hm.out Hu.out _).mono ?_; rintro e w2 ⟨rfl, hB2⟩; have hM2 := hM1.on hB2; clear hB2 hM1; (try unfold WV); go_frame)
        | ((with_reducible change wpList _ _ _ (Oper.mk (some 4) _ _ _ _ _ :: _) _ _); refine mmAlloc hM2 _ _ rfl rfl zero_Wide ?_; intro w3 hM3; clear hM2; go_frame)
        | ((with_reducible change wpList _ _ _ (Oper.mk none (Op.store _ (Operand.tmp 4) (Operand.tmp 10)) _ _ _ _ :: _) _ _); refine mmStoreAt hM3 0 _ _ _ _ _ _ (wcells m) rfl rfl rfl rfl rfl (info_WideC _) (by simp only [wcells_size]) (wcells_one _) ?_; intro w4 hM4; dsimp only [List.set] at hM4; clear hM3; go_frame))
      refine region_symT 12 _ [] [] [.val (.int .u32 ((b : Int))), .val (.int .u32 ((q : Int))), .val (.int .u32 ((p : Int))), .val (.bool false), .val (.bool false), .val (.agg (wcells E)), .val (.int .i64 (u)), .val (.int .i64 (z)), .val (.agg (wcells g)), .val (.agg (wcells m)), .val (.bool true), .val (.bool true)] rfl (by kernel_rfl) (by kernel_rfl) (by kernel_rfl) (by kernel_rfl) rfl (by intro s hs; cases hs) (steps_all ⟨?_, ?_, ?_, ?_, ?_, ?_, ?_, ?_, ?_, ?_, ?_, ?_, trivial⟩) ?_
      · exact fun A W sz ot hbel ap dp => kMoveV _ _ rfl rfl (sO ot 0) (sE ap sz rfl)
      · exact fun A W sz ot hbel ap dp => kYw (yShrN .u32 _ _ _ _ b 23 q f13.out rfl rfl (sD dp 0 .data) rfl) (sE ap sz rfl)
      · exact fun A W sz ot hbel ap dp => kYw (yAndW _ _ _ _ q 1 p f14.out rfl rfl (sD dp 1 .data) rfl) (sE ap sz rfl)
      · exact fun A W sz ot hbel ap dp => kYw (yNeqK _ _ _ _ .u32 p 0 false f15.out rfl rfl (sD dp 2 .data) rfl) (sE ap sz rfl)
      · exact fun A W sz ot hbel ap dp => kMoveV _ _ rfl rfl (sD dp 3 .data) (sE ap sz rfl)
      · intro A W sz ot hbel ap dp
        refine kCall0 27 _ rfl (wanted_of rfl rfl (sD dp 4 .chain)) (by kernel_rfl)  ?_
        refine (kEasiest_as HE.out W).mono ?_
        rintro e r ⟨rfl, hBc⟩
        exact ⟨_, rfl, (sV ap sz hBc rfl)⟩
      · exact fun A W sz ot hbel ap dp => kMoveV _ _ rfl (wanted_of rfl rfl (sD dp 4 .guard)) (sO ot 5) (sE ap sz rfl)
      · exact fun A W sz ot hbel ap dp => kYw (yMulZ _ _ _ _ u 8 z f19.out rfl (wanted_of rfl rfl (sD dp 4 .guard)) (sD dp 6 .data) rfl) (sE ap sz rfl)
      · exact fun A W sz ot hbel ap dp => sCall2 26 rfl (sD dp 5 .data) (sD dp 7 .data) (sC (wRight_k hE f19.out.2.2 Hg.out W) ap sz (fun _ => rfl)) (wanted_of rfl rfl (sD dp 4 .guard))
      · exact fun A W sz ot hbel ap dp => kLoadRow _ _ _ _ _ _ rfl (wanted_of rfl rfl (sD dp 4 .guard)) (sO ot 4) ((hM4.get 0 rfl).on hbel) Try.underlying24 rfl (info_WideC _) (sE ap sz rfl)
      · exact fun A W sz ot hbel ap dp => sCall2 23 rfl (sD dp 8 .data) (sD dp 9 .data) (sC (wLess_k hg hm f22.out W) ap sz (fun _ => rfl)) (wanted_of rfl rfl (sD dp 4 .guard))
      · exact fun A W sz ot hbel ap dp => kPick _ _ _ false (.bool true) rfl rfl (sD dp 4 .data) (sD dp 10 .data) (sE ap sz rfl)
      intro w5 hB5
      dsimp only [AllV]
      intro hap
      dsimp only [putAll, List.take, List.drop]
      go_frame
      have hM5 := hM4.on hB5
      clear hB5 hM4 hap
      go_wp2_with (first
        | ((with_reducible change wpList _ _ _ (Oper.mk (some 24) _ _ _ _ _ :: _) _ _); refine kBuildW0 rfl rfl ?_; go_frame)
        | ((with_reducible change wpList _ _ _ (Oper.mk none (Op.store _ (Operand.tmp 2) (Operand.tmp 24)) _ _ _ _ :: _) _ _); refine mmStoreAt hM5 1 _ _ _ _ _ _ (wcells 0) rfl rfl rfl rfl rfl (info_WideC _) (by simp only [wcells_size]) (wcells_one _) ?_; intro w6 hM6; dsimp only [List.set] at hM6; clear hM5; go_frame))
      exact result_row_tmp Try.results9 rfl rfl (hM6.get 1 rfl) Try.underlying24 rfl (info_WideC _) rfl ⟨rfl, hM6.below⟩
    · have f22 : Hid (decide (g < m) = false) := Lib.hid (by have := fun e => h2 (hov.out.1 e); simpa using this)
      have ht : rawN b = 0 := by unfold badN at h; rcases h with h | h | h
                                 · exact absurd (Lib.hid h) h1
                                 · exact h
                                 · exact absurd h h2
      obtain ⟨t, Ht⟩ : ∃ v_ : Nat, Hid (rawN b = v_) := ⟨_, Lib.hid rfl⟩
      have f27 : Hid (m * 2 ^ (u * 8).toNat % M256 / 2 ^ (-u * 8).toNat = t) := Lib.hid (by rw [← Hm.out, ← Hu.out, ← Ht.out]; exact wk_moved (Nat.le_of_not_lt h2))
      have f30 : Hid (decide (t % M256 = 0 % M256) = true) := Lib.hid (by rw [← Ht.out, ht]; rfl)
      clear h h1 h2 hov hp hp0 Hq Hp Hz ht Ht
      have hM0 := mm_nil w
      (try unfold WV)
      go_enter Try.func9, Try.ntmps9
      go_wp2_with (first
        | ((with_reducible change wpList _ _ _ (Oper.mk (some 2) _ _ _ _ _ :: _) _ _); refine mmAlloc hM0 _ _ rfl rfl zero_Wide ?_; intro w1 hM1; clear hM0; go_frame)
        | (go_at_call 25; (with_reducible change Calls _ _ #[Value.int .u32 ((b : Int))] _ _); refine (kParts_as rfl hb Hm.out Hu.out _).mono ?_; rintro e w2 ⟨rfl, hB2⟩; have hM2 := hM1.on hB2; clear hB2 hM1; (try unfold WV); go_frame)
        | ((with_reducible change wpList _ _ _ (Oper.mk (some 4) _ _ _ _ _ :: _) _ _); refine mmAlloc hM2 _ _ rfl rfl zero_Wide ?_; intro w3 hM3; clear hM2; go_frame)
        | ((with_reducible change wpList _ _ _ (Oper.mk none (Op.store _ (Operand.tmp 4) (Operand.tmp 10)) _ _ _ _ :: _) _ _); refine mmStoreAt hM3 0 _ _ _ _ _ _ (wcells m) rfl rfl rfl rfl rfl (info_WideC _) (by simp only [wcells_size]) (wcells_one _) ?_; intro w4 hM4; dsimp only [List.set] at hM4; clear hM3; go_frame))
      refine region_symT 12 _ [] [] [.val (.int .u32 ((b : Int))), .val (.int .u32 ((q : Int))), .val (.int .u32 ((p : Int))), .val (.bool false), .val (.bool false), .val (.agg (wcells E)), .val (.int .i64 (u)), .val (.int .i64 (z)), .val (.agg (wcells g)), .val (.agg (wcells m)), .val (.bool false), .val (.bool false)] rfl (by kernel_rfl) (by kernel_rfl) (by kernel_rfl) (by kernel_rfl) rfl (by intro s hs; cases hs) (steps_all ⟨?_, ?_, ?_, ?_, ?_, ?_, ?_, ?_, ?_, ?_, ?_, ?_, trivial⟩) ?_
      · exact fun A W sz ot hbel ap dp => kMoveV _ _ rfl rfl (sO ot 0) (sE ap sz rfl)
      · exact fun A W sz ot hbel ap dp => kYw (yShrN .u32 _ _ _ _ b 23 q f13.out rfl rfl (sD dp 0 .data) rfl) (sE ap sz rfl)
      · exact fun A W sz ot hbel ap dp => kYw (yAndW _ _ _ _ q 1 p f14.out rfl rfl (sD dp 1 .data) rfl) (sE ap sz rfl)
      · exact fun A W sz ot hbel ap dp => kYw (yNeqK _ _ _ _ .u32 p 0 false f15.out rfl rfl (sD dp 2 .data) rfl) (sE ap sz rfl)
      · exact fun A W sz ot hbel ap dp => kMoveV _ _ rfl rfl (sD dp 3 .data) (sE ap sz rfl)
      · intro A W sz ot hbel ap dp
        refine kCall0 27 _ rfl (wanted_of rfl rfl (sD dp 4 .chain)) (by kernel_rfl)  ?_
        refine (kEasiest_as HE.out W).mono ?_
        rintro e r ⟨rfl, hBc⟩
        exact ⟨_, rfl, (sV ap sz hBc rfl)⟩
      · exact fun A W sz ot hbel ap dp => kMoveV _ _ rfl (wanted_of rfl rfl (sD dp 4 .guard)) (sO ot 5) (sE ap sz rfl)
      · exact fun A W sz ot hbel ap dp => kYw (yMulZ _ _ _ _ u 8 z f19.out rfl (wanted_of rfl rfl (sD dp 4 .guard)) (sD dp 6 .data) rfl) (sE ap sz rfl)
      · exact fun A W sz ot hbel ap dp => sCall2 26 rfl (sD dp 5 .data) (sD dp 7 .data) (sC (wRight_k hE f19.out.2.2 Hg.out W) ap sz (fun _ => rfl)) (wanted_of rfl rfl (sD dp 4 .guard))
      · exact fun A W sz ot hbel ap dp => kLoadRow _ _ _ _ _ _ rfl (wanted_of rfl rfl (sD dp 4 .guard)) (sO ot 4) ((hM4.get 0 rfl).on hbel) Try.underlying24 rfl (info_WideC _) (sE ap sz rfl)
      · exact fun A W sz ot hbel ap dp => sCall2 23 rfl (sD dp 8 .data) (sD dp 9 .data) (sC (wLess_k hg hm f22.out W) ap sz (fun _ => rfl)) (wanted_of rfl rfl (sD dp 4 .guard))
      · exact fun A W sz ot hbel ap dp => kPick _ _ _ false (.bool false) rfl rfl (sD dp 4 .data) (sD dp 10 .data) (sE ap sz rfl)
      intro w5 hB5
      dsimp only [AllV]
      intro hap
      dsimp only [putAll, List.take, List.drop]
      go_frame
      have hM5 := hM4.on hB5
      clear hB5 hM4 hap
      go_wp2_with (first
        | ((with_reducible change wpList _ _ _ (Oper.mk (some 25) _ _ _ _ _ :: _) _ _); refine kLoadRow _ _ _ _ _ _ rfl rfl rfl (hM5.get 0 rfl) Try.underlying24 rfl (info_WideC _) ?_; go_frame)
        | (go_at_call 28; (with_reducible change Calls _ _ #[Value.agg (wcells m), Value.int .i64 (u)] _ _); refine (kMoved_as hm hu f27.out _).mono ?_; rintro e w6 ⟨rfl, hB6⟩; have hM6 := hM5.on hB6; clear hB6 hM5; (try unfold WV); go_frame)
        | ((with_reducible change wpList _ _ _ (Oper.mk (some 6) _ _ _ _ _ :: _) _ _); refine mmAlloc hM6 _ _ rfl rfl zero_Wide ?_; intro w7 hM7; clear hM6; go_frame)
        | ((with_reducible change wpList _ _ _ (Oper.mk none (Op.store _ (Operand.tmp 6) (Operand.tmp 27)) _ _ _ _ :: _) _ _); refine mmStoreAt hM7 0 _ _ _ _ _ _ (wcells t) rfl rfl rfl rfl rfl (info_WideC _) (by simp only [wcells_size]) (wcells_one _) ?_; intro w8 hM8; dsimp only [List.set] at hM8; clear hM7; go_frame)
        | ((with_reducible change wpList _ _ _ (Oper.mk (some 28) _ _ _ _ _ :: _) _ _); refine kLoadRow _ _ _ _ _ _ rfl rfl rfl (hM8.get 0 rfl) Try.underlying24 rfl (info_WideC _) ?_; go_frame)
        | ((with_reducible change wpList _ _ _ (Oper.mk (some 29) _ _ _ _ _ :: _) _ _); refine kBuildW0 rfl rfl ?_; go_frame)
        | ((with_reducible change wpList _ _ _ (Oper.mk (some 30) _ _ _ _ _ :: _) _ _); refine kEqlW _ _ _ (t) (0) true rfl rfl rfl rfl (f30.out) ?_; go_frame)
        | ((with_reducible change wpList _ _ _ (Oper.mk (some 31) _ _ _ _ _ :: _) _ _); refine kBuildW0 rfl rfl ?_; go_frame)
        | ((with_reducible change wpList _ _ _ (Oper.mk none (Op.store _ (Operand.tmp 2) (Operand.tmp 31)) _ _ _ _ :: _) _ _); refine mmStoreAt hM8 2 _ _ _ _ _ _ (wcells 0) rfl rfl rfl rfl rfl (info_WideC _) (by simp only [wcells_size]) (wcells_one _) ?_; intro w9 hM9; dsimp only [List.set] at hM9; clear hM8; go_frame))
      exact result_row_tmp Try.results9 rfl rfl (hM9.get 2 rfl) Try.underlying24 rfl (info_WideC _) rfl ⟨rfl, hM9.below⟩
set_option maxRecDepth 100000 in
set_option maxHeartbeats 8000000 in
theorem kExpand_ok {b t : Nat} (hb : b < 4294967296) (h : ¬ badN b) (Ht : rawN b = t) (w : World) : Calls Try.prog 9 #[.int .u32 (b : Int)] w fun e w' => e = .returned (.tuple #[WV t, .int .i64 0]) ∧ Below w.heap.size w w' := by
  replace Ht := Lib.hid Ht
  obtain ⟨h1, h2, h3⟩ := not_bad h
  obtain ⟨m, Hm⟩ : ∃ v_ : Nat, Hid (b % 8388608 = v_) := ⟨_, Lib.hid rfl⟩
  obtain ⟨u, Hu⟩ : ∃ v_ : Int, Hid (((b / 16777216 : Nat) : Int) - 3 = v_) := ⟨_, Lib.hid rfl⟩
  obtain ⟨q, Hq⟩ : ∃ v_ : Nat, Hid (b / 2 ^ 23 = v_) := ⟨_, Lib.hid rfl⟩
  obtain ⟨p, Hp⟩ : ∃ v_ : Nat, Hid (q &&& 1 = v_) := ⟨_, Lib.hid rfl⟩
  have hm : m < M256 := by rw [← Hm.out]; exact Nat.lt_trans (Nat.mod_lt _ (by decide)) (by decide)
  have hu : -1000 ≤ u ∧ u ≤ 1000 := by have := Hu.out; omega
  have hq : q < 4294967296 := by rw [← Hq.out]; omega
  have f13 : Hid (b / 2 ^ 23 = q ∧ 23 ≤ IntKind.u32.bits) := Lib.hid (⟨Hq.out, by decide⟩)
  have f14 : Hid (q &&& 1 = p ∧ q < 4294967296 ∧ 1 < 4294967296) := Lib.hid (⟨Hp.out, hq, by decide⟩)
  have hp : p = b / 8388608 % 2 := by rw [← Hp.out, ← Hq.out]; exact Nat.and_two_pow_sub_one_eq_mod _ 1
  replace hp := Lib.hid hp
  have hp0 : p = 0 := by rw [hp.out]; exact h1
  have f15 : Hid ((!decide ((p : Int) = 0)) = false) := Lib.hid (by rw [hp0]; rfl)
  obtain ⟨E, HE⟩ : ∃ v_ : Nat, Hid (easyN = v_) := ⟨_, Lib.hid rfl⟩
  obtain ⟨z, Hz⟩ : ∃ v_ : Int, Hid (u * 8 = v_) := ⟨_, Lib.hid rfl⟩
  obtain ⟨g, Hg⟩ : ∃ v_ : Nat, Hid (E / 2 ^ z.toNat = v_) := ⟨_, Lib.hid rfl⟩
  have hE : E < M256 := by rw [← HE.out]; exact easy_lt
  have hg : g < M256 := by rw [← Hg.out]; exact Nat.lt_of_le_of_lt (Nat.div_le_self _ _) hE
  have f19 : Hid (u * 8 = z ∧ -9223372036854775808 ≤ z ∧ z < 9223372036854775808) := Lib.hid (by have := Hz.out; omega)
  have hov : g < m ↔ easyN < rawN b := by rw [← Hg.out, ← HE.out, ← Hz.out, ← Hm.out, ← Hu.out]; exact wk_over b
  replace hov := Lib.hid hov
  have f22 : Hid (decide (g < m) = false) := Lib.hid (by have := fun e => Nat.not_lt.2 h3 (hov.out.1 e); simpa using this)
  have f27 : Hid (m * 2 ^ (u * 8).toNat % M256 / 2 ^ (-u * 8).toNat = t) := Lib.hid (by rw [← Hm.out, ← Hu.out, ← Ht.out]; exact wk_moved h3)
  have f30 : Hid (decide (t % M256 = 0 % M256) = false) := Lib.hid (by rw [← Ht.out, Nat.mod_eq_of_lt (raw_lt h), Nat.zero_mod]; simp; omega)
  clear h h1 h2 h3 hov hp hp0 Hq Hp Hz Ht
  have hM0 := mm_nil w
  (try unfold WV)
  go_enter Try.func9, Try.ntmps9
  go_wp2_with (first
    | ((with_reducible change wpList _ _ _ (Oper.mk (some 2) _ _ _ _ _ :: _) _ _); refine mmAlloc hM0 _ _ rfl rfl zero_Wide ?_; intro w1 hM1; clear hM0; go_frame)
    | (go_at_call 25; (with_reducible change Calls _ _ #[Value.int .u32 ((b : Int))] _ _); refine (kParts_as rfl hb Hm.out Hu.out _).mono ?_; rintro e w2 ⟨rfl, hB2⟩; have hM2 := hM1.on hB2; clear hB2 hM1; (try unfold WV); go_frame)
    | ((with_reducible change wpList _ _ _ (Oper.mk (some 4) _ _ _ _ _ :: _) _ _); refine mmAlloc hM2 _ _ rfl rfl zero_Wide ?_; intro w3 hM3; clear hM2; go_frame)
    | ((with_reducible change wpList _ _ _ (Oper.mk none (Op.store _ (Operand.tmp 4) (Operand.tmp 10)) _ _ _ _ :: _) _ _); refine mmStoreAt hM3 0 _ _ _ _ _ _ (wcells m) rfl rfl rfl rfl rfl (info_WideC _) (by simp only [wcells_size]) (wcells_one _) ?_; intro w4 hM4; dsimp only [List.set] at hM4; clear hM3; go_frame))
  refine region_symT 12 _ [] [] [.val (.int .u32 ((b : Int))), .val (.int .u32 ((q : Int))), .val (.int .u32 ((p : Int))), .val (.bool false), .val (.bool false), .val (.agg (wcells E)), .val (.int .i64 (u)), .val (.int .i64 (z)), .val (.agg (wcells g)), .val (.agg (wcells m)), .val (.bool false), .val (.bool false)] rfl (by kernel_rfl) (by kernel_rfl) (by kernel_rfl) (by kernel_rfl) rfl (by intro s hs; cases hs) (steps_all ⟨?_, ?_, ?_, ?_, ?_, ?_, ?_, ?_, ?_, ?_, ?_, ?_, trivial⟩) ?_
  · exact fun A W sz ot hbel ap dp => kMoveV _ _ rfl rfl (sO ot 0) (sE ap sz rfl)
  · exact fun A W sz ot hbel ap dp => kYw (yShrN .u32 _ _ _ _ b 23 q f13.out rfl rfl (sD dp 0 .data) rfl) (sE ap sz rfl)
  · exact fun A W sz ot hbel ap dp => kYw (yAndW _ _ _ _ q 1 p f14.out rfl rfl (sD dp 1 .data) rfl) (sE ap sz rfl)
  · exact fun A W sz ot hbel ap dp => kYw (yNeqK _ _ _ _ .u32 p 0 false f15.out rfl rfl (sD dp 2 .data) rfl) (sE ap sz rfl)
  · exact fun A W sz ot hbel ap dp => kMoveV _ _ rfl rfl (sD dp 3 .data) (sE ap sz rfl)
  · intro A W sz ot hbel ap dp
    refine kCall0 27 _ rfl (wanted_of rfl rfl (sD dp 4 .chain)) (by kernel_rfl)  ?_
    refine (kEasiest_as HE.out W).mono ?_
    rintro e r ⟨rfl, hBc⟩
    exact ⟨_, rfl, (sV ap sz hBc rfl)⟩
  · exact fun A W sz ot hbel ap dp => kMoveV _ _ rfl (wanted_of rfl rfl (sD dp 4 .guard)) (sO ot 5) (sE ap sz rfl)
  · exact fun A W sz ot hbel ap dp => kYw (yMulZ _ _ _ _ u 8 z f19.out rfl (wanted_of rfl rfl (sD dp 4 .guard)) (sD dp 6 .data) rfl) (sE ap sz rfl)
  · exact fun A W sz ot hbel ap dp => sCall2 26 rfl (sD dp 5 .data) (sD dp 7 .data) (sC (wRight_k hE f19.out.2.2 Hg.out W) ap sz (fun _ => rfl)) (wanted_of rfl rfl (sD dp 4 .guard))
  · exact fun A W sz ot hbel ap dp => kLoadRow _ _ _ _ _ _ rfl (wanted_of rfl rfl (sD dp 4 .guard)) (sO ot 4) ((hM4.get 0 rfl).on hbel) Try.underlying24 rfl (info_WideC _) (sE ap sz rfl)
  · exact fun A W sz ot hbel ap dp => sCall2 23 rfl (sD dp 8 .data) (sD dp 9 .data) (sC (wLess_k hg hm f22.out W) ap sz (fun _ => rfl)) (wanted_of rfl rfl (sD dp 4 .guard))
  · exact fun A W sz ot hbel ap dp => kPick _ _ _ false (.bool false) rfl rfl (sD dp 4 .data) (sD dp 10 .data) (sE ap sz rfl)
  intro w5 hB5
  dsimp only [AllV]
  intro hap
  dsimp only [putAll, List.take, List.drop]
  go_frame
  have hM5 := hM4.on hB5
  clear hB5 hM4 hap
  go_wp2_with (first
    | ((with_reducible change wpList _ _ _ (Oper.mk (some 25) _ _ _ _ _ :: _) _ _); refine kLoadRow _ _ _ _ _ _ rfl rfl rfl (hM5.get 0 rfl) Try.underlying24 rfl (info_WideC _) ?_; go_frame)
    | (go_at_call 28; (with_reducible change Calls _ _ #[Value.agg (wcells m), Value.int .i64 (u)] _ _); refine (kMoved_as hm hu f27.out _).mono ?_; rintro e w6 ⟨rfl, hB6⟩; have hM6 := hM5.on hB6; clear hB6 hM5; (try unfold WV); go_frame)
    | ((with_reducible change wpList _ _ _ (Oper.mk (some 6) _ _ _ _ _ :: _) _ _); refine mmAlloc hM6 _ _ rfl rfl zero_Wide ?_; intro w7 hM7; clear hM6; go_frame)
    | ((with_reducible change wpList _ _ _ (Oper.mk none (Op.store _ (Operand.tmp 6) (Operand.tmp 27)) _ _ _ _ :: _) _ _); refine mmStoreAt hM7 0 _ _ _ _ _ _ (wcells t) rfl rfl rfl rfl rfl (info_WideC _) (by simp only [wcells_size]) (wcells_one _) ?_; intro w8 hM8; dsimp only [List.set] at hM8; clear hM7; go_frame)
    | ((with_reducible change wpList _ _ _ (Oper.mk (some 28) _ _ _ _ _ :: _) _ _); refine kLoadRow _ _ _ _ _ _ rfl rfl rfl (hM8.get 0 rfl) Try.underlying24 rfl (info_WideC _) ?_; go_frame)
    | ((with_reducible change wpList _ _ _ (Oper.mk (some 29) _ _ _ _ _ :: _) _ _); refine kBuildW0 rfl rfl ?_; go_frame)
    | ((with_reducible change wpList _ _ _ (Oper.mk (some 30) _ _ _ _ _ :: _) _ _); refine kEqlW _ _ _ (t) (0) false rfl rfl rfl rfl (f30.out) ?_; go_frame)
    | ((with_reducible change wpList _ _ _ (Oper.mk (some 32) _ _ _ _ _ :: _) _ _); refine kLoadRow _ _ _ _ _ _ rfl rfl rfl (hM8.get 0 rfl) Try.underlying24 rfl (info_WideC _) ?_; go_frame)
    | ((with_reducible change wpList _ _ _ (Oper.mk none (Op.store _ (Operand.tmp 2) (Operand.tmp 32)) _ _ _ _ :: _) _ _); refine mmStoreAt hM8 2 _ _ _ _ _ _ (wcells t) rfl rfl rfl rfl rfl (info_WideC _) (by simp only [wcells_size]) (wcells_one _) ?_; intro w9 hM9; dsimp only [List.set] at hM9; clear hM8; go_frame))
  exact result_row_tmp Try.results9 rfl rfl (hM9.get 2 rfl) Try.underlying24 rfl (info_WideC _) rfl ⟨rfl, hM9.below⟩
set_option maxRecDepth 100000 in
set_option maxHeartbeats 8000000 in
theorem kCompact_as {n r : Nat} (hn : n < M256) (hr : compactN n = r) (w : World) : Calls Try.prog 13 #[WV n] w fun e w' => e = .returned (.int .u32 (r : Int)) ∧ Below w.heap.size w w' := by
  obtain ⟨l, Hl⟩ : ∃ v_ : Nat, Hid (blen n = v_) := ⟨_, Lib.hid rfl⟩
  obtain ⟨c, Hc⟩ : ∃ v_ : Nat, Hid (l + 8 = v_) := ⟨_, Lib.hid rfl⟩
  obtain ⟨d, Hd⟩ : ∃ v_ : Nat, Hid (l + 7 = v_) := ⟨_, Lib.hid rfl⟩
  obtain ⟨s, Hs⟩ : ∃ v_ : Nat, Hid (byteN n = v_) := ⟨_, Lib.hid rfl⟩
  obtain ⟨u, Hu⟩ : ∃ v_ : Int, Hid (3 - (s : Int) = v_) := ⟨_, Lib.hid rfl⟩
  obtain ⟨t, Ht⟩ : ∃ v_ : Nat, Hid (topN n = v_) := ⟨_, Lib.hid rfl⟩
  have hs : s ≤ 32 := by rw [← Hs.out]; exact byteN_max hn
  have ht : t < 16777216 := by rw [← Ht.out]; exact topN_lt n
  have hl : l ≤ 256 := by rw [← Hl.out]; exact (blen_le n 256).2 hn
  have hc := Hc.out
  have hd := Hd.out
  have hu := Hu.out
  have f6 : Hid (blen n = l) := Hl
  have f7 : Hid ((l : Int) + 8 = (c : Int) ∧ -9223372036854775808 ≤ (c : Int) ∧ (c : Int) < 9223372036854775808) := Lib.hid (by omega)
  have f8 : Hid ((c : Int) - 1 = (d : Int) ∧ -9223372036854775808 ≤ (d : Int) ∧ (d : Int) < 9223372036854775808) := Lib.hid (by omega)
  have hds : d / 8 = s := by rw [← Hs.out, ← hd, ← Hl.out]; rfl
  have f9 : Hid (d / 8 = s ∧ 0 < 8 ∧ IntKind.i64.wrap ((d / 8 : Nat) : Int) = ((d / 8 : Nat) : Int)) := Lib.hid ⟨hds, by decide, wrap_i64N (by omega)⟩
  have f12 : Hid (3 - (s : Int) = u ∧ -9223372036854775808 ≤ u ∧ u < 9223372036854775808) := Lib.hid (by omega)
  have f13 : Hid ((-1000 ≤ u ∧ u ≤ 1000) ∧ n * 2 ^ (u * 8).toNat % M256 / 2 ^ (-u * 8).toNat = t) := Lib.hid ⟨by omega, by rw [← Hu.out, ← Hs.out, ← Ht.out]; exact wk_top hn⟩
  have f14 : Hid ((wcells t)[0]? = some (.int .u64 (t : Int))) := Lib.hid (by rw [wcells_get t 0 (by decide)]; unfold limb; rw [show P64 0 = 1 from rfl, Nat.div_one, Nat.mod_eq_of_lt (by omega)])
  have f15 : Hid (IntKind.u32.wrap (t : Int) = (t : Int)) := Lib.hid (wrap_u32N (by omega))
  by_cases h : t < 8388608
  · have f17 : Hid (decide ((t : Int) > 8388607) = false) := Lib.hid (by simp; omega)
    have hr : t + 16777216 * s = r := by rw [← hr]; unfold compactN; rw [Ht.out, Hs.out, if_pos h]
    obtain ⟨x, Hx⟩ : ∃ v_ : Nat, Hid (s * 2 ^ 24 = v_) := ⟨_, Lib.hid rfl⟩
    have x_lt : x < 4294967296 := by rw [← Hx.out]; omega
    have f24 : Hid (IntKind.u32.wrap (s : Int) = (s : Int)) := Lib.hid (wrap_u32N (by omega))
    have f25 : Hid (s * 2 ^ 24 = x ∧ 24 ≤ IntKind.u32.bits ∧ IntKind.u32.wrap ((s * 2 ^ 24 : Nat) : Int) = ((s * 2 ^ 24 : Nat) : Int)) := Lib.hid ⟨Hx.out, by decide, wrap_u32N (by rw [Hx.out]; exact x_lt)⟩
    have f26 : Hid (t ||| x = r ∧ t < 4294967296 ∧ x < 4294967296) := Lib.hid ⟨by rw [← hr, ← Hx.out, ← Nat.shiftLeft_eq]; exact or_size _ _ (by omega), by omega, x_lt⟩
    clear h hr x_lt Hx Ht Hs hs ht hc hd hu hds hl Hl Hc Hd Hu
    have hM0 := mm_nil w
    (try unfold WV)
    go_enter Try.func13, Try.ntmps13
    go_wp2_with (first
      | ((with_reducible change wpList _ _ _ (Oper.mk (some 1) _ _ _ _ _ :: _) _ _); refine mmBox hM0 _ _ (wcells n) rfl rfl rfl ?_; intro w1 hM1; clear hM0; go_frame)
      | ((with_reducible change wpList _ _ _ (Oper.mk (some 5) _ _ _ _ _ :: _) _ _); refine kLoadRow _ _ _ _ _ _ rfl rfl rfl (hM1.get 0 rfl) Try.underlying24 rfl (info_WideC _) ?_; go_frame)
      | (go_at_call 11; (with_reducible change Calls _ _ #[Value.agg (wcells n)] _ _); refine (wBits_k hn f6.out _).mono ?_; rintro e w2 ⟨rfl, hB2⟩; have hM2 := hM1.on hB2; clear hB2 hM1; (try unfold WV); go_frame)
      | ((with_reducible change wpList _ _ _ (Oper.mk (some 7) _ _ _ _ _ :: _) _ _); refine kYw (yAddZ _ _ _ _ l 8 c f7.out rfl rfl rfl rfl) ?_; go_frame)
      | ((with_reducible change wpList _ _ _ (Oper.mk (some 8) _ _ _ _ _ :: _) _ _); refine kYw (ySubZ _ _ _ _ c 1 d f8.out rfl rfl rfl rfl) ?_; go_frame)
      | ((with_reducible change wpList _ _ _ (Oper.mk (some 9) _ _ _ _ _ :: _) _ _); refine kYw (yQuoN .i64 _ _ _ _ d 8 s f9.out rfl rfl rfl rfl) ?_; go_frame)
      | ((with_reducible change wpList _ _ _ (Oper.mk (some 10) _ _ _ _ _ :: _) _ _); refine kLoadRow _ _ _ _ _ _ rfl rfl rfl (hM2.get 0 rfl) Try.underlying24 rfl (info_WideC _) ?_; go_frame)
      | ((with_reducible change wpList _ _ _ (Oper.mk (some 12) _ _ _ _ _ :: _) _ _); refine kYw (ySubZ _ _ _ _ 3 s u f12.out rfl rfl rfl rfl) ?_; go_frame)
      | (go_at_call 28; (with_reducible change Calls _ _ #[Value.agg (wcells n), Value.int .i64 (u)] _ _); refine (kMoved_as hn f13.out.1 f13.out.2 _).mono ?_; rintro e w3 ⟨rfl, hB3⟩; have hM3 := hM2.on hB3; clear hB3 hM2; (try unfold WV); go_frame)
      | ((with_reducible change wpList _ _ _ (Oper.mk (some 14) _ _ _ _ _ :: _) _ _); refine kIndex 24 22 _ _ .i64 (wcells t) 0 0 4 _ _ rfl rfl rfl rfl Try.underlying24 Try.underlying22 rfl info_w64 rfl (by decide) f14.out ?_; go_frame)
      | ((with_reducible change wpList _ _ _ (Oper.mk (some 15) _ _ _ _ _ :: _) _ _); refine kYw (yConvK Try.underlying22 Try.underlying28 _ t t f15.out rfl rfl rfl) ?_; go_frame)
      | ((with_reducible change wpList _ _ _ (Oper.mk (some 17) _ _ _ _ _ :: _) _ _); refine kYw (yGtrK _ _ _ _ .u32 t 8388607 false f17.out rfl rfl rfl rfl) ?_; go_frame)
      | ((with_reducible change wpList _ _ _ (Oper.mk (some 24) _ _ _ _ _ :: _) _ _); refine kYw (yConvK Try.underlying3 Try.underlying28 _ s s f24.out rfl rfl rfl) ?_; go_frame)
      | ((with_reducible change wpList _ _ _ (Oper.mk (some 25) _ _ _ _ _ :: _) _ _); refine kYw (yShlN .u32 _ _ _ _ s 24 x f25.out rfl rfl rfl rfl) ?_; go_frame)
      | ((with_reducible change wpList _ _ _ (Oper.mk (some 26) _ _ _ _ _ :: _) _ _); refine kYw (yOrW _ _ _ _ t x r f26.out rfl rfl rfl rfl) ?_; go_frame))
    go_ret
    exact ⟨rfl, hM3.below⟩
  · have f17 : Hid (decide ((t : Int) > 8388607) = true) := Lib.hid (by simp; omega)
    obtain ⟨t2, Ht2⟩ : ∃ v_ : Nat, Hid (t / 2 ^ 8 = v_) := ⟨_, Lib.hid rfl⟩
    obtain ⟨s2, Hs2⟩ : ∃ v_ : Nat, Hid (s + 1 = v_) := ⟨_, Lib.hid rfl⟩
    have ht2 := Ht2.out
    have hs2 := Hs2.out
    have hr : t2 + 16777216 * s2 = r := by rw [← hr, ← ht2, ← hs2]; unfold compactN; rw [Ht.out, Hs.out, if_neg h]
    have f19 : Hid (t / 2 ^ 8 = t2 ∧ 8 ≤ IntKind.u32.bits) := Lib.hid ⟨ht2, by decide⟩
    have f21 : Hid ((s : Int) + 1 = (s2 : Int) ∧ -9223372036854775808 ≤ (s2 : Int) ∧ (s2 : Int) < 9223372036854775808) := Lib.hid (by omega)
    obtain ⟨x, Hx⟩ : ∃ v_ : Nat, Hid (s2 * 2 ^ 24 = v_) := ⟨_, Lib.hid rfl⟩
    have x_lt : x < 4294967296 := by rw [← Hx.out]; omega
    have f24 : Hid (IntKind.u32.wrap (s2 : Int) = (s2 : Int)) := Lib.hid (wrap_u32N (by omega))
    have f25 : Hid (s2 * 2 ^ 24 = x ∧ 24 ≤ IntKind.u32.bits ∧ IntKind.u32.wrap ((s2 * 2 ^ 24 : Nat) : Int) = ((s2 * 2 ^ 24 : Nat) : Int)) := Lib.hid ⟨Hx.out, by decide, wrap_u32N (by rw [Hx.out]; exact x_lt)⟩
    have f26 : Hid (t2 ||| x = r ∧ t2 < 4294967296 ∧ x < 4294967296) := Lib.hid ⟨by rw [← hr, ← Hx.out, ← Nat.shiftLeft_eq]; exact or_size _ _ (by omega), by omega, x_lt⟩
    clear h hr x_lt Hx Ht Hs hs ht ht2 hs2 Ht2 Hs2 hc hd hu hds hl Hl Hc Hd Hu
    have hM0 := mm_nil w
    (try unfold WV)
    go_enter Try.func13, Try.ntmps13
    go_wp2_with (first
      | ((with_reducible change wpList _ _ _ (Oper.mk (some 1) _ _ _ _ _ :: _) _ _); refine mmBox hM0 _ _ (wcells n) rfl rfl rfl ?_; intro w1 hM1; clear hM0; go_frame)
      | ((with_reducible change wpList _ _ _ (Oper.mk (some 5) _ _ _ _ _ :: _) _ _); refine kLoadRow _ _ _ _ _ _ rfl rfl rfl (hM1.get 0 rfl) Try.underlying24 rfl (info_WideC _) ?_; go_frame)
      | (go_at_call 11; (with_reducible change Calls _ _ #[Value.agg (wcells n)] _ _); refine (wBits_k hn f6.out _).mono ?_; rintro e w2 ⟨rfl, hB2⟩; have hM2 := hM1.on hB2; clear hB2 hM1; (try unfold WV); go_frame)
      | ((with_reducible change wpList _ _ _ (Oper.mk (some 7) _ _ _ _ _ :: _) _ _); refine kYw (yAddZ _ _ _ _ l 8 c f7.out rfl rfl rfl rfl) ?_; go_frame)
      | ((with_reducible change wpList _ _ _ (Oper.mk (some 8) _ _ _ _ _ :: _) _ _); refine kYw (ySubZ _ _ _ _ c 1 d f8.out rfl rfl rfl rfl) ?_; go_frame)
      | ((with_reducible change wpList _ _ _ (Oper.mk (some 9) _ _ _ _ _ :: _) _ _); refine kYw (yQuoN .i64 _ _ _ _ d 8 s f9.out rfl rfl rfl rfl) ?_; go_frame)
      | ((with_reducible change wpList _ _ _ (Oper.mk (some 10) _ _ _ _ _ :: _) _ _); refine kLoadRow _ _ _ _ _ _ rfl rfl rfl (hM2.get 0 rfl) Try.underlying24 rfl (info_WideC _) ?_; go_frame)
      | ((with_reducible change wpList _ _ _ (Oper.mk (some 12) _ _ _ _ _ :: _) _ _); refine kYw (ySubZ _ _ _ _ 3 s u f12.out rfl rfl rfl rfl) ?_; go_frame)
      | (go_at_call 28; (with_reducible change Calls _ _ #[Value.agg (wcells n), Value.int .i64 (u)] _ _); refine (kMoved_as hn f13.out.1 f13.out.2 _).mono ?_; rintro e w3 ⟨rfl, hB3⟩; have hM3 := hM2.on hB3; clear hB3 hM2; (try unfold WV); go_frame)
      | ((with_reducible change wpList _ _ _ (Oper.mk (some 14) _ _ _ _ _ :: _) _ _); refine kIndex 24 22 _ _ .i64 (wcells t) 0 0 4 _ _ rfl rfl rfl rfl Try.underlying24 Try.underlying22 rfl info_w64 rfl (by decide) f14.out ?_; go_frame)
      | ((with_reducible change wpList _ _ _ (Oper.mk (some 15) _ _ _ _ _ :: _) _ _); refine kYw (yConvK Try.underlying22 Try.underlying28 _ t t f15.out rfl rfl rfl) ?_; go_frame)
      | ((with_reducible change wpList _ _ _ (Oper.mk (some 17) _ _ _ _ _ :: _) _ _); refine kYw (yGtrK _ _ _ _ .u32 t 8388607 true f17.out rfl rfl rfl rfl) ?_; go_frame)
      | ((with_reducible change wpList _ _ _ (Oper.mk (some 19) _ _ _ _ _ :: _) _ _); refine kYw (yShrN .u32 _ _ _ _ t 8 t2 f19.out rfl rfl rfl rfl) ?_; go_frame)
      | ((with_reducible change wpList _ _ _ (Oper.mk (some 21) _ _ _ _ _ :: _) _ _); refine kYw (yAddZ _ _ _ _ s 1 s2 f21.out rfl rfl rfl rfl) ?_; go_frame)
      | ((with_reducible change wpList _ _ _ (Oper.mk (some 24) _ _ _ _ _ :: _) _ _); refine kYw (yConvK Try.underlying3 Try.underlying28 _ s2 s2 f24.out rfl rfl rfl) ?_; go_frame)
      | ((with_reducible change wpList _ _ _ (Oper.mk (some 25) _ _ _ _ _ :: _) _ _); refine kYw (yShlN .u32 _ _ _ _ s2 24 x f25.out rfl rfl rfl rfl) ?_; go_frame)
      | ((with_reducible change wpList _ _ _ (Oper.mk (some 26) _ _ _ _ _ :: _) _ _); refine kYw (yOrW _ _ _ _ t2 x r f26.out rfl rfl rfl rfl) ?_; go_frame))
    go_ret
    exact ⟨rfl, hM3.below⟩
end Go.Proofs.Ytdeggdmoijfhdaa
