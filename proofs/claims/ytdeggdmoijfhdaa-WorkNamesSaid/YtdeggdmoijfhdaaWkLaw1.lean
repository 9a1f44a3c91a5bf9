/-
  bynamelaw12.WorkNames, walked.
-/
import Derived.Test.YtdeggdmoijfhdaaWkLaw0
namespace Go.Proofs.Ytdeggdmoijfhdaa
open Go Go.RowKit

theorem bad_a : badN 545259520 := by decide +kernel
theorem bad_b : badN 553713664 := by decide +kernel
theorem bad_c : badN 0 := by decide +kernel
theorem bad_d : badN 4286578687 := by decide +kernel
theorem fine_e : ¬ badN 486604799 := by decide +kernel
theorem raw_e : blen (rawN 486604799) = 224 := by
  have h : rawN 486604799 = 26959535291011309493156476344723991336010898738574164086137773096960 := by decide +kernel
  rw [h]
  exact blen_unique _ 224 (by decide +kernel) (.inr (by decide +kernel))
set_option maxRecDepth 100000 in
theorem kMedian_nil (w : World) : Calls Try.prog 12 #[.slice none 0 0] w fun e w' => e = .returned (.int .u32 0) ∧ Below w.heap.size w w' := by
  go_enter Try.func12, Try.ntmps12
  go_wp2_with (first
    | ((with_reducible change wpList _ _ _ (Oper.mk (some 4) _ _ _ _ _ :: _) _ _); refine kLenN _ _ _ _ [] 0 rfl rfl rfl (isVals_nil w) rfl Try.underlying45 ?_; go_frame)
    | ((with_reducible change wpList _ _ _ (Oper.mk (some 5) _ _ _ _ _ :: _) _ _); refine kYw (yEqlK _ _ _ _ .i64 0 0 true rfl rfl rfl rfl rfl) ?_; go_frame))
  go_ret
  exact ⟨rfl, Below.refl _ _⟩
set_option maxRecDepth 100000 in
set_option maxHeartbeats 32000000 in
theorem WorkNames_any (w : World) : Calls Try.prog 3 #[] w (fun e w' => e = .returned (.bool true) ∧ Below w.heap.size w w') := by
  obtain ⟨t, Ht⟩ : ∃ v_ : Nat, Hid (rawN 486604799 = v_) := ⟨_, Lib.hid rfl⟩
  obtain ⟨L, HL⟩ : ∃ v_ : Nat, Hid (blen t = v_) := ⟨_, Lib.hid rfl⟩
  obtain ⟨c, Hc⟩ : ∃ v_ : Nat, Hid (compactN 0 = v_) := ⟨_, Lib.hid rfl⟩
  obtain ⟨r, Hr⟩ : ∃ v_ : Nat, Hid (nextN 0 1 2 = v_) := ⟨_, Lib.hid rfl⟩
  have ht : t < M256 := by rw [← Ht.out]; exact raw_lt fine_e
  have hL : L = 224 := by rw [← HL.out, ← Ht.out]; exact raw_e
  have hc : c = 0 := by rw [← Hc.out]; exact compactN_zero
  have hr : r = 545259519 := by rw [← Hr.out]; exact next_bad 1 2 bad_c
  have f63 : Hid (decide ((L : Int) = 224) = true) := Lib.hid (by simp; omega)
  have f72 : Hid (decide ((c : Int) = 0) = true) := Lib.hid (by simp; omega)
  have f76 : Hid (decide ((r : Int) = 545259519) = true) := Lib.hid (by simp; omega)
  have h0 : 0 < M256 := M256_pos
  clear hL hc hr
  have hM0 := mm_nil w
  (try unfold WV)
  go_enter Try.func3, Try.ntmps3
  go_wp2_with (first
    | (go_at_call 9; (with_reducible change Calls _ _ #[Value.int .u32 (545259520)] _ _); refine (kExpand_badL (b := 545259520) rfl (by decide) bad_a _).mono ?_; rintro e w1 ⟨rfl, hB1⟩; have hM1 := hM0.on hB1; clear hB1 hM0; (try unfold WV); go_frame)
    | ((with_reducible change wpList _ _ _ (Oper.mk (some 1) _ _ _ _ _ :: _) _ _); refine mmAlloc hM1 _ _ rfl rfl zero_Wide ?_; intro w2 hM2; clear hM1; go_frame)
    | ((with_reducible change wpList _ _ _ (Oper.mk none (Op.store _ (Operand.tmp 1) (Operand.tmp 13)) _ _ _ _ :: _) _ _); refine mmStoreAt hM2 0 _ _ _ _ _ _ (wcells 0) rfl rfl rfl rfl rfl (info_WideC _) (by simp only [wcells_size]) (wcells_one _) ?_; intro w3 hM3; dsimp only [List.set] at hM3; clear hM2; go_frame)
    | (go_at_call 9; (with_reducible change Calls _ _ #[Value.int .u32 (553713664)] _ _); refine (kExpand_badL (b := 553713664) rfl (by decide) bad_b _).mono ?_; rintro e w4 ⟨rfl, hB4⟩; have hM4 := hM3.on hB4; clear hB4 hM3; (try unfold WV); go_frame)
    | ((with_reducible change wpList _ _ _ (Oper.mk (some 3) _ _ _ _ _ :: _) _ _); refine mmAlloc hM4 _ _ rfl rfl zero_Wide ?_; intro w5 hM5; clear hM4; go_frame)
    | ((with_reducible change wpList _ _ _ (Oper.mk none (Op.store _ (Operand.tmp 3) (Operand.tmp 17)) _ _ _ _ :: _) _ _); refine mmStoreAt hM5 0 _ _ _ _ _ _ (wcells 0) rfl rfl rfl rfl rfl (info_WideC _) (by simp only [wcells_size]) (wcells_one _) ?_; intro w6 hM6; dsimp only [List.set] at hM6; clear hM5; go_frame)
    | (go_at_call 9; (with_reducible change Calls _ _ #[Value.int .u32 (0)] _ _); refine (kExpand_badL (b := 0) rfl (by decide) bad_c _).mono ?_; rintro e w7 ⟨rfl, hB7⟩; have hM7 := hM6.on hB7; clear hB7 hM6; (try unfold WV); go_frame)
    | ((with_reducible change wpList _ _ _ (Oper.mk (some 5) _ _ _ _ _ :: _) _ _); refine mmAlloc hM7 _ _ rfl rfl zero_Wide ?_; intro w8 hM8; clear hM7; go_frame)
    | ((with_reducible change wpList _ _ _ (Oper.mk none (Op.store _ (Operand.tmp 5) (Operand.tmp 21)) _ _ _ _ :: _) _ _); refine mmStoreAt hM8 0 _ _ _ _ _ _ (wcells 0) rfl rfl rfl rfl rfl (info_WideC _) (by simp only [wcells_size]) (wcells_one _) ?_; intro w9 hM9; dsimp only [List.set] at hM9; clear hM8; go_frame)
    | (go_at_call 9; (with_reducible change Calls _ _ #[Value.int .u32 (4286578687)] _ _); refine (kExpand_badL (b := 4286578687) rfl (by decide) bad_d _).mono ?_; rintro e w10 ⟨rfl, hB10⟩; have hM10 := hM9.on hB10; clear hB10 hM9; (try unfold WV); go_frame)
    | ((with_reducible change wpList _ _ _ (Oper.mk (some 7) _ _ _ _ _ :: _) _ _); refine mmAlloc hM10 _ _ rfl rfl zero_Wide ?_; intro w11 hM11; clear hM10; go_frame)
    | ((with_reducible change wpList _ _ _ (Oper.mk none (Op.store _ (Operand.tmp 7) (Operand.tmp 25)) _ _ _ _ :: _) _ _); refine mmStoreAt hM11 0 _ _ _ _ _ _ (wcells 0) rfl rfl rfl rfl rfl (info_WideC _) (by simp only [wcells_size]) (wcells_one _) ?_; intro w12 hM12; dsimp only [List.set] at hM12; clear hM11; go_frame)
    | (go_at_call 9; (with_reducible change Calls _ _ #[Value.int .u32 (486604799)] _ _); refine (kExpand_okL (b := 486604799) rfl (by decide) fine_e Ht.out _).mono ?_; rintro e w13 ⟨rfl, hB13⟩; have hM13 := hM12.on hB13; clear hB13 hM12; (try unfold WV); go_frame)
    | ((with_reducible change wpList _ _ _ (Oper.mk (some 9) _ _ _ _ _ :: _) _ _); refine mmAlloc hM13 _ _ rfl rfl zero_Wide ?_; intro w14 hM14; clear hM13; go_frame)
    | ((with_reducible change wpList _ _ _ (Oper.mk none (Op.store _ (Operand.tmp 9) (Operand.tmp 29)) _ _ _ _ :: _) _ _); refine mmStoreAt hM14 0 _ _ _ _ _ _ (wcells t) rfl rfl rfl rfl rfl (info_WideC _) (by simp only [wcells_size]) (wcells_one _) ?_; intro w15 hM15; dsimp only [List.set] at hM15; clear hM14; go_frame)
    | (go_at_call 10; refine (workAlive_any _).mono ?_; rintro e w16 ⟨rfl, hB16⟩; have hM16 := hM15.on hB16; clear hB16 hM15; (try unfold WV); go_frame)
    | ((with_reducible change wpList _ _ _ (Oper.mk (some 42) _ _ _ _ _ :: _) _ _); refine kEqlI _ _ _ _ .i64 (121) (121) true rfl rfl rfl rfl (by decide) ?_; go_frame)
    | ((with_reducible change wpList _ _ _ (Oper.mk (some 46) _ _ _ _ _ :: _) _ _); refine kEqlI _ _ _ _ .i64 (121) (121) true rfl rfl rfl rfl (by decide) ?_; go_frame)
    | ((with_reducible change wpList _ _ _ (Oper.mk (some 50) _ _ _ _ _ :: _) _ _); refine kEqlI _ _ _ _ .i64 (121) (121) true rfl rfl rfl rfl (by decide) ?_; go_frame)
    | ((with_reducible change wpList _ _ _ (Oper.mk (some 54) _ _ _ _ _ :: _) _ _); refine kEqlI _ _ _ _ .i64 (121) (121) true rfl rfl rfl rfl (by decide) ?_; go_frame)
    | ((with_reducible change wpList _ _ _ (Oper.mk (some 58) _ _ _ _ _ :: _) _ _); refine kEqlI _ _ _ _ .i64 (0) (0) true rfl rfl rfl rfl (by decide) ?_; go_frame)
    | ((with_reducible change wpList _ _ _ (Oper.mk (some 61) _ _ _ _ _ :: _) _ _); refine kLoadRow _ _ _ _ _ _ rfl rfl rfl (hM16.get 0 rfl) Try.underlying24 rfl (info_WideC _) ?_; go_frame)
    | (go_at_call 11; (with_reducible change Calls _ _ #[Value.agg (wcells t)] _ _); refine (wBits_k ht HL.out _).mono ?_; rintro e w17 ⟨rfl, hB17⟩; have hM17 := hM16.on hB17; clear hB17 hM16; (try unfold WV); go_frame)
    | ((with_reducible change wpList _ _ _ (Oper.mk (some 63) _ _ _ _ _ :: _) _ _); refine kYw (yEqlK _ _ _ _ .i64 (L) (224) true f63.out rfl rfl rfl rfl) ?_; go_frame)
    | (go_at_call 12; (with_reducible change Calls _ _ #[Value.slice none 0 0] _ _); refine (kMedian_nil _).mono ?_; rintro e w18 ⟨rfl, hB18⟩; have hM18 := hM17.on hB18; clear hB18 hM17; (try unfold WV); go_frame)
    | ((with_reducible change wpList _ _ _ (Oper.mk (some 67) _ _ _ _ _ :: _) _ _); refine kYw (yEqlK _ _ _ _ .u32 (0) (0) true rfl rfl rfl rfl rfl) ?_; go_frame)
    | ((with_reducible change wpList _ _ _ (Oper.mk (some 70) _ _ _ _ _ :: _) _ _); refine kBuildW0 rfl rfl ?_; go_frame)
    | (go_at_call 13; (with_reducible change Calls _ _ #[Value.agg (wcells 0)] _ _); refine (kCompact_as h0 Hc.out _).mono ?_; rintro e w19 ⟨rfl, hB19⟩; have hM19 := hM18.on hB19; clear hB19 hM18; (try unfold WV); go_frame)
    | ((with_reducible change wpList _ _ _ (Oper.mk (some 72) _ _ _ _ _ :: _) _ _); refine kYw (yEqlK _ _ _ _ .u32 (c) (0) true f72.out rfl rfl rfl rfl) ?_; go_frame)
    | (go_at_call 14; (with_reducible change Calls _ _ #[Value.int .u32 (0), Value.int .u32 (1), Value.int .u32 (2)] _ _); refine (kNext_asL (b := 0) (f := 1) (l := 2) rfl rfl rfl (by decide) (by decide) (by decide) Hr.out _).mono ?_; rintro e w20 ⟨rfl, hB20⟩; have hM20 := hM19.on hB20; clear hB20 hM19; (try unfold WV); go_frame)
    | ((with_reducible change wpList _ _ _ (Oper.mk (some 76) _ _ _ _ _ :: _) _ _); refine kYw (yEqlK _ _ _ _ .u32 (r) (545259519) true f76.out rfl rfl rfl rfl) ?_; go_frame))
  go_ret
  exact ⟨rfl, hM20.below⟩
end Go.Proofs.Ytdeggdmoijfhdaa
