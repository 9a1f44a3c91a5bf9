/-
  bynamelaw12.WorkBack, walked.
-/
import Derived.Test.YtdeggdmoijfhdaaWkLaw0
import Derived.Test.YtdeggdmoijfhdaaKit12
namespace Go.Proofs.Ytdeggdmoijfhdaa
open Go Go.RowKit

set_option maxRecDepth 100000 in
set_option maxHeartbeats 32000000 in
theorem back_ok_over (a : Nat) (ha : a < M256) (b : Nat) (hb : b < 4294967296) (w : World) {E : Nat} (fE : Hid (rawN 545259519 = E)) (hE : E < M256) {t c : Nat} (h : Hid (¬ badN b)) (Ht : Hid (rawN b = t)) (ht : t < M256) (Hc : Hid (compactN t = c)) (hc : c < 4294967296) (g : Hid (¬ badN c)) (Hu : Hid (rawN c = t)) (hd : Hid (decide (E < a) = true))  : Calls Try.prog 8 #[WV a, .int .u32 (b : Int)] w (fun e w' => e = .returned (.bool true) ∧ Below w.heap.size w w') := by
  have hM0 := mm_nil w
  (try unfold WV)
  go_enter Try.func8, Try.ntmps8
  go_wp2_with (first
    | ((with_reducible change wpList _ _ _ (Oper.mk (some 2) _ _ _ _ _ :: _) _ _); refine mmBox hM0 _ _ (wcells a) rfl rfl rfl ?_; intro w1 hM1; clear hM0; go_frame)
    | (go_at_call 10; refine (workAlive_any _).mono ?_; rintro e w2 ⟨rfl, hB2⟩; have hM2 := hM1.on hB2; clear hB2 hM1; (try unfold WV); go_frame)
    | (go_at_call 9; (with_reducible change Calls _ _ #[Value.int .u32 ((b : Int))] _ _); refine (kExpand_ok hb h.out Ht.out _).mono ?_; rintro e w3 ⟨rfl, hB3⟩; have hM3 := hM2.on hB3; clear hB3 hM2; (try unfold WV); go_frame)
    | ((with_reducible change wpList _ _ _ (Oper.mk (some 5) _ _ _ _ _ :: _) _ _); refine mmAlloc hM3 _ _ rfl rfl zero_Wide ?_; intro w4 hM4; clear hM3; go_frame)
    | ((with_reducible change wpList _ _ _ (Oper.mk none (Op.store _ (Operand.tmp 5) (Operand.tmp 20)) _ _ _ _ :: _) _ _); refine mmStoreAt hM4 0 _ _ _ _ _ _ (wcells t) rfl rfl rfl rfl rfl (info_WideC _) (by simp only [wcells_size]) (wcells_one _) ?_; intro w5 hM5; dsimp only [List.set] at hM5; clear hM4; go_frame)
    | ((with_reducible change wpList _ _ _ (Oper.mk (some 23) _ _ _ _ _ :: _) _ _); refine kYw (yEqlK _ _ _ _ .i64 (0) (0) true rfl rfl rfl rfl rfl) ?_; go_frame)
    | ((with_reducible change wpList _ _ _ (Oper.mk (some 25) _ _ _ _ _ :: _) _ _); refine kLoadRow _ _ _ _ _ _ rfl rfl rfl (hM5.get 0 rfl) Try.underlying24 rfl (info_WideC _) ?_; go_frame)
    | (go_at_call 13; (with_reducible change Calls _ _ #[Value.agg (wcells t)] _ _); refine (kCompact_as ht Hc.out _).mono ?_; rintro e w6 ⟨rfl, hB6⟩; have hM6 := hM5.on hB6; clear hB6 hM5; (try unfold WV); go_frame)
    | (go_at_call 9; (with_reducible change Calls _ _ #[Value.int .u32 ((c : Int))] _ _); refine (kExpand_ok hc g.out Hu.out _).mono ?_; rintro e w7 ⟨rfl, hB7⟩; have hM7 := hM6.on hB7; clear hB7 hM6; (try unfold WV); go_frame)
    | ((with_reducible change wpList _ _ _ (Oper.mk (some 7) _ _ _ _ _ :: _) _ _); refine mmAlloc hM7 _ _ rfl rfl zero_Wide ?_; intro w8 hM8; clear hM7; go_frame)
    | ((with_reducible change wpList _ _ _ (Oper.mk none (Op.store _ (Operand.tmp 7) (Operand.tmp 28)) _ _ _ _ :: _) _ _); refine mmStoreAt hM8 0 _ _ _ _ _ _ (wcells t) rfl rfl rfl rfl rfl (info_WideC _) (by simp only [wcells_size]) (wcells_one _) ?_; intro w9 hM9; dsimp only [List.set] at hM9; clear hM8; go_frame)
    | ((with_reducible change wpList _ _ _ (Oper.mk (some 31) _ _ _ _ _ :: _) _ _); refine kYw (yNeqK _ _ _ _ .i64 0 0 false rfl rfl rfl rfl rfl) ?_; go_frame)
    | ((with_reducible change wpList _ _ _ (Oper.mk (some 33) _ _ _ _ _ :: _) _ _); refine kLoadRow _ _ _ _ _ _ rfl rfl rfl (hM9.get 0 rfl) Try.underlying24 rfl (info_WideC _) ?_; go_frame)
    | ((with_reducible change wpList _ _ _ (Oper.mk (some 34) _ _ _ _ _ :: _) _ _); refine kLoadRow _ _ _ _ _ _ rfl rfl rfl (hM9.get 1 rfl) Try.underlying24 rfl (info_WideC _) ?_; go_frame)
    | ((with_reducible change wpList _ _ _ (Oper.mk (some 35) _ _ _ _ _ :: _) _ _); refine kNeqW _ _ _ (t) (t) false rfl rfl rfl rfl (nsame_W t) ?_; go_frame)
    | (go_at_call 9; (with_reducible change Calls _ _ #[Value.int .u32 (545259519)] _ _); refine (kExpand_okL (b := 545259519) rfl (by decide) easy_fine fE.out _).mono ?_; rintro e w10 ⟨rfl, hB10⟩; have hM10 := hM9.on hB10; clear hB10 hM9; (try unfold WV); go_frame)
    | ((with_reducible change wpList _ _ _ (Oper.mk (some 9) _ _ _ _ _ :: _) _ _); refine mmAlloc hM10 _ _ rfl rfl zero_Wide ?_; intro w11 hM11; clear hM10; go_frame)
    | ((with_reducible change wpList _ _ _ (Oper.mk none (Op.store _ (Operand.tmp 9) (Operand.tmp 39)) _ _ _ _ :: _) _ _); refine mmStoreAt hM11 0 _ _ _ _ _ _ (wcells E) rfl rfl rfl rfl rfl (info_WideC _) (by simp only [wcells_size]) (wcells_one _) ?_; intro w12 hM12; dsimp only [List.set] at hM12; clear hM11; go_frame)
    | ((with_reducible change wpList _ _ _ (Oper.mk (some 41) _ _ _ _ _ :: _) _ _); refine kLoadRow _ _ _ _ _ _ rfl rfl rfl (hM12.get 0 rfl) Try.underlying24 rfl (info_WideC _) ?_; go_frame)
    | ((with_reducible change wpList _ _ _ (Oper.mk (some 42) _ _ _ _ _ :: _) _ _); refine kLoadRow _ _ _ _ _ _ rfl rfl rfl (hM12.get 3 rfl) Try.underlying24 rfl (info_WideC _) ?_; go_frame)
    | (go_at_call 23; (with_reducible change Calls _ _ #[Value.agg (wcells E), Value.agg (wcells a)] _ _); refine (wLess_k hE ha hd.out _).mono ?_; rintro e w13 ⟨rfl, hB13⟩; have hM13 := hM12.on hB13; clear hB13 hM12; (try unfold WV); go_frame))
  go_ret
  exact ⟨rfl, hM13.below⟩
set_option maxRecDepth 100000 in
set_option maxHeartbeats 32000000 in
theorem back_ok_zero (a : Nat) (ha : a < M256) (b : Nat) (hb : b < 4294967296) (w : World) {E : Nat} (fE : Hid (rawN 545259519 = E)) (hE : E < M256) {t c : Nat} (h : Hid (¬ badN b)) (Ht : Hid (rawN b = t)) (ht : t < M256) (Hc : Hid (compactN t = c)) (hc : c < 4294967296) (g : Hid (¬ badN c)) (Hu : Hid (rawN c = t)) (hd : Hid (decide (E < a) = false)) (hz : Hid (decide (a % M256 = 0 % M256) = true))  : Calls Try.prog 8 #[WV a, .int .u32 (b : Int)] w (fun e w' => e = .returned (.bool true) ∧ Below w.heap.size w w') := by
  have hM0 := mm_nil w
  (try unfold WV)
  go_enter Try.func8, Try.ntmps8
  go_wp2_with (first
    | ((with_reducible change wpList _ _ _ (Oper.mk (some 2) _ _ _ _ _ :: _) _ _); refine mmBox hM0 _ _ (wcells a) rfl rfl rfl ?_; intro w1 hM1; clear hM0; go_frame)
    | (go_at_call 10; refine (workAlive_any _).mono ?_; rintro e w2 ⟨rfl, hB2⟩; have hM2 := hM1.on hB2; clear hB2 hM1; (try unfold WV); go_frame)
    | (go_at_call 9; (with_reducible change Calls _ _ #[Value.int .u32 ((b : Int))] _ _); refine (kExpand_ok hb h.out Ht.out _).mono ?_; rintro e w3 ⟨rfl, hB3⟩; have hM3 := hM2.on hB3; clear hB3 hM2; (try unfold WV); go_frame)
    | ((with_reducible change wpList _ _ _ (Oper.mk (some 5) _ _ _ _ _ :: _) _ _); refine mmAlloc hM3 _ _ rfl rfl zero_Wide ?_; intro w4 hM4; clear hM3; go_frame)
    | ((with_reducible change wpList _ _ _ (Oper.mk none (Op.store _ (Operand.tmp 5) (Operand.tmp 20)) _ _ _ _ :: _) _ _); refine mmStoreAt hM4 0 _ _ _ _ _ _ (wcells t) rfl rfl rfl rfl rfl (info_WideC _) (by simp only [wcells_size]) (wcells_one _) ?_; intro w5 hM5; dsimp only [List.set] at hM5; clear hM4; go_frame)
    | ((with_reducible change wpList _ _ _ (Oper.mk (some 23) _ _ _ _ _ :: _) _ _); refine kYw (yEqlK _ _ _ _ .i64 (0) (0) true rfl rfl rfl rfl rfl) ?_; go_frame)
    | ((with_reducible change wpList _ _ _ (Oper.mk (some 25) _ _ _ _ _ :: _) _ _); refine kLoadRow _ _ _ _ _ _ rfl rfl rfl (hM5.get 0 rfl) Try.underlying24 rfl (info_WideC _) ?_; go_frame)
    | (go_at_call 13; (with_reducible change Calls _ _ #[Value.agg (wcells t)] _ _); refine (kCompact_as ht Hc.out _).mono ?_; rintro e w6 ⟨rfl, hB6⟩; have hM6 := hM5.on hB6; clear hB6 hM5; (try unfold WV); go_frame)
    | (go_at_call 9; (with_reducible change Calls _ _ #[Value.int .u32 ((c : Int))] _ _); refine (kExpand_ok hc g.out Hu.out _).mono ?_; rintro e w7 ⟨rfl, hB7⟩; have hM7 := hM6.on hB7; clear hB7 hM6; (try unfold WV); go_frame)
    | ((with_reducible change wpList _ _ _ (Oper.mk (some 7) _ _ _ _ _ :: _) _ _); refine mmAlloc hM7 _ _ rfl rfl zero_Wide ?_; intro w8 hM8; clear hM7; go_frame)
    | ((with_reducible change wpList _ _ _ (Oper.mk none (Op.store _ (Operand.tmp 7) (Operand.tmp 28)) _ _ _ _ :: _) _ _); refine mmStoreAt hM8 0 _ _ _ _ _ _ (wcells t) rfl rfl rfl rfl rfl (info_WideC _) (by simp only [wcells_size]) (wcells_one _) ?_; intro w9 hM9; dsimp only [List.set] at hM9; clear hM8; go_frame)
    | ((with_reducible change wpList _ _ _ (Oper.mk (some 31) _ _ _ _ _ :: _) _ _); refine kYw (yNeqK _ _ _ _ .i64 0 0 false rfl rfl rfl rfl rfl) ?_; go_frame)
    | ((with_reducible change wpList _ _ _ (Oper.mk (some 33) _ _ _ _ _ :: _) _ _); refine kLoadRow _ _ _ _ _ _ rfl rfl rfl (hM9.get 0 rfl) Try.underlying24 rfl (info_WideC _) ?_; go_frame)
    | ((with_reducible change wpList _ _ _ (Oper.mk (some 34) _ _ _ _ _ :: _) _ _); refine kLoadRow _ _ _ _ _ _ rfl rfl rfl (hM9.get 1 rfl) Try.underlying24 rfl (info_WideC _) ?_; go_frame)
    | ((with_reducible change wpList _ _ _ (Oper.mk (some 35) _ _ _ _ _ :: _) _ _); refine kNeqW _ _ _ (t) (t) false rfl rfl rfl rfl (nsame_W t) ?_; go_frame)
    | (go_at_call 9; (with_reducible change Calls _ _ #[Value.int .u32 (545259519)] _ _); refine (kExpand_okL (b := 545259519) rfl (by decide) easy_fine fE.out _).mono ?_; rintro e w10 ⟨rfl, hB10⟩; have hM10 := hM9.on hB10; clear hB10 hM9; (try unfold WV); go_frame)
    | ((with_reducible change wpList _ _ _ (Oper.mk (some 9) _ _ _ _ _ :: _) _ _); refine mmAlloc hM10 _ _ rfl rfl zero_Wide ?_; intro w11 hM11; clear hM10; go_frame)
    | ((with_reducible change wpList _ _ _ (Oper.mk none (Op.store _ (Operand.tmp 9) (Operand.tmp 39)) _ _ _ _ :: _) _ _); refine mmStoreAt hM11 0 _ _ _ _ _ _ (wcells E) rfl rfl rfl rfl rfl (info_WideC _) (by simp only [wcells_size]) (wcells_one _) ?_; intro w12 hM12; dsimp only [List.set] at hM12; clear hM11; go_frame)
    | ((with_reducible change wpList _ _ _ (Oper.mk (some 41) _ _ _ _ _ :: _) _ _); refine kLoadRow _ _ _ _ _ _ rfl rfl rfl (hM12.get 0 rfl) Try.underlying24 rfl (info_WideC _) ?_; go_frame)
    | ((with_reducible change wpList _ _ _ (Oper.mk (some 42) _ _ _ _ _ :: _) _ _); refine kLoadRow _ _ _ _ _ _ rfl rfl rfl (hM12.get 3 rfl) Try.underlying24 rfl (info_WideC _) ?_; go_frame)
    | (go_at_call 23; (with_reducible change Calls _ _ #[Value.agg (wcells E), Value.agg (wcells a)] _ _); refine (wLess_k hE ha hd.out _).mono ?_; rintro e w13 ⟨rfl, hB13⟩; have hM13 := hM12.on hB13; clear hB13 hM12; (try unfold WV); go_frame)
    | ((with_reducible change wpList _ _ _ (Oper.mk (some 45) _ _ _ _ _ :: _) _ _); refine kLoadRow _ _ _ _ _ _ rfl rfl rfl (hM13.get 3 rfl) Try.underlying24 rfl (info_WideC _) ?_; go_frame)
    | ((with_reducible change wpList _ _ _ (Oper.mk (some 46) _ _ _ _ _ :: _) _ _); refine kBuildW0 rfl rfl ?_; go_frame)
    | ((with_reducible change wpList _ _ _ (Oper.mk (some 47) _ _ _ _ _ :: _) _ _); refine kEqlW _ _ _ (a) (0) true rfl rfl rfl rfl (hz.out) ?_; go_frame))
  go_ret
  exact ⟨rfl, hM13.below⟩
set_option maxRecDepth 100000 in
set_option maxHeartbeats 32000000 in
theorem back_ok_else (a : Nat) (ha : a < M256) (b : Nat) (hb : b < 4294967296) (w : World) {E : Nat} (fE : Hid (rawN 545259519 = E)) (hE : E < M256) {t c : Nat} (h : Hid (¬ badN b)) (Ht : Hid (rawN b = t)) (ht : t < M256) (Hc : Hid (compactN t = c)) (hc : c < 4294967296) (g : Hid (¬ badN c)) (Hu : Hid (rawN c = t)) (hd : Hid (decide (E < a) = false)) (hz : Hid (decide (a % M256 = 0 % M256) = false)) {d v l L N : Nat} (Hd : Hid (compactN a = d)) (hdl : d < 4294967296) (k : Hid (¬ badN d)) (Hv : Hid (rawN d = v)) (hv : v < M256) (f58 : Hid ((a + M256 - v) % M256 = l ∧ decide (a < v) = false)) (hl : l < M256) (HL : Hid (blen a = L)) (HM : Hid (blen v = L)) (HN : Hid (blen l = N)) {z m : Int} (f79 : Hid ((L : Int) - 15 = z ∧ -9223372036854775808 ≤ z ∧ z < 9223372036854775808)) (f80 : Hid ((if z > 0 then z else 0) = m)) (f81 : Hid (decide ((N : Int) ≤ m) = true))  : Calls Try.prog 8 #[WV a, .int .u32 (b : Int)] w (fun e w' => e = .returned (.bool true) ∧ Below w.heap.size w w') := by
  have hM0 := mm_nil w
  (try unfold WV)
  go_enter Try.func8, Try.ntmps8
  go_wp2_with (first
    | ((with_reducible change wpList _ _ _ (Oper.mk (some 2) _ _ _ _ _ :: _) _ _); refine mmBox hM0 _ _ (wcells a) rfl rfl rfl ?_; intro w1 hM1; clear hM0; go_frame)
    | (go_at_call 10; refine (workAlive_any _).mono ?_; rintro e w2 ⟨rfl, hB2⟩; have hM2 := hM1.on hB2; clear hB2 hM1; (try unfold WV); go_frame)
    | (go_at_call 9; (with_reducible change Calls _ _ #[Value.int .u32 ((b : Int))] _ _); refine (kExpand_ok hb h.out Ht.out _).mono ?_; rintro e w3 ⟨rfl, hB3⟩; have hM3 := hM2.on hB3; clear hB3 hM2; (try unfold WV); go_frame)
    | ((with_reducible change wpList _ _ _ (Oper.mk (some 5) _ _ _ _ _ :: _) _ _); refine mmAlloc hM3 _ _ rfl rfl zero_Wide ?_; intro w4 hM4; clear hM3; go_frame)
    | ((with_reducible change wpList _ _ _ (Oper.mk none (Op.store _ (Operand.tmp 5) (Operand.tmp 20)) _ _ _ _ :: _) _ _); refine mmStoreAt hM4 0 _ _ _ _ _ _ (wcells t) rfl rfl rfl rfl rfl (info_WideC _) (by simp only [wcells_size]) (wcells_one _) ?_; intro w5 hM5; dsimp only [List.set] at hM5; clear hM4; go_frame)
    | ((with_reducible change wpList _ _ _ (Oper.mk (some 23) _ _ _ _ _ :: _) _ _); refine kYw (yEqlK _ _ _ _ .i64 (0) (0) true rfl rfl rfl rfl rfl) ?_; go_frame)
    | ((with_reducible change wpList _ _ _ (Oper.mk (some 25) _ _ _ _ _ :: _) _ _); refine kLoadRow _ _ _ _ _ _ rfl rfl rfl (hM5.get 0 rfl) Try.underlying24 rfl (info_WideC _) ?_; go_frame)
    | (go_at_call 13; (with_reducible change Calls _ _ #[Value.agg (wcells t)] _ _); refine (kCompact_as ht Hc.out _).mono ?_; rintro e w6 ⟨rfl, hB6⟩; have hM6 := hM5.on hB6; clear hB6 hM5; (try unfold WV); go_frame)
    | (go_at_call 9; (with_reducible change Calls _ _ #[Value.int .u32 ((c : Int))] _ _); refine (kExpand_ok hc g.out Hu.out _).mono ?_; rintro e w7 ⟨rfl, hB7⟩; have hM7 := hM6.on hB7; clear hB7 hM6; (try unfold WV); go_frame)
    | ((with_reducible change wpList _ _ _ (Oper.mk (some 7) _ _ _ _ _ :: _) _ _); refine mmAlloc hM7 _ _ rfl rfl zero_Wide ?_; intro w8 hM8; clear hM7; go_frame)
    | ((with_reducible change wpList _ _ _ (Oper.mk none (Op.store _ (Operand.tmp 7) (Operand.tmp 28)) _ _ _ _ :: _) _ _); refine mmStoreAt hM8 0 _ _ _ _ _ _ (wcells t) rfl rfl rfl rfl rfl (info_WideC _) (by simp only [wcells_size]) (wcells_one _) ?_; intro w9 hM9; dsimp only [List.set] at hM9; clear hM8; go_frame)
    | ((with_reducible change wpList _ _ _ (Oper.mk (some 31) _ _ _ _ _ :: _) _ _); refine kYw (yNeqK _ _ _ _ .i64 0 0 false rfl rfl rfl rfl rfl) ?_; go_frame)
    | ((with_reducible change wpList _ _ _ (Oper.mk (some 33) _ _ _ _ _ :: _) _ _); refine kLoadRow _ _ _ _ _ _ rfl rfl rfl (hM9.get 0 rfl) Try.underlying24 rfl (info_WideC _) ?_; go_frame)
    | ((with_reducible change wpList _ _ _ (Oper.mk (some 34) _ _ _ _ _ :: _) _ _); refine kLoadRow _ _ _ _ _ _ rfl rfl rfl (hM9.get 1 rfl) Try.underlying24 rfl (info_WideC _) ?_; go_frame)
    | ((with_reducible change wpList _ _ _ (Oper.mk (some 35) _ _ _ _ _ :: _) _ _); refine kNeqW _ _ _ (t) (t) false rfl rfl rfl rfl (nsame_W t) ?_; go_frame)
    | (go_at_call 9; (with_reducible change Calls _ _ #[Value.int .u32 (545259519)] _ _); refine (kExpand_okL (b := 545259519) rfl (by decide) easy_fine fE.out _).mono ?_; rintro e w10 ⟨rfl, hB10⟩; have hM10 := hM9.on hB10; clear hB10 hM9; (try unfold WV); go_frame)
    | ((with_reducible change wpList _ _ _ (Oper.mk (some 9) _ _ _ _ _ :: _) _ _); refine mmAlloc hM10 _ _ rfl rfl zero_Wide ?_; intro w11 hM11; clear hM10; go_frame)
    | ((with_reducible change wpList _ _ _ (Oper.mk none (Op.store _ (Operand.tmp 9) (Operand.tmp 39)) _ _ _ _ :: _) _ _); refine mmStoreAt hM11 0 _ _ _ _ _ _ (wcells E) rfl rfl rfl rfl rfl (info_WideC _) (by simp only [wcells_size]) (wcells_one _) ?_; intro w12 hM12; dsimp only [List.set] at hM12; clear hM11; go_frame)
    | ((with_reducible change wpList _ _ _ (Oper.mk (some 41) _ _ _ _ _ :: _) _ _); refine kLoadRow _ _ _ _ _ _ rfl rfl rfl (hM12.get 0 rfl) Try.underlying24 rfl (info_WideC _) ?_; go_frame)
    | ((with_reducible change wpList _ _ _ (Oper.mk (some 42) _ _ _ _ _ :: _) _ _); refine kLoadRow _ _ _ _ _ _ rfl rfl rfl (hM12.get 3 rfl) Try.underlying24 rfl (info_WideC _) ?_; go_frame)
    | (go_at_call 23; (with_reducible change Calls _ _ #[Value.agg (wcells E), Value.agg (wcells a)] _ _); refine (wLess_k hE ha hd.out _).mono ?_; rintro e w13 ⟨rfl, hB13⟩; have hM13 := hM12.on hB13; clear hB13 hM12; (try unfold WV); go_frame)
    | ((with_reducible change wpList _ _ _ (Oper.mk (some 45) _ _ _ _ _ :: _) _ _); refine kLoadRow _ _ _ _ _ _ rfl rfl rfl (hM13.get 3 rfl) Try.underlying24 rfl (info_WideC _) ?_; go_frame)
    | ((with_reducible change wpList _ _ _ (Oper.mk (some 46) _ _ _ _ _ :: _) _ _); refine kBuildW0 rfl rfl ?_; go_frame)
    | ((with_reducible change wpList _ _ _ (Oper.mk (some 47) _ _ _ _ _ :: _) _ _); refine kEqlW _ _ _ (a) (0) false rfl rfl rfl rfl (hz.out) ?_; go_frame)
    | ((with_reducible change wpList _ _ _ (Oper.mk (some 50) _ _ _ _ _ :: _) _ _); refine kLoadRow _ _ _ _ _ _ rfl rfl rfl (hM13.get 3 rfl) Try.underlying24 rfl (info_WideC _) ?_; go_frame)
    | (go_at_call 13; (with_reducible change Calls _ _ #[Value.agg (wcells a)] _ _); refine (kCompact_as ha Hd.out _).mono ?_; rintro e w14 ⟨rfl, hB14⟩; have hM14 := hM13.on hB14; clear hB14 hM13; (try unfold WV); go_frame)
    | (go_at_call 9; (with_reducible change Calls _ _ #[Value.int .u32 ((d : Int))] _ _); refine (kExpand_ok hdl k.out Hv.out _).mono ?_; rintro e w15 ⟨rfl, hB15⟩; have hM15 := hM14.on hB15; clear hB15 hM14; (try unfold WV); go_frame)
    | ((with_reducible change wpList _ _ _ (Oper.mk (some 11) _ _ _ _ _ :: _) _ _); refine mmAlloc hM15 _ _ rfl rfl zero_Wide ?_; intro w16 hM16; clear hM15; go_frame)
    | ((with_reducible change wpList _ _ _ (Oper.mk none (Op.store _ (Operand.tmp 11) (Operand.tmp 53)) _ _ _ _ :: _) _ _); refine mmStoreAt hM16 0 _ _ _ _ _ _ (wcells v) rfl rfl rfl rfl rfl (info_WideC _) (by simp only [wcells_size]) (wcells_one _) ?_; intro w17 hM17; dsimp only [List.set] at hM17; clear hM16; go_frame)
    | ((with_reducible change wpList _ _ _ (Oper.mk (some 56) _ _ _ _ _ :: _) _ _); refine kLoadRow _ _ _ _ _ _ rfl rfl rfl (hM17.get 4 rfl) Try.underlying24 rfl (info_WideC _) ?_; go_frame)
    | ((with_reducible change wpList _ _ _ (Oper.mk (some 57) _ _ _ _ _ :: _) _ _); refine kLoadRow _ _ _ _ _ _ rfl rfl rfl (hM17.get 0 rfl) Try.underlying24 rfl (info_WideC _) ?_; go_frame)
    | (go_at_call 24; (with_reducible change Calls _ _ #[Value.agg (wcells a), Value.agg (wcells v)] _ _); refine (wSub_k ha hv f58.out _).mono ?_; rintro e w18 ⟨rfl, hB18⟩; have hM18 := hM17.on hB18; clear hB18 hM17; (try unfold WV); go_frame)
    | ((with_reducible change wpList _ _ _ (Oper.mk (some 13) _ _ _ _ _ :: _) _ _); refine mmAlloc hM18 _ _ rfl rfl zero_Wide ?_; intro w19 hM19; clear hM18; go_frame)
    | ((with_reducible change wpList _ _ _ (Oper.mk none (Op.store _ (Operand.tmp 13) (Operand.tmp 59)) _ _ _ _ :: _) _ _); refine mmStoreAt hM19 0 _ _ _ _ _ _ (wcells l) rfl rfl rfl rfl rfl (info_WideC _) (by simp only [wcells_size]) (wcells_one _) ?_; intro w20 hM20; dsimp only [List.set] at hM20; clear hM19; go_frame))
  refine region_symT 23 _ [] [] [.val (.int .i64 (0)), .val (.bool true), .val (.bool true), .val (.bool false), .val (.bool true), .val (.bool true), .val (.bool true), .val (.agg (wcells v)), .val (.int .i64 ((L : Int))), .val (.agg (wcells a)), .val (.int .i64 ((L : Int))), .val (.bool true), .val (.bool true), .val (.bool true), .val (.agg (wcells l)), .val (.int .i64 ((N : Int))), .val (.agg (wcells a)), .val (.int .i64 ((L : Int))), .val (.int .i64 (z)), .val (.int .i64 (m)), .val (.bool true), .val (.bool true), .val (.bool true)] rfl (by kernel_rfl) (by kernel_rfl) (by kernel_rfl) (by kernel_rfl) rfl (by intro s hs; cases hs) (steps_all ⟨?_, ?_, ?_, ?_, ?_, ?_, ?_, ?_, ?_, ?_, ?_, ?_, ?_, ?_, ?_, ?_, ?_, ?_, ?_, ?_, ?_, ?_, ?_, trivial⟩) ?_
  · exact fun A W sz ot hbel ap dp => kMoveV _ _ rfl rfl (sO ot 12) (sE ap sz rfl)
  · exact fun A W sz ot hbel ap dp => kYw (yEqlK _ _ _ _ .i64 (0) (0) true rfl rfl rfl (sD dp 0 .data) rfl) (sE ap sz rfl)
  · exact fun A W sz ot hbel ap dp => kMoveV _ _ rfl rfl (sD dp 1 .data) (sE ap sz rfl)
  · exact fun A W sz ot hbel ap dp => kMoveV _ _ rfl (wanted_of rfl rfl (sD dp 2 .guard)) (sO ot 14) (sE ap sz rfl)
  · exact fun A W sz ot hbel ap dp => kNot _ _ false rfl (wanted_of rfl rfl (sD dp 2 .guard)) (sD dp 3 .data) (sE ap sz rfl)
  · exact fun A W sz ot hbel ap dp => kPick _ _ _ true (.bool true) rfl rfl (sD dp 2 .data) (sD dp 4 .data) (sE ap sz rfl)
  · exact fun A W sz ot hbel ap dp => kMoveV _ _ rfl rfl (sD dp 5 .data) (sE ap sz rfl)
  · exact fun A W sz ot hbel ap dp => kLoadRow _ _ _ _ _ _ rfl (wanted_of rfl rfl (sD dp 6 .guard)) (sO ot 11) ((hM20.get 1 rfl).on hbel) Try.underlying24 rfl (info_WideC _) (sE ap sz rfl)
  · exact fun A W sz ot hbel ap dp => sCall1 11 rfl (sD dp 7 .data) (sC (wBits_k hv HM.out W) ap sz (fun _ => rfl)) (wanted_of rfl rfl (sD dp 6 .chain))
  · exact fun A W sz ot hbel ap dp => kLoadRow _ _ _ _ _ _ rfl (wanted_of rfl rfl (sD dp 6 .guard)) (sO ot 2) ((hM20.get 5 rfl).on hbel) Try.underlying24 rfl (info_WideC _) (sE ap sz rfl)
  · exact fun A W sz ot hbel ap dp => sCall1 11 rfl (sD dp 9 .data) (sC (wBits_k ha HL.out W) ap sz (fun _ => rfl)) (wanted_of rfl rfl (sD dp 6 .guard))
  · exact fun A W sz ot hbel ap dp => kYw (yEqlK _ _ _ _ .i64 ((L : Int)) ((L : Int)) true (by simp) rfl (wanted_of rfl rfl (sD dp 6 .guard)) (sD dp 8 .data) (sD dp 10 .data)) (sE ap sz rfl)
  · exact fun A W sz ot hbel ap dp => kPick _ _ _ true (.bool true) rfl rfl (sD dp 6 .data) (sD dp 11 .data) (sE ap sz rfl)
  · exact fun A W sz ot hbel ap dp => kMoveV _ _ rfl rfl (sD dp 12 .data) (sE ap sz rfl)
  · exact fun A W sz ot hbel ap dp => kLoadRow _ _ _ _ _ _ rfl (wanted_of rfl rfl (sD dp 13 .guard)) (sO ot 13) ((hM20.get 0 rfl).on hbel) Try.underlying24 rfl (info_WideC _) (sE ap sz rfl)
  · exact fun A W sz ot hbel ap dp => sCall1 11 rfl (sD dp 14 .data) (sC (wBits_k hl HN.out W) ap sz (fun _ => rfl)) (wanted_of rfl rfl (sD dp 13 .chain))
  · exact fun A W sz ot hbel ap dp => kLoadRow _ _ _ _ _ _ rfl (wanted_of rfl rfl (sD dp 13 .guard)) (sO ot 2) ((hM20.get 5 rfl).on hbel) Try.underlying24 rfl (info_WideC _) (sE ap sz rfl)
  · exact fun A W sz ot hbel ap dp => sCall1 11 rfl (sD dp 16 .data) (sC (wBits_k ha HL.out W) ap sz (fun _ => rfl)) (wanted_of rfl rfl (sD dp 13 .guard))
  · exact fun A W sz ot hbel ap dp => kYw (ySubZ _ _ _ _ (L : Int) 15 z f79.out rfl (wanted_of rfl rfl (sD dp 13 .guard)) (sD dp 17 .data) rfl) (sE ap sz rfl)
  · exact fun A W sz ot hbel ap dp => kYw (yMaxL _ _ 0 z m f80.out rfl (wanted_of rfl rfl (sD dp 13 .guard)) rfl (sD dp 18 .data)) (sE ap sz rfl)
  · exact fun A W sz ot hbel ap dp => kYw (yLeqK _ _ _ _ .i64 (N : Int) m true f81.out rfl (wanted_of rfl rfl (sD dp 13 .guard)) (sD dp 15 .data) (sD dp 19 .data)) (sE ap sz rfl)
  · exact fun A W sz ot hbel ap dp => kPick _ _ _ true (.bool true) rfl rfl (sD dp 13 .data) (sD dp 20 .data) (sE ap sz rfl)
  · exact fun A W sz ot hbel ap dp => kAssignV _ _ rfl rfl (sD dp 21 .data) (sE ap sz rfl)
  intro w21 hB21
  dsimp only [AllV]
  intro hap
  dsimp only [putAll, List.take, List.drop]
  go_frame
  have hM21 := hM20.on hB21
  clear hB21 hM20 hap
  go_wp2_with fail
  go_ret
  exact ⟨rfl, hM21.below⟩
set_option maxRecDepth 100000 in
set_option maxHeartbeats 32000000 in
theorem back_bad_over (a : Nat) (ha : a < M256) (b : Nat) (hb : b < 4294967296) (w : World) {E : Nat} (fE : Hid (rawN 545259519 = E)) (hE : E < M256) (h : Hid (badN b)) (hd : Hid (decide (E < a) = true))  : Calls Try.prog 8 #[WV a, .int .u32 (b : Int)] w (fun e w' => e = .returned (.bool true) ∧ Below w.heap.size w w') := by
  have hM0 := mm_nil w
  (try unfold WV)
  go_enter Try.func8, Try.ntmps8
  go_wp2_with (first
    | ((with_reducible change wpList _ _ _ (Oper.mk (some 2) _ _ _ _ _ :: _) _ _); refine mmBox hM0 _ _ (wcells a) rfl rfl rfl ?_; intro w1 hM1; clear hM0; go_frame)
    | (go_at_call 10; refine (workAlive_any _).mono ?_; rintro e w2 ⟨rfl, hB2⟩; have hM2 := hM1.on hB2; clear hB2 hM1; (try unfold WV); go_frame)
    | (go_at_call 9; (with_reducible change Calls _ _ #[Value.int .u32 ((b : Int))] _ _); refine (kExpand_bad hb h.out _).mono ?_; rintro e w3 ⟨rfl, hB3⟩; have hM3 := hM2.on hB3; clear hB3 hM2; (try unfold WV); go_frame)
    | ((with_reducible change wpList _ _ _ (Oper.mk (some 5) _ _ _ _ _ :: _) _ _); refine mmAlloc hM3 _ _ rfl rfl zero_Wide ?_; intro w4 hM4; clear hM3; go_frame)
    | ((with_reducible change wpList _ _ _ (Oper.mk none (Op.store _ (Operand.tmp 5) (Operand.tmp 20)) _ _ _ _ :: _) _ _); refine mmStoreAt hM4 0 _ _ _ _ _ _ (wcells 0) rfl rfl rfl rfl rfl (info_WideC _) (by simp only [wcells_size]) (wcells_one _) ?_; intro w5 hM5; dsimp only [List.set] at hM5; clear hM4; go_frame)
    | ((with_reducible change wpList _ _ _ (Oper.mk (some 23) _ _ _ _ _ :: _) _ _); refine kYw (yEqlK _ _ _ _ .i64 (121) (0) false rfl rfl rfl rfl rfl) ?_; go_frame)
    | (go_at_call 9; (with_reducible change Calls _ _ #[Value.int .u32 (545259519)] _ _); refine (kExpand_okL (b := 545259519) rfl (by decide) easy_fine fE.out _).mono ?_; rintro e w6 ⟨rfl, hB6⟩; have hM6 := hM5.on hB6; clear hB6 hM5; (try unfold WV); go_frame)
    | ((with_reducible change wpList _ _ _ (Oper.mk (some 9) _ _ _ _ _ :: _) _ _); refine mmAlloc hM6 _ _ rfl rfl zero_Wide ?_; intro w7 hM7; clear hM6; go_frame)
    | ((with_reducible change wpList _ _ _ (Oper.mk none (Op.store _ (Operand.tmp 9) (Operand.tmp 39)) _ _ _ _ :: _) _ _); refine mmStoreAt hM7 0 _ _ _ _ _ _ (wcells E) rfl rfl rfl rfl rfl (info_WideC _) (by simp only [wcells_size]) (wcells_one _) ?_; intro w8 hM8; dsimp only [List.set] at hM8; clear hM7; go_frame)
    | ((with_reducible change wpList _ _ _ (Oper.mk (some 41) _ _ _ _ _ :: _) _ _); refine kLoadRow _ _ _ _ _ _ rfl rfl rfl (hM8.get 0 rfl) Try.underlying24 rfl (info_WideC _) ?_; go_frame)
    | ((with_reducible change wpList _ _ _ (Oper.mk (some 42) _ _ _ _ _ :: _) _ _); refine kLoadRow _ _ _ _ _ _ rfl rfl rfl (hM8.get 2 rfl) Try.underlying24 rfl (info_WideC _) ?_; go_frame)
    | (go_at_call 23; (with_reducible change Calls _ _ #[Value.agg (wcells E), Value.agg (wcells a)] _ _); refine (wLess_k hE ha hd.out _).mono ?_; rintro e w9 ⟨rfl, hB9⟩; have hM9 := hM8.on hB9; clear hB9 hM8; (try unfold WV); go_frame))
  go_ret
  exact ⟨rfl, hM9.below⟩
set_option maxRecDepth 100000 in
set_option maxHeartbeats 32000000 in
theorem back_bad_zero (a : Nat) (ha : a < M256) (b : Nat) (hb : b < 4294967296) (w : World) {E : Nat} (fE : Hid (rawN 545259519 = E)) (hE : E < M256) (h : Hid (badN b)) (hd : Hid (decide (E < a) = false)) (hz : Hid (decide (a % M256 = 0 % M256) = true))  : Calls Try.prog 8 #[WV a, .int .u32 (b : Int)] w (fun e w' => e = .returned (.bool true) ∧ Below w.heap.size w w') := by
  have hM0 := mm_nil w
  (try unfold WV)
  go_enter Try.func8, Try.ntmps8
  go_wp2_with (first
    | ((with_reducible change wpList _ _ _ (Oper.mk (some 2) _ _ _ _ _ :: _) _ _); refine mmBox hM0 _ _ (wcells a) rfl rfl rfl ?_; intro w1 hM1; clear hM0; go_frame)
    | (go_at_call 10; refine (workAlive_any _).mono ?_; rintro e w2 ⟨rfl, hB2⟩; have hM2 := hM1.on hB2; clear hB2 hM1; (try unfold WV); go_frame)
    | (go_at_call 9; (with_reducible change Calls _ _ #[Value.int .u32 ((b : Int))] _ _); refine (kExpand_bad hb h.out _).mono ?_; rintro e w3 ⟨rfl, hB3⟩; have hM3 := hM2.on hB3; clear hB3 hM2; (try unfold WV); go_frame)
    | ((with_reducible change wpList _ _ _ (Oper.mk (some 5) _ _ _ _ _ :: _) _ _); refine mmAlloc hM3 _ _ rfl rfl zero_Wide ?_; intro w4 hM4; clear hM3; go_frame)
    | ((with_reducible change wpList _ _ _ (Oper.mk none (Op.store _ (Operand.tmp 5) (Operand.tmp 20)) _ _ _ _ :: _) _ _); refine mmStoreAt hM4 0 _ _ _ _ _ _ (wcells 0) rfl rfl rfl rfl rfl (info_WideC _) (by simp only [wcells_size]) (wcells_one _) ?_; intro w5 hM5; dsimp only [List.set] at hM5; clear hM4; go_frame)
    | ((with_reducible change wpList _ _ _ (Oper.mk (some 23) _ _ _ _ _ :: _) _ _); refine kYw (yEqlK _ _ _ _ .i64 (121) (0) false rfl rfl rfl rfl rfl) ?_; go_frame)
    | (go_at_call 9; (with_reducible change Calls _ _ #[Value.int .u32 (545259519)] _ _); refine (kExpand_okL (b := 545259519) rfl (by decide) easy_fine fE.out _).mono ?_; rintro e w6 ⟨rfl, hB6⟩; have hM6 := hM5.on hB6; clear hB6 hM5; (try unfold WV); go_frame)
    | ((with_reducible change wpList _ _ _ (Oper.mk (some 9) _ _ _ _ _ :: _) _ _); refine mmAlloc hM6 _ _ rfl rfl zero_Wide ?_; intro w7 hM7; clear hM6; go_frame)
    | ((with_reducible change wpList _ _ _ (Oper.mk none (Op.store _ (Operand.tmp 9) (Operand.tmp 39)) _ _ _ _ :: _) _ _); refine mmStoreAt hM7 0 _ _ _ _ _ _ (wcells E) rfl rfl rfl rfl rfl (info_WideC _) (by simp only [wcells_size]) (wcells_one _) ?_; intro w8 hM8; dsimp only [List.set] at hM8; clear hM7; go_frame)
    | ((with_reducible change wpList _ _ _ (Oper.mk (some 41) _ _ _ _ _ :: _) _ _); refine kLoadRow _ _ _ _ _ _ rfl rfl rfl (hM8.get 0 rfl) Try.underlying24 rfl (info_WideC _) ?_; go_frame)
    | ((with_reducible change wpList _ _ _ (Oper.mk (some 42) _ _ _ _ _ :: _) _ _); refine kLoadRow _ _ _ _ _ _ rfl rfl rfl (hM8.get 2 rfl) Try.underlying24 rfl (info_WideC _) ?_; go_frame)
    | (go_at_call 23; (with_reducible change Calls _ _ #[Value.agg (wcells E), Value.agg (wcells a)] _ _); refine (wLess_k hE ha hd.out _).mono ?_; rintro e w9 ⟨rfl, hB9⟩; have hM9 := hM8.on hB9; clear hB9 hM8; (try unfold WV); go_frame)
    | ((with_reducible change wpList _ _ _ (Oper.mk (some 45) _ _ _ _ _ :: _) _ _); refine kLoadRow _ _ _ _ _ _ rfl rfl rfl (hM9.get 2 rfl) Try.underlying24 rfl (info_WideC _) ?_; go_frame)
    | ((with_reducible change wpList _ _ _ (Oper.mk (some 46) _ _ _ _ _ :: _) _ _); refine kBuildW0 rfl rfl ?_; go_frame)
    | ((with_reducible change wpList _ _ _ (Oper.mk (some 47) _ _ _ _ _ :: _) _ _); refine kEqlW _ _ _ (a) (0) true rfl rfl rfl rfl (hz.out) ?_; go_frame))
  go_ret
  exact ⟨rfl, hM9.below⟩
set_option maxRecDepth 100000 in
set_option maxHeartbeats 32000000 in
theorem back_bad_else (a : Nat) (ha : a < M256) (b : Nat) (hb : b < 4294967296) (w : World) {E : Nat} (fE : Hid (rawN 545259519 = E)) (hE : E < M256) (h : Hid (badN b)) (hd : Hid (decide (E < a) = false)) (hz : Hid (decide (a % M256 = 0 % M256) = false)) {d v l L N : Nat} (Hd : Hid (compactN a = d)) (hdl : d < 4294967296) (k : Hid (¬ badN d)) (Hv : Hid (rawN d = v)) (hv : v < M256) (f58 : Hid ((a + M256 - v) % M256 = l ∧ decide (a < v) = false)) (hl : l < M256) (HL : Hid (blen a = L)) (HM : Hid (blen v = L)) (HN : Hid (blen l = N)) {z m : Int} (f79 : Hid ((L : Int) - 15 = z ∧ -9223372036854775808 ≤ z ∧ z < 9223372036854775808)) (f80 : Hid ((if z > 0 then z else 0) = m)) (f81 : Hid (decide ((N : Int) ≤ m) = true))  : Calls Try.prog 8 #[WV a, .int .u32 (b : Int)] w (fun e w' => e = .returned (.bool true) ∧ Below w.heap.size w w') := by
  have hM0 := mm_nil w
  (try unfold WV)
  go_enter Try.func8, Try.ntmps8
  go_wp2_with (first
    | ((with_reducible change wpList _ _ _ (Oper.mk (some 2) _ _ _ _ _ :: _) _ _); refine mmBox hM0 _ _ (wcells a) rfl rfl rfl ?_; intro w1 hM1; clear hM0; go_frame)
    | (go_at_call 10; refine (workAlive_any _).mono ?_; rintro e w2 ⟨rfl, hB2⟩; have hM2 := hM1.on hB2; clear hB2 hM1; (try unfold WV); go_frame)
    | (go_at_call 9; (with_reducible change Calls _ _ #[Value.int .u32 ((b : Int))] _ _); refine (kExpand_bad hb h.out _).mono ?_; rintro e w3 ⟨rfl, hB3⟩; have hM3 := hM2.on hB3; clear hB3 hM2; (try unfold WV); go_frame)
    | ((with_reducible change wpList _ _ _ (Oper.mk (some 5) _ _ _ _ _ :: _) _ _); refine mmAlloc hM3 _ _ rfl rfl zero_Wide ?_; intro w4 hM4; clear hM3; go_frame)
    | ((with_reducible change wpList _ _ _ (Oper.mk none (Op.store _ (Operand.tmp 5) (Operand.tmp 20)) _ _ _ _ :: _) _ _); refine mmStoreAt hM4 0 _ _ _ _ _ _ (wcells 0) rfl rfl rfl rfl rfl (info_WideC _) (by simp only [wcells_size]) (wcells_one _) ?_; intro w5 hM5; dsimp only [List.set] at hM5; clear hM4; go_frame)
    | ((with_reducible change wpList _ _ _ (Oper.mk (some 23) _ _ _ _ _ :: _) _ _); refine kYw (yEqlK _ _ _ _ .i64 (121) (0) false rfl rfl rfl rfl rfl) ?_; go_frame)
    | (go_at_call 9; (with_reducible change Calls _ _ #[Value.int .u32 (545259519)] _ _); refine (kExpand_okL (b := 545259519) rfl (by decide) easy_fine fE.out _).mono ?_; rintro e w6 ⟨rfl, hB6⟩; have hM6 := hM5.on hB6; clear hB6 hM5; (try unfold WV); go_frame)
    | ((with_reducible change wpList _ _ _ (Oper.mk (some 9) _ _ _ _ _ :: _) _ _); refine mmAlloc hM6 _ _ rfl rfl zero_Wide ?_; intro w7 hM7; clear hM6; go_frame)
    | ((with_reducible change wpList _ _ _ (Oper.mk none (Op.store _ (Operand.tmp 9) (Operand.tmp 39)) _ _ _ _ :: _) _ _); refine mmStoreAt hM7 0 _ _ _ _ _ _ (wcells E) rfl rfl rfl rfl rfl (info_WideC _) (by simp only [wcells_size]) (wcells_one _) ?_; intro w8 hM8; dsimp only [List.set] at hM8; clear hM7; go_frame)
    | ((with_reducible change wpList _ _ _ (Oper.mk (some 41) _ _ _ _ _ :: _) _ _); refine kLoadRow _ _ _ _ _ _ rfl rfl rfl (hM8.get 0 rfl) Try.underlying24 rfl (info_WideC _) ?_; go_frame)
    | ((with_reducible change wpList _ _ _ (Oper.mk (some 42) _ _ _ _ _ :: _) _ _); refine kLoadRow _ _ _ _ _ _ rfl rfl rfl (hM8.get 2 rfl) Try.underlying24 rfl (info_WideC _) ?_; go_frame)
    | (go_at_call 23; (with_reducible change Calls _ _ #[Value.agg (wcells E), Value.agg (wcells a)] _ _); refine (wLess_k hE ha hd.out _).mono ?_; rintro e w9 ⟨rfl, hB9⟩; have hM9 := hM8.on hB9; clear hB9 hM8; (try unfold WV); go_frame)
    | ((with_reducible change wpList _ _ _ (Oper.mk (some 45) _ _ _ _ _ :: _) _ _); refine kLoadRow _ _ _ _ _ _ rfl rfl rfl (hM9.get 2 rfl) Try.underlying24 rfl (info_WideC _) ?_; go_frame)
    | ((with_reducible change wpList _ _ _ (Oper.mk (some 46) _ _ _ _ _ :: _) _ _); refine kBuildW0 rfl rfl ?_; go_frame)
    | ((with_reducible change wpList _ _ _ (Oper.mk (some 47) _ _ _ _ _ :: _) _ _); refine kEqlW _ _ _ (a) (0) false rfl rfl rfl rfl (hz.out) ?_; go_frame)
    | ((with_reducible change wpList _ _ _ (Oper.mk (some 50) _ _ _ _ _ :: _) _ _); refine kLoadRow _ _ _ _ _ _ rfl rfl rfl (hM9.get 2 rfl) Try.underlying24 rfl (info_WideC _) ?_; go_frame)
    | (go_at_call 13; (with_reducible change Calls _ _ #[Value.agg (wcells a)] _ _); refine (kCompact_as ha Hd.out _).mono ?_; rintro e w10 ⟨rfl, hB10⟩; have hM10 := hM9.on hB10; clear hB10 hM9; (try unfold WV); go_frame)
    | (go_at_call 9; (with_reducible change Calls _ _ #[Value.int .u32 ((d : Int))] _ _); refine (kExpand_ok hdl k.out Hv.out _).mono ?_; rintro e w11 ⟨rfl, hB11⟩; have hM11 := hM10.on hB11; clear hB11 hM10; (try unfold WV); go_frame)
    | ((with_reducible change wpList _ _ _ (Oper.mk (some 11) _ _ _ _ _ :: _) _ _); refine mmAlloc hM11 _ _ rfl rfl zero_Wide ?_; intro w12 hM12; clear hM11; go_frame)
    | ((with_reducible change wpList _ _ _ (Oper.mk none (Op.store _ (Operand.tmp 11) (Operand.tmp 53)) _ _ _ _ :: _) _ _); refine mmStoreAt hM12 0 _ _ _ _ _ _ (wcells v) rfl rfl rfl rfl rfl (info_WideC _) (by simp only [wcells_size]) (wcells_one _) ?_; intro w13 hM13; dsimp only [List.set] at hM13; clear hM12; go_frame)
    | ((with_reducible change wpList _ _ _ (Oper.mk (some 56) _ _ _ _ _ :: _) _ _); refine kLoadRow _ _ _ _ _ _ rfl rfl rfl (hM13.get 3 rfl) Try.underlying24 rfl (info_WideC _) ?_; go_frame)
    | ((with_reducible change wpList _ _ _ (Oper.mk (some 57) _ _ _ _ _ :: _) _ _); refine kLoadRow _ _ _ _ _ _ rfl rfl rfl (hM13.get 0 rfl) Try.underlying24 rfl (info_WideC _) ?_; go_frame)
    | (go_at_call 24; (with_reducible change Calls _ _ #[Value.agg (wcells a), Value.agg (wcells v)] _ _); refine (wSub_k ha hv f58.out _).mono ?_; rintro e w14 ⟨rfl, hB14⟩; have hM14 := hM13.on hB14; clear hB14 hM13; (try unfold WV); go_frame)
    | ((with_reducible change wpList _ _ _ (Oper.mk (some 13) _ _ _ _ _ :: _) _ _); refine mmAlloc hM14 _ _ rfl rfl zero_Wide ?_; intro w15 hM15; clear hM14; go_frame)
    | ((with_reducible change wpList _ _ _ (Oper.mk none (Op.store _ (Operand.tmp 13) (Operand.tmp 59)) _ _ _ _ :: _) _ _); refine mmStoreAt hM15 0 _ _ _ _ _ _ (wcells l) rfl rfl rfl rfl rfl (info_WideC _) (by simp only [wcells_size]) (wcells_one _) ?_; intro w16 hM16; dsimp only [List.set] at hM16; clear hM15; go_frame))
  refine region_symT 23 _ [] [] [.val (.int .i64 (0)), .val (.bool true), .val (.bool true), .val (.bool false), .val (.bool true), .val (.bool true), .val (.bool true), .val (.agg (wcells v)), .val (.int .i64 ((L : Int))), .val (.agg (wcells a)), .val (.int .i64 ((L : Int))), .val (.bool true), .val (.bool true), .val (.bool true), .val (.agg (wcells l)), .val (.int .i64 ((N : Int))), .val (.agg (wcells a)), .val (.int .i64 ((L : Int))), .val (.int .i64 (z)), .val (.int .i64 (m)), .val (.bool true), .val (.bool true), .val (.bool true)] rfl (by kernel_rfl) (by kernel_rfl) (by kernel_rfl) (by kernel_rfl) rfl (by intro s hs; cases hs) (steps_all ⟨?_, ?_, ?_, ?_, ?_, ?_, ?_, ?_, ?_, ?_, ?_, ?_, ?_, ?_, ?_, ?_, ?_, ?_, ?_, ?_, ?_, ?_, ?_, trivial⟩) ?_
  · exact fun A W sz ot hbel ap dp => kMoveV _ _ rfl rfl (sO ot 12) (sE ap sz rfl)
  · exact fun A W sz ot hbel ap dp => kYw (yEqlK _ _ _ _ .i64 (0) (0) true rfl rfl rfl (sD dp 0 .data) rfl) (sE ap sz rfl)
  · exact fun A W sz ot hbel ap dp => kMoveV _ _ rfl rfl (sD dp 1 .data) (sE ap sz rfl)
  · exact fun A W sz ot hbel ap dp => kMoveV _ _ rfl (wanted_of rfl rfl (sD dp 2 .guard)) (sO ot 14) (sE ap sz rfl)
  · exact fun A W sz ot hbel ap dp => kNot _ _ false rfl (wanted_of rfl rfl (sD dp 2 .guard)) (sD dp 3 .data) (sE ap sz rfl)
  · exact fun A W sz ot hbel ap dp => kPick _ _ _ true (.bool true) rfl rfl (sD dp 2 .data) (sD dp 4 .data) (sE ap sz rfl)
  · exact fun A W sz ot hbel ap dp => kMoveV _ _ rfl rfl (sD dp 5 .data) (sE ap sz rfl)
  · exact fun A W sz ot hbel ap dp => kLoadRow _ _ _ _ _ _ rfl (wanted_of rfl rfl (sD dp 6 .guard)) (sO ot 11) ((hM16.get 1 rfl).on hbel) Try.underlying24 rfl (info_WideC _) (sE ap sz rfl)
  · exact fun A W sz ot hbel ap dp => sCall1 11 rfl (sD dp 7 .data) (sC (wBits_k hv HM.out W) ap sz (fun _ => rfl)) (wanted_of rfl rfl (sD dp 6 .chain))
  · exact fun A W sz ot hbel ap dp => kLoadRow _ _ _ _ _ _ rfl (wanted_of rfl rfl (sD dp 6 .guard)) (sO ot 2) ((hM16.get 4 rfl).on hbel) Try.underlying24 rfl (info_WideC _) (sE ap sz rfl)
  · exact fun A W sz ot hbel ap dp => sCall1 11 rfl (sD dp 9 .data) (sC (wBits_k ha HL.out W) ap sz (fun _ => rfl)) (wanted_of rfl rfl (sD dp 6 .guard))
  · exact fun A W sz ot hbel ap dp => kYw (yEqlK _ _ _ _ .i64 ((L : Int)) ((L : Int)) true (by simp) rfl (wanted_of rfl rfl (sD dp 6 .guard)) (sD dp 8 .data) (sD dp 10 .data)) (sE ap sz rfl)
  · exact fun A W sz ot hbel ap dp => kPick _ _ _ true (.bool true) rfl rfl (sD dp 6 .data) (sD dp 11 .data) (sE ap sz rfl)
  · exact fun A W sz ot hbel ap dp => kMoveV _ _ rfl rfl (sD dp 12 .data) (sE ap sz rfl)
  · exact fun A W sz ot hbel ap dp => kLoadRow _ _ _ _ _ _ rfl (wanted_of rfl rfl (sD dp 13 .guard)) (sO ot 13) ((hM16.get 0 rfl).on hbel) Try.underlying24 rfl (info_WideC _) (sE ap sz rfl)
  · exact fun A W sz ot hbel ap dp => sCall1 11 rfl (sD dp 14 .data) (sC (wBits_k hl HN.out W) ap sz (fun _ => rfl)) (wanted_of rfl rfl (sD dp 13 .chain))
  · exact fun A W sz ot hbel ap dp => kLoadRow _ _ _ _ _ _ rfl (wanted_of rfl rfl (sD dp 13 .guard)) (sO ot 2) ((hM16.get 4 rfl).on hbel) Try.underlying24 rfl (info_WideC _) (sE ap sz rfl)
  · exact fun A W sz ot hbel ap dp => sCall1 11 rfl (sD dp 16 .data) (sC (wBits_k ha HL.out W) ap sz (fun _ => rfl)) (wanted_of rfl rfl (sD dp 13 .guard))
  · exact fun A W sz ot hbel ap dp => kYw (ySubZ _ _ _ _ (L : Int) 15 z f79.out rfl (wanted_of rfl rfl (sD dp 13 .guard)) (sD dp 17 .data) rfl) (sE ap sz rfl)
  · exact fun A W sz ot hbel ap dp => kYw (yMaxL _ _ 0 z m f80.out rfl (wanted_of rfl rfl (sD dp 13 .guard)) rfl (sD dp 18 .data)) (sE ap sz rfl)
  · exact fun A W sz ot hbel ap dp => kYw (yLeqK _ _ _ _ .i64 (N : Int) m true f81.out rfl (wanted_of rfl rfl (sD dp 13 .guard)) (sD dp 15 .data) (sD dp 19 .data)) (sE ap sz rfl)
  · exact fun A W sz ot hbel ap dp => kPick _ _ _ true (.bool true) rfl rfl (sD dp 13 .data) (sD dp 20 .data) (sE ap sz rfl)
  · exact fun A W sz ot hbel ap dp => kAssignV _ _ rfl rfl (sD dp 21 .data) (sE ap sz rfl)
  intro w17 hB17
  dsimp only [AllV]
  intro hap
  dsimp only [putAll, List.take, List.drop]
  go_frame
  have hM17 := hM16.on hB17
  clear hB17 hM16 hap
  go_wp2_with fail
  go_ret
  exact ⟨rfl, hM17.below⟩
set_option maxRecDepth 100000 in
set_option maxHeartbeats 32000000 in
theorem WorkBack_any (a : Nat) (ha : a < M256) (b : Nat) (hb : b < 4294967296) (w : World) : Calls Try.prog 8 #[WV a, .int .u32 (b : Int)] w (fun e w' => e = .returned (.bool true) ∧ Below w.heap.size w w') := by
  have hE : rawN 545259519 < M256 := by rw [easy_raw]; exact easy_lt
  by_cases ho : rawN 545259519 < a
  · have hd := Lib.hid (decide_eq_true ho)
    by_cases h : badN b
    · exact back_bad_over a ha b hb w (Lib.hid rfl) hE (Lib.hid h) hd
    · obtain ⟨g, hu⟩ := compact_back h
      exact back_ok_over a ha b hb w (Lib.hid rfl) hE (Lib.hid h) (Lib.hid rfl) (raw_lt h) (Lib.hid rfl) (compact_lt (raw_lt h)) (Lib.hid g) (Lib.hid hu) hd
  have hd := Lib.hid (decide_eq_false ho)
  rcases Nat.eq_zero_or_pos a with h0 | h0
  · have hz := Lib.hid (zero_W h0)
    by_cases h : badN b
    · exact back_bad_zero a ha b hb w (Lib.hid rfl) hE (Lib.hid h) hd hz
    · obtain ⟨g, hu⟩ := compact_back h
      exact back_ok_zero a ha b hb w (Lib.hid rfl) hE (Lib.hid h) (Lib.hid rfl) (raw_lt h) (Lib.hid rfl) (compact_lt (raw_lt h)) (Lib.hid g) (Lib.hid hu) hd hz
  have hz := Lib.hid (pos_W h0 ha)
  obtain ⟨k1, k2, k3, k4⟩ := compact_keeps h0 (by rw [← easy_raw]; omega)
  have f58 : Hid ((a + M256 - rawN (compactN a)) % M256 = a - rawN (compactN a) ∧ decide (a < rawN (compactN a)) = false) := Lib.hid ⟨by rw [show a + M256 - rawN (compactN a) = (a - rawN (compactN a)) + M256 by omega, Nat.add_mod_right, Nat.mod_eq_of_lt (by omega)], by simp; omega⟩
  have hlM : a - rawN (compactN a) < M256 := by omega
  have hLb : blen a ≤ 256 := (blen_le _ 256).2 ha
  have f79 : Hid ((blen a : Int) - 15 = (blen a : Int) - 15 ∧ -9223372036854775808 ≤ (blen a : Int) - 15 ∧ (blen a : Int) - 15 < 9223372036854775808) := Lib.hid ⟨rfl, by omega, by omega⟩
  have f81 : Hid (decide ((blen (a - rawN (compactN a)) : Int) ≤ (if (blen a : Int) - 15 > 0 then (blen a : Int) - 15 else 0)) = true) := Lib.hid (by simp only [decide_eq_true_eq]; split <;> omega)
  by_cases h : badN b
  · exact back_bad_else a ha b hb w (Lib.hid rfl) hE (Lib.hid h) hd hz (Lib.hid rfl) (compact_lt ha) (Lib.hid k1) (Lib.hid rfl) (raw_lt k1) f58 hlM (Lib.hid rfl) (Lib.hid k3) (Lib.hid rfl) f79 (Lib.hid rfl) f81
  · obtain ⟨g, hu⟩ := compact_back h
    exact back_ok_else a ha b hb w (Lib.hid rfl) hE (Lib.hid h) (Lib.hid rfl) (raw_lt h) (Lib.hid rfl) (compact_lt (raw_lt h)) (Lib.hid g) (Lib.hid hu) hd hz (Lib.hid rfl) (compact_lt ha) (Lib.hid k1) (Lib.hid rfl) (raw_lt k1) f58 hlM (Lib.hid rfl) (Lib.hid k3) (Lib.hid rfl) f79 (Lib.hid rfl) f81
end Go.Proofs.Ytdeggdmoijfhdaa
