/-
  bynamelaw12.WorkHarder, walked.
-/
import Derived.Test.YtdeggdmoijfhdaaWkLaw0
import Derived.Test.YtdeggdmoijfhdaaKit12
namespace Go.Proofs.Ytdeggdmoijfhdaa
open Go Go.RowKit

set_option maxRecDepth 100000 in
set_option maxHeartbeats 32000000 in
theorem harder_aa (a : Nat) (ha : a < 4294967296) (b : Nat) (hb : b < 4294967296) (x y : Nat) (hx : x < 4294967296) (hy : y < 4294967296) (w : World) (h : Hid (badN a)) (g : Hid (badN b)) : Calls Try.prog 7 #[.int .u32 (a : Int), .int .u32 (b : Int), .agg #[.int .u32 (x : Int), .int .u32 (y : Int)]] w (fun e w' => e = .returned (.bool true) ∧ Below w.heap.size w w') := by
  have hM0 := mm_nil w
  (try unfold WV)
  go_enter Try.func7, Try.ntmps7
  go_wp2_with (first
    | ((with_reducible change wpList _ _ _ (Oper.mk (some 5) _ _ _ _ _ :: _) _ _); refine mmBox hM0 _ _ (#[.int .u32 (x : Int), .int .u32 (y : Int)]) rfl rfl rfl ?_; intro w1 hM1; clear hM0; go_frame)
    | (go_at_call 10; refine (workAlive_any _).mono ?_; rintro e w2 ⟨rfl, hB2⟩; have hM2 := hM1.on hB2; clear hB2 hM1; (try unfold WV); go_frame)
    | (go_at_call 9; (with_reducible change Calls _ _ #[Value.int .u32 ((a : Int))] _ _); refine (kExpand_bad ha h.out _).mono ?_; rintro e w3 ⟨rfl, hB3⟩; have hM3 := hM2.on hB3; clear hB3 hM2; (try unfold WV); go_frame)
    | ((with_reducible change wpList _ _ _ (Oper.mk (some 7) _ _ _ _ _ :: _) _ _); refine mmAlloc hM3 _ _ rfl rfl zero_Wide ?_; intro w4 hM4; clear hM3; go_frame)
    | ((with_reducible change wpList _ _ _ (Oper.mk none (Op.store _ (Operand.tmp 7) (Operand.tmp 21)) _ _ _ _ :: _) _ _); refine mmStoreAt hM4 0 _ _ _ _ _ _ (wcells 0) rfl rfl rfl rfl rfl (info_WideC _) (by simp only [wcells_size]) (wcells_one _) ?_; intro w5 hM5; dsimp only [List.set] at hM5; clear hM4; go_frame)
    | (go_at_call 9; (with_reducible change Calls _ _ #[Value.int .u32 ((b : Int))] _ _); refine (kExpand_bad hb g.out _).mono ?_; rintro e w6 ⟨rfl, hB6⟩; have hM6 := hM5.on hB6; clear hB6 hM5; (try unfold WV); go_frame)
    | ((with_reducible change wpList _ _ _ (Oper.mk (some 9) _ _ _ _ _ :: _) _ _); refine mmAlloc hM6 _ _ rfl rfl zero_Wide ?_; intro w7 hM7; clear hM6; go_frame)
    | ((with_reducible change wpList _ _ _ (Oper.mk none (Op.store _ (Operand.tmp 9) (Operand.tmp 26)) _ _ _ _ :: _) _ _); refine mmStoreAt hM7 0 _ _ _ _ _ _ (wcells 0) rfl rfl rfl rfl rfl (info_WideC _) (by simp only [wcells_size]) (wcells_one _) ?_; intro w8 hM8; dsimp only [List.set] at hM8; clear hM7; go_frame)
    | ((with_reducible change wpList _ _ _ (Oper.mk (some 29) _ _ _ _ _ :: _) _ _); refine kYw (yNeqK _ _ _ _ .i64 121 0 true rfl rfl rfl rfl rfl) ?_; go_frame)
    | ((with_reducible change wpList _ _ _ (Oper.mk (some 35) _ _ _ _ _ :: _) _ _); refine kYw (yEqlK _ _ _ _ .i64 (121) (0) false rfl rfl rfl rfl rfl) ?_; go_frame)
    | (go_at_call 17; (with_reducible change Calls _ _ #[Value.int .u32 ((a : Int))] _ _); refine (kWork_as ha (work_bad h.out) _).mono ?_; rintro e w9 ⟨rfl, hB9⟩; have hM9 := hM8.on hB9; clear hB9 hM8; (try unfold WV); go_frame)
    | ((with_reducible change wpList _ _ _ (Oper.mk (some 39) _ _ _ _ _ :: _) _ _); refine kBuildW0 rfl rfl ?_; go_frame)
    | ((with_reducible change wpList _ _ _ (Oper.mk (some 40) _ _ _ _ _ :: _) _ _); refine kEqlW _ _ _ (0) (0) true rfl rfl rfl rfl (same_W 0) ?_; go_frame)
    | ((with_reducible change wpList _ _ _ (Oper.mk (some 44) _ _ _ _ _ :: _) _ _); refine kYw (yEqlK _ _ _ _ .i64 (121) (0) false rfl rfl rfl rfl rfl) ?_; go_frame)
    | (go_at_call 17; (with_reducible change Calls _ _ #[Value.int .u32 ((b : Int))] _ _); refine (kWork_as hb (work_bad g.out) _).mono ?_; rintro e w10 ⟨rfl, hB10⟩; have hM10 := hM9.on hB10; clear hB10 hM9; (try unfold WV); go_frame)
    | ((with_reducible change wpList _ _ _ (Oper.mk (some 48) _ _ _ _ _ :: _) _ _); refine kBuildW0 rfl rfl ?_; go_frame)
    | ((with_reducible change wpList _ _ _ (Oper.mk (some 49) _ _ _ _ _ :: _) _ _); refine kEqlW _ _ _ (0) (0) true rfl rfl rfl rfl (same_W 0) ?_; go_frame))
  go_ret
  exact ⟨rfl, hM10.below⟩
set_option maxRecDepth 100000 in
set_option maxHeartbeats 32000000 in
theorem harder_ab (a : Nat) (ha : a < 4294967296) (b : Nat) (hb : b < 4294967296) (x y : Nat) (hx : x < 4294967296) (hy : y < 4294967296) (w : World) {t : Nat} (h : Hid (badN a)) (g : Hid (¬ badN b)) (Ht : Hid (rawN b = t)) : Calls Try.prog 7 #[.int .u32 (a : Int), .int .u32 (b : Int), .agg #[.int .u32 (x : Int), .int .u32 (y : Int)]] w (fun e w' => e = .returned (.bool true) ∧ Below w.heap.size w w') := by
  have hM0 := mm_nil w
  (try unfold WV)
  go_enter Try.func7, Try.ntmps7
  go_wp2_with (first
    | ((with_reducible change wpList _ _ _ (Oper.mk (some 5) _ _ _ _ _ :: _) _ _); refine mmBox hM0 _ _ (#[.int .u32 (x : Int), .int .u32 (y : Int)]) rfl rfl rfl ?_; intro w1 hM1; clear hM0; go_frame)
    | (go_at_call 10; refine (workAlive_any _).mono ?_; rintro e w2 ⟨rfl, hB2⟩; have hM2 := hM1.on hB2; clear hB2 hM1; (try unfold WV); go_frame)
    | (go_at_call 9; (with_reducible change Calls _ _ #[Value.int .u32 ((a : Int))] _ _); refine (kExpand_bad ha h.out _).mono ?_; rintro e w3 ⟨rfl, hB3⟩; have hM3 := hM2.on hB3; clear hB3 hM2; (try unfold WV); go_frame)
    | ((with_reducible change wpList _ _ _ (Oper.mk (some 7) _ _ _ _ _ :: _) _ _); refine mmAlloc hM3 _ _ rfl rfl zero_Wide ?_; intro w4 hM4; clear hM3; go_frame)
    | ((with_reducible change wpList _ _ _ (Oper.mk none (Op.store _ (Operand.tmp 7) (Operand.tmp 21)) _ _ _ _ :: _) _ _); refine mmStoreAt hM4 0 _ _ _ _ _ _ (wcells 0) rfl rfl rfl rfl rfl (info_WideC _) (by simp only [wcells_size]) (wcells_one _) ?_; intro w5 hM5; dsimp only [List.set] at hM5; clear hM4; go_frame)
    | (go_at_call 9; (with_reducible change Calls _ _ #[Value.int .u32 ((b : Int))] _ _); refine (kExpand_ok hb g.out Ht.out _).mono ?_; rintro e w6 ⟨rfl, hB6⟩; have hM6 := hM5.on hB6; clear hB6 hM5; (try unfold WV); go_frame)
    | ((with_reducible change wpList _ _ _ (Oper.mk (some 9) _ _ _ _ _ :: _) _ _); refine mmAlloc hM6 _ _ rfl rfl zero_Wide ?_; intro w7 hM7; clear hM6; go_frame)
    | ((with_reducible change wpList _ _ _ (Oper.mk none (Op.store _ (Operand.tmp 9) (Operand.tmp 26)) _ _ _ _ :: _) _ _); refine mmStoreAt hM7 0 _ _ _ _ _ _ (wcells t) rfl rfl rfl rfl rfl (info_WideC _) (by simp only [wcells_size]) (wcells_one _) ?_; intro w8 hM8; dsimp only [List.set] at hM8; clear hM7; go_frame)
    | ((with_reducible change wpList _ _ _ (Oper.mk (some 29) _ _ _ _ _ :: _) _ _); refine kYw (yNeqK _ _ _ _ .i64 121 0 true rfl rfl rfl rfl rfl) ?_; go_frame)
    | ((with_reducible change wpList _ _ _ (Oper.mk (some 35) _ _ _ _ _ :: _) _ _); refine kYw (yEqlK _ _ _ _ .i64 (121) (0) false rfl rfl rfl rfl rfl) ?_; go_frame)
    | (go_at_call 17; (with_reducible change Calls _ _ #[Value.int .u32 ((a : Int))] _ _); refine (kWork_as ha (work_bad h.out) _).mono ?_; rintro e w9 ⟨rfl, hB9⟩; have hM9 := hM8.on hB9; clear hB9 hM8; (try unfold WV); go_frame)
    | ((with_reducible change wpList _ _ _ (Oper.mk (some 39) _ _ _ _ _ :: _) _ _); refine kBuildW0 rfl rfl ?_; go_frame)
    | ((with_reducible change wpList _ _ _ (Oper.mk (some 40) _ _ _ _ _ :: _) _ _); refine kEqlW _ _ _ (0) (0) true rfl rfl rfl rfl (same_W 0) ?_; go_frame)
    | ((with_reducible change wpList _ _ _ (Oper.mk (some 44) _ _ _ _ _ :: _) _ _); refine kYw (yEqlK _ _ _ _ .i64 (0) (0) true rfl rfl rfl rfl rfl) ?_; go_frame))
  go_ret
  exact ⟨rfl, hM9.below⟩
set_option maxRecDepth 100000 in
set_option maxHeartbeats 32000000 in
theorem harder_ba (a : Nat) (ha : a < 4294967296) (b : Nat) (hb : b < 4294967296) (x y : Nat) (hx : x < 4294967296) (hy : y < 4294967296) (w : World) {s : Nat} (h : Hid (¬ badN a)) (g : Hid (badN b)) (Hs : Hid (rawN a = s)) : Calls Try.prog 7 #[.int .u32 (a : Int), .int .u32 (b : Int), .agg #[.int .u32 (x : Int), .int .u32 (y : Int)]] w (fun e w' => e = .returned (.bool true) ∧ Below w.heap.size w w') := by
  have hM0 := mm_nil w
  (try unfold WV)
  go_enter Try.func7, Try.ntmps7
  go_wp2_with (first
    | ((with_reducible change wpList _ _ _ (Oper.mk (some 5) _ _ _ _ _ :: _) _ _); refine mmBox hM0 _ _ (#[.int .u32 (x : Int), .int .u32 (y : Int)]) rfl rfl rfl ?_; intro w1 hM1; clear hM0; go_frame)
    | (go_at_call 10; refine (workAlive_any _).mono ?_; rintro e w2 ⟨rfl, hB2⟩; have hM2 := hM1.on hB2; clear hB2 hM1; (try unfold WV); go_frame)
    | (go_at_call 9; (with_reducible change Calls _ _ #[Value.int .u32 ((a : Int))] _ _); refine (kExpand_ok ha h.out Hs.out _).mono ?_; rintro e w3 ⟨rfl, hB3⟩; have hM3 := hM2.on hB3; clear hB3 hM2; (try unfold WV); go_frame)
    | ((with_reducible change wpList _ _ _ (Oper.mk (some 7) _ _ _ _ _ :: _) _ _); refine mmAlloc hM3 _ _ rfl rfl zero_Wide ?_; intro w4 hM4; clear hM3; go_frame)
    | ((with_reducible change wpList _ _ _ (Oper.mk none (Op.store _ (Operand.tmp 7) (Operand.tmp 21)) _ _ _ _ :: _) _ _); refine mmStoreAt hM4 0 _ _ _ _ _ _ (wcells s) rfl rfl rfl rfl rfl (info_WideC _) (by simp only [wcells_size]) (wcells_one _) ?_; intro w5 hM5; dsimp only [List.set] at hM5; clear hM4; go_frame)
    | (go_at_call 9; (with_reducible change Calls _ _ #[Value.int .u32 ((b : Int))] _ _); refine (kExpand_bad hb g.out _).mono ?_; rintro e w6 ⟨rfl, hB6⟩; have hM6 := hM5.on hB6; clear hB6 hM5; (try unfold WV); go_frame)
    | ((with_reducible change wpList _ _ _ (Oper.mk (some 9) _ _ _ _ _ :: _) _ _); refine mmAlloc hM6 _ _ rfl rfl zero_Wide ?_; intro w7 hM7; clear hM6; go_frame)
    | ((with_reducible change wpList _ _ _ (Oper.mk none (Op.store _ (Operand.tmp 9) (Operand.tmp 26)) _ _ _ _ :: _) _ _); refine mmStoreAt hM7 0 _ _ _ _ _ _ (wcells 0) rfl rfl rfl rfl rfl (info_WideC _) (by simp only [wcells_size]) (wcells_one _) ?_; intro w8 hM8; dsimp only [List.set] at hM8; clear hM7; go_frame)
    | ((with_reducible change wpList _ _ _ (Oper.mk (some 29) _ _ _ _ _ :: _) _ _); refine kYw (yNeqK _ _ _ _ .i64 0 0 false rfl rfl rfl rfl rfl) ?_; go_frame)
    | ((with_reducible change wpList _ _ _ (Oper.mk (some 32) _ _ _ _ _ :: _) _ _); refine kYw (yNeqK _ _ _ _ .i64 121 0 true rfl rfl rfl rfl rfl) ?_; go_frame)
    | ((with_reducible change wpList _ _ _ (Oper.mk (some 35) _ _ _ _ _ :: _) _ _); refine kYw (yEqlK _ _ _ _ .i64 (0) (0) true rfl rfl rfl rfl rfl) ?_; go_frame)
    | ((with_reducible change wpList _ _ _ (Oper.mk (some 44) _ _ _ _ _ :: _) _ _); refine kYw (yEqlK _ _ _ _ .i64 (121) (0) false rfl rfl rfl rfl rfl) ?_; go_frame)
    | (go_at_call 17; (with_reducible change Calls _ _ #[Value.int .u32 ((b : Int))] _ _); refine (kWork_as hb (work_bad g.out) _).mono ?_; rintro e w9 ⟨rfl, hB9⟩; have hM9 := hM8.on hB9; clear hB9 hM8; (try unfold WV); go_frame)
    | ((with_reducible change wpList _ _ _ (Oper.mk (some 48) _ _ _ _ _ :: _) _ _); refine kBuildW0 rfl rfl ?_; go_frame)
    | ((with_reducible change wpList _ _ _ (Oper.mk (some 49) _ _ _ _ _ :: _) _ _); refine kEqlW _ _ _ (0) (0) true rfl rfl rfl rfl (same_W 0) ?_; go_frame))
  go_ret
  exact ⟨rfl, hM9.below⟩
set_option maxRecDepth 100000 in
set_option maxHeartbeats 32000000 in
theorem harder_ls (a : Nat) (ha : a < 4294967296) (b : Nat) (hb : b < 4294967296) (x y : Nat) (hx : x < 4294967296) (hy : y < 4294967296) (w : World) {s t p q r : Nat} (h : Hid (¬ badN a)) (g : Hid (¬ badN b)) (Hs : Hid (rawN a = s)) (Ht : Hid (rawN b = t)) (hs : s < M256) (ht : t < M256) (Hr : Hid (nextN a x y = r)) (hr : r < 4294967296) (hl : Hid (s < t)) (Hp : Hid (workN a = p)) (Hq : Hid (workN b = q)) (hp : p < M256) (hq : q < M256) (hpq : Hid (decide (p < q) = false)) (hd : Hid (decide (s < t) = true)) (k : Hid (¬ badN r)) {u E L M : Nat} (Hu : Hid (rawN r = u)) (hu : u < M256) (fE : Hid (rawN 545259519 = E)) (hE : E < M256) (hEu : Hid (decide (E < u) = false)) (HL : Hid (blen s = L)) (HM : Hid (blen u = M)) (hL : L ≤ 256) (hM : M ≤ 256) (f92 : Hid (decide (((M + 3 : Nat) : Int) ≥ (L : Int)) = true)) (f100 : Hid (decide ((M : Int) ≤ ((L + 3 : Nat) : Int)) = true)) : Calls Try.prog 7 #[.int .u32 (a : Int), .int .u32 (b : Int), .agg #[.int .u32 (x : Int), .int .u32 (y : Int)]] w (fun e w' => e = .returned (.bool true) ∧ Below w.heap.size w w') := by
  have hM0 := mm_nil w
  (try unfold WV)
  go_enter Try.func7, Try.ntmps7
  go_wp2_with (first
    | ((with_reducible change wpList _ _ _ (Oper.mk (some 5) _ _ _ _ _ :: _) _ _); refine mmBox hM0 _ _ (#[.int .u32 (x : Int), .int .u32 (y : Int)]) rfl rfl rfl ?_; intro w1 hM1; clear hM0; go_frame)
    | (go_at_call 10; refine (workAlive_any _).mono ?_; rintro e w2 ⟨rfl, hB2⟩; have hM2 := hM1.on hB2; clear hB2 hM1; (try unfold WV); go_frame)
    | (go_at_call 9; (with_reducible change Calls _ _ #[Value.int .u32 ((a : Int))] _ _); refine (kExpand_ok ha h.out Hs.out _).mono ?_; rintro e w3 ⟨rfl, hB3⟩; have hM3 := hM2.on hB3; clear hB3 hM2; (try unfold WV); go_frame)
    | ((with_reducible change wpList _ _ _ (Oper.mk (some 7) _ _ _ _ _ :: _) _ _); refine mmAlloc hM3 _ _ rfl rfl zero_Wide ?_; intro w4 hM4; clear hM3; go_frame)
    | ((with_reducible change wpList _ _ _ (Oper.mk none (Op.store _ (Operand.tmp 7) (Operand.tmp 21)) _ _ _ _ :: _) _ _); refine mmStoreAt hM4 0 _ _ _ _ _ _ (wcells s) rfl rfl rfl rfl rfl (info_WideC _) (by simp only [wcells_size]) (wcells_one _) ?_; intro w5 hM5; dsimp only [List.set] at hM5; clear hM4; go_frame)
    | (go_at_call 9; (with_reducible change Calls _ _ #[Value.int .u32 ((b : Int))] _ _); refine (kExpand_ok hb g.out Ht.out _).mono ?_; rintro e w6 ⟨rfl, hB6⟩; have hM6 := hM5.on hB6; clear hB6 hM5; (try unfold WV); go_frame)
    | ((with_reducible change wpList _ _ _ (Oper.mk (some 9) _ _ _ _ _ :: _) _ _); refine mmAlloc hM6 _ _ rfl rfl zero_Wide ?_; intro w7 hM7; clear hM6; go_frame)
    | ((with_reducible change wpList _ _ _ (Oper.mk none (Op.store _ (Operand.tmp 9) (Operand.tmp 26)) _ _ _ _ :: _) _ _); refine mmStoreAt hM7 0 _ _ _ _ _ _ (wcells t) rfl rfl rfl rfl rfl (info_WideC _) (by simp only [wcells_size]) (wcells_one _) ?_; intro w8 hM8; dsimp only [List.set] at hM8; clear hM7; go_frame)
    | ((with_reducible change wpList _ _ _ (Oper.mk (some 29) _ _ _ _ _ :: _) _ _); refine kYw (yNeqK _ _ _ _ .i64 0 0 false rfl rfl rfl rfl rfl) ?_; go_frame)
    | ((with_reducible change wpList _ _ _ (Oper.mk (some 32) _ _ _ _ _ :: _) _ _); refine kYw (yNeqK _ _ _ _ .i64 0 0 false rfl rfl rfl rfl rfl) ?_; go_frame)
    | ((with_reducible change wpList _ _ _ (Oper.mk (some 52) _ _ _ _ _ :: _) _ _); refine kLoadRow _ _ _ _ _ _ rfl rfl rfl (hM8.get 1 rfl) Try.underlying24 rfl (info_WideC _) ?_; go_frame)
    | ((with_reducible change wpList _ _ _ (Oper.mk (some 53) _ _ _ _ _ :: _) _ _); refine kLoadRow _ _ _ _ _ _ rfl rfl rfl (hM8.get 0 rfl) Try.underlying24 rfl (info_WideC _) ?_; go_frame)
    | (go_at_call 23; (with_reducible change Calls _ _ #[Value.agg (wcells s), Value.agg (wcells t)] _ _); refine (wLess_k hs ht hd.out _).mono ?_; rintro e w9 ⟨rfl, hB9⟩; have hM9 := hM8.on hB9; clear hB9 hM8; (try unfold WV); go_frame)
    | (go_at_call 17; (with_reducible change Calls _ _ #[Value.int .u32 ((a : Int))] _ _); refine (kWork_as ha Hp.out _).mono ?_; rintro e w10 ⟨rfl, hB10⟩; have hM10 := hM9.on hB10; clear hB10 hM9; (try unfold WV); go_frame)
    | (go_at_call 17; (with_reducible change Calls _ _ #[Value.int .u32 ((b : Int))] _ _); refine (kWork_as hb Hq.out _).mono ?_; rintro e w11 ⟨rfl, hB11⟩; have hM11 := hM10.on hB11; clear hB11 hM10; (try unfold WV); go_frame)
    | (go_at_call 23; (with_reducible change Calls _ _ #[Value.agg (wcells p), Value.agg (wcells q)] _ _); refine (wLess_k hp hq hpq.out _).mono ?_; rintro e w12 ⟨rfl, hB12⟩; have hM12 := hM11.on hB12; clear hB12 hM11; (try unfold WV); go_frame)
    | ((with_reducible change wpList _ _ _ (Oper.mk (some 63) _ _ _ _ _ :: _) _ _); refine kIndexAddr1 _ _ _ _ _ _ _ 0 _ rfl rfl rfl rfl Try.underlying47 info_u32W rfl (by decide) ?_; go_frame)
    | ((with_reducible change wpList _ _ _ (Oper.mk (some 64) _ _ _ _ _ :: _) _ _); refine kLoad1 _ _ _ _ _ _ _ _ rfl rfl rfl (hM12.get 2 rfl) Try.underlying28 rfl rfl ?_; go_frame)
    | ((with_reducible change wpList _ _ _ (Oper.mk (some 65) _ _ _ _ _ :: _) _ _); refine kIndexAddr1 _ _ _ _ _ _ _ 1 _ rfl rfl rfl rfl Try.underlying47 info_u32W rfl (by decide) ?_; go_frame)
    | ((with_reducible change wpList _ _ _ (Oper.mk (some 66) _ _ _ _ _ :: _) _ _); refine kLoad1 _ _ _ _ _ _ _ _ rfl rfl rfl (hM12.get 2 rfl) Try.underlying28 rfl rfl ?_; go_frame)
    | (go_at_call 14; (with_reducible change Calls _ _ #[Value.int .u32 ((a : Int)), Value.int .u32 ((x : Int)), Value.int .u32 ((y : Int))] _ _); refine (kNext_as ha hx hy Hr.out _).mono ?_; rintro e w13 ⟨rfl, hB13⟩; have hM13 := hM12.on hB13; clear hB13 hM12; (try unfold WV); go_frame)
    | (go_at_call 9; (with_reducible change Calls _ _ #[Value.int .u32 ((r : Int))] _ _); refine (kExpand_ok hr k.out Hu.out _).mono ?_; rintro e w14 ⟨rfl, hB14⟩; have hM14 := hM13.on hB14; clear hB14 hM13; (try unfold WV); go_frame)
    | ((with_reducible change wpList _ _ _ (Oper.mk (some 12) _ _ _ _ _ :: _) _ _); refine mmAlloc hM14 _ _ rfl rfl zero_Wide ?_; intro w15 hM15; clear hM14; go_frame)
    | ((with_reducible change wpList _ _ _ (Oper.mk none (Op.store _ (Operand.tmp 12) (Operand.tmp 71)) _ _ _ _ :: _) _ _); refine mmStoreAt hM15 0 _ _ _ _ _ _ (wcells u) rfl rfl rfl rfl rfl (info_WideC _) (by simp only [wcells_size]) (wcells_one _) ?_; intro w16 hM16; dsimp only [List.set] at hM16; clear hM15; go_frame)
    | ((with_reducible change wpList _ _ _ (Oper.mk (some 74) _ _ _ _ _ :: _) _ _); refine kYw (yNeqK _ _ _ _ .i64 0 0 false rfl rfl rfl rfl rfl) ?_; go_frame)
    | (go_at_call 9; (with_reducible change Calls _ _ #[Value.int .u32 (545259519)] _ _); refine (kExpand_okL (b := 545259519) rfl (by decide) easy_fine fE.out _).mono ?_; rintro e w17 ⟨rfl, hB17⟩; have hM17 := hM16.on hB17; clear hB17 hM16; (try unfold WV); go_frame)
    | ((with_reducible change wpList _ _ _ (Oper.mk (some 14) _ _ _ _ _ :: _) _ _); refine mmAlloc hM17 _ _ rfl rfl zero_Wide ?_; intro w18 hM18; clear hM17; go_frame)
    | ((with_reducible change wpList _ _ _ (Oper.mk none (Op.store _ (Operand.tmp 14) (Operand.tmp 80)) _ _ _ _ :: _) _ _); refine mmStoreAt hM18 0 _ _ _ _ _ _ (wcells E) rfl rfl rfl rfl rfl (info_WideC _) (by simp only [wcells_size]) (wcells_one _) ?_; intro w19 hM19; dsimp only [List.set] at hM19; clear hM18; go_frame))
  refine region_symT 21 _ [] [] [.val (.agg (wcells E)), .val (.agg (wcells u)), .val (.bool false), .val (.bool true), .val (.bool true), .val (.agg (wcells u)), .val (.int .i64 ((M : Int))), .val (.int .i64 (((M + 3 : Nat) : Int))), .val (.agg (wcells s)), .val (.int .i64 ((L : Int))), .val (.bool true), .val (.bool true), .val (.bool true), .val (.agg (wcells u)), .val (.int .i64 ((M : Int))), .val (.agg (wcells s)), .val (.int .i64 ((L : Int))), .val (.int .i64 (((L + 3 : Nat) : Int))), .val (.bool true), .val (.bool true), .val (.bool true)] rfl (by kernel_rfl) (by kernel_rfl) (by kernel_rfl) (by kernel_rfl) rfl (by intro s hs; cases hs) (steps_all ⟨?_, ?_, ?_, ?_, ?_, ?_, ?_, ?_, ?_, ?_, ?_, ?_, ?_, ?_, ?_, ?_, ?_, ?_, ?_, ?_, ?_, trivial⟩) ?_
  · exact fun A W sz ot hbel ap dp => kLoadRow _ _ _ _ _ _ rfl rfl (sO ot 14) ((hM19.get 0 rfl).on hbel) Try.underlying24 rfl (info_WideC _) (sE ap sz rfl)
  · exact fun A W sz ot hbel ap dp => kLoadRow _ _ _ _ _ _ rfl rfl (sO ot 12) ((hM19.get 1 rfl).on hbel) Try.underlying24 rfl (info_WideC _) (sE ap sz rfl)
  · exact fun A W sz ot hbel ap dp => sCall2 23 rfl (sD dp 0 .data) (sD dp 1 .data) (sC (wLess_k hE hu hEu.out W) ap sz (fun _ => rfl))
  · exact fun A W sz ot hbel ap dp => kNot _ _ false rfl rfl (sD dp 2 .data) (sE ap sz rfl)
  · exact fun A W sz ot hbel ap dp => kMoveV _ _ rfl rfl (sD dp 3 .data) (sE ap sz rfl)
  · exact fun A W sz ot hbel ap dp => kLoadRow _ _ _ _ _ _ rfl (wanted_of rfl rfl (sD dp 4 .guard)) (sO ot 12) ((hM19.get 1 rfl).on hbel) Try.underlying24 rfl (info_WideC _) (sE ap sz rfl)
  · exact fun A W sz ot hbel ap dp => sCall1 11 rfl (sD dp 5 .data) (sC (wBits_k hu HM.out W) ap sz (fun _ => rfl)) (wanted_of rfl rfl (sD dp 4 .chain))
  · exact fun A W sz ot hbel ap dp => kYw (yAddZ _ _ _ _ (M : Int) 3 ((M + 3 : Nat) : Int) (by omega) rfl (wanted_of rfl rfl (sD dp 4 .guard)) (sD dp 6 .data) rfl) (sE ap sz rfl)
  · exact fun A W sz ot hbel ap dp => kLoadRow _ _ _ _ _ _ rfl (wanted_of rfl rfl (sD dp 4 .guard)) (sO ot 7) ((hM19.get 3 rfl).on hbel) Try.underlying24 rfl (info_WideC _) (sE ap sz rfl)
  · exact fun A W sz ot hbel ap dp => sCall1 11 rfl (sD dp 8 .data) (sC (wBits_k hs HL.out W) ap sz (fun _ => rfl)) (wanted_of rfl rfl (sD dp 4 .guard))
  · exact fun A W sz ot hbel ap dp => kYw (yGeqK _ _ _ _ .i64 ((M + 3 : Nat) : Int) (L : Int) true f92.out rfl (wanted_of rfl rfl (sD dp 4 .guard)) (sD dp 7 .data) (sD dp 9 .data)) (sE ap sz rfl)
  · exact fun A W sz ot hbel ap dp => kPick _ _ _ true (.bool true) rfl rfl (sD dp 4 .data) (sD dp 10 .data) (sE ap sz rfl)
  · exact fun A W sz ot hbel ap dp => kMoveV _ _ rfl rfl (sD dp 11 .data) (sE ap sz rfl)
  · exact fun A W sz ot hbel ap dp => kLoadRow _ _ _ _ _ _ rfl (wanted_of rfl rfl (sD dp 12 .guard)) (sO ot 12) ((hM19.get 1 rfl).on hbel) Try.underlying24 rfl (info_WideC _) (sE ap sz rfl)
  · exact fun A W sz ot hbel ap dp => sCall1 11 rfl (sD dp 13 .data) (sC (wBits_k hu HM.out W) ap sz (fun _ => rfl)) (wanted_of rfl rfl (sD dp 12 .chain))
  · exact fun A W sz ot hbel ap dp => kLoadRow _ _ _ _ _ _ rfl (wanted_of rfl rfl (sD dp 12 .guard)) (sO ot 7) ((hM19.get 3 rfl).on hbel) Try.underlying24 rfl (info_WideC _) (sE ap sz rfl)
  · exact fun A W sz ot hbel ap dp => sCall1 11 rfl (sD dp 15 .data) (sC (wBits_k hs HL.out W) ap sz (fun _ => rfl)) (wanted_of rfl rfl (sD dp 12 .guard))
  · exact fun A W sz ot hbel ap dp => kYw (yAddZ _ _ _ _ (L : Int) 3 ((L + 3 : Nat) : Int) (by omega) rfl (wanted_of rfl rfl (sD dp 12 .guard)) (sD dp 16 .data) rfl) (sE ap sz rfl)
  · exact fun A W sz ot hbel ap dp => kYw (yLeqK _ _ _ _ .i64 (M : Int) ((L + 3 : Nat) : Int) true f100.out rfl (wanted_of rfl rfl (sD dp 12 .guard)) (sD dp 14 .data) (sD dp 17 .data)) (sE ap sz rfl)
  · exact fun A W sz ot hbel ap dp => kPick _ _ _ true (.bool true) rfl rfl (sD dp 12 .data) (sD dp 18 .data) (sE ap sz rfl)
  · exact fun A W sz ot hbel ap dp => kAssignV _ _ rfl rfl (sD dp 19 .data) (sE ap sz rfl)
  intro w20 hB20
  dsimp only [AllV]
  intro hap
  dsimp only [putAll, List.take, List.drop]
  go_frame
  have hM20 := hM19.on hB20
  clear hB20 hM19 hap
  go_wp2_with fail
  go_ret
  exact ⟨rfl, hM20.below⟩
set_option maxRecDepth 100000 in
set_option maxHeartbeats 32000000 in
theorem harder_ln (a : Nat) (ha : a < 4294967296) (b : Nat) (hb : b < 4294967296) (x y : Nat) (hx : x < 4294967296) (hy : y < 4294967296) (w : World) {s t p q r : Nat} (h : Hid (¬ badN a)) (g : Hid (¬ badN b)) (Hs : Hid (rawN a = s)) (Ht : Hid (rawN b = t)) (hs : s < M256) (ht : t < M256) (Hr : Hid (nextN a x y = r)) (hr : r < 4294967296) (hl : Hid (s < t)) (Hp : Hid (workN a = p)) (Hq : Hid (workN b = q)) (hp : p < M256) (hq : q < M256) (hpq : Hid (decide (p < q) = false)) (hd : Hid (decide (s < t) = true)) (k : Hid (badN r)) {L : Nat} (HL : Hid (blen s = L)) (f77 : Hid (decide ((L : Int) < 24) = true)) : Calls Try.prog 7 #[.int .u32 (a : Int), .int .u32 (b : Int), .agg #[.int .u32 (x : Int), .int .u32 (y : Int)]] w (fun e w' => e = .returned (.bool true) ∧ Below w.heap.size w w') := by
  have hM0 := mm_nil w
  (try unfold WV)
  go_enter Try.func7, Try.ntmps7
  go_wp2_with (first
    | ((with_reducible change wpList _ _ _ (Oper.mk (some 5) _ _ _ _ _ :: _) _ _); refine mmBox hM0 _ _ (#[.int .u32 (x : Int), .int .u32 (y : Int)]) rfl rfl rfl ?_; intro w1 hM1; clear hM0; go_frame)
    | (go_at_call 10; refine (workAlive_any _).mono ?_; rintro e w2 ⟨rfl, hB2⟩; have hM2 := hM1.on hB2; clear hB2 hM1; (try unfold WV); go_frame)
    | (go_at_call 9; (with_reducible change Calls _ _ #[Value.int .u32 ((a : Int))] _ _); refine (kExpand_ok ha h.out Hs.out _).mono ?_; rintro e w3 ⟨rfl, hB3⟩; have hM3 := hM2.on hB3; clear hB3 hM2; (try unfold WV); go_frame)
    | ((with_reducible change wpList _ _ _ (Oper.mk (some 7) _ _ _ _ _ :: _) _ _); refine mmAlloc hM3 _ _ rfl rfl zero_Wide ?_; intro w4 hM4; clear hM3; go_frame)
    | ((with_reducible change wpList _ _ _ (Oper.mk none (Op.store _ (Operand.tmp 7) (Operand.tmp 21)) _ _ _ _ :: _) _ _); refine mmStoreAt hM4 0 _ _ _ _ _ _ (wcells s) rfl rfl rfl rfl rfl (info_WideC _) (by simp only [wcells_size]) (wcells_one _) ?_; intro w5 hM5; dsimp only [List.set] at hM5; clear hM4; go_frame)
    | (go_at_call 9; (with_reducible change Calls _ _ #[Value.int .u32 ((b : Int))] _ _); refine (kExpand_ok hb g.out Ht.out _).mono ?_; rintro e w6 ⟨rfl, hB6⟩; have hM6 := hM5.on hB6; clear hB6 hM5; (try unfold WV); go_frame)
    | ((with_reducible change wpList _ _ _ (Oper.mk (some 9) _ _ _ _ _ :: _) _ _); refine mmAlloc hM6 _ _ rfl rfl zero_Wide ?_; intro w7 hM7; clear hM6; go_frame)
    | ((with_reducible change wpList _ _ _ (Oper.mk none (Op.store _ (Operand.tmp 9) (Operand.tmp 26)) _ _ _ _ :: _) _ _); refine mmStoreAt hM7 0 _ _ _ _ _ _ (wcells t) rfl rfl rfl rfl rfl (info_WideC _) (by simp only [wcells_size]) (wcells_one _) ?_; intro w8 hM8; dsimp only [List.set] at hM8; clear hM7; go_frame)
    | ((with_reducible change wpList _ _ _ (Oper.mk (some 29) _ _ _ _ _ :: _) _ _); refine kYw (yNeqK _ _ _ _ .i64 0 0 false rfl rfl rfl rfl rfl) ?_; go_frame)
    | ((with_reducible change wpList _ _ _ (Oper.mk (some 32) _ _ _ _ _ :: _) _ _); refine kYw (yNeqK _ _ _ _ .i64 0 0 false rfl rfl rfl rfl rfl) ?_; go_frame)
    | ((with_reducible change wpList _ _ _ (Oper.mk (some 52) _ _ _ _ _ :: _) _ _); refine kLoadRow _ _ _ _ _ _ rfl rfl rfl (hM8.get 1 rfl) Try.underlying24 rfl (info_WideC _) ?_; go_frame)
    | ((with_reducible change wpList _ _ _ (Oper.mk (some 53) _ _ _ _ _ :: _) _ _); refine kLoadRow _ _ _ _ _ _ rfl rfl rfl (hM8.get 0 rfl) Try.underlying24 rfl (info_WideC _) ?_; go_frame)
    | (go_at_call 23; (with_reducible change Calls _ _ #[Value.agg (wcells s), Value.agg (wcells t)] _ _); refine (wLess_k hs ht hd.out _).mono ?_; rintro e w9 ⟨rfl, hB9⟩; have hM9 := hM8.on hB9; clear hB9 hM8; (try unfold WV); go_frame)
    | (go_at_call 17; (with_reducible change Calls _ _ #[Value.int .u32 ((a : Int))] _ _); refine (kWork_as ha Hp.out _).mono ?_; rintro e w10 ⟨rfl, hB10⟩; have hM10 := hM9.on hB10; clear hB10 hM9; (try unfold WV); go_frame)
    | (go_at_call 17; (with_reducible change Calls _ _ #[Value.int .u32 ((b : Int))] _ _); refine (kWork_as hb Hq.out _).mono ?_; rintro e w11 ⟨rfl, hB11⟩; have hM11 := hM10.on hB11; clear hB11 hM10; (try unfold WV); go_frame)
    | (go_at_call 23; (with_reducible change Calls _ _ #[Value.agg (wcells p), Value.agg (wcells q)] _ _); refine (wLess_k hp hq hpq.out _).mono ?_; rintro e w12 ⟨rfl, hB12⟩; have hM12 := hM11.on hB12; clear hB12 hM11; (try unfold WV); go_frame)
    | ((with_reducible change wpList _ _ _ (Oper.mk (some 63) _ _ _ _ _ :: _) _ _); refine kIndexAddr1 _ _ _ _ _ _ _ 0 _ rfl rfl rfl rfl Try.underlying47 info_u32W rfl (by decide) ?_; go_frame)
    | ((with_reducible change wpList _ _ _ (Oper.mk (some 64) _ _ _ _ _ :: _) _ _); refine kLoad1 _ _ _ _ _ _ _ _ rfl rfl rfl (hM12.get 2 rfl) Try.underlying28 rfl rfl ?_; go_frame)
    | ((with_reducible change wpList _ _ _ (Oper.mk (some 65) _ _ _ _ _ :: _) _ _); refine kIndexAddr1 _ _ _ _ _ _ _ 1 _ rfl rfl rfl rfl Try.underlying47 info_u32W rfl (by decide) ?_; go_frame)
    | ((with_reducible change wpList _ _ _ (Oper.mk (some 66) _ _ _ _ _ :: _) _ _); refine kLoad1 _ _ _ _ _ _ _ _ rfl rfl rfl (hM12.get 2 rfl) Try.underlying28 rfl rfl ?_; go_frame)
    | (go_at_call 14; (with_reducible change Calls _ _ #[Value.int .u32 ((a : Int)), Value.int .u32 ((x : Int)), Value.int .u32 ((y : Int))] _ _); refine (kNext_as ha hx hy Hr.out _).mono ?_; rintro e w13 ⟨rfl, hB13⟩; have hM13 := hM12.on hB13; clear hB13 hM12; (try unfold WV); go_frame)
    | (go_at_call 9; (with_reducible change Calls _ _ #[Value.int .u32 ((r : Int))] _ _); refine (kExpand_bad hr k.out _).mono ?_; rintro e w14 ⟨rfl, hB14⟩; have hM14 := hM13.on hB14; clear hB14 hM13; (try unfold WV); go_frame)
    | ((with_reducible change wpList _ _ _ (Oper.mk (some 12) _ _ _ _ _ :: _) _ _); refine mmAlloc hM14 _ _ rfl rfl zero_Wide ?_; intro w15 hM15; clear hM14; go_frame)
    | ((with_reducible change wpList _ _ _ (Oper.mk none (Op.store _ (Operand.tmp 12) (Operand.tmp 71)) _ _ _ _ :: _) _ _); refine mmStoreAt hM15 0 _ _ _ _ _ _ (wcells 0) rfl rfl rfl rfl rfl (info_WideC _) (by simp only [wcells_size]) (wcells_one _) ?_; intro w16 hM16; dsimp only [List.set] at hM16; clear hM15; go_frame)
    | ((with_reducible change wpList _ _ _ (Oper.mk (some 74) _ _ _ _ _ :: _) _ _); refine kYw (yNeqK _ _ _ _ .i64 121 0 true rfl rfl rfl rfl rfl) ?_; go_frame)
    | ((with_reducible change wpList _ _ _ (Oper.mk (some 75) _ _ _ _ _ :: _) _ _); refine kLoadRow _ _ _ _ _ _ rfl rfl rfl (hM16.get 2 rfl) Try.underlying24 rfl (info_WideC _) ?_; go_frame)
    | (go_at_call 11; (with_reducible change Calls _ _ #[Value.agg (wcells s)] _ _); refine (wBits_k hs HL.out _).mono ?_; rintro e w17 ⟨rfl, hB17⟩; have hM17 := hM16.on hB17; clear hB17 hM16; (try unfold WV); go_frame)
    | ((with_reducible change wpList _ _ _ (Oper.mk (some 77) _ _ _ _ _ :: _) _ _); refine kYw (yLssK _ _ _ _ .i64 (L : Int) 24 true f77.out rfl rfl rfl rfl) ?_; go_frame))
  go_ret
  exact ⟨rfl, hM17.below⟩
set_option maxRecDepth 100000 in
set_option maxHeartbeats 32000000 in
theorem harder_ms (a : Nat) (ha : a < 4294967296) (b : Nat) (hb : b < 4294967296) (x y : Nat) (hx : x < 4294967296) (hy : y < 4294967296) (w : World) {s t p q r : Nat} (h : Hid (¬ badN a)) (g : Hid (¬ badN b)) (Hs : Hid (rawN a = s)) (Ht : Hid (rawN b = t)) (hs : s < M256) (ht : t < M256) (Hr : Hid (nextN a x y = r)) (hr : r < 4294967296) (hd : Hid (decide (s < t) = false)) (k : Hid (¬ badN r)) {u E L M : Nat} (Hu : Hid (rawN r = u)) (hu : u < M256) (fE : Hid (rawN 545259519 = E)) (hE : E < M256) (hEu : Hid (decide (E < u) = false)) (HL : Hid (blen s = L)) (HM : Hid (blen u = M)) (hL : L ≤ 256) (hM : M ≤ 256) (f92 : Hid (decide (((M + 3 : Nat) : Int) ≥ (L : Int)) = true)) (f100 : Hid (decide ((M : Int) ≤ ((L + 3 : Nat) : Int)) = true)) : Calls Try.prog 7 #[.int .u32 (a : Int), .int .u32 (b : Int), .agg #[.int .u32 (x : Int), .int .u32 (y : Int)]] w (fun e w' => e = .returned (.bool true) ∧ Below w.heap.size w w') := by
  have hM0 := mm_nil w
  (try unfold WV)
  go_enter Try.func7, Try.ntmps7
  go_wp2_with (first
    | ((with_reducible change wpList _ _ _ (Oper.mk (some 5) _ _ _ _ _ :: _) _ _); refine mmBox hM0 _ _ (#[.int .u32 (x : Int), .int .u32 (y : Int)]) rfl rfl rfl ?_; intro w1 hM1; clear hM0; go_frame)
    | (go_at_call 10; refine (workAlive_any _).mono ?_; rintro e w2 ⟨rfl, hB2⟩; have hM2 := hM1.on hB2; clear hB2 hM1; (try unfold WV); go_frame)
    | (go_at_call 9; (with_reducible change Calls _ _ #[Value.int .u32 ((a : Int))] _ _); refine (kExpand_ok ha h.out Hs.out _).mono ?_; rintro e w3 ⟨rfl, hB3⟩; have hM3 := hM2.on hB3; clear hB3 hM2; (try unfold WV); go_frame)
    | ((with_reducible change wpList _ _ _ (Oper.mk (some 7) _ _ _ _ _ :: _) _ _); refine mmAlloc hM3 _ _ rfl rfl zero_Wide ?_; intro w4 hM4; clear hM3; go_frame)
    | ((with_reducible change wpList _ _ _ (Oper.mk none (Op.store _ (Operand.tmp 7) (Operand.tmp 21)) _ _ _ _ :: _) _ _); refine mmStoreAt hM4 0 _ _ _ _ _ _ (wcells s) rfl rfl rfl rfl rfl (info_WideC _) (by simp only [wcells_size]) (wcells_one _) ?_; intro w5 hM5; dsimp only [List.set] at hM5; clear hM4; go_frame)
    | (go_at_call 9; (with_reducible change Calls _ _ #[Value.int .u32 ((b : Int))] _ _); refine (kExpand_ok hb g.out Ht.out _).mono ?_; rintro e w6 ⟨rfl, hB6⟩; have hM6 := hM5.on hB6; clear hB6 hM5; (try unfold WV); go_frame)
    | ((with_reducible change wpList _ _ _ (Oper.mk (some 9) _ _ _ _ _ :: _) _ _); refine mmAlloc hM6 _ _ rfl rfl zero_Wide ?_; intro w7 hM7; clear hM6; go_frame)
    | ((with_reducible change wpList _ _ _ (Oper.mk none (Op.store _ (Operand.tmp 9) (Operand.tmp 26)) _ _ _ _ :: _) _ _); refine mmStoreAt hM7 0 _ _ _ _ _ _ (wcells t) rfl rfl rfl rfl rfl (info_WideC _) (by simp only [wcells_size]) (wcells_one _) ?_; intro w8 hM8; dsimp only [List.set] at hM8; clear hM7; go_frame)
    | ((with_reducible change wpList _ _ _ (Oper.mk (some 29) _ _ _ _ _ :: _) _ _); refine kYw (yNeqK _ _ _ _ .i64 0 0 false rfl rfl rfl rfl rfl) ?_; go_frame)
    | ((with_reducible change wpList _ _ _ (Oper.mk (some 32) _ _ _ _ _ :: _) _ _); refine kYw (yNeqK _ _ _ _ .i64 0 0 false rfl rfl rfl rfl rfl) ?_; go_frame)
    | ((with_reducible change wpList _ _ _ (Oper.mk (some 52) _ _ _ _ _ :: _) _ _); refine kLoadRow _ _ _ _ _ _ rfl rfl rfl (hM8.get 1 rfl) Try.underlying24 rfl (info_WideC _) ?_; go_frame)
    | ((with_reducible change wpList _ _ _ (Oper.mk (some 53) _ _ _ _ _ :: _) _ _); refine kLoadRow _ _ _ _ _ _ rfl rfl rfl (hM8.get 0 rfl) Try.underlying24 rfl (info_WideC _) ?_; go_frame)
    | (go_at_call 23; (with_reducible change Calls _ _ #[Value.agg (wcells s), Value.agg (wcells t)] _ _); refine (wLess_k hs ht hd.out _).mono ?_; rintro e w9 ⟨rfl, hB9⟩; have hM9 := hM8.on hB9; clear hB9 hM8; (try unfold WV); go_frame)
    | ((with_reducible change wpList _ _ _ (Oper.mk (some 63) _ _ _ _ _ :: _) _ _); refine kIndexAddr1 _ _ _ _ _ _ _ 0 _ rfl rfl rfl rfl Try.underlying47 info_u32W rfl (by decide) ?_; go_frame)
    | ((with_reducible change wpList _ _ _ (Oper.mk (some 64) _ _ _ _ _ :: _) _ _); refine kLoad1 _ _ _ _ _ _ _ _ rfl rfl rfl (hM9.get 2 rfl) Try.underlying28 rfl rfl ?_; go_frame)
    | ((with_reducible change wpList _ _ _ (Oper.mk (some 65) _ _ _ _ _ :: _) _ _); refine kIndexAddr1 _ _ _ _ _ _ _ 1 _ rfl rfl rfl rfl Try.underlying47 info_u32W rfl (by decide) ?_; go_frame)
    | ((with_reducible change wpList _ _ _ (Oper.mk (some 66) _ _ _ _ _ :: _) _ _); refine kLoad1 _ _ _ _ _ _ _ _ rfl rfl rfl (hM9.get 2 rfl) Try.underlying28 rfl rfl ?_; go_frame)
    | (go_at_call 14; (with_reducible change Calls _ _ #[Value.int .u32 ((a : Int)), Value.int .u32 ((x : Int)), Value.int .u32 ((y : Int))] _ _); refine (kNext_as ha hx hy Hr.out _).mono ?_; rintro e w10 ⟨rfl, hB10⟩; have hM10 := hM9.on hB10; clear hB10 hM9; (try unfold WV); go_frame)
    | (go_at_call 9; (with_reducible change Calls _ _ #[Value.int .u32 ((r : Int))] _ _); refine (kExpand_ok hr k.out Hu.out _).mono ?_; rintro e w11 ⟨rfl, hB11⟩; have hM11 := hM10.on hB11; clear hB11 hM10; (try unfold WV); go_frame)
    | ((with_reducible change wpList _ _ _ (Oper.mk (some 12) _ _ _ _ _ :: _) _ _); refine mmAlloc hM11 _ _ rfl rfl zero_Wide ?_; intro w12 hM12; clear hM11; go_frame)
    | ((with_reducible change wpList _ _ _ (Oper.mk none (Op.store _ (Operand.tmp 12) (Operand.tmp 71)) _ _ _ _ :: _) _ _); refine mmStoreAt hM12 0 _ _ _ _ _ _ (wcells u) rfl rfl rfl rfl rfl (info_WideC _) (by simp only [wcells_size]) (wcells_one _) ?_; intro w13 hM13; dsimp only [List.set] at hM13; clear hM12; go_frame)
    | ((with_reducible change wpList _ _ _ (Oper.mk (some 74) _ _ _ _ _ :: _) _ _); refine kYw (yNeqK _ _ _ _ .i64 0 0 false rfl rfl rfl rfl rfl) ?_; go_frame)
    | (go_at_call 9; (with_reducible change Calls _ _ #[Value.int .u32 (545259519)] _ _); refine (kExpand_okL (b := 545259519) rfl (by decide) easy_fine fE.out _).mono ?_; rintro e w14 ⟨rfl, hB14⟩; have hM14 := hM13.on hB14; clear hB14 hM13; (try unfold WV); go_frame)
    | ((with_reducible change wpList _ _ _ (Oper.mk (some 14) _ _ _ _ _ :: _) _ _); refine mmAlloc hM14 _ _ rfl rfl zero_Wide ?_; intro w15 hM15; clear hM14; go_frame)
    | ((with_reducible change wpList _ _ _ (Oper.mk none (Op.store _ (Operand.tmp 14) (Operand.tmp 80)) _ _ _ _ :: _) _ _); refine mmStoreAt hM15 0 _ _ _ _ _ _ (wcells E) rfl rfl rfl rfl rfl (info_WideC _) (by simp only [wcells_size]) (wcells_one _) ?_; intro w16 hM16; dsimp only [List.set] at hM16; clear hM15; go_frame))
  refine region_symT 21 _ [] [] [.val (.agg (wcells E)), .val (.agg (wcells u)), .val (.bool false), .val (.bool true), .val (.bool true), .val (.agg (wcells u)), .val (.int .i64 ((M : Int))), .val (.int .i64 (((M + 3 : Nat) : Int))), .val (.agg (wcells s)), .val (.int .i64 ((L : Int))), .val (.bool true), .val (.bool true), .val (.bool true), .val (.agg (wcells u)), .val (.int .i64 ((M : Int))), .val (.agg (wcells s)), .val (.int .i64 ((L : Int))), .val (.int .i64 (((L + 3 : Nat) : Int))), .val (.bool true), .val (.bool true), .val (.bool true)] rfl (by kernel_rfl) (by kernel_rfl) (by kernel_rfl) (by kernel_rfl) rfl (by intro s hs; cases hs) (steps_all ⟨?_, ?_, ?_, ?_, ?_, ?_, ?_, ?_, ?_, ?_, ?_, ?_, ?_, ?_, ?_, ?_, ?_, ?_, ?_, ?_, ?_, trivial⟩) ?_
  · exact fun A W sz ot hbel ap dp => kLoadRow _ _ _ _ _ _ rfl rfl (sO ot 14) ((hM16.get 0 rfl).on hbel) Try.underlying24 rfl (info_WideC _) (sE ap sz rfl)
  · exact fun A W sz ot hbel ap dp => kLoadRow _ _ _ _ _ _ rfl rfl (sO ot 12) ((hM16.get 1 rfl).on hbel) Try.underlying24 rfl (info_WideC _) (sE ap sz rfl)
  · exact fun A W sz ot hbel ap dp => sCall2 23 rfl (sD dp 0 .data) (sD dp 1 .data) (sC (wLess_k hE hu hEu.out W) ap sz (fun _ => rfl))
  · exact fun A W sz ot hbel ap dp => kNot _ _ false rfl rfl (sD dp 2 .data) (sE ap sz rfl)
  · exact fun A W sz ot hbel ap dp => kMoveV _ _ rfl rfl (sD dp 3 .data) (sE ap sz rfl)
  · exact fun A W sz ot hbel ap dp => kLoadRow _ _ _ _ _ _ rfl (wanted_of rfl rfl (sD dp 4 .guard)) (sO ot 12) ((hM16.get 1 rfl).on hbel) Try.underlying24 rfl (info_WideC _) (sE ap sz rfl)
  · exact fun A W sz ot hbel ap dp => sCall1 11 rfl (sD dp 5 .data) (sC (wBits_k hu HM.out W) ap sz (fun _ => rfl)) (wanted_of rfl rfl (sD dp 4 .chain))
  · exact fun A W sz ot hbel ap dp => kYw (yAddZ _ _ _ _ (M : Int) 3 ((M + 3 : Nat) : Int) (by omega) rfl (wanted_of rfl rfl (sD dp 4 .guard)) (sD dp 6 .data) rfl) (sE ap sz rfl)
  · exact fun A W sz ot hbel ap dp => kLoadRow _ _ _ _ _ _ rfl (wanted_of rfl rfl (sD dp 4 .guard)) (sO ot 7) ((hM16.get 3 rfl).on hbel) Try.underlying24 rfl (info_WideC _) (sE ap sz rfl)
  · exact fun A W sz ot hbel ap dp => sCall1 11 rfl (sD dp 8 .data) (sC (wBits_k hs HL.out W) ap sz (fun _ => rfl)) (wanted_of rfl rfl (sD dp 4 .guard))
  · exact fun A W sz ot hbel ap dp => kYw (yGeqK _ _ _ _ .i64 ((M + 3 : Nat) : Int) (L : Int) true f92.out rfl (wanted_of rfl rfl (sD dp 4 .guard)) (sD dp 7 .data) (sD dp 9 .data)) (sE ap sz rfl)
  · exact fun A W sz ot hbel ap dp => kPick _ _ _ true (.bool true) rfl rfl (sD dp 4 .data) (sD dp 10 .data) (sE ap sz rfl)
  · exact fun A W sz ot hbel ap dp => kMoveV _ _ rfl rfl (sD dp 11 .data) (sE ap sz rfl)
  · exact fun A W sz ot hbel ap dp => kLoadRow _ _ _ _ _ _ rfl (wanted_of rfl rfl (sD dp 12 .guard)) (sO ot 12) ((hM16.get 1 rfl).on hbel) Try.underlying24 rfl (info_WideC _) (sE ap sz rfl)
  · exact fun A W sz ot hbel ap dp => sCall1 11 rfl (sD dp 13 .data) (sC (wBits_k hu HM.out W) ap sz (fun _ => rfl)) (wanted_of rfl rfl (sD dp 12 .chain))
  · exact fun A W sz ot hbel ap dp => kLoadRow _ _ _ _ _ _ rfl (wanted_of rfl rfl (sD dp 12 .guard)) (sO ot 7) ((hM16.get 3 rfl).on hbel) Try.underlying24 rfl (info_WideC _) (sE ap sz rfl)
  · exact fun A W sz ot hbel ap dp => sCall1 11 rfl (sD dp 15 .data) (sC (wBits_k hs HL.out W) ap sz (fun _ => rfl)) (wanted_of rfl rfl (sD dp 12 .guard))
  · exact fun A W sz ot hbel ap dp => kYw (yAddZ _ _ _ _ (L : Int) 3 ((L + 3 : Nat) : Int) (by omega) rfl (wanted_of rfl rfl (sD dp 12 .guard)) (sD dp 16 .data) rfl) (sE ap sz rfl)
  · exact fun A W sz ot hbel ap dp => kYw (yLeqK _ _ _ _ .i64 (M : Int) ((L + 3 : Nat) : Int) true f100.out rfl (wanted_of rfl rfl (sD dp 12 .guard)) (sD dp 14 .data) (sD dp 17 .data)) (sE ap sz rfl)
  · exact fun A W sz ot hbel ap dp => kPick _ _ _ true (.bool true) rfl rfl (sD dp 12 .data) (sD dp 18 .data) (sE ap sz rfl)
  · exact fun A W sz ot hbel ap dp => kAssignV _ _ rfl rfl (sD dp 19 .data) (sE ap sz rfl)
  intro w17 hB17
  dsimp only [AllV]
  intro hap
  dsimp only [putAll, List.take, List.drop]
  go_frame
  have hM17 := hM16.on hB17
  clear hB17 hM16 hap
  go_wp2_with fail
  go_ret
  exact ⟨rfl, hM17.below⟩
set_option maxRecDepth 100000 in
set_option maxHeartbeats 32000000 in
theorem harder_mn (a : Nat) (ha : a < 4294967296) (b : Nat) (hb : b < 4294967296) (x y : Nat) (hx : x < 4294967296) (hy : y < 4294967296) (w : World) {s t p q r : Nat} (h : Hid (¬ badN a)) (g : Hid (¬ badN b)) (Hs : Hid (rawN a = s)) (Ht : Hid (rawN b = t)) (hs : s < M256) (ht : t < M256) (Hr : Hid (nextN a x y = r)) (hr : r < 4294967296) (hd : Hid (decide (s < t) = false)) (k : Hid (badN r)) {L : Nat} (HL : Hid (blen s = L)) (f77 : Hid (decide ((L : Int) < 24) = true)) : Calls Try.prog 7 #[.int .u32 (a : Int), .int .u32 (b : Int), .agg #[.int .u32 (x : Int), .int .u32 (y : Int)]] w (fun e w' => e = .returned (.bool true) ∧ Below w.heap.size w w') := by
  have hM0 := mm_nil w
  (try unfold WV)
  go_enter Try.func7, Try.ntmps7
  go_wp2_with (first
    | ((with_reducible change wpList _ _ _ (Oper.mk (some 5) _ _ _ _ _ :: _) _ _); refine mmBox hM0 _ _ (#[.int .u32 (x : Int), .int .u32 (y : Int)]) rfl rfl rfl ?_; intro w1 hM1; clear hM0; go_frame)
    | (go_at_call 10; refine (workAlive_any _).mono ?_; rintro e w2 ⟨rfl, hB2⟩; have hM2 := hM1.on hB2; clear hB2 hM1; (try unfold WV); go_frame)
    | (go_at_call 9; (with_reducible change Calls _ _ #[Value.int .u32 ((a : Int))] _ _); refine (kExpand_ok ha h.out Hs.out _).mono ?_; rintro e w3 ⟨rfl, hB3⟩; have hM3 := hM2.on hB3; clear hB3 hM2; (try unfold WV); go_frame)
    | ((with_reducible change wpList _ _ _ (Oper.mk (some 7) _ _ _ _ _ :: _) _ _); refine mmAlloc hM3 _ _ rfl rfl zero_Wide ?_; intro w4 hM4; clear hM3; go_frame)
    | ((with_reducible change wpList _ _ _ (Oper.mk none (Op.store _ (Operand.tmp 7) (Operand.tmp 21)) _ _ _ _ :: _) _ _); refine mmStoreAt hM4 0 _ _ _ _ _ _ (wcells s) rfl rfl rfl rfl rfl (info_WideC _) (by simp only [wcells_size]) (wcells_one _) ?_; intro w5 hM5; dsimp only [List.set] at hM5; clear hM4; go_frame)
    | (go_at_call 9; (with_reducible change Calls _ _ #[Value.int .u32 ((b : Int))] _ _); refine (kExpand_ok hb g.out Ht.out _).mono ?_; rintro e w6 ⟨rfl, hB6⟩; have hM6 := hM5.on hB6; clear hB6 hM5; (try unfold WV); go_frame)
    | ((with_reducible change wpList _ _ _ (Oper.mk (some 9) _ _ _ _ _ :: _) _ _); refine mmAlloc hM6 _ _ rfl rfl zero_Wide ?_; intro w7 hM7; clear hM6; go_frame)
    | ((with_reducible change wpList _ _ _ (Oper.mk none (Op.store _ (Operand.tmp 9) (Operand.tmp 26)) _ _ _ _ :: _) _ _); refine mmStoreAt hM7 0 _ _ _ _ _ _ (wcells t) rfl rfl rfl rfl rfl (info_WideC _) (by simp only [wcells_size]) (wcells_one _) ?_; intro w8 hM8; dsimp only [List.set] at hM8; clear hM7; go_frame)
    | ((with_reducible change wpList _ _ _ (Oper.mk (some 29) _ _ _ _ _ :: _) _ _); refine kYw (yNeqK _ _ _ _ .i64 0 0 false rfl rfl rfl rfl rfl) ?_; go_frame)
    | ((with_reducible change wpList _ _ _ (Oper.mk (some 32) _ _ _ _ _ :: _) _ _); refine kYw (yNeqK _ _ _ _ .i64 0 0 false rfl rfl rfl rfl rfl) ?_; go_frame)
    | ((with_reducible change wpList _ _ _ (Oper.mk (some 52) _ _ _ _ _ :: _) _ _); refine kLoadRow _ _ _ _ _ _ rfl rfl rfl (hM8.get 1 rfl) Try.underlying24 rfl (info_WideC _) ?_; go_frame)
    | ((with_reducible change wpList _ _ _ (Oper.mk (some 53) _ _ _ _ _ :: _) _ _); refine kLoadRow _ _ _ _ _ _ rfl rfl rfl (hM8.get 0 rfl) Try.underlying24 rfl (info_WideC _) ?_; go_frame)
    | (go_at_call 23; (with_reducible change Calls _ _ #[Value.agg (wcells s), Value.agg (wcells t)] _ _); refine (wLess_k hs ht hd.out _).mono ?_; rintro e w9 ⟨rfl, hB9⟩; have hM9 := hM8.on hB9; clear hB9 hM8; (try unfold WV); go_frame)
    | ((with_reducible change wpList _ _ _ (Oper.mk (some 63) _ _ _ _ _ :: _) _ _); refine kIndexAddr1 _ _ _ _ _ _ _ 0 _ rfl rfl rfl rfl Try.underlying47 info_u32W rfl (by decide) ?_; go_frame)
    | ((with_reducible change wpList _ _ _ (Oper.mk (some 64) _ _ _ _ _ :: _) _ _); refine kLoad1 _ _ _ _ _ _ _ _ rfl rfl rfl (hM9.get 2 rfl) Try.underlying28 rfl rfl ?_; go_frame)
    | ((with_reducible change wpList _ _ _ (Oper.mk (some 65) _ _ _ _ _ :: _) _ _); refine kIndexAddr1 _ _ _ _ _ _ _ 1 _ rfl rfl rfl rfl Try.underlying47 info_u32W rfl (by decide) ?_; go_frame)
    | ((with_reducible change wpList _ _ _ (Oper.mk (some 66) _ _ _ _ _ :: _) _ _); refine kLoad1 _ _ _ _ _ _ _ _ rfl rfl rfl (hM9.get 2 rfl) Try.underlying28 rfl rfl ?_; go_frame)
    | (go_at_call 14; (with_reducible change Calls _ _ #[Value.int .u32 ((a : Int)), Value.int .u32 ((x : Int)), Value.int .u32 ((y : Int))] _ _); refine (kNext_as ha hx hy Hr.out _).mono ?_; rintro e w10 ⟨rfl, hB10⟩; have hM10 := hM9.on hB10; clear hB10 hM9; (try unfold WV); go_frame)
    | (go_at_call 9; (with_reducible change Calls _ _ #[Value.int .u32 ((r : Int))] _ _); refine (kExpand_bad hr k.out _).mono ?_; rintro e w11 ⟨rfl, hB11⟩; have hM11 := hM10.on hB11; clear hB11 hM10; (try unfold WV); go_frame)
    | ((with_reducible change wpList _ _ _ (Oper.mk (some 12) _ _ _ _ _ :: _) _ _); refine mmAlloc hM11 _ _ rfl rfl zero_Wide ?_; intro w12 hM12; clear hM11; go_frame)
    | ((with_reducible change wpList _ _ _ (Oper.mk none (Op.store _ (Operand.tmp 12) (Operand.tmp 71)) _ _ _ _ :: _) _ _); refine mmStoreAt hM12 0 _ _ _ _ _ _ (wcells 0) rfl rfl rfl rfl rfl (info_WideC _) (by simp only [wcells_size]) (wcells_one _) ?_; intro w13 hM13; dsimp only [List.set] at hM13; clear hM12; go_frame)
    | ((with_reducible change wpList _ _ _ (Oper.mk (some 74) _ _ _ _ _ :: _) _ _); refine kYw (yNeqK _ _ _ _ .i64 121 0 true rfl rfl rfl rfl rfl) ?_; go_frame)
    | ((with_reducible change wpList _ _ _ (Oper.mk (some 75) _ _ _ _ _ :: _) _ _); refine kLoadRow _ _ _ _ _ _ rfl rfl rfl (hM13.get 2 rfl) Try.underlying24 rfl (info_WideC _) ?_; go_frame)
    | (go_at_call 11; (with_reducible change Calls _ _ #[Value.agg (wcells s)] _ _); refine (wBits_k hs HL.out _).mono ?_; rintro e w14 ⟨rfl, hB14⟩; have hM14 := hM13.on hB14; clear hB14 hM13; (try unfold WV); go_frame)
    | ((with_reducible change wpList _ _ _ (Oper.mk (some 77) _ _ _ _ _ :: _) _ _); refine kYw (yLssK _ _ _ _ .i64 (L : Int) 24 true f77.out rfl rfl rfl rfl) ?_; go_frame))
  go_ret
  exact ⟨rfl, hM14.below⟩
set_option maxRecDepth 100000 in
set_option maxHeartbeats 32000000 in
theorem WorkHarder_any (a : Nat) (ha : a < 4294967296) (b : Nat) (hb : b < 4294967296) (x y : Nat) (hx : x < 4294967296) (hy : y < 4294967296) (w : World) : Calls Try.prog 7 #[.int .u32 (a : Int), .int .u32 (b : Int), .agg #[.int .u32 (x : Int), .int .u32 (y : Int)]] w (fun e w' => e = .returned (.bool true) ∧ Below w.heap.size w w') := by
  by_cases h : badN a
  · by_cases g : badN b
    · exact harder_aa a ha b hb x y hx hy w (Lib.hid h) (Lib.hid g)
    · exact harder_ab a ha b hb x y hx hy w (Lib.hid h) (Lib.hid g) (Lib.hid rfl)
  by_cases g : badN b
  · exact harder_ba a ha b hb x y hx hy w (Lib.hid h) (Lib.hid g) (Lib.hid rfl)
  have hs := raw_lt h
  have ht := raw_lt g
  obtain ⟨b1, b2, b3, b4⟩ := next_bounds x y h
  have hn : nextN a x y = compactN (nextT a x y) := if_neg h
  have hnM : nextT a x y < M256 := Nat.lt_of_le_of_lt b1 easy_lt
  have hr : nextN a x y < 4294967296 := by rw [hn]; exact compact_lt hnM
  by_cases hz : nextT a x y = 0
  · have k : badN (nextN a x y) := by rw [hn, hz, compactN_zero]; decide +kernel
    have f77 : Hid (decide ((blen (rawN a) : Int) < 24) = true) := Lib.hid (by have := b2 hz; simp; omega)
    by_cases hl : rawN a < rawN b
    · exact harder_ln a ha b hb x y hx hy w (Lib.hid h) (Lib.hid g) (Lib.hid rfl) (Lib.hid rfl) hs ht (Lib.hid rfl) hr (Lib.hid hl) (Lib.hid rfl) (Lib.hid rfl) (work_lt a) (work_lt b) (Lib.hid (by have := work_less h g hl; simp; omega)) (Lib.hid (decide_eq_true hl)) (Lib.hid k) (Lib.hid rfl) f77
    · exact harder_mn a ha b hb x y hx hy w (p := 0) (q := 0) (Lib.hid h) (Lib.hid g) (Lib.hid rfl) (Lib.hid rfl) hs ht (Lib.hid rfl) hr (Lib.hid (decide_eq_false hl)) (Lib.hid k) (Lib.hid rfl) f77
  · obtain ⟨k1, k2, k3, -⟩ := compact_keeps (Nat.pos_of_ne_zero hz) b1
    rw [← hn] at k1 k2 k3
    have hu := raw_lt k1
    have hEu : Hid (decide (rawN 545259519 < rawN (nextN a x y)) = false) := Lib.hid (by rw [easy_raw]; simp; omega)
    have hE : rawN 545259519 < M256 := by rw [easy_raw]; exact easy_lt
    have hL : blen (rawN a) ≤ 256 := (blen_le _ 256).2 hs
    have hM : blen (rawN (nextN a x y)) ≤ 256 := (blen_le _ 256).2 hu
    have f92 : Hid (decide (((blen (rawN (nextN a x y)) + 3 : Nat) : Int) ≥ (blen (rawN a) : Int)) = true) := Lib.hid (by simp; omega)
    have f100 : Hid (decide ((blen (rawN (nextN a x y)) : Int) ≤ ((blen (rawN a) + 3 : Nat) : Int)) = true) := Lib.hid (by simp; omega)
    by_cases hl : rawN a < rawN b
    · exact harder_ls a ha b hb x y hx hy w (Lib.hid h) (Lib.hid g) (Lib.hid rfl) (Lib.hid rfl) hs ht (Lib.hid rfl) hr (Lib.hid hl) (Lib.hid rfl) (Lib.hid rfl) (work_lt a) (work_lt b) (Lib.hid (by have := work_less h g hl; simp; omega)) (Lib.hid (decide_eq_true hl)) (Lib.hid k1) (Lib.hid rfl) hu (Lib.hid rfl) hE hEu (Lib.hid rfl) (Lib.hid rfl) hL hM f92 f100
    · exact harder_ms a ha b hb x y hx hy w (p := 0) (q := 0) (Lib.hid h) (Lib.hid g) (Lib.hid rfl) (Lib.hid rfl) hs ht (Lib.hid rfl) hr (Lib.hid (decide_eq_false hl)) (Lib.hid k1) (Lib.hid rfl) hu (Lib.hid rfl) hE hEu (Lib.hid rfl) (Lib.hid rfl) hL hM f92 f100
end Go.Proofs.Ytdeggdmoijfhdaa
