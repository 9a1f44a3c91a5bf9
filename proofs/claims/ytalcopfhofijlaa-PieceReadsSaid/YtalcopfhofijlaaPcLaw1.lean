/-
  Layer 6: the walks of pieceAlive, PieceNames, PieceSizes and PieceAlone.
-/
import Derived.Test.YtalcopfhofijlaaPcRefRead2
namespace Go.Proofs.Ytalcopfhofijlaa
open Go Go.RowKit

theorem pcCount_nil (n : Nat) (L : List UInt8) (hL : countL n = L) (w : World) : Calls Try.prog 15 #[.slice none 0 0, .int .u64 (n : Int)] w (OwnPost w L) := by
  subst hL; exact pcCount_any (l := []) n w (isVals_nil w) (by simp)
theorem pcFixed_nil (n : Nat) (z : Int) (w : World) : Calls Try.prog 16 #[.slice none 0 0, .int .u64 (n : Int), .int .i64 z] w (OwnPost w (fixedL n (clampS z))) :=
  pcFixed_any (l := []) n z w (isVals_nil w) (by simp)
set_option maxRecDepth 100000 in
set_option maxHeartbeats 8000000 in
theorem pieceAlive_any (w : World) : Calls Try.prog 9 #[] w fun e w' => e = .returned (.bool true) ∧ Below w.heap.size w w' := by
  have hcs : countS ⟨[253, 253, 0], 0⟩ 300 = (253, ⟨[], 0⟩) := rfl
  go_enter Try.func9, Try.ntmps9
  go_wp2_with (first
    | (go_at_call 15; refine (pcCount_nil 253 [253, 253, 0] rfl _).mono ?_; rintro e w1 ⟨v1, rfl, hO1, hB1⟩; have hV1 := hO1.vals; clear hO1; have hsz1 := hB1.size; go_frame)
    | (go_at_call 10; refine (pcNew_any _ hV1 (by decide)).mono ?_; rintro e w2 ⟨g, rfl, hg, hR2, hB2⟩; have hV2 := hV1.below hB2; have hB3 := hB1.trans (hB2.mono hsz1); have hge : w.heap.size ≤ g := Nat.le_trans hsz1 hg; have hsz3 := hB3.size; clear hV1 hB1 hB2; go_frame)
    | ((with_reducible change wpList _ _ _ (Oper.mk (some 7) _ _ _ _ _ :: _) _ _); refine kToString _ _ _ _ v1 [253, 253, 0] rfl rfl rfl hV2 Try.underlying25 Try.underlying5 Try.underlying9 ?_; go_frame)
    | ((with_reducible change wpList _ _ _ (Oper.mk (some 8) _ _ _ _ _ :: _) _ _); refine kEqlStr _ _ _ _ [253, 253, 0] [253, 253, 0] true rfl rfl rfl rfl (by decide) ?_; go_frame)
    | (go_at_call 11; refine (rdCount_any (most := 300) _ hR2).mono ?_; rintro e w4 ⟨rfl, hR4, hX4⟩; rw [hcs] at hR4 ⊢; have hB4 := hB3.trans (hX4.below hge hsz3); clear hB3 hX4; go_frame)
    | (go_at_call 14; refine (rdLeft_any (n := 0) _ hR4 rfl).mono ?_; rintro e w5 ⟨rfl, rfl⟩; go_frame)
    | (go_at_call 13; refine (rdErr_any (n := 0) _ hR4 rfl).mono ?_; rintro e w6 ⟨rfl, rfl⟩; go_frame))
  go_ret
  exact ⟨rfl, hB4⟩
theorem countL_65536 : (countL 65536).length = 5 := rfl
theorem countL_4294967296 : (countL 4294967296).length = 9 := by rw [countL_len]; rfl
set_option maxRecDepth 100000 in
set_option maxHeartbeats 8000000 in
theorem PieceNames_any (w : World) : Calls Try.prog 3 #[] w fun e w' => e = .returned (.bool true) ∧ Below w.heap.size w w' := by
  obtain ⟨i, hi, hz, hs1, hby⟩ := b8Info
  have hcs : countS ⟨[253, 252, 0], 0⟩ 1000 = (0, ⟨[253, 252, 0], 62⟩) := rfl
  have hfs : fixedS ⟨[], 0⟩ 4 = (0, ⟨[], 61⟩) := rfl
  go_enter Try.func3, Try.ntmps3
  go_wp2_with (first
    | (go_at_call 9; refine (pieceAlive_any _).mono ?_; rintro e w1 ⟨rfl, hB1⟩; have hsz1 := hB1.size; go_frame)
    | ((with_reducible change wpList _ _ _ (Oper.mk (some 7) _ _ _ _ _ :: _) _ _); refine kBuildSlice3 _ _ _ _ _ (VB 253) (VB 252) (VB 0) rfl rfl Try.underlying25 i _ hi hz hs1 rfl rfl rfl rfl rfl rfl ?_; intro w2 hR2 hz2 hB2; clear hz2; have hV2 : IsVals w2 _ (([253, 252, 0] : List UInt8).map VB) := isVals_lit (l := [VB 253, VB 252, VB 0]) hR2; clear hR2; have hB3 := hB1.trans (hB2.mono hsz1); have hsz3 := hB3.size; clear hB1 hB2 hsz1; go_frame)
    | (go_at_call 10; (with_reducible change Calls _ _ #[.slice (some _) _ _] _ _); refine (pcNew_any _ hV2 (by decide)).mono ?_; rintro e w4 ⟨g, rfl, hg, hR4, hB4⟩; clear hV2; have hge : w.heap.size ≤ g := Nat.le_trans hsz3 hg; have hB5 := hB3.trans (hB4.mono hsz3); have hsz5 := hB5.size; clear hB3 hB4 hsz3; go_frame)
    | (go_at_call 10; (with_reducible change Calls _ _ #[.slice none _ _] _ _); refine (pcNew_any (l := []) _ (isVals_nil _) (by decide)).mono ?_; rintro e w6 ⟨k, rfl, hk, hR6, hB6⟩; have hgk : g ≠ k := (by have := hR4.lt; omega); have hR4b := hR4.below hB6; clear hR4; have hke : w.heap.size ≤ k := Nat.le_trans hsz5 hk; have hB7 := hB5.trans (hB6.mono hsz5); have hsz7 := hB7.size; clear hB5 hB6 hsz5 hg hk; go_frame)
    | (go_at_call 11; refine (rdCount_any (most := 1000) _ hR4b).mono ?_; rintro e w8 ⟨rfl, hR8, hX8⟩; rw [hcs] at hR8 ⊢; have hR9 := hX8.rd hR4b hR6 (Ne.symm hgk); have hB9 := hB7.trans (hX8.below hge hsz7); have hsz9 := hB9.size; clear hB7 hX8 hsz7 hR4b hR6; go_frame)
    | (go_at_call 12; refine (rdFixed_any (z := 4) _ hR9).mono ?_; rintro e w10 ⟨rfl, hR10, hX10⟩; rw [hfs] at hR10 ⊢; have hR11 := hX10.rd hR9 hR8 hgk; have hB := hB9.trans (hX10.below hke hsz9); have hsz := hB.size; clear hB9 hX10 hsz9 hR8 hR9; go_frame)
    | (go_at_call 13; (with_reducible change Calls _ _ #[Value.pointer (some ⟨g, 0, none⟩)] _ _); refine (rdErr_any (n := 62) _ hR11 rfl).mono ?_; rintro e w12 ⟨rfl, rfl⟩; go_frame)
    | (go_at_call 14; refine (rdLeft_any (n := 3) _ hR11 rfl).mono ?_; rintro e w13 ⟨rfl, rfl⟩; go_frame)
    | (go_at_call 13; (with_reducible change Calls _ _ #[Value.pointer (some ⟨k, 0, none⟩)] _ _); refine (rdErr_any (n := 61) _ hR10 rfl).mono ?_; rintro e w12 ⟨rfl, rfl⟩; clear hR10 hR11; go_frame)
    | (go_at_call 15; (with_reducible change Calls _ _ #[_, .int .u64 65536] _ _); refine (pcCount_nil 65536 _ rfl _).mono ?_; rintro e wq ⟨vq, rfl, hOq, hBq⟩; have hVq := hOq.vals; clear hOq; have hBn := hB.trans (hBq.mono hsz); clear hB hBq hsz; have hB := hBn; have hsz := hB.size; clear hBn; go_frame)
    | ((with_reducible change wpList _ _ _ (Oper.mk (some 39) _ _ _ _ _ :: _) _ _); refine kLenN _ _ _ vq _ 5 rfl rfl rfl hVq (by rw [List.length_map]; exact countL_65536) Try.underlying25 ?_; clear hVq; go_frame)
    | (go_at_call 15; (with_reducible change Calls _ _ #[_, .int .u64 4294967296] _ _); refine (pcCount_nil 4294967296 _ rfl _).mono ?_; rintro e wq ⟨vq, rfl, hOq, hBq⟩; have hVq := hOq.vals; clear hOq; have hBn := hB.trans (hBq.mono hsz); clear hB hBq hsz; have hB := hBn; have hsz := hB.size; clear hBn; go_frame)
    | ((with_reducible change wpList _ _ _ (Oper.mk (some 44) _ _ _ _ _ :: _) _ _); refine kLenN _ _ _ vq _ 9 rfl rfl rfl hVq (by rw [List.length_map]; exact countL_4294967296) Try.underlying25 ?_; clear hVq; go_frame)
    | (go_at_call 16; (with_reducible change Calls _ _ #[_, _, .int .i64 99] _ _); refine (pcFixed_nil 5 99 _).mono ?_; rintro e wq ⟨vq, rfl, hOq, hBq⟩; have hVq := hOq.vals; clear hOq; have hBn := hB.trans (hBq.mono hsz); clear hB hBq hsz; have hB := hBn; have hsz := hB.size; clear hBn; go_frame)
    | ((with_reducible change wpList _ _ _ (Oper.mk (some 49) _ _ _ _ _ :: _) _ _); refine kLenN _ _ _ vq _ 8 rfl rfl rfl hVq (by rw [List.length_map]; rw [fixedL_len]; rfl) Try.underlying25 ?_; clear hVq; go_frame)
    | (go_at_call 16; (with_reducible change Calls _ _ #[_, _, .int .i64 (-1)] _ _); refine (pcFixed_nil 5 (-1) _).mono ?_; rintro e wq ⟨vq, rfl, hOq, hBq⟩; have hVq := hOq.vals; clear hOq; have hBn := hB.trans (hBq.mono hsz); clear hB hBq hsz; have hB := hBn; have hsz := hB.size; clear hBn; go_frame)
    | ((with_reducible change wpList _ _ _ (Oper.mk (some 54) _ _ _ _ _ :: _) _ _); refine kLenN _ _ _ vq _ 0 rfl rfl rfl hVq (by rw [List.length_map]; rw [fixedL_len]; rfl) Try.underlying25 ?_; clear hVq; go_frame))
  go_ret
  exact ⟨rfl, hB⟩
section
variable {ops : Array Oper} {Q : Exit → Act → World → Prop} {rest : List Oper} {o : Oper} {a : Act} {w : World}
theorem kMulI (T T2 : TypeId) (x y : Operand) (m n z : Int) (hz : m * n = z ∧ 0 ≤ z ∧ z < 9223372036854775808) (ho : o.op = .binOp .mul T x y T2) (hg : Region.wanted o (yielded ops a.tmps) = true) (hx : a.eval x = .int .i64 m) (hy : a.eval y = .int .i64 n) (h : wpList Try.prog ops Q rest (a.put o.dst (.int .i64 z)) w) : wpList Try.prog ops Q (o :: rest) a w := by
  obtain ⟨rfl, h1, h2⟩ := hz
  refine kPure _ hg ?_ h
  unfold execOp
  simp only [ho, hx, hy]
  have e : IntKind.i64.wrap (m * n) = m * n := by
    generalize m * n = z at *
    rw [IntKind.wrap_i64]; omega
  simp [eqGuard, binOp, Op.intArith, e]
theorem kShlOne (T T2 : TypeId) (x y : Operand) (e M : Nat) (he : e < 64) (hM : 2 ^ e = M) (ho : o.op = .binOp .shl T x y T2) (hg : Region.wanted o (yielded ops a.tmps) = true) (hx : a.eval x = .int .u64 1) (hy : a.eval y = .int .i64 (e : Int)) (h : wpList Try.prog ops Q rest (a.put o.dst (.int .u64 (M : Int))) w) : wpList Try.prog ops Q (o :: rest) a w := by
  subst hM
  refine kPure _ hg ?_ h
  unfold execOp
  simp only [ho, hx, hy]
  have h2 := shift_shl .u64 .i64 1 (e : Int) (by omega) (by show (e : Int) ≤ 64; omega)
  have hlt : 2 ^ e < 2 ^ 64 := Nat.pow_lt_pow_right (by decide) he
  have e1 : IntKind.u64.wrap (1 * 2 ^ (e : Int).toNat) = ((2 ^ e : Nat) : Int) := by
    rw [Int.toNat_natCast, Int.one_mul, show (2 : Int) ^ e = ((2 ^ e : Nat) : Int) by norm_cast]
    generalize 2 ^ e = q at *
    rw [IntKind.wrap_u64]; omega
  rw [e1] at h2
  simp only [binOp, eqGuard, h2]
  rfl
theorem kSubU (T T2 : TypeId) (x y : Operand) (m n z : Nat) (hz : n + z = m) (hm : m < 18446744073709551616) (ho : o.op = .binOp .sub T x y T2) (hg : Region.wanted o (yielded ops a.tmps) = true) (hx : a.eval x = .int .u64 (m : Int)) (hy : a.eval y = .int .u64 (n : Int)) (h : wpList Try.prog ops Q rest (a.put o.dst (.int .u64 (z : Int))) w) : wpList Try.prog ops Q (o :: rest) a w := by
  refine kPure _ hg ?_ h
  unfold execOp
  simp only [ho, hx, hy]
  have e : IntKind.u64.wrap ((m : Int) - (n : Int)) = (z : Int) := by rw [IntKind.wrap_u64]; omega
  simp [eqGuard, binOp, Op.intArith, e]
theorem kMask (T T2 : TypeId) (x y : Operand) (n e M z : Nat) (hM : M + 1 = 2 ^ e) (he : e < 64) (hn : n < 18446744073709551616) (hz : n % 2 ^ e = z) (ho : o.op = .binOp .and T x y T2) (hg : Region.wanted o (yielded ops a.tmps) = true) (hx : a.eval x = .int .u64 (n : Int)) (hy : a.eval y = .int .u64 (M : Int)) (h : wpList Try.prog ops Q rest (a.put o.dst (.int .u64 (z : Int))) w) : wpList Try.prog ops Q (o :: rest) a w := by
  subst hz
  refine kPure _ hg ?_ h
  unfold execOp
  simp only [ho, hx, hy]
  have hlt : 2 ^ e < 2 ^ 64 := Nat.pow_lt_pow_right (by decide) he
  have e1 : bits .and .u64 (n : Int) (M : Int) = ((n % 2 ^ e : Nat) : Int) := by
    rw [u64_and_nat n M hn (by omega), show M = 2 ^ e - 1 by omega, Nat.and_two_pow_sub_one_eq_mod]
  have e2 : Op.intBits .and .u64 (n : Int) (M : Int) = pure (.int .u64 (bits .and .u64 (n : Int) (M : Int))) := by simp [Op.intBits, bits]
  rw [e1] at e2
  simp [eqGuard, binOp_and, e2]
end
def SizesPost (w : World) (e : Ending) (w' : World) : Prop := e = .returned (.bool true) ∧ Below w.heap.size w w'
set_option maxRecDepth 100000 in
set_option maxHeartbeats 8000000 in
theorem PieceSizes_out {n : Nat} {z : Int} {l : List UInt8} {v : Value} (w : World) (hv : IsVals w v (l.map VB)) (h : z < 0 ∨ 8 < z ∨ 100 < l.length) : Calls Try.prog 8 #[.int .u64 (n : Int), .int .i64 z, v] w (SizesPost w) := by
  obtain ⟨m, hm⟩ : ∃ m, l.length = m := ⟨_, rfl⟩
  by_cases h0 : z < 0
  · have hz0 : decide (z < 0) = true := by simp; omega
    clear h h0
    go_enter Try.func8, Try.ntmps8
    go_wp2_with (first
      | (go_at_call 9; refine (pieceAlive_any _).mono ?_; rintro e w1 ⟨rfl, hB1⟩; have hsz1 := hB1.size; have hv1 := hv.below hB1; go_frame)
      | ((with_reducible change wpList _ _ _ (Oper.mk (some 16) _ _ _ _ _ :: _) _ _); refine kLssI _ _ _ _ .i64 z 0 true rfl rfl rfl rfl hz0 ?_; go_frame))
    go_ret
    exact ⟨rfl, hB1⟩
  have hz0 : decide (z < 0) = false := by simp; omega
  by_cases h8 : 8 < z
  · have hz8 : decide (z > 8) = true := by simp; omega
    clear h h0 h8
    go_enter Try.func8, Try.ntmps8
    go_wp2_with (first
      | (go_at_call 9; refine (pieceAlive_any _).mono ?_; rintro e w1 ⟨rfl, hB1⟩; have hsz1 := hB1.size; have hv1 := hv.below hB1; go_frame)
      | ((with_reducible change wpList _ _ _ (Oper.mk (some 16) _ _ _ _ _ :: _) _ _); refine kLssI _ _ _ _ .i64 z 0 false rfl rfl rfl rfl hz0 ?_; go_frame)
      | ((with_reducible change wpList _ _ _ (Oper.mk (some 19) _ _ _ _ _ :: _) _ _); refine kGtrI _ _ _ _ .i64 z 8 true rfl rfl rfl rfl hz8 ?_; go_frame))
    go_ret
    exact ⟨rfl, hB1⟩
  · have hz8 : decide (z > 8) = false := by simp; omega
    have hm1 : decide ((m : Int) > 100) = true := by simp; omega
    clear h h0 h8
    go_enter Try.func8, Try.ntmps8
    go_wp2_with (first
      | (go_at_call 9; refine (pieceAlive_any _).mono ?_; rintro e w1 ⟨rfl, hB1⟩; have hsz1 := hB1.size; have hv1 := hv.below hB1; go_frame)
      | ((with_reducible change wpList _ _ _ (Oper.mk (some 16) _ _ _ _ _ :: _) _ _); refine kLssI _ _ _ _ .i64 z 0 false rfl rfl rfl rfl hz0 ?_; go_frame)
      | ((with_reducible change wpList _ _ _ (Oper.mk (some 19) _ _ _ _ _ :: _) _ _); refine kGtrI _ _ _ _ .i64 z 8 false rfl rfl rfl rfl hz8 ?_; go_frame)
      | ((with_reducible change wpList _ _ _ (Oper.mk (some 23) _ _ _ _ _ :: _) _ _); refine kLenN _ _ _ v _ m rfl rfl rfl hv1 (by rw [List.length_map, hm]) Try.underlying25 ?_; go_frame)
      | ((with_reducible change wpList _ _ _ (Oper.mk (some 24) _ _ _ _ _ :: _) _ _); refine kGtrI _ _ _ _ .i64 (m : Int) 100 true rfl rfl rfl rfl hm1 ?_; go_frame))
    go_ret
    exact ⟨rfl, hB1⟩
set_option maxRecDepth 100000 in
set_option maxHeartbeats 8000000 in
theorem PieceSizes_in {n S : Nat} {l : List UInt8} {v : Value} (hn : n < 18446744073709551616) (hS : S ≤ 8) (hl : l.length ≤ 100) (w : World) (hv : IsVals w v (l.map VB)) : Calls Try.prog 8 #[.int .u64 (n : Int), .int .i64 (S : Int), v] w (SizesPost w) := by
  obtain ⟨m, hm⟩ : ∃ m, l.length = m := ⟨_, rfl⟩
  have hz0 : decide ((S : Int) < 0) = false := by simp
  have hz8 : decide ((S : Int) > 8) = false := by simp; omega
  have hm1 : decide ((m : Int) > 100) = false := by simp; omega
  have hFx := fun w => pcFixed_nil n (S : Int) w
  rw [show clampS (S : Int) = S by unfold clampS; omega] at hFx
  have hfb := fixed_back n S hS l
  have hrb : rawS ⟨l, 0⟩ (m : Int) = (l, ⟨[], 0⟩) := by have := raw_back l []; rw [List.append_nil, hm] at this; exact this
  have hr1 : rawS ⟨[], 0⟩ 1 = ([], ⟨[], 61⟩) := rfl
  obtain ⟨X, hX⟩ : ∃ X, n % 256 ^ S = X := ⟨_, rfl⟩
  rw [hX] at hfb
  by_cases h8 : S < 8
  · have hs8 : decide ((S : Int) < 8) = true := by simp; omega
    have hX2 : n % 2 ^ (8 * S) = X := by rw [← hX, show (256 : Nat) = 2 ^ 8 by decide, ← Nat.pow_mul]
    obtain ⟨M, hM⟩ : ∃ M, M + 1 = 2 ^ (8 * S) := ⟨2 ^ (8 * S) - 1, by have : 0 < 2 ^ (8 * S) := Nat.pow_pos (by decide); omega⟩
    have hMl : M + 1 < 18446744073709551616 := by
      rw [hM]
      have : 2 ^ (8 * S) < 2 ^ 64 := Nat.pow_lt_pow_right (by decide) (by omega)
      omega
    clear hX
    go_enter Try.func8, Try.ntmps8
    go_wp2_with (first
      | (go_at_call 9; refine (pieceAlive_any _).mono ?_; rintro e w1 ⟨rfl, hB1⟩; have hsz1 := hB1.size; have hv1 := hv.below hB1; go_frame)
      | ((with_reducible change wpList _ _ _ (Oper.mk (some 16) _ _ _ _ _ :: _) _ _); refine kLssI _ _ _ _ .i64 (S : Int) 0 false rfl rfl rfl rfl hz0 ?_; go_frame)
      | ((with_reducible change wpList _ _ _ (Oper.mk (some 19) _ _ _ _ _ :: _) _ _); refine kGtrI _ _ _ _ .i64 (S : Int) 8 false rfl rfl rfl rfl hz8 ?_; go_frame)
      | ((with_reducible change wpList _ _ _ (Oper.mk (some 23) _ _ _ _ _ :: _) _ _); refine kLenN _ _ _ v _ m rfl rfl rfl hv1 (by rw [List.length_map, hm]) Try.underlying25 ?_; go_frame)
      | ((with_reducible change wpList _ _ _ (Oper.mk (some 24) _ _ _ _ _ :: _) _ _); refine kGtrI _ _ _ _ .i64 (m : Int) 100 false rfl rfl rfl rfl hm1 ?_; go_frame)
      | (go_at_call 16; refine (hFx _).mono ?_; rintro e w2 ⟨v2, rfl, hO2, hB2⟩; have hv2 := hv1.below hB2; have hO3 := own_less hsz1 hO2; have hB3 := hB1.trans (hB2.mono hsz1); have hsz3 := hB3.size; clear hO2 hB1 hB2 hv1; go_frame)
      | ((with_reducible change wpList _ _ _ (Oper.mk (some 30) _ _ _ _ _ :: _) _ _); refine kAppB _ _ rfl rfl w.heap.size _ _ (fixedL n S) l hO3 hv2 rfl rfl (by rw [fixedL_len]; omega) hsz3 ?_; intro v4 w4 hO4 hB4; have hB5 := hB3.trans hB4; have hsz5 := hB5.size; have hv5 := hv.below hB5; clear hO3 hB3 hB4 hv2; go_frame)
      | (go_at_call 10; refine (pcNew_any _ hO4.vals (by rw [List.length_append, fixedL_len]; omega)).mono ?_; rintro e w6 ⟨g, rfl, hg, hR6, hB6⟩; have hge : w.heap.size ≤ g := Nat.le_trans hsz5 hg; have hv6 := hv5.below hB6; have hB7 := hB5.trans (hB6.mono hsz5); have hsz7 := hB7.size; clear hO4 hB5 hB6 hv5; go_frame)
      | (go_at_call 12; refine (rdFixed_any (z := (S : Int)) _ hR6).mono ?_; rintro e w8 ⟨rfl, hR8, hX8⟩; rw [hfb] at hR8 ⊢; have hv8 := hX8.vals hR6 hv6; have hB9 := hB7.trans (hX8.below hge hsz7); have hsz9 := hB9.size; clear hB7 hX8 hR6 hv6; go_frame)
      | (go_at_call 14; have _h := hR8; (with_reducible change Calls _ _ #[_] _ _); refine (rdLeft_any (n := m) _ hR8 hm).mono ?_; rintro e w9 ⟨rfl, rfl⟩; go_frame)
      | ((with_reducible change wpList _ _ _ (Oper.mk (some 40) _ _ _ _ _ :: _) _ _); refine kLenN _ _ _ v _ m rfl rfl rfl hv8 (by rw [List.length_map, hm]) Try.underlying25 ?_; go_frame)
      | (go_at_call 23; (with_reducible change Calls _ _ #[_, .int .i64 (m : Int)] _ _); refine (rdRaw_any (z := (m : Int)) _ hR8 (by show l.length ≤ _; omega)).mono ?_; rintro e w10 ⟨v10, rfl, hV10, hR10, hX10⟩; rw [hrb] at hV10 hR10; have hv10 := hX10.vals hR8 hv8; have hB11 := hB9.trans (hX10.below hge hsz9); have hsz11 := hB11.size; clear hB9 hX10 hR8 hv8; go_frame)
      | ((with_reducible change wpList _ _ _ (Oper.mk (some 44) _ _ _ _ _ :: _) _ _); refine kLssI _ _ _ _ .i64 (S : Int) 8 true rfl rfl rfl rfl hs8 ?_; go_frame)
      | ((with_reducible change wpList _ _ _ (Oper.mk (some 47) _ _ _ _ _ :: _) _ _); refine kMulI _ _ _ _ 8 (S : Int) ((8 * S : Nat) : Int) (by omega) rfl rfl rfl rfl ?_; go_frame)
      | ((with_reducible change wpList _ _ _ (Oper.mk (some 48) _ _ _ _ _ :: _) _ _); refine kShlOne _ _ _ _ (8 * S) (M + 1) (by omega) hM.symm rfl rfl rfl rfl ?_; go_frame)
      | ((with_reducible change wpList _ _ _ (Oper.mk (some 49) _ _ _ _ _ :: _) _ _); refine kSubU _ _ _ _ (M + 1) 1 M (by omega) hMl rfl rfl rfl rfl ?_; go_frame)
      | ((with_reducible change wpList _ _ _ (Oper.mk (some 50) _ _ _ _ _ :: _) _ _); refine kMask _ _ _ _ n (8 * S) M X hM (by omega) hn hX2 rfl rfl rfl rfl ?_; go_frame)
      | ((with_reducible change wpList _ _ _ (Oper.mk (some 53) _ _ _ _ _ :: _) _ _); refine kEqlI _ _ _ _ .u64 (X : Int) (X : Int) true rfl rfl rfl rfl (by simp) ?_; go_frame)
      | ((with_reducible change wpList _ _ _ (Oper.mk (some 57) _ _ _ _ _ :: _) _ _); refine kLenN _ _ _ v _ m rfl rfl rfl hv10 (by rw [List.length_map, hm]) Try.underlying25 ?_; go_frame)
      | ((with_reducible change wpList _ _ _ (Oper.mk (some 58) _ _ _ _ _ :: _) _ _); refine kEqlI _ _ _ _ .i64 (m : Int) (m : Int) true rfl rfl rfl rfl (by simp) ?_; go_frame)
      | ((with_reducible change wpList _ _ _ (Oper.mk (some 62) _ _ _ _ _ :: _) _ _); refine kToString _ _ _ _ v10 l rfl rfl rfl hV10 Try.underlying25 Try.underlying5 Try.underlying9 ?_; go_frame)
      | ((with_reducible change wpList _ _ _ (Oper.mk (some 64) _ _ _ _ _ :: _) _ _); refine kToString _ _ _ _ v l rfl rfl rfl hv10 Try.underlying25 Try.underlying5 Try.underlying9 ?_; go_frame)
      | ((with_reducible change wpList _ _ _ (Oper.mk (some 65) _ _ _ _ _ :: _) _ _); refine kEqlStr _ _ _ _ l l true rfl rfl rfl rfl (by simp) ?_; go_frame)
      | (go_at_call 14; refine (rdLeft_any (n := 0) _ hR10 rfl).mono ?_; rintro e w12 ⟨rfl, rfl⟩; go_frame)
      | (go_at_call 13; have _h := hR10; refine (rdErr_any (n := 0) _ hR10 rfl).mono ?_; rintro e w13 ⟨rfl, rfl⟩; go_frame)
      | (go_at_call 23; (with_reducible change Calls _ _ #[_, .int .i64 1] _ _); refine (rdRaw_any (z := 1) _ hR10 (by show (0 : Nat) ≤ _; omega)).mono ?_; rintro e w14 ⟨v14, rfl, hV14, hR14, hX14⟩; rw [hr1] at hV14 hR14; have hB15 := hB11.trans (hX14.below hge hsz11); clear hB11 hX14 hR10 hv10; go_frame)
      | ((with_reducible change wpList _ _ _ (Oper.mk (some 80) _ _ _ _ _ :: _) _ _); refine kLenN _ _ _ v14 _ 0 rfl rfl rfl hV14 rfl Try.underlying25 ?_; go_frame)
      | (go_at_call 13; refine (rdErr_any (n := 61) _ hR14 rfl).mono ?_; rintro e w16 ⟨rfl, rfl⟩; go_frame))
    go_ret
    exact ⟨rfl, hB15⟩
  · have hs8 : decide ((S : Int) < 8) = false := by simp; omega
    have hnX : X = n := by rw [← hX, show S = 8 by omega]; exact Nat.mod_eq_of_lt hn
    subst hnX
    clear hX h8
    go_enter Try.func8, Try.ntmps8
    go_wp2_with (first
      | (go_at_call 9; refine (pieceAlive_any _).mono ?_; rintro e w1 ⟨rfl, hB1⟩; have hsz1 := hB1.size; have hv1 := hv.below hB1; go_frame)
      | ((with_reducible change wpList _ _ _ (Oper.mk (some 16) _ _ _ _ _ :: _) _ _); refine kLssI _ _ _ _ .i64 (S : Int) 0 false rfl rfl rfl rfl hz0 ?_; go_frame)
      | ((with_reducible change wpList _ _ _ (Oper.mk (some 19) _ _ _ _ _ :: _) _ _); refine kGtrI _ _ _ _ .i64 (S : Int) 8 false rfl rfl rfl rfl hz8 ?_; go_frame)
      | ((with_reducible change wpList _ _ _ (Oper.mk (some 23) _ _ _ _ _ :: _) _ _); refine kLenN _ _ _ v _ m rfl rfl rfl hv1 (by rw [List.length_map, hm]) Try.underlying25 ?_; go_frame)
      | ((with_reducible change wpList _ _ _ (Oper.mk (some 24) _ _ _ _ _ :: _) _ _); refine kGtrI _ _ _ _ .i64 (m : Int) 100 false rfl rfl rfl rfl hm1 ?_; go_frame)
      | (go_at_call 16; refine (hFx _).mono ?_; rintro e w2 ⟨v2, rfl, hO2, hB2⟩; have hv2 := hv1.below hB2; have hO3 := own_less hsz1 hO2; have hB3 := hB1.trans (hB2.mono hsz1); have hsz3 := hB3.size; clear hO2 hB1 hB2 hv1; go_frame)
      | ((with_reducible change wpList _ _ _ (Oper.mk (some 30) _ _ _ _ _ :: _) _ _); refine kAppB _ _ rfl rfl w.heap.size _ _ (fixedL X S) l hO3 hv2 rfl rfl (by rw [fixedL_len]; omega) hsz3 ?_; intro v4 w4 hO4 hB4; have hB5 := hB3.trans hB4; have hsz5 := hB5.size; have hv5 := hv.below hB5; clear hO3 hB3 hB4 hv2; go_frame)
      | (go_at_call 10; refine (pcNew_any _ hO4.vals (by rw [List.length_append, fixedL_len]; omega)).mono ?_; rintro e w6 ⟨g, rfl, hg, hR6, hB6⟩; have hge : w.heap.size ≤ g := Nat.le_trans hsz5 hg; have hv6 := hv5.below hB6; have hB7 := hB5.trans (hB6.mono hsz5); have hsz7 := hB7.size; clear hO4 hB5 hB6 hv5; go_frame)
      | (go_at_call 12; refine (rdFixed_any (z := (S : Int)) _ hR6).mono ?_; rintro e w8 ⟨rfl, hR8, hX8⟩; rw [hfb] at hR8 ⊢; have hv8 := hX8.vals hR6 hv6; have hB9 := hB7.trans (hX8.below hge hsz7); have hsz9 := hB9.size; clear hB7 hX8 hR6 hv6; go_frame)
      | (go_at_call 14; have _h := hR8; (with_reducible change Calls _ _ #[_] _ _); refine (rdLeft_any (n := m) _ hR8 hm).mono ?_; rintro e w9 ⟨rfl, rfl⟩; go_frame)
      | ((with_reducible change wpList _ _ _ (Oper.mk (some 40) _ _ _ _ _ :: _) _ _); refine kLenN _ _ _ v _ m rfl rfl rfl hv8 (by rw [List.length_map, hm]) Try.underlying25 ?_; go_frame)
      | (go_at_call 23; (with_reducible change Calls _ _ #[_, .int .i64 (m : Int)] _ _); refine (rdRaw_any (z := (m : Int)) _ hR8 (by show l.length ≤ _; omega)).mono ?_; rintro e w10 ⟨v10, rfl, hV10, hR10, hX10⟩; rw [hrb] at hV10 hR10; have hv10 := hX10.vals hR8 hv8; have hB11 := hB9.trans (hX10.below hge hsz9); have hsz11 := hB11.size; clear hB9 hX10 hR8 hv8; go_frame)
      | ((with_reducible change wpList _ _ _ (Oper.mk (some 44) _ _ _ _ _ :: _) _ _); refine kLssI _ _ _ _ .i64 (S : Int) 8 false rfl rfl rfl rfl hs8 ?_; go_frame)
      | ((with_reducible change wpList _ _ _ (Oper.mk (some 53) _ _ _ _ _ :: _) _ _); refine kEqlI _ _ _ _ .u64 (X : Int) (X : Int) true rfl rfl rfl rfl (by simp) ?_; go_frame)
      | ((with_reducible change wpList _ _ _ (Oper.mk (some 57) _ _ _ _ _ :: _) _ _); refine kLenN _ _ _ v _ m rfl rfl rfl hv10 (by rw [List.length_map, hm]) Try.underlying25 ?_; go_frame)
      | ((with_reducible change wpList _ _ _ (Oper.mk (some 58) _ _ _ _ _ :: _) _ _); refine kEqlI _ _ _ _ .i64 (m : Int) (m : Int) true rfl rfl rfl rfl (by simp) ?_; go_frame)
      | ((with_reducible change wpList _ _ _ (Oper.mk (some 62) _ _ _ _ _ :: _) _ _); refine kToString _ _ _ _ v10 l rfl rfl rfl hV10 Try.underlying25 Try.underlying5 Try.underlying9 ?_; go_frame)
      | ((with_reducible change wpList _ _ _ (Oper.mk (some 64) _ _ _ _ _ :: _) _ _); refine kToString _ _ _ _ v l rfl rfl rfl hv10 Try.underlying25 Try.underlying5 Try.underlying9 ?_; go_frame)
      | ((with_reducible change wpList _ _ _ (Oper.mk (some 65) _ _ _ _ _ :: _) _ _); refine kEqlStr _ _ _ _ l l true rfl rfl rfl rfl (by simp) ?_; go_frame)
      | (go_at_call 14; refine (rdLeft_any (n := 0) _ hR10 rfl).mono ?_; rintro e w12 ⟨rfl, rfl⟩; go_frame)
      | (go_at_call 13; have _h := hR10; refine (rdErr_any (n := 0) _ hR10 rfl).mono ?_; rintro e w13 ⟨rfl, rfl⟩; go_frame)
      | (go_at_call 23; (with_reducible change Calls _ _ #[_, .int .i64 1] _ _); refine (rdRaw_any (z := 1) _ hR10 (by show (0 : Nat) ≤ _; omega)).mono ?_; rintro e w14 ⟨v14, rfl, hV14, hR14, hX14⟩; rw [hr1] at hV14 hR14; have hB15 := hB11.trans (hX14.below hge hsz11); clear hB11 hX14 hR10 hv10; go_frame)
      | ((with_reducible change wpList _ _ _ (Oper.mk (some 80) _ _ _ _ _ :: _) _ _); refine kLenN _ _ _ v14 _ 0 rfl rfl rfl hV14 rfl Try.underlying25 ?_; go_frame)
      | (go_at_call 13; refine (rdErr_any (n := 61) _ hR14 rfl).mono ?_; rintro e w16 ⟨rfl, rfl⟩; go_frame))
    go_ret
    exact ⟨rfl, hB15⟩
theorem PieceSizes_any {n : Nat} {z : Int} {l : List UInt8} {v : Value} (hn : n < 18446744073709551616) (w : World) (hv : IsVals w v (l.map VB)) : Calls Try.prog 8 #[.int .u64 (n : Int), .int .i64 z, v] w (SizesPost w) := by
  by_cases h : z < 0 ∨ 8 < z ∨ 100 < l.length
  · exact PieceSizes_out w hv h
  · obtain ⟨S, rfl⟩ : ∃ S : Nat, z = (S : Int) := ⟨z.toNat, by omega⟩
    exact PieceSizes_in hn (by omega) (by omega) w hv
end Go.Proofs.Ytalcopfhofijlaa
