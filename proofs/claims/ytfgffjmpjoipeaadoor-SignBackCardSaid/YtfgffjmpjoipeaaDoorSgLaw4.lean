/-
  The walk of the statement SignBack.
-/
import Derived.Test.YtfgffjmpjoipeaaDoorSgBytes
import Derived.Test.YtfgffjmpjoipeaaDoorSgRef2
namespace Go.Proofs.YtfgffjmpjoipeaaDoor
open Go Go.RowKit

open Cv
theorem bxor8S (a b : UInt8) : bits .xor .u8 (B a) (B b) = B (a ^^^ b) := by
  unfold B; rw [u8_xor_nat _ _ a.toNat_lt b.toNat_lt, UInt8.toNat_xor]
/-- a row of bytes that is owned -/
theorem own_row {w : World} {base : Nat} {v : Value} {l : List UInt8} (h : OwnB w base v l) (hl : l.length = 64) : ∃ g cap cur, v = .slice (some ⟨g, 0, none⟩) 64 cap ∧ base ≤ g ∧ Row w g 5 cur ∧ 64 ≤ cap ∧ cur.size = cap ∧ cur.toList.take 64 = l.map VB := by
  have hml : (l.map VB).length = 64 := by rw [List.length_map, hl]
  obtain ⟨_, h2⟩ := h
  rw [hml] at h2
  rcases h2 with ⟨_, h0⟩ | ⟨g, cap, cur, e, hb, hr, hc, _, hs, ht⟩
  · cases h0
  · exact ⟨g, cap, cur, e, hb, hr, hc, by rw [hs, Nat.mul_one], ht⟩
theorem row_vals {w : World} {g cap : Nat} {cur : Array Value} {l : List UInt8} (hc : 64 ≤ cap) (hs : cur.size = cap) (ht : cur.toList.take 64 = l.map VB) (h : Row w g 5 cur) : IsVals w (.slice (some ⟨g, 0, none⟩) 64 cap) (l.map VB) := by
  have h2 := isVals_row h 0 64 cap (by omega) hc
  have e : (cur.extract 0 (0 + 64)).toList = l.map VB := by rw [← ht]; simp
  rw [e] at h2; exact h2
theorem cur_at {cur : Array Value} {l : List UInt8} (hl : l.length = 64) (ht : cur.toList.take 64 = l.map VB) {q : Nat} (hq : q < 64) : cur[q]? = some (VB (l.getD q 0)) := by
  have h := congrArg (·[q]?) ht
  simp only [List.getElem?_take_of_lt hq, List.getElem?_map] at h
  rw [← Array.getElem?_toList, h, List.getD_eq_getElem?_getD, List.getElem?_eq_getElem (by omega)]; rfl
theorem cur_set {cur : Array Value} {l : List UInt8} (ht : cur.toList.take 64 = l.map VB) (q : Nat) (c : UInt8) : (cur.setIfInBounds q (VB c)).toList.take 64 = (l.set q c).map VB := by
  rw [Array.toList_setIfInBounds, List.take_set, ht, List.map_set]
section
variable {ops : Array Oper} {Q : Exit → Act → World → Prop} {rest : List Oper} {o : Oper} {a : Act} {w : World}
theorem kIndexRow (x y : Operand) (g cap j : Nat) (hj : j < 64) (ho : o.op = .indexAddr 42 x y) (hg : Region.wanted o (yielded ops a.tmps) = true) (hx : a.eval x = .slice (some ⟨g, 0, none⟩) 64 cap) (hy : a.eval y = .int .i64 (j : Int))
    (h : wpList Tryd.prog ops Q rest (a.put o.dst (.pointer (some ⟨g, j, none⟩))) w) : wpList Tryd.prog ops Q (o :: rest) a w := by
  refine kPure _ hg ?_ h
  have hrun : (Instr.indexAt 42 (.slice (some ⟨g, 0, none⟩) 64 cap) (.int .i64 (j : Int))).run Tryd.prog w = .ok (.pointer (some ⟨g, j, none⟩)) w := by
    have hs := info_b8
    cases hq : Tryd.prog.info? 5 with
    | none => simp [hq] at hs
    | some t =>
      have hs' : t.size = 1 := by simpa [hq] using hs
      simp [Instr.indexAt, asIntOf, run_underlying Tryd.underlying42, sizeOf, typeInfo, hq, hs', hj, add_none]
  unfold execOp
  simp only [ho, hx, hy, Sem.run_bind, hrun, Result.andThen_ok, Sem.run_pure]
theorem kMinZ (x y : Operand) (m n z : Int) (hz : (if n < m then n else m) = z) (ho : o.op = .call { callee := .builtin .min, args := #[x, y], argTypes := #[3, 3] }) (hg : Region.wanted o (yielded ops a.tmps) = true) (hx : a.eval x = .int .i64 m) (hy : a.eval y = .int .i64 n) (h : wpList Tryd.prog ops Q rest (a.put o.dst (.int .i64 z)) w) : wpList Tryd.prog ops Q (o :: rest) a w := by
  subst hz
  refine kPure _ hg ?_ h
  unfold execOp
  simp only [ho, resolve, invoke, builtin, Sem.run_bind, Sem.run_pure, Result.andThen_ok, List.map_toArray, List.map_cons, List.map_nil, hx, hy, run_min_int2]
theorem kMaxZ (x y : Operand) (m n z : Int) (hz : (if n > m then n else m) = z) (ho : o.op = .call { callee := .builtin .max, args := #[x, y], argTypes := #[3, 3] }) (hg : Region.wanted o (yielded ops a.tmps) = true) (hx : a.eval x = .int .i64 m) (hy : a.eval y = .int .i64 n) (h : wpList Tryd.prog ops Q rest (a.put o.dst (.int .i64 z)) w) : wpList Tryd.prog ops Q (o :: rest) a w := by
  subst hz
  refine kPure _ hg ?_ h
  unfold execOp
  simp only [ho, resolve, invoke, builtin, Sem.run_bind, Sem.run_pure, Result.andThen_ok, List.map_toArray, List.map_cons, List.map_nil, hx, hy, run_max_int2]
theorem kQuo8 (T T2 : TypeId) (x y : Operand) (k : Nat) (ho : o.op = .binOp .quo T x y T2) (hg : Region.wanted o (yielded ops a.tmps) = true) (hx : a.eval x = .int .i64 (k : Int)) (hy : a.eval y = .int .i64 8) (hk : k < 512) (h : wpList Tryd.prog ops Q rest (a.put o.dst (.int .i64 ((k / 8 : Nat) : Int))) w) : wpList Tryd.prog ops Q (o :: rest) a w := by
  refine kPure _ hg ?_ h
  unfold execOp
  simp only [ho, hx, hy]
  have e : (k : Int).tdiv 8 = ((k / 8 : Nat) : Int) := by rw [Int.tdiv_eq_ediv_of_nonneg (Int.natCast_nonneg _)]; omega
  have e2 : IntKind.i64.wrap ((k / 8 : Nat) : Int) = ((k / 8 : Nat) : Int) := by rw [IntKind.wrap_i64]; omega
  simp only [eqGuard, binOp, Op.intDiv, e, e2]
  first | rfl | simp [e, e2]
theorem kRem8 (T T2 : TypeId) (x y : Operand) (k : Nat) (ho : o.op = .binOp .rem T x y T2) (hg : Region.wanted o (yielded ops a.tmps) = true) (hx : a.eval x = .int .i64 (k : Int)) (hy : a.eval y = .int .i64 8) (h : wpList Tryd.prog ops Q rest (a.put o.dst (.int .i64 ((k % 8 : Nat) : Int))) w) : wpList Tryd.prog ops Q (o :: rest) a w := by
  refine kPure _ hg ?_ h
  unfold execOp
  simp only [ho, hx, hy]
  have e : (k : Int).tmod 8 = ((k % 8 : Nat) : Int) := by rw [Int.tmod_eq_emod_of_nonneg (Int.natCast_nonneg _)]; omega
  simp [eqGuard, binOp, Op.intDiv, e]
theorem kShl1 (T T2 : TypeId) (x y : Operand) (e : Nat) (d : UInt8) (he : e < 8) (hd : UInt8.ofNat (2 ^ e) = d) (ho : o.op = .binOp .shl T x y T2) (hg : Region.wanted o (yielded ops a.tmps) = true) (hx : a.eval x = .int .u8 1) (hy : a.eval y = .int .i64 (e : Int)) (h : wpList Tryd.prog ops Q rest (a.put o.dst (.int .u8 (B d))) w) : wpList Tryd.prog ops Q (o :: rest) a w := by
  subst hd
  refine kPure _ hg ?_ h
  unfold execOp
  simp only [ho, hx, hy]
  have h2 := shift_shl .u8 .i64 1 (e : Int) (by omega) (by show (e : Int) ≤ 8; omega)
  have e1 : IntKind.u8.wrap (1 * 2 ^ (e : Int).toNat) = B (UInt8.ofNat (2 ^ e)) := by
    rw [Int.toNat_natCast]
    have : e = 0 ∨ e = 1 ∨ e = 2 ∨ e = 3 ∨ e = 4 ∨ e = 5 ∨ e = 6 ∨ e = 7 := by omega
    rcases this with rfl | rfl | rfl | rfl | rfl | rfl | rfl | rfl <;> rfl
  rw [e1] at h2
  simp only [binOp, eqGuard, h2]
  rfl
theorem kXorB (T T2 : TypeId) (x y : Operand) (c d : UInt8) (ho : o.op = .binOp .xor T x y T2) (hg : Region.wanted o (yielded ops a.tmps) = true) (hx : a.eval x = .int .u8 (B c)) (hy : a.eval y = .int .u8 (B d)) (h : wpList Tryd.prog ops Q rest (a.put o.dst (.int .u8 (B (c ^^^ d)))) w) : wpList Tryd.prog ops Q (o :: rest) a w := by
  refine kPure _ hg ?_ h
  unfold execOp
  simp only [ho, hx, hy, eqGuard, binOp_xor, intBits_xor, bxor8S]
  rfl
end
theorem sVerify_o5 {r s : Nat} (mr : r < M256) (ms : s < M256) {f : Nat → Nat} {z : Nat} (hf : ∀ i, f i < 256) (hz : zOf f = z) {b : Bool} (h : verifyB .o z r s = b) (w : World) (hG : Glob 3 PP w) (hO : GlobP 2 0 0 true w) (hB : GlobPt 0 gPt w) (hN : Glob 1 NN w) : Calls Tryd.prog 20 #[.agg (pcells 0 0 true), .agg (bcells f), .agg (wcells2 r s)] w fun e w' => e = .returned (.bool b) ∧ Below w.heap.size w w' := by
  exact sVerify_as (p := .o) trivial mr ms hf hz h w hG hO hB hN
set_option maxRecDepth 100000 in
set_option maxHeartbeats 8000000 in
theorem SignBack_no {a k : Nat} (ma : a < M256) (mk : k < M256) {f : Nat → Nat} {z : Nat} (hf : ∀ i, f i < 256) (hz : zOf f = z) (zb : Int) (ha : isSec a = false) (h : signOf a z k = none) (w : World) (hG : Glob 3 PP w) (hO : GlobP 2 0 0 true w) (hB : GlobPt 0 gPt w) (hN : Glob 1 NN w) : Calls Tryd.prog 6 #[.agg (wcells2 a k), .agg (bcells f), .int .i64 zb] w fun e w' => e = .returned (.bool true) ∧ Below w.heap.size w w' := by
  have Hz := Lib.hid hz
  clear hz
  replace ha := Lib.hid ha
  replace h := Lib.hid h
  have hM0 := mm_nil w
  (try unfold WV)
  go_enter Tryd.func6, Tryd.ntmps6
  go_wp2_with (first
    | ((with_reducible change wpList _ _ _ (Oper.mk (some 3) _ _ _ _ _ :: _) _ _); refine mmBox hM0 _ _ (wcells2 a k) rfl rfl rfl ?_; intro w1 hM1; clear hM0; go_frame)
    | ((with_reducible change wpList _ _ _ (Oper.mk (some 4) _ _ _ _ _ :: _) _ _); refine mmBox hM1 _ _ (bcells f) rfl rfl rfl ?_; intro w2 hM2; clear hM1; go_frame)
    | (go_at_call 15; refine (signAlive_any _ (hG.below hM2.below) (hO.below hM2.below) (hB.below hM2.below) (hN.below hM2.below)).mono ?_; rintro e w3 ⟨rfl, hB3⟩; have hM3 := hM2.on hB3; clear hB3 hM2; (try unfold WV); go_frame)
    | ((with_reducible change wpList _ _ _ (Oper.mk (some 20) _ _ _ _ _ :: _) _ _); refine kIndexAddr2 _ _ _ _ 0 rfl rfl rfl rfl rfl (by decide) ?_; go_frame)
    | ((with_reducible change wpList _ _ _ (Oper.mk (some 21) _ _ _ _ _ :: _) _ _); refine kLoadAs _ _ _ _ _ 4 _ _ _ rfl rfl rfl (hM3.get 1 rfl) Tryd.underlying24 rfl info_Wide (by rw [wcells2_size]; decide) (wcells2_at0 _ _) ?_; go_frame)
    | ((with_reducible change wpList _ _ _ (Oper.mk (some 22) _ _ _ _ _ :: _) _ _); refine kLoadRow _ _ _ _ _ _ rfl rfl rfl (hM3.get 0 rfl) Tryd.underlying40 rfl (info_HashC _) ?_; go_frame)
    | ((with_reducible change wpList _ _ _ (Oper.mk (some 23) _ _ _ _ _ :: _) _ _); refine kIndexAddr2 _ _ _ _ 1 rfl rfl rfl rfl rfl (by decide) ?_; go_frame)
    | ((with_reducible change wpList _ _ _ (Oper.mk (some 24) _ _ _ _ _ :: _) _ _); refine kLoadAs _ _ _ _ _ 4 _ _ _ rfl rfl rfl (hM3.get 1 rfl) Tryd.underlying24 rfl info_Wide (by rw [wcells2_size]; decide) (wcells2_at4 _ _) ?_; go_frame)
    | (go_at_call 12; (with_reducible change Calls _ _ #[Value.agg (wcells a), Value.agg (bcells f), Value.agg (wcells k)] _ _); refine (sSign_none ma mk hf Hz.out h.out _ (hG.below hM3.below) (hO.below hM3.below) (hB.below hM3.below) (hN.below hM3.below)).mono ?_; rintro e w4 ⟨rfl, hB4⟩; have hM4 := hM3.on hB4; clear hB4 hM3; (try unfold WV); go_frame)
    | ((with_reducible change wpList _ _ _ (Oper.mk (some 7) _ _ _ _ _ :: _) _ _); refine mmAlloc hM4 _ _ rfl rfl zero_Sig ?_; intro w5 hM5; clear hM4; go_frame)
    | ((with_reducible change wpList _ _ _ (Oper.mk none (Op.store _ (Operand.tmp 7) (Operand.tmp 26)) _ _ _ _ :: _) _ _); refine mmStoreAt hM5 0 _ _ _ _ _ _ (wcells2 0 0) rfl rfl rfl rfl rfl (info_SigC _ _) rfl (wcells2_one _ _) ?_; intro w6 hM6; dsimp only [List.set] at hM6; clear hM5; go_frame)
    | ((with_reducible change wpList _ _ _ (Oper.mk (some 29) _ _ _ _ _ :: _) _ _); refine kIndexAddr2 _ _ _ _ 0 rfl rfl rfl rfl rfl (by decide) ?_; go_frame)
    | ((with_reducible change wpList _ _ _ (Oper.mk (some 30) _ _ _ _ _ :: _) _ _); refine kLoadAs _ _ _ _ _ 4 _ _ _ rfl rfl rfl (hM6.get 2 rfl) Tryd.underlying24 rfl info_Wide (by rw [wcells2_size]; decide) (wcells2_at0 _ _) ?_; go_frame)
    | (go_at_call 11; (with_reducible change Calls _ _ #[Value.agg (wcells a)] _ _); refine (sPublic_no ma ha.out _ (hN.below hM6.below)).mono ?_; rintro e w7 ⟨rfl, hB7⟩; have hM7 := hM6.on hB7; clear hB7 hM6; (try unfold WV); go_frame)
    | ((with_reducible change wpList _ _ _ (Oper.mk (some 9) _ _ _ _ _ :: _) _ _); refine mmAlloc hM7 _ _ rfl rfl zero_Point ?_; intro w8 hM8; clear hM7; go_frame)
    | ((with_reducible change wpList _ _ _ (Oper.mk none (Op.store _ (Operand.tmp 9) (Operand.tmp 32)) _ _ _ _ :: _) _ _); refine mmStoreAt hM8 0 _ _ _ _ _ _ (pcells 0 0 false) rfl rfl rfl rfl rfl (info_PointC _ _ _) (by simp only [pcells_size]) (pcells_one _ _ _) ?_; intro w9 hM9; dsimp only [List.set] at hM9; clear hM8; go_frame)
    | ((with_reducible change wpList _ _ _ (Oper.mk (some 35) _ _ _ _ _ :: _) _ _); refine kNeqI _ _ _ _ .i64 (51) (0) true rfl rfl rfl rfl (by decide) ?_; go_frame))
  go_ret
  exact ⟨rfl, hM9.below⟩
set_option maxRecDepth 100000 in
set_option maxHeartbeats 8000000 in
theorem SignBack_yes {a k : Nat} (ma : a < M256) (mk : k < M256) {f : Nat → Nat} {z : Nat} (hf : ∀ i, f i < 256) (hz : zOf f = z) (zb : Int) (ha : isSec a = true) (h : signOf a z k = none) (w : World) (hG : Glob 3 PP w) (hO : GlobP 2 0 0 true w) (hB : GlobPt 0 gPt w) (hN : Glob 1 NN w) : Calls Tryd.prog 6 #[.agg (wcells2 a k), .agg (bcells f), .int .i64 zb] w fun e w' => e = .returned (.bool true) ∧ Below w.heap.size w w' := by
  obtain ⟨p, Hp⟩ : ∃ p, Hid (Pt.times ivP gPt a = p) := ⟨_, Lib.hid rfl⟩
  have Hz := Lib.hid hz
  clear hz
  replace ha := Lib.hid ha
  replace h := Lib.hid h
  have hM0 := mm_nil w
  (try unfold WV)
  go_enter Tryd.func6, Tryd.ntmps6
  go_wp2_with (first
    | ((with_reducible change wpList _ _ _ (Oper.mk (some 3) _ _ _ _ _ :: _) _ _); refine mmBox hM0 _ _ (wcells2 a k) rfl rfl rfl ?_; intro w1 hM1; clear hM0; go_frame)
    | ((with_reducible change wpList _ _ _ (Oper.mk (some 4) _ _ _ _ _ :: _) _ _); refine mmBox hM1 _ _ (bcells f) rfl rfl rfl ?_; intro w2 hM2; clear hM1; go_frame)
    | (go_at_call 15; refine (signAlive_any _ (hG.below hM2.below) (hO.below hM2.below) (hB.below hM2.below) (hN.below hM2.below)).mono ?_; rintro e w3 ⟨rfl, hB3⟩; have hM3 := hM2.on hB3; clear hB3 hM2; (try unfold WV); go_frame)
    | ((with_reducible change wpList _ _ _ (Oper.mk (some 20) _ _ _ _ _ :: _) _ _); refine kIndexAddr2 _ _ _ _ 0 rfl rfl rfl rfl rfl (by decide) ?_; go_frame)
    | ((with_reducible change wpList _ _ _ (Oper.mk (some 21) _ _ _ _ _ :: _) _ _); refine kLoadAs _ _ _ _ _ 4 _ _ _ rfl rfl rfl (hM3.get 1 rfl) Tryd.underlying24 rfl info_Wide (by rw [wcells2_size]; decide) (wcells2_at0 _ _) ?_; go_frame)
    | ((with_reducible change wpList _ _ _ (Oper.mk (some 22) _ _ _ _ _ :: _) _ _); refine kLoadRow _ _ _ _ _ _ rfl rfl rfl (hM3.get 0 rfl) Tryd.underlying40 rfl (info_HashC _) ?_; go_frame)
    | ((with_reducible change wpList _ _ _ (Oper.mk (some 23) _ _ _ _ _ :: _) _ _); refine kIndexAddr2 _ _ _ _ 1 rfl rfl rfl rfl rfl (by decide) ?_; go_frame)
    | ((with_reducible change wpList _ _ _ (Oper.mk (some 24) _ _ _ _ _ :: _) _ _); refine kLoadAs _ _ _ _ _ 4 _ _ _ rfl rfl rfl (hM3.get 1 rfl) Tryd.underlying24 rfl info_Wide (by rw [wcells2_size]; decide) (wcells2_at4 _ _) ?_; go_frame)
    | (go_at_call 12; (with_reducible change Calls _ _ #[Value.agg (wcells a), Value.agg (bcells f), Value.agg (wcells k)] _ _); refine (sSign_none ma mk hf Hz.out h.out _ (hG.below hM3.below) (hO.below hM3.below) (hB.below hM3.below) (hN.below hM3.below)).mono ?_; rintro e w4 ⟨rfl, hB4⟩; have hM4 := hM3.on hB4; clear hB4 hM3; (try unfold WV); go_frame)
    | ((with_reducible change wpList _ _ _ (Oper.mk (some 7) _ _ _ _ _ :: _) _ _); refine mmAlloc hM4 _ _ rfl rfl zero_Sig ?_; intro w5 hM5; clear hM4; go_frame)
    | ((with_reducible change wpList _ _ _ (Oper.mk none (Op.store _ (Operand.tmp 7) (Operand.tmp 26)) _ _ _ _ :: _) _ _); refine mmStoreAt hM5 0 _ _ _ _ _ _ (wcells2 0 0) rfl rfl rfl rfl rfl (info_SigC _ _) rfl (wcells2_one _ _) ?_; intro w6 hM6; dsimp only [List.set] at hM6; clear hM5; go_frame)
    | ((with_reducible change wpList _ _ _ (Oper.mk (some 29) _ _ _ _ _ :: _) _ _); refine kIndexAddr2 _ _ _ _ 0 rfl rfl rfl rfl rfl (by decide) ?_; go_frame)
    | ((with_reducible change wpList _ _ _ (Oper.mk (some 30) _ _ _ _ _ :: _) _ _); refine kLoadAs _ _ _ _ _ 4 _ _ _ rfl rfl rfl (hM6.get 2 rfl) Tryd.underlying24 rfl info_Wide (by rw [wcells2_size]; decide) (wcells2_at0 _ _) ?_; go_frame)
    | (go_at_call 11; (with_reducible change Calls _ _ #[Value.agg (wcells a)] _ _); refine (sPublic_yes ma ha.out Hp.out _ (hG.below hM6.below) (hO.below hM6.below) (hB.below hM6.below) (hN.below hM6.below)).mono ?_; rintro e w7 ⟨rfl, hB7⟩; have hM7 := hM6.on hB7; clear hB7 hM6; (try unfold WV); go_frame)
    | ((with_reducible change wpList _ _ _ (Oper.mk (some 9) _ _ _ _ _ :: _) _ _); refine mmAlloc hM7 _ _ rfl rfl zero_Point ?_; intro w8 hM8; clear hM7; go_frame)
    | ((with_reducible change wpList _ _ _ (Oper.mk none (Op.store _ (Operand.tmp 9) (Operand.tmp 32)) _ _ _ _ :: _) _ _); refine mmStoreAt hM8 0 _ _ _ _ _ _ (ptc p) rfl rfl rfl rfl rfl (info_ptc _) (by simp only [pcells_size, ptc_size]) (ptc_one _) ?_; intro w9 hM9; dsimp only [List.set] at hM9; clear hM8; go_frame)
    | ((with_reducible change wpList _ _ _ (Oper.mk (some 35) _ _ _ _ _ :: _) _ _); refine kNeqI _ _ _ _ .i64 (51) (0) true rfl rfl rfl rfl (by decide) ?_; go_frame))
  go_ret
  exact ⟨rfl, hM9.below⟩
set_option maxRecDepth 100000 in
set_option maxHeartbeats 8000000 in
theorem SignBack_some {a k : Nat} (ma : a < M256) {f : Nat → Nat} {z : Nat} (hf : ∀ i, f i < 256) (hz : zOf f = z) (zb : Int) {r s : Nat} (h : signOf a z k = some (r, s)) (w : World) (hG : Glob 3 PP w) (hO : GlobP 2 0 0 true w) (hB : GlobPt 0 gPt w) (hN : Glob 1 NN w) : Calls Tryd.prog 6 #[.agg (wcells2 a k), .agg (bcells f), .int .i64 zb] w fun e w' => e = .returned (.bool true) ∧ Below w.heap.size w w' := by
  obtain ⟨ha, -⟩ := signOf_some h
  obtain ⟨c1, c2, -⟩ := signOf_sec h
  have mr := isSec_lt c1
  have ms := isSec_lt c2
  obtain ⟨p, Hp⟩ : ∃ p, Hid (Pt.times ivP gPt a = p) := ⟨_, Lib.hid rfl⟩
  have op : p.On := by rw [← Hp.out]; exact base_on _
  have hv := Lib.hid (show verifyB p z r s = true by rw [← Hp.out]; exact sign_verifies h)
  have Hvo := Lib.hid (verify_o z r s)
  have hlen := Lib.hid (sigB_len r s)
  have Hta := Lib.hid (show numOf ((sigB r s).take 32) = r by rw [sigB_take, numOf_bytes r mr])
  have Htb := Lib.hid (show numOf ((sigB r s).drop 32) = s by rw [sigB_drop, numOf_bytes s ms])
  obtain ⟨t, Ht⟩ : ∃ t : Int, Hid ((if 511 < zb then 511 else zb) = t) := ⟨_, Lib.hid rfl⟩
  have ht : t ≤ 511 := by have := Ht.out; split at this <;> omega
  obtain ⟨kk, Hkk⟩ : ∃ kk : Nat, Hid ((if t > 0 then t else 0) = (kk : Int)) := ⟨(if t > 0 then t else 0).toNat, Lib.hid (by split <;> omega)⟩
  have hkk := Lib.hid (show kk < 512 by have := Hkk.out; split at this <;> omega)
  have hq := Lib.hid (show kk / 8 < 64 by have := hkk.out; omega)
  have he := Lib.hid (show kk % 8 < 8 by omega)
  obtain ⟨cq, Hcq⟩ : ∃ c, Hid ((sigB r s).getD (kk / 8) 0 = c) := ⟨_, Lib.hid rfl⟩
  obtain ⟨dq, Hdq⟩ : ∃ c, Hid (UInt8.ofNat (2 ^ (kk % 8)) = c) := ⟨_, Lib.hid rfl⟩
  have hlen2 := Lib.hid (show ((sigB r s).set (kk / 8) (cq ^^^ dq)).length = 64 by rw [List.length_set, sigB_len])
  obtain ⟨xa, Hxa⟩ : ∃ x, Hid (numOf (((sigB r s).set (kk / 8) (cq ^^^ dq)).take 32) = x) := ⟨_, Lib.hid rfl⟩
  obtain ⟨xb, Hxb⟩ : ∃ x, Hid (numOf (((sigB r s).set (kk / 8) (cq ^^^ dq)).drop 32) = x) := ⟨_, Lib.hid rfl⟩
  have mxa : xa < M256 := by rw [← Hxa.out]; exact numOf_lt _
  have mxb : xb < M256 := by rw [← Hxb.out]; exact numOf_lt _
  obtain ⟨bb, Hbb⟩ : ∃ b, Hid (verifyB p z xa xb = b) := ⟨_, Lib.hid rfl⟩
  have Hz := Lib.hid hz
  clear hz
  replace ha := Lib.hid ha
  replace h := Lib.hid h
  clear c1 c2 ht
  have hM0 := mm_nil w
  (try unfold WV)
  go_enter Tryd.func6, Tryd.ntmps6
  go_wp2_with (first
    | ((with_reducible change wpList _ _ _ (Oper.mk (some 3) _ _ _ _ _ :: _) _ _); refine mmBox hM0 _ _ (wcells2 a k) rfl rfl rfl ?_; intro w1 hM1; clear hM0; go_frame)
    | ((with_reducible change wpList _ _ _ (Oper.mk (some 4) _ _ _ _ _ :: _) _ _); refine mmBox hM1 _ _ (bcells f) rfl rfl rfl ?_; intro w2 hM2; clear hM1; go_frame)
    | (go_at_call 15; refine (signAlive_any _ (hG.below hM2.below) (hO.below hM2.below) (hB.below hM2.below) (hN.below hM2.below)).mono ?_; rintro e w3 ⟨rfl, hB3⟩; have hM3 := hM2.on hB3; clear hB3 hM2; (try unfold WV); go_frame)
    | ((with_reducible change wpList _ _ _ (Oper.mk (some 20) _ _ _ _ _ :: _) _ _); refine kIndexAddr2 _ _ _ _ 0 rfl rfl rfl rfl rfl (by decide) ?_; go_frame)
    | ((with_reducible change wpList _ _ _ (Oper.mk (some 21) _ _ _ _ _ :: _) _ _); refine kLoadAs _ _ _ _ _ 4 _ _ _ rfl rfl rfl (hM3.get 1 rfl) Tryd.underlying24 rfl info_Wide (by rw [wcells2_size]; decide) (wcells2_at0 _ _) ?_; go_frame)
    | ((with_reducible change wpList _ _ _ (Oper.mk (some 22) _ _ _ _ _ :: _) _ _); refine kLoadRow _ _ _ _ _ _ rfl rfl rfl (hM3.get 0 rfl) Tryd.underlying40 rfl (info_HashC _) ?_; go_frame)
    | ((with_reducible change wpList _ _ _ (Oper.mk (some 23) _ _ _ _ _ :: _) _ _); refine kIndexAddr2 _ _ _ _ 1 rfl rfl rfl rfl rfl (by decide) ?_; go_frame)
    | ((with_reducible change wpList _ _ _ (Oper.mk (some 24) _ _ _ _ _ :: _) _ _); refine kLoadAs _ _ _ _ _ 4 _ _ _ rfl rfl rfl (hM3.get 1 rfl) Tryd.underlying24 rfl info_Wide (by rw [wcells2_size]; decide) (wcells2_at4 _ _) ?_; go_frame)
    | (go_at_call 12; (with_reducible change Calls _ _ #[Value.agg (wcells a), Value.agg (bcells f), Value.agg (wcells k)] _ _); refine (sSign_some hf Hz.out h.out _ (hG.below hM3.below) (hO.below hM3.below) (hB.below hM3.below) (hN.below hM3.below)).mono ?_; rintro e w4 ⟨rfl, hB4⟩; have hM4 := hM3.on hB4; clear hB4 hM3; (try unfold WV); go_frame)
    | ((with_reducible change wpList _ _ _ (Oper.mk (some 7) _ _ _ _ _ :: _) _ _); refine mmAlloc hM4 _ _ rfl rfl zero_Sig ?_; intro w5 hM5; clear hM4; go_frame)
    | ((with_reducible change wpList _ _ _ (Oper.mk none (Op.store _ (Operand.tmp 7) (Operand.tmp 26)) _ _ _ _ :: _) _ _); refine mmStoreAt hM5 0 _ _ _ _ _ _ (wcells2 r s) rfl rfl rfl rfl rfl (info_SigC _ _) rfl (wcells2_one _ _) ?_; intro w6 hM6; dsimp only [List.set] at hM6; clear hM5; go_frame)
    | ((with_reducible change wpList _ _ _ (Oper.mk (some 29) _ _ _ _ _ :: _) _ _); refine kIndexAddr2 _ _ _ _ 0 rfl rfl rfl rfl rfl (by decide) ?_; go_frame)
    | ((with_reducible change wpList _ _ _ (Oper.mk (some 30) _ _ _ _ _ :: _) _ _); refine kLoadAs _ _ _ _ _ 4 _ _ _ rfl rfl rfl (hM6.get 2 rfl) Tryd.underlying24 rfl info_Wide (by rw [wcells2_size]; decide) (wcells2_at0 _ _) ?_; go_frame)
    | (go_at_call 11; (with_reducible change Calls _ _ #[Value.agg (wcells a)] _ _); refine (sPublic_yes ma ha.out Hp.out _ (hG.below hM6.below) (hO.below hM6.below) (hB.below hM6.below) (hN.below hM6.below)).mono ?_; rintro e w7 ⟨rfl, hB7⟩; have hM7 := hM6.on hB7; clear hB7 hM6; (try unfold WV); go_frame)
    | ((with_reducible change wpList _ _ _ (Oper.mk (some 9) _ _ _ _ _ :: _) _ _); refine mmAlloc hM7 _ _ rfl rfl zero_Point ?_; intro w8 hM8; clear hM7; go_frame)
    | ((with_reducible change wpList _ _ _ (Oper.mk none (Op.store _ (Operand.tmp 9) (Operand.tmp 32)) _ _ _ _ :: _) _ _); refine mmStoreAt hM8 0 _ _ _ _ _ _ (ptc p) rfl rfl rfl rfl rfl (info_ptc _) (by simp only [pcells_size, ptc_size]) (ptc_one _) ?_; intro w9 hM9; dsimp only [List.set] at hM9; clear hM8; go_frame)
    | ((with_reducible change wpList _ _ _ (Oper.mk (some 35) _ _ _ _ _ :: _) _ _); refine kNeqI _ _ _ _ .i64 (0) (0) false rfl rfl rfl rfl (by decide) ?_; go_frame)
    | ((with_reducible change wpList _ _ _ (Oper.mk (some 38) _ _ _ _ _ :: _) _ _); refine kNeqI _ _ _ _ .i64 (0) (0) false rfl rfl rfl rfl (by decide) ?_; go_frame)
    | ((with_reducible change wpList _ _ _ (Oper.mk (some 40) _ _ _ _ _ :: _) _ _); refine kLoadRow _ _ _ _ _ _ rfl rfl rfl (hM9.get 1 rfl) Tryd.underlying35 rfl (info_SigC _ _) ?_; go_frame)
    | (go_at_call 22; refine (sBytes_any r s _).mono ?_; rintro e w10 ⟨v10, rfl, hO10, hB10⟩; obtain ⟨g, cap, cur, hv10, hg10, hR10, hcap, hcs, hcur⟩ := own_row hO10 hlen.out; subst hv10; have hM10 := (hM9.on hB10).cons hR10 (Nat.le_trans hM9.size hg10) (fun p hp => by have := hM9.lt hp; omega); have hcq := Lib.hid (cur_at hlen.out hcur hq.out); rw [Hcq.out] at hcq; have Hcur := Lib.hid hcur; have Hcap := Lib.hid hcap; have Hcs := Lib.hid hcs; have Hcur2 := Lib.hid (cur_set hcur (kk / 8) (cq ^^^ dq)); have Hcs2 := Lib.hid (show (cur.setIfInBounds (kk / 8) (VB (cq ^^^ dq))).size = cap by rw [Array.size_setIfInBounds]; exact hcs); have hqs := Lib.hid (show kk / 8 < cur.size by have := hq.out; omega); clear hO10 hB10 hg10 hR10 hcap hcs hcur hM9; go_frame)
    | (go_at_call 14; (with_reducible change Calls _ _ #[Value.slice (some ⟨g, 0, none⟩) 64 cap] _ _); refine (sParse_as hlen.out Hta.out Htb.out _ (row_vals Hcap.out Hcs.out Hcur.out (hM10.get 0 rfl))).mono ?_; rintro e w11 ⟨rfl, hB11⟩; have hM11 := hM10.on hB11; clear hB11 hM10; (try unfold WV); go_frame)
    | ((with_reducible change wpList _ _ _ (Oper.mk (some 12) _ _ _ _ _ :: _) _ _); refine mmAlloc hM11 _ _ rfl rfl zero_Sig ?_; intro w12 hM12; clear hM11; go_frame)
    | ((with_reducible change wpList _ _ _ (Oper.mk none (Op.store _ (Operand.tmp 12) (Operand.tmp 45)) _ _ _ _ :: _) _ _); refine mmStoreAt hM12 0 _ _ _ _ _ _ (wcells2 r s) rfl rfl rfl rfl rfl (info_SigC _ _) rfl (wcells2_one _ _) ?_; intro w13 hM13; dsimp only [List.set] at hM13; clear hM12; go_frame)
    | ((with_reducible change wpList _ _ _ (Oper.mk (some 48) _ _ _ _ _ :: _) _ _); refine kNeqI _ _ _ _ .i64 (0) (0) false rfl rfl rfl rfl (by decide) ?_; go_frame)
    | ((with_reducible change wpList _ _ _ (Oper.mk (some 50) _ _ _ _ _ :: _) _ _); refine kLoadRow _ _ _ _ _ _ rfl rfl rfl (hM13.get 0 rfl) Tryd.underlying35 rfl (info_SigC _ _) ?_; go_frame)
    | ((with_reducible change wpList _ _ _ (Oper.mk (some 51) _ _ _ _ _ :: _) _ _); refine kLoadRow _ _ _ _ _ _ rfl rfl rfl (hM13.get 3 rfl) Tryd.underlying35 rfl (info_SigC _ _) ?_; go_frame)
    | ((with_reducible change wpList _ _ _ (Oper.mk (some 52) _ _ _ _ _ :: _) _ _); refine kNeqS _ _ _ r s r s false rfl rfl rfl rfl (neS_no ⟨rfl, rfl⟩) ?_; go_frame)
    | ((with_reducible change wpList _ _ _ (Oper.mk (some 55) _ _ _ _ _ :: _) _ _); refine kLoadRow _ _ _ _ _ _ rfl rfl rfl (hM13.get 2 rfl) Tryd.underlying30 rfl (info_ptc _) ?_; go_frame)
    | ((with_reducible change wpList _ _ _ (Oper.mk (some 56) _ _ _ _ _ :: _) _ _); refine kLoadRow _ _ _ _ _ _ rfl rfl rfl (hM13.get 4 rfl) Tryd.underlying40 rfl (info_HashC _) ?_; go_frame)
    | ((with_reducible change wpList _ _ _ (Oper.mk (some 57) _ _ _ _ _ :: _) _ _); refine kLoadRow _ _ _ _ _ _ rfl rfl rfl (hM13.get 3 rfl) Tryd.underlying35 rfl (info_SigC _ _) ?_; go_frame)
    | (go_at_call 20; (with_reducible change Calls _ _ #[Value.agg (ptc p), Value.agg (bcells f), Value.agg (wcells2 r s)] _ _); refine (sVerify_as op mr ms hf Hz.out hv.out _ (hG.below hM13.below) (hO.below hM13.below) (hB.below hM13.below) (hN.below hM13.below)).mono ?_; rintro e w14 ⟨rfl, hB14⟩; have hM14 := hM13.on hB14; clear hB14 hM13; (try unfold WV); go_frame)
    | ((with_reducible change wpList _ _ _ (Oper.mk (some 62) _ _ _ _ _ :: _) _ _); refine kMinZ _ _ zb 511 t Ht.out rfl rfl rfl rfl ?_; go_frame)
    | ((with_reducible change wpList _ _ _ (Oper.mk (some 63) _ _ _ _ _ :: _) _ _); refine kMaxZ _ _ 0 t (kk : Int) Hkk.out rfl rfl rfl rfl ?_; go_frame))
  refine region_symT 9 _ [] [] [.val (.slice (some ⟨g, 0, none⟩) 64 cap), .val (.int .i64 ((kk : Int))), .val (.int .i64 (((kk / 8 : Nat) : Int))), .val (.pointer (some ⟨g, (kk / 8), none⟩)), .val (.int .u8 (B cq)), .val (.int .i64 ((kk : Int))), .val (.int .i64 (((kk % 8 : Nat) : Int))), .val (.int .u8 (B dq)), .val (.int .u8 (B (cq ^^^ dq)))] rfl (by kernel_rfl) (by kernel_rfl) (by kernel_rfl) (by kernel_rfl) rfl (by intro s hs; cases hs) (steps_all ⟨?_, ?_, ?_, ?_, ?_, ?_, ?_, ?_, ?_, trivial⟩) ?_
  · exact fun A W sz ot hbel ap dp => kMoveV _ _ rfl rfl (sO ot 11) (sE ap sz rfl)
  · exact fun A W sz ot hbel ap dp => kMoveV _ _ rfl rfl (sO ot 14) (sE ap sz rfl)
  · exact fun A W sz ot hbel ap dp => kQuo8 _ _ _ _ kk rfl rfl (sD dp 1 .data) rfl hkk.out (sE ap sz rfl)
  · exact fun A W sz ot hbel ap dp => kIndexRow _ _ g cap (kk / 8) hq.out rfl rfl (sD dp 0 .data) (sD dp 2 .data) (sE ap sz rfl)
  · exact fun A W sz ot hbel ap dp => kLoad1 _ _ _ _ _ _ (VB cq) _ rfl rfl (sD dp 3 .data) ((hM14.get 1 rfl).on hbel) Tryd.underlying5 rfl hcq.out (sE ap sz rfl)
  · exact fun A W sz ot hbel ap dp => kMoveV _ _ rfl rfl (sO ot 14) (sE ap sz rfl)
  · exact fun A W sz ot hbel ap dp => kRem8 _ _ _ _ kk rfl rfl (sD dp 5 .data) rfl (sE ap sz rfl)
  · exact fun A W sz ot hbel ap dp => kShl1 _ _ _ _ (kk % 8) dq he.out Hdq.out rfl rfl rfl (sD dp 6 .data) (sE ap sz rfl)
  · exact fun A W sz ot hbel ap dp => kXorB _ _ _ _ cq dq rfl rfl (sD dp 4 .data) (sD dp 7 .data) (sE ap sz rfl)
  intro w15 hB15
  dsimp only [AllV]
  intro hap
  dsimp only [putAll, List.take, List.drop]
  go_frame
  have hM15 := hM14.on hB15
  clear hB15 hM14 hap
  go_wp2_with (first
    | ((with_reducible change wpList _ _ _ (Oper.mk (some 73) _ _ _ _ _ :: _) _ _); refine kIndexRow _ _ g cap (kk / 8) hq.out rfl rfl rfl rfl ?_; go_frame)
    | ((with_reducible change wpList _ _ _ (Oper.mk none (Op.store _ (Operand.tmp 73) (Operand.tmp 72)) _ _ _ _ :: _) _ _); refine mmStore1 hM15 1 _ _ _ _ _ (kk / 8) _ (VB (cq ^^^ dq)) (cur.setIfInBounds (kk / 8) (VB (cq ^^^ dq))) rfl rfl rfl rfl rfl info_b8 hqs.out rfl rfl ?_; intro w16 hM16; dsimp only [List.set] at hM16; clear hM15; go_frame)
    | (go_at_call 14; (with_reducible change Calls _ _ #[Value.slice (some ⟨g, 0, none⟩) 64 cap] _ _); refine (sParse_as hlen2.out Hxa.out Hxb.out _ (row_vals Hcap.out Hcs2.out Hcur2.out (hM16.get 1 rfl))).mono ?_; rintro e w17 ⟨rfl, hB17⟩; have hM17 := hM16.on hB17; clear hB17 hM16; (try unfold WV); go_frame)
    | ((with_reducible change wpList _ _ _ (Oper.mk (some 15) _ _ _ _ _ :: _) _ _); refine mmAlloc hM17 _ _ rfl rfl zero_Sig ?_; intro w18 hM18; clear hM17; go_frame)
    | ((with_reducible change wpList _ _ _ (Oper.mk none (Op.store _ (Operand.tmp 15) (Operand.tmp 77)) _ _ _ _ :: _) _ _); refine mmStoreAt hM18 0 _ _ _ _ _ _ (wcells2 xa xb) rfl rfl rfl rfl rfl (info_SigC _ _) rfl (wcells2_one _ _) ?_; intro w19 hM19; dsimp only [List.set] at hM19; clear hM18; go_frame))
  refine region_symT 17 _ [] [] [.val (.agg (ptc p)), .val (.agg (bcells f)), .val (.agg (wcells2 xa xb)), .val (.bool bb), .val (.agg (ptc p)), .val (.agg (bcells f)), .val (.agg (wcells2 xa xb)), .val (.bool bb), .val (.bool true), .val (.bool true), .val (.agg (pcells 0 0 true)), .val (.agg (bcells f)), .val (.agg (wcells2 r s)), .val (.bool false), .val (.bool true), .val (.bool true), .val (.bool true)] rfl (by kernel_rfl) (by kernel_rfl) (by kernel_rfl) (by kernel_rfl) rfl (by intro s hs; cases hs) (steps_all ⟨?_, ?_, ?_, ?_, ?_, ?_, ?_, ?_, ?_, ?_, ?_, ?_, ?_, ?_, ?_, ?_, ?_, trivial⟩) ?_
  · exact fun A W sz ot hbel ap dp => kLoadRow _ _ _ _ _ _ rfl rfl (sO ot 9) ((hM19.get 3 rfl).on hbel) Tryd.underlying30 rfl (info_ptc _) (sE ap sz rfl)
  · exact fun A W sz ot hbel ap dp => kLoadRow _ _ _ _ _ _ rfl rfl (sO ot 4) ((hM19.get 5 rfl).on hbel) Tryd.underlying40 rfl (info_HashC _) (sE ap sz rfl)
  · exact fun A W sz ot hbel ap dp => kLoadRow _ _ _ _ _ _ rfl rfl (sO ot 15) ((hM19.get 0 rfl).on hbel) Tryd.underlying35 rfl (info_SigC _ _) (sE ap sz rfl)
  · exact fun A W sz ot hbel ap dp => sCall3 20 rfl (sD dp 0 .data) (sD dp 1 .data) (sD dp 2 .data) (sC (sVerify_as op mxa mxb hf Hz.out Hbb.out W ((hG.below hM19.below).below hbel) ((hO.below hM19.below).below hbel) ((hB.below hM19.below).below hbel) ((hN.below hM19.below).below hbel)) ap sz (fun _ => rfl))
  · exact fun A W sz ot hbel ap dp => kLoadRow _ _ _ _ _ _ rfl rfl (sO ot 9) ((hM19.get 3 rfl).on hbel) Tryd.underlying30 rfl (info_ptc _) (sE ap sz rfl)
  · exact fun A W sz ot hbel ap dp => kLoadRow _ _ _ _ _ _ rfl rfl (sO ot 4) ((hM19.get 5 rfl).on hbel) Tryd.underlying40 rfl (info_HashC _) (sE ap sz rfl)
  · exact fun A W sz ot hbel ap dp => kLoadRow _ _ _ _ _ _ rfl rfl (sO ot 15) ((hM19.get 0 rfl).on hbel) Tryd.underlying35 rfl (info_SigC _ _) (sE ap sz rfl)
  · exact fun A W sz ot hbel ap dp => sCall3 21 rfl (sD dp 4 .data) (sD dp 5 .data) (sD dp 6 .data) (sC (gVerify_as op mxa mxb hf Hz.out Hbb.out W) ap sz (fun _ => rfl))
  · exact fun A W sz ot hbel ap dp => kEqlBool _ _ _ _ bb bb true rfl rfl (sD dp 3 .data) (sD dp 7 .data) Tryd.underlying4 (by simp) (sE ap sz rfl)
  · exact fun A W sz ot hbel ap dp => kMoveV _ _ rfl rfl (sD dp 8 .data) (sE ap sz rfl)
  · exact fun A W sz ot hbel ap dp => kBuildPointN rfl (wanted_of rfl rfl (sD dp 9 .guard)) (sE ap sz rfl)
  · exact fun A W sz ot hbel ap dp => kLoadRow _ _ _ _ _ _ rfl (wanted_of rfl rfl (sD dp 9 .guard)) (sO ot 4) ((hM19.get 5 rfl).on hbel) Tryd.underlying40 rfl (info_HashC _) (sE ap sz rfl)
  · exact fun A W sz ot hbel ap dp => kLoadRow _ _ _ _ _ _ rfl (wanted_of rfl rfl (sD dp 9 .guard)) (sO ot 7) ((hM19.get 4 rfl).on hbel) Tryd.underlying35 rfl (info_SigC _ _) (sE ap sz rfl)
  · exact fun A W sz ot hbel ap dp => sCall3 20 rfl (sD dp 10 .data) (sD dp 11 .data) (sD dp 12 .data) (sC (sVerify_o5 mr ms hf Hz.out Hvo.out W ((hG.below hM19.below).below hbel) ((hO.below hM19.below).below hbel) ((hB.below hM19.below).below hbel) ((hN.below hM19.below).below hbel)) ap sz (fun _ => rfl)) (wanted_of rfl rfl (sD dp 9 .chain))
  · exact fun A W sz ot hbel ap dp => kNot _ _ false rfl (wanted_of rfl rfl (sD dp 9 .guard)) (sD dp 13 .data) (sE ap sz rfl)
  · exact fun A W sz ot hbel ap dp => kPick _ _ _ true (.bool true) rfl rfl (sD dp 9 .data) (sD dp 14 .data) (sE ap sz rfl)
  · exact fun A W sz ot hbel ap dp => kAssignV _ _ rfl rfl (sD dp 15 .data) (sE ap sz rfl)
  intro w20 hB20
  dsimp only [AllV]
  intro hap
  dsimp only [putAll, List.take, List.drop]
  go_frame
  have hM20 := hM19.on hB20
  clear hB20 hM19 hap
  go_wp2_with fail
  go_ret
  exact ⟨rfl, hM20.below⟩
theorem SignBack_any {a k : Nat} (ma : a < M256) (mk : k < M256) {f : Nat → Nat} {z : Nat} (hf : ∀ i, f i < 256) (hz : zOf f = z) (zb : Int) (w : World) (hG : Glob 3 PP w) (hO : GlobP 2 0 0 true w) (hB : GlobPt 0 gPt w) (hN : Glob 1 NN w) : Calls Tryd.prog 6 #[.agg (wcells2 a k), .agg (bcells f), .int .i64 zb] w fun e w' => e = .returned (.bool true) ∧ Below w.heap.size w w' := by
  cases h : signOf a z k with
  | some q => exact SignBack_some ma hf hz zb (show signOf a z k = some (q.1, q.2) from h) w hG hO hB hN
  | none =>
    cases ha : isSec a with
    | false => exact SignBack_no ma mk hf hz zb ha h w hG hO hB hN
    | true => exact SignBack_yes ma mk hf hz zb ha h w hG hO hB hN
end Go.Proofs.YtfgffjmpjoipeaaDoor
