/-
  The reference of layer 5: a hash as a number, Secret, High.
-/
import Derived.Test.YtfgffjmpjoipeaaDoorSgVerify
namespace Go.Proofs.YtfgffjmpjoipeaaDoor
open Go Go.RowKit

open Cv
/-- a hash's digits to the base 65536, the lowest first -/
def hL (f : Nat → Nat) (r : Nat) : List Nat := (List.range r).map fun t => 256 * f (30 - 2 * t) + f (31 - 2 * t)
theorem hL_len (f : Nat → Nat) (r : Nat) : (hL f r).length = r := by simp [hL]
theorem hL_succ (f : Nat → Nat) (r : Nat) : hL f (r + 1) = hL f r ++ [256 * f (30 - 2 * r) + f (31 - 2 * r)] := by simp [hL, List.range_succ]
theorem hL_digs {f : Nat → Nat} (hf : ∀ i, f i < 256) (r : Nat) : Digs (hL f r) := fun x hx => by
  simp only [hL, List.mem_map] at hx; obtain ⟨t, -, rfl⟩ := hx
  have h1 := hf (30 - 2 * t); have h2 := hf (31 - 2 * t); omega
theorem hL_val (f : Nat → Nat) : ∀ r, r ≤ 16 → dval (hL f r) = bnum (fun i => f (31 - i)) (2 * r)
  | 0, _ => rfl
  | r + 1, h => by
    rw [hL_succ, dval_snoc, hL_len, hL_val f r (by omega), show 2 * (r + 1) = 2 * r + 1 + 1 by omega]
    show _ = bnum _ (2 * r) + f (31 - 2 * r) * 2 ^ (8 * (2 * r)) + f (31 - (2 * r + 1)) * 2 ^ (8 * (2 * r + 1))
    rw [show 31 - (2 * r + 1) = 30 - 2 * r by omega, show 8 * (2 * r + 1) = 8 * (2 * r) + 8 by omega, Nat.pow_add]
    have e : P16 r = 2 ^ (8 * (2 * r)) := by unfold P16; rw [show (65536 : Nat) = 2 ^ 16 from rfl, ← Nat.pow_mul]; congr 1; omega
    rw [e, Nat.mul_add, Nat.add_assoc]
    congr 1
    rw [Nat.add_comm]
    congr 1
    · exact Nat.mul_comm _ _
    · rw [Nat.mul_comm 256, ← Nat.mul_assoc, Nat.mul_comm (2 ^ (8 * (2 * r))), Nat.mul_assoc]
theorem hL_num {f : Nat → Nat} {w : World} {v : Value} {z : Nat} (hf : ∀ i, f i < 256) (hz : zOf f = z) (h : Dig w v (hL f 16)) : Num w v z 16 :=
  ⟨_, hL_digs hf 16, h, (hL_val f 16 (Nat.le_refl _)).trans hz, by rw [hL_len]; exact Nat.le_refl _⟩
/-- a slice of one digit -/
def OneD (w : World) (v : Value) (d : Nat) : Prop := ∃ g, v = .slice (some ⟨g, 0, none⟩) 1 1 ∧ Row w g 22 #[VU d]
theorem OneD.below {w w' : World} {v : Value} {d : Nat} (h : OneD w v d) (hb : Below w.heap.size w w') : OneD w' v d := by
  obtain ⟨g, e, hr⟩ := h; exact ⟨g, e, hr.below hb hr.lt⟩
theorem OneD.vals {w : World} {v : Value} {d : Nat} (h : OneD w v d) : IsVals w v [VU d] := by
  obtain ⟨g, rfl, hr⟩ := h; exact isVals_lit hr
section
variable {ops : Array Oper} {Q : Exit → Act → World → Prop} {rest : List Oper} {o : Oper} {a : Act} {w : World}
theorem kConvB8 (x : Operand) (k : Nat) (hk : k < 256) (ho : o.op = .convert 5 22 x) (hg : Region.wanted o (yielded ops a.tmps) = true) (hx : a.eval x = .int .u8 (k : Int)) (h : wpList Tryd.prog ops Q rest (a.put o.dst (.int .u64 (k : Int))) w) : wpList Tryd.prog ops Q (o :: rest) a w := by
  refine kPure _ hg ?_ h
  unfold execOp
  have e : IntKind.u64.wrap (k : Int) = (k : Int) := by rw [IntKind.wrap_u64]; omega
  simp [ho, hx, convert, run_underlying Tryd.underlying22, run_underlying Tryd.underlying5, e, Conv.intToInt]
theorem kMul256 (T T2 : TypeId) (x y : Operand) (n : Nat) (hn : n < 256) (ho : o.op = .binOp .mul T x y T2) (hg : Region.wanted o (yielded ops a.tmps) = true) (hx : a.eval x = .int .u64 256) (hy : a.eval y = .int .u64 (n : Int)) (h : wpList Tryd.prog ops Q rest (a.put o.dst (.int .u64 ((256 * n : Nat) : Int))) w) : wpList Tryd.prog ops Q (o :: rest) a w := by
  refine kPure _ hg ?_ h
  unfold execOp
  simp only [ho, hx, hy]
  have e : IntKind.u64.wrap (256 * (n : Int)) = ((256 * n : Nat) : Int) := by rw [IntKind.wrap_u64]; omega
  simp [eqGuard, binOp, Op.intArith, e]
theorem kAddI (T T2 : TypeId) (x y : Operand) (m n z : Int) (hz : m + n = z ∧ 0 ≤ z ∧ z < 9223372036854775808) (ho : o.op = .binOp .add T x y T2) (hg : Region.wanted o (yielded ops a.tmps) = true) (hx : a.eval x = .int .i64 m) (hy : a.eval y = .int .i64 n) (h : wpList Tryd.prog ops Q rest (a.put o.dst (.int .i64 z)) w) : wpList Tryd.prog ops Q (o :: rest) a w := by
  obtain ⟨rfl, h1, h2⟩ := hz
  refine kPure _ hg ?_ h
  unfold execOp
  simp only [ho, hx, hy]
  have e : IntKind.i64.wrap (m + n) = m + n := by rw [IntKind.wrap_i64]; omega
  simp [eqGuard, binOp, Op.intArith, e]
theorem kOneD (x : Operand) (d : Nat) (ho : o.op = .buildSlice 27 1 #[(0, x)]) (hg : Region.wanted o (yielded ops a.tmps) = true) (hx : a.eval x = .int .u64 (d : Int))
    (h : ∀ w1 v, OneD w1 v d → Below w.heap.size w w1 → wpList Tryd.prog ops Q rest (a.put o.dst v) w1) : wpList Tryd.prog ops Q (o :: rest) a w := by
  obtain ⟨i, hi, hz, hs1, hby⟩ := w64Info
  exact kBuildSlice1 _ _ _ (VU d) ho hg Tryd.underlying27 i _ hi hz hs1 hx rfl fun w1 hR _ hB => h w1 _ ⟨_, rfl, hR⟩ hB
end
set_option maxRecDepth 100000 in
set_option maxHeartbeats 8000000 in
theorem gNumber_as {f : Nat → Nat} {m z x : Nat} (hm : Modu m) (hP : PrimeIs false m) (hf : ∀ i, f i < 256) (hz : zOf f = z) (hx : z % m = x) (w : World) : Calls Tryd.prog 39 #[.agg (bcells f)] w (NumTPost w x) := by
  obtain ⟨ix, hix, hzx, hsx, hbx⟩ := w64Info
  have Hx := Lib.hid hx
  clear hx
  go_enter Tryd.func39, Tryd.ntmps39
  go_wp2_with (first
    | ((with_reducible change wpList _ _ _ (Oper.mk (some 1) _ _ _ _ _ :: _) _ _); refine kBoxL _ _ _ rfl rfl rfl ?_; intro w1 hR1 hl1 hB1; go_frame)
    | ((with_reducible change wpList _ _ _ (Oper.mk (some 5) _ _ _ _ _ :: _) _ _); refine kBuildSlice0 _ _ rfl rfl Tryd.underlying27 ix hix ?_; intro w2 hR2 hz2 hB2; clear hz2; have hO2 := own_empty (base := w1.heap.size) (Nat.le_refl _) hR2; go_frame))
  clear hR2
  go_loopw [4, 3] (fun i v wr => ∃ q : Nat, q ≤ 16 ∧ i = .int .i64 (2 * (q : Int) - 2) ∧ OwnD wr w1.heap.size v (hL f (16 - q)) ∧ Below w1.heap.size w1 wr) (fun i _ _ => (intOf i + 2).toNat)
  case atStart => exact ⟨16, by omega, rfl, hO2, hB2⟩
  case round =>
    obtain ⟨q, hq, rfl, hO, hB⟩ := hrel
    clear hO2 hB2
    have hszq := hB.size
    by_cases h0 : q = 0
    · subst h0
      have hNum := hL_num hf hz hO.dig
      go_wp2_with (first
        | ((with_reducible change wpList _ _ _ (Oper.mk (some 7) _ _ _ _ _ :: _) _ _); refine kGeqI _ _ _ _ .i64 _ _ false rfl rfl rfl rfl (by decide) ?_; go_frame)
        | (go_at_call 64; refine (rMod_as hm hP hNum (by decide) Hx.out).mono ?_; rintro e w3 ⟨x3, rfl, hN3, hB3⟩; go_frame))
      go_ret
      exact ⟨_, rfl, hN3, (hB1.trans (hB.mono (Nat.le_of_lt hl1))).trans (hB3.mono (by omega))⟩
    · obtain ⟨p, rfl⟩ : ∃ p, q = p + 1 := ⟨q - 1, by omega⟩
      have hRg := hR1.below hB hl1
      have hlq : ((hL f (16 - (p + 1))).map VU).length = 16 - (p + 1) := by rw [List.length_map, hL_len]
      have ei : 2 * ((p + 1 : Nat) : Int) - 2 = ((2 * p : Nat) : Int) := by omega
      rw [ei]
      have hM0 := mm_nil wr
      go_wp2_with (first
        | ((with_reducible change wpList _ _ _ (Oper.mk (some 7) _ _ _ _ _ :: _) _ _); refine kGeqI _ _ _ _ .i64 _ _ true rfl rfl rfl rfl (decide_eq_true (by omega)) ?_; go_frame))
      refine region_symT 13 _ [] [] [.val (u3), .val (.int .i64 (((2 * p : Nat) : Int))), .val (.pointer (some ⟨w.heap.size, (2 * p), none⟩)), .val (.int .u8 ((f (2 * p) : Int))), .val (.int .u64 ((f (2 * p) : Int))), .val (.int .u64 (((256 * f (2 * p) : Nat) : Int))), .val (.int .i64 (((2 * p : Nat) : Int))), .val (.int .i64 (((2 * p + 1 : Nat) : Int))), .val (.pointer (some ⟨w.heap.size, (2 * p + 1), none⟩)), .val (.int .u8 ((f (2 * p + 1) : Int))), .val (.int .u64 ((f (2 * p + 1) : Int))), .val (.int .u64 (((256 * f (2 * p) + f (2 * p + 1) : Nat) : Int))), .prop (fun w v => OneD w v (256 * f (2 * p) + f (2 * p + 1))) (fun _ _ _ hb h => h.below hb)] rfl (by kernel_rfl) (by kernel_rfl) (by kernel_rfl) (by kernel_rfl) rfl (by intro s hs; cases hs) (steps_all ⟨?_, ?_, ?_, ?_, ?_, ?_, ?_, ?_, ?_, ?_, ?_, ?_, ?_, trivial⟩) ?_
      · exact fun A W sz ot hbel ap dp => kMoveV _ _ rfl rfl (sO ot 3) (sE ap sz rfl)
      · exact fun A W sz ot hbel ap dp => kMoveV _ _ rfl rfl (sO ot 4) (sE ap sz rfl)
      · exact fun A W sz ot hbel ap dp => kIndexAddr1 _ _ _ _ _ _ _ (2 * p) _ rfl rfl (sO ot 1) (sD dp 1 .data) Tryd.underlying40 info_b8 (by omega) (by omega) (sE ap sz rfl)
      · exact fun A W sz ot hbel ap dp => kLoad1 _ _ _ _ _ _ _ _ rfl rfl (sD dp 2 .data) (hRg.on hbel) Tryd.underlying5 rfl (bcells_get f (2 * p) (by omega)) (sE ap sz rfl)
      · exact fun A W sz ot hbel ap dp => kConvB8 _ (f (2 * p)) (hf _) rfl rfl (sD dp 3 .data) (sE ap sz rfl)
      · exact fun A W sz ot hbel ap dp => kMul256 _ _ _ _ (f (2 * p)) (hf _) rfl rfl rfl (sD dp 4 .data) (sE ap sz rfl)
      · exact fun A W sz ot hbel ap dp => kMoveV _ _ rfl rfl (sO ot 4) (sE ap sz rfl)
      · exact fun A W sz ot hbel ap dp => kAddI _ _ _ _ ((2 * p : Nat) : Int) 1 _ (by omega) rfl rfl (sD dp 6 .data) rfl (sE ap sz rfl)
      · exact fun A W sz ot hbel ap dp => kIndexAddr1 _ _ _ _ _ _ _ (2 * p + 1) _ rfl rfl (sO ot 1) (sD dp 7 .data) Tryd.underlying40 info_b8 (by omega) (by omega) (sE ap sz rfl)
      · exact fun A W sz ot hbel ap dp => kLoad1 _ _ _ _ _ _ _ _ rfl rfl (sD dp 8 .data) (hRg.on hbel) Tryd.underlying5 rfl (bcells_get f (2 * p + 1) (by omega)) (sE ap sz rfl)
      · exact fun A W sz ot hbel ap dp => kConvB8 _ (f (2 * p + 1)) (hf _) rfl rfl (sD dp 9 .data) (sE ap sz rfl)
      · exact fun A W sz ot hbel ap dp => kAddU _ _ _ _ (256 * f (2 * p)) (f (2 * p + 1)) rfl rfl (sD dp 5 .data) (sD dp 10 .data) (by have h1 := hf (2 * p); have h2 := hf (2 * p + 1); omega) (sE ap sz rfl)
      · intro A W sz ot hbel ap dp
        refine kOneD _ _ rfl rfl (sD dp 11 .data) ?_
        intro r xx hNx hBc
        exact (sV ap sz hBc hNx)
      intro w11 hB11
      dsimp only [AllV]
      intro x11_22 hN11_22
      intro hap
      dsimp only [putAll, List.take, List.drop]
      go_frame
      have hM11 := hM0.on hB11
      clear hB11 hM0 hap
      have hM12 := mm_nil w11
      go_wp2_with (first
        | ((with_reducible change wpList _ _ _ (Oper.mk (some 23) _ _ _ _ _ :: _) _ _); refine kAppend _ _ _ _ rfl rfl w1.heap.size ix _ Tryd.underlying27 hix hzx hsx rfl _ _ _ [VU (256 * f (2 * p) + f (2 * p + 1))] rfl (ownsRow_below hO hM11.below) rfl (hN11_22.vals) (vu_one [_]) (by unfold maxLen; rw [hlq]; simp; omega) (by rw [hbx, hlq]; simp; omega) (by have := hM11.below.size; omega) ?_; intro v7 w7 hO7 hG7; have hB7 := (hB.trans (hM11.below.mono hszq)).trans (below_grown (ownsRow_below hO hM11.below) hG7 (by have := hM11.below.size; omega)); clear hG7; go_frame))
      go_roundw
      case rel =>
        refine ⟨p, by omega, by congr 1 <;> omega, ?_, hB7⟩
        rw [show 16 - p = 16 - (p + 1) + 1 by omega, hL_succ, show 30 - 2 * (16 - (p + 1)) = 2 * p by omega, show 31 - 2 * (16 - (p + 1)) = 2 * p + 1 by omega]
        unfold OwnD
        rw [List.map_append (l₂ := [_])]
        exact hO7
      case measure => simp [intOf]; omega
theorem dBits_below {v : Value} {n : Nat} {w : World} (h : Num w v n 16) : Calls Tryd.prog 45 #[v] w fun e w' => e = .returned (.int .i64 (blen n : Int)) ∧ Below w.heap.size w w' := by
  obtain ⟨l, h1, h2, h3, h4⟩ := h
  subst h3
  exact (dBits_any l v w h1 h2 (by omega)).mono fun _ _ ⟨h1, h2⟩ => ⟨h1, h2 ▸ Below.refl _ _⟩
theorem cmpI_more {x y : Nat} {b : Bool} (h : decide (y < x) = b) : decide (cmpI x y > 0) = b := by
  subst h
  unfold cmpI
  by_cases h : y < x
  · rw [if_neg (by omega), if_pos h]; simp [h]
  · rw [if_neg h]; split <;> simp [h]
theorem hi_same {m n : Nat} {b : Bool} (Hm : m = NN) (h : isHi n = b) : decide (m < n + n) = b := by
  subst Hm; rw [← h]; unfold isHi
  have := NN_two
  exact decide_eq_decide.2 ⟨fun _ => by omega, fun _ => by omega⟩
set_option maxRecDepth 100000 in
set_option maxHeartbeats 8000000 in
theorem gSecret_as {m a : Nat} {b : Bool} (Hm : m = NN) (hP : PrimeIs false m) (ma : a < M256) (h : isSec a = b) (w : World) : Calls Tryd.prog 18 #[WV a] w fun e w' => e = .returned (.bool b) ∧ Below w.heap.size w w' := by
  have Hm := Lib.hid Hm
  by_cases h0 : a = 0
  · have F0 := Lib.hid (show b = false by rw [← h, h0]; rfl)
    have F8 := Lib.hid (show decide ((blen a : Int) > 0) = false by rw [h0]; rfl)
    clear h h0
    have hM0 := mm_nil w
    (try unfold WV)
    go_enter Tryd.func18, Tryd.ntmps18
    go_wp2_with (first
      | ((with_reducible change wpList _ _ _ (Oper.mk (some 1) _ _ _ _ _ :: _) _ _); refine mmBox hM0 _ _ (wcells a) rfl rfl rfl ?_; intro w1 hM1; clear hM0; go_frame)
      | ((with_reducible change wpList _ _ _ (Oper.mk (some 4) _ _ _ _ _ :: _) _ _); refine kLoadRow _ _ _ _ _ _ rfl rfl rfl (hM1.get 0 rfl) Tryd.underlying24 rfl (info_WideC _) ?_; go_frame)
      | (go_at_call 41; (with_reducible change Calls _ _ #[Value.agg (wcells a)] _ _); refine (dOf_num a ma _).mono ?_; rintro e w2 ⟨x2, rfl, hN2, hB2⟩; have hM2 := hM1.on hB2; clear hB2 hM1; have hM3 := mm_nil w2; go_frame)
      | (go_at_call 45; (with_reducible change Calls _ _ #[x2] _ _); refine (dBits_below (hN2.below hM3.below)).mono ?_; rintro e w4 ⟨rfl, hB4⟩; have hM4 := hM3.on hB4; clear hB4 hM3; (try unfold WV); go_frame)
      | ((with_reducible change wpList _ _ _ (Oper.mk (some 8) _ _ _ _ _ :: _) _ _); refine kGtrI _ _ _ _ .i64 (blen a : Int) 0 false rfl rfl rfl rfl (F8.out) ?_; go_frame))
    go_ret
    exact ⟨by rw [F0.out]; rfl, ((hM2.below).trans (hM4.below.mono (hM2.below).size))⟩
  · have Fb := Lib.hid (show decide (a < m) = b by rw [← h, Hm.out]; unfold isSec; simp [h0])
    have F8 := Lib.hid (show decide ((blen a : Int) > 0) = true from decide_eq_true (by have := blen_pos a h0; omega))
    clear h h0
    have hM0 := mm_nil w
    (try unfold WV)
    go_enter Tryd.func18, Tryd.ntmps18
    go_wp2_with (first
      | ((with_reducible change wpList _ _ _ (Oper.mk (some 1) _ _ _ _ _ :: _) _ _); refine mmBox hM0 _ _ (wcells a) rfl rfl rfl ?_; intro w1 hM1; clear hM0; go_frame)
      | ((with_reducible change wpList _ _ _ (Oper.mk (some 4) _ _ _ _ _ :: _) _ _); refine kLoadRow _ _ _ _ _ _ rfl rfl rfl (hM1.get 0 rfl) Tryd.underlying24 rfl (info_WideC _) ?_; go_frame)
      | (go_at_call 41; (with_reducible change Calls _ _ #[Value.agg (wcells a)] _ _); refine (dOf_num a ma _).mono ?_; rintro e w2 ⟨x2, rfl, hN2, hB2⟩; have hM2 := hM1.on hB2; clear hB2 hM1; have hM3 := mm_nil w2; go_frame)
      | (go_at_call 45; (with_reducible change Calls _ _ #[x2] _ _); refine (dBits_below (hN2.below hM3.below)).mono ?_; rintro e w4 ⟨rfl, hB4⟩; have hM4 := hM3.on hB4; clear hB4 hM3; (try unfold WV); go_frame)
      | ((with_reducible change wpList _ _ _ (Oper.mk (some 8) _ _ _ _ _ :: _) _ _); refine kGtrI _ _ _ _ .i64 (blen a : Int) 0 true rfl rfl rfl rfl (F8.out) ?_; go_frame)
      | (go_at_call 10; (with_reducible change Calls _ _ #[Value.bool false] _ _); refine (hP _).mono ?_; rintro e w5 ⟨x5, rfl, hN5, hB5⟩; have hM5 := hM4.on hB5; clear hB5 hM4; have hM6 := mm_nil w5; go_frame)
      | (go_at_call 46; (with_reducible change Calls _ _ #[x2, x5] _ _); refine (dCompare_below ((hN2.below hM5.below).below hM6.below) (hN5.below hM6.below) (by decide) (by decide)).mono ?_; rintro e w7 ⟨rfl, hB7⟩; have hM7 := hM6.on hB7; clear hB7 hM6; (try unfold WV); go_frame)
      | ((with_reducible change wpList _ _ _ (Oper.mk (some 13) _ _ _ _ _ :: _) _ _); refine kLssI _ _ _ _ .i64 (cmpI (a) m) (0) b rfl rfl rfl rfl (cmpI_less Fb.out) ?_; go_frame))
    go_ret
    exact ⟨rfl, ((((hM2.below).trans (hM5.below.mono (hM2.below).size))).trans (hM7.below.mono (((hM2.below).trans (hM5.below.mono (hM2.below).size))).size))⟩
set_option maxRecDepth 100000 in
set_option maxHeartbeats 8000000 in
theorem gHigh_as {m n : Nat} {b : Bool} {v : Value} {w : World} (Hm : m = NN) (hP : PrimeIs false m) (hv : Num w v n 16) (h : isHi n = b) : Calls Tryd.prog 43 #[v] w fun e w' => e = .returned (.bool b) ∧ Below w.heap.size w w' := by
  have Fb := Lib.hid (hi_same Hm h)
  clear h
  have hM0 := mm_nil w
  (try unfold WV)
  go_enter Tryd.func43, Tryd.ntmps43
  go_wp2_with (first
    | (go_at_call 65; (with_reducible change Calls _ _ #[v, v] _ _); refine (dAdd_num (hv.below hM0.below) (hv.below hM0.below) (by decide) (by decide)).mono ?_; rintro e w1 ⟨x1, rfl, hN1, hB1⟩; have hM1 := hM0.on hB1; clear hB1 hM0; have hM2 := mm_nil w1; go_frame)
    | (go_at_call 10; (with_reducible change Calls _ _ #[Value.bool false] _ _); refine (hP _).mono ?_; rintro e w3 ⟨x3, rfl, hN3, hB3⟩; have hM3 := hM2.on hB3; clear hB3 hM2; have hM4 := mm_nil w3; go_frame)
    | (go_at_call 46; (with_reducible change Calls _ _ #[x1, x3] _ _); refine (dCompare_below ((hN1.below hM3.below).below hM4.below) (hN3.below hM4.below) (by decide) (by decide)).mono ?_; rintro e w5 ⟨rfl, hB5⟩; have hM5 := hM4.on hB5; clear hB5 hM4; (try unfold WV); go_frame)
    | ((with_reducible change wpList _ _ _ (Oper.mk (some 8) _ _ _ _ _ :: _) _ _); refine kGtrI _ _ _ _ .i64 (cmpI (n + n) m) 0 b rfl rfl rfl rfl (cmpI_more Fb.out) ?_; go_frame))
  go_ret
  exact ⟨rfl, ((((hM1.below).trans (hM3.below.mono (hM1.below).size))).trans (hM5.below.mono (((hM1.below).trans (hM3.below.mono (hM1.below).size))).size))⟩
end Go.Proofs.YtfgffjmpjoipeaaDoor
