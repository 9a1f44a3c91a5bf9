/-
  The walk of the reference's Padded: bytes, with all that comes behind them.
-/
import Derived.Test.YtnaclalbeocpkaaDoorRefBits
import Derived.Test.YtnaclalbeocpkaaDoorKitAll
namespace Go.Proofs.YtnaclalbeocpkaaDoor
open Go Go.RowKit

theorem be_byte (n j : Nat) (hj : j < 8) : ((n : Int) * 8 / 2 ^ (8 * (7 - j))).tmod 256 % 256 = B (UInt8.ofNat (n * 8 / 2 ^ (56 - 8 * j))) := by
  rw [show 8 * (7 - j) = 56 - 8 * j by omega, ← be64_byte n j, Int.tmod_eq_emod_of_nonneg (Int.ediv_nonneg (by omega) (Int.pow_nonneg (by decide)))]
  omega
theorem padded_eq (L : List UInt8) (k : Nat) (hk : k = (119 - L.length % 64) % 64) : (L ++ (128 :: List.replicate k 0)) ++ (be64 (L.length * 8)).take 8 = padded L := by
  subst hk
  unfold padded tailOf
  rw [List.take_of_length_le (by simp [be64]), List.append_assoc, List.cons_append]

set_option maxRecDepth 100000 in
set_option maxHeartbeats 1000000 in
theorem rPadded_any (L : List UInt8) (b : Value) (w : World) (hv : IsVals w b (L.map VB)) (hL : L.length ≤ 1000000) :
    Calls Tryd.prog 43 #[b] w (OwnPost w (padded L)) := by
  obtain ⟨i, hi, hz, hs1, hby⟩ := byteInfo
  go_enter Tryd.func43, Tryd.ntmps43
  go_wp2_with (first
    | ((with_reducible change wpList _ _ _ (Oper.mk (some 6) _ _ _ _ _ :: _) _ _); refine kBuildSlice0 _ _ rfl rfl Tryd.underlying22 i hi ?_; intro w1 hR1 hz1 hB1; have hO1 := own_empty (Nat.le_refl w.heap.size) hR1)
    | ((with_reducible change wpList _ _ _ (Oper.mk (some 8) _ _ _ _ _ :: _) _ _); refine kAppend _ _ _ _ rfl rfl w.heap.size i _ Tryd.underlying22 hi hz hs1 rfl _ _ [] (L.map VB) rfl hO1 rfl (hv.below hB1) (vb_one L) (by unfold maxLen; simp; omega) (by rw [hby]; simp; omega) (by omega) ?_; intro v2 w2 hO2 hG2; have hB2 := hB1.trans (below_grown hO1 hG2 (by omega)); have hz2 := hB2.size)
    | ((with_reducible change wpList _ _ _ (Oper.mk (some 9) _ _ _ _ _ :: _) _ _); refine kBuildSlice1 _ _ _ (VB 128) rfl rfl Tryd.underlying22 i _ hi hz hs1 rfl rfl ?_; intro w3 hR3 hz3 hB3)
    | ((with_reducible change wpList _ _ _ (Oper.mk (some 10) _ _ _ _ _ :: _) _ _); refine kAppend _ _ _ _ rfl rfl w.heap.size i _ Tryd.underlying22 hi hz hs1 rfl v2 _ ([] ++ L.map VB) [VB 128] rfl (ownsRow_below hO2 hB3) rfl (isVals_lit hR3) (vb_one [_]) (by unfold maxLen; simp; omega) (by rw [hby]; simp; omega) (by omega) ?_; intro v4 w4 hO4 hG4; have hB4 := (hB2.trans (hB3.mono hz2)).trans (below_grown (ownsRow_below hO2 hB3) hG4 (by omega))))
  have hO : OwnBytes w4 w.heap.size v4 (L ++ (128 :: List.replicate 0 0)) := by
    unfold OwnBytes; simpa using hO4
  clear hR1 hz1 hB1 hO1 hO2 hG2 hB2 hz2 hR3 hz3 hB3 hO4 hG4
  go_loopw [3] (fun v wr => ∃ k : Nat, k ≤ (119 - L.length % 64) % 64 ∧ OwnBytes wr w.heap.size v (L ++ (128 :: List.replicate k 0)) ∧ Below w.heap.size w wr) (fun v _ => L.length + 200 - sliceLen v)
  case atStart => exact ⟨0, by omega, hO, hB4⟩
  case round =>
    obtain ⟨k, hk, hOr, hBr⟩ := hrel
    have hlen : ((L ++ (128 :: List.replicate k 0)).map VB).length = L.length + 1 + k := by simp; omega
    have hszr := hBr.size
    by_cases hlt : k < (119 - L.length % 64) % 64
    · have hd : (((L.length + 1 + k : Nat) : Int).tmod 64 != 56) = true := by rw [Int.tmod_eq_emod_of_nonneg (by omega), bne_iff_ne]; omega
      go_wp2_with (first
        | ((with_reducible change wpList _ _ _ (Oper.mk (some 12) _ _ _ _ _ :: _) _ _); refine kLenN _ _ _ _ _ (L.length + 1 + k) rfl rfl rfl hOr.vals hlen Tryd.underlying22 ?_)
        | ((with_reducible change wpList _ _ _ (Oper.mk (some 16) _ _ _ _ _ :: _) _ _); refine kBuildSlice1 _ _ _ (VB 0) rfl rfl Tryd.underlying22 i _ hi hz hs1 rfl rfl ?_; intro w5 hR5 hz5 hB5)
        | ((with_reducible change wpList _ _ _ (Oper.mk (some 17) _ _ _ _ _ :: _) _ _); refine kAppend _ _ _ _ rfl rfl w.heap.size i _ Tryd.underlying22 hi hz hs1 rfl _ _ _ [VB 0] rfl (ownsRow_below hOr hB5) rfl (isVals_lit hR5) (vb_one [_]) (by unfold maxLen; rw [hlen]; simp; omega) (by rw [hby, hlen]; simp; omega) (by omega) ?_; intro v6 w6 hO6 hG6; have hB6 := (hBr.trans (hB5.mono hszr)).trans (below_grown (ownsRow_below hOr hB5) hG6 (by omega))))
      go_roundw
      case rel =>
        refine ⟨k + 1, by omega, ?_, hB6⟩
        unfold OwnBytes
        rw [List.replicate_succ', ← List.cons_append, ← List.append_assoc, List.map_append (l₂ := [_])]
        exact hO6
      case measure =>
        have e1 := (isVals_own hO6).len
        have e2 := hOr.vals.len
        rw [e1, e2, List.length_append, hlen]
        simp; omega
    · have hkz : k = (119 - L.length % 64) % 64 := by omega
      have Hkz := Lib.hid hkz
      clear hkz
      have hd : (((L.length + 1 + k : Nat) : Int).tmod 64 != 56) = false := by rw [Int.tmod_eq_emod_of_nonneg (by omega)]; simp; omega
      go_wp2_with (first
        | ((with_reducible change wpList _ _ _ (Oper.mk (some 12) _ _ _ _ _ :: _) _ _); refine kLenN _ _ _ _ _ (L.length + 1 + k) rfl rfl rfl hOr.vals hlen Tryd.underlying22 ?_)
        | ((with_reducible change wpList _ _ _ (Oper.mk (some 19) _ _ _ _ _ :: _) _ _); refine kLenN _ _ _ _ _ L.length rfl rfl rfl (hv.below hBr) (by simp) Tryd.underlying22 ?_))
      have hO' : OwnBytes wr w.heap.size u3 ((L ++ (128 :: List.replicate k 0)) ++ (be64 (L.length * 8)).take 0) := by simpa using hOr
      clear hd hOr hB4 hO hlt
      go_loopw [5, 3] (fun i v wq => ∃ j : Nat, j ≤ 8 ∧ i = .int .i64 (7 - (j : Int)) ∧ OwnBytes wq w.heap.size v ((L ++ (128 :: List.replicate k 0)) ++ (be64 (L.length * 8)).take j) ∧ Below w.heap.size w wq) (fun i _ _ => (intOf i + 1).toNat)
      case atStart => exact ⟨0, by omega, rfl, hO', hBr⟩
      case round =>
        obtain ⟨j, hj, rfl, hOq, hBq⟩ := hrel
        have hszq := hBq.size
        by_cases hlt : j < 8
        · have hd : decide ((7 : Int) - (j : Int) ≥ 0) = true := by simp; omega
          have hsh : (8 * (7 - (j : Int))).toNat = 8 * (7 - j) := by omega
          have hlq : ((L ++ (128 :: List.replicate k 0) ++ (be64 (L.length * 8)).take j).map VB).length = L.length + 1 + k + j := by rw [List.length_map, List.length_append, List.length_append]; simp [be64]; omega
          go_wp2_with (first
            | ((with_reducible change wpList _ _ _ (Oper.mk (some 34) _ _ _ _ _ :: _) _ _); refine kBuildSlice1 _ _ _ (VB (UInt8.ofNat (L.length * 8 / 2 ^ (56 - 8 * j)))) rfl rfl Tryd.underlying22 i _ hi hz hs1 (congrArg (Value.int IntKind.u8) (be_byte L.length j hlt)) rfl ?_; intro w5 hR5 hz5 hB5)
            | ((with_reducible change wpList _ _ _ (Oper.mk (some 35) _ _ _ _ _ :: _) _ _); refine kAppend _ _ _ _ rfl rfl w.heap.size i _ Tryd.underlying22 hi hz hs1 rfl _ _ _ [VB (UInt8.ofNat (L.length * 8 / 2 ^ (56 - 8 * j)))] rfl (ownsRow_below hOq hB5) rfl (isVals_lit hR5) (vb_one [_]) (by unfold maxLen; rw [hlq]; simp; omega) (by rw [hby, hlq]; simp; omega) (by omega) ?_; intro v6 w6 hO6 hG6; have hB6 := (hBq.trans (hB5.mono hszq)).trans (below_grown (ownsRow_below hOq hB5) hG6 (by omega))))
          go_roundw
          case rel =>
            refine ⟨j + 1, by omega, by go_num, ?_, hB6⟩
            rw [be64_take _ _ hlt, ← List.append_assoc]
            unfold OwnBytes
            rw [List.map_append (l₂ := [_])]
            exact hO6
          case measure => simp [intOf]; omega
        · have hj8 : j = 8 := by omega
          have hd : decide ((7 : Int) - (j : Int) ≥ 0) = false := by simp; omega
          rw [hj8, padded_eq L k Hkz.out] at hOq
          clear hj8
          go_wp2
          go_ret
          exact ⟨_, rfl, hOq, hBq⟩
end Go.Proofs.YtnaclalbeocpkaaDoor
