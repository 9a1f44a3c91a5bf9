/-
  Layer 9: what the statements ask first; the walks of CoinHalves, CoinSums and CoinNames.
-/
import Derived.Test.YtgichipcmbnnhaaCoParse
namespace Go.Proofs.Ytgichipcmbnnhaa
open Go Go.RowKit

def AlivePost (w : World) (e : Ending) (w' : World) : Prop := e = .returned (.bool true) ∧ Below w.heap.size w w'
theorem sub149 : subsidyN 149 = 5000000000 := by decide +kernel
theorem sub150 : subsidyN 150 = 2500000000 := by decide +kernel
theorem retB {fn : Func} {R : Ending → World → Prop} {P : Program} {a : Act} {w : World} {t : Tmp} (h : fn.results = #[.tmp t]) (hd : a.defers = []) (hR : R (.returned (a.tmps.getD t undef)) w) : bodyPost P fn R .ret a w :=
  bodyPost_ret (by simp [results, h]) hd hR
set_option maxRecDepth 100000 in
set_option maxHeartbeats 8000000 in
theorem coinAlive_any (W0 : World) : Calls Try.prog 10 #[] W0 (AlivePost W0) := by
  obtain ⟨i, hi, hz, hs1, hby⟩ := b8Info
  have hps := fun w v h => coParse_any (b := coinL coA) (v := v) w h (by rw [coA_bytes]; decide)
  rw [parse_back coA_right] at hps
  go_enter Try.func10, Try.ntmps10
  go_wp2_with (first
    | ((with_reducible change wpList _ _ _ (Oper.mk (some 5) _ _ _ _ _ :: _) _ _); refine kBuildSlice1 _ _ _ (VB 81) rfl rfl Try.underlying25 i _ hi hz hs1 rfl rfl ?_; intro w1 hRr hzz hB1; have hV1 : IsVals w1 _ (([81] : List UInt8).map VB) := isVals_lit (l := [VB 81]) hRr; clear hzz hRr; go_frame)
    | ((with_reducible change wpList _ _ _ (Oper.mk (some 6) _ _ _ _ _ :: _) _ _); refine kBuildOut2 _ _ 7 _ hV1 rfl rfl rfl rfl ?_; go_frame)
    | ((with_reducible change wpList _ _ _ (Oper.mk (some 7) _ _ _ _ _ :: _) _ _); refine kBuildCoin3 _ _ _ 7 _ 3 true hV1 rfl rfl rfl rfl rfl ?_; go_frame)
    | ((with_reducible change wpList _ _ _ (Oper.mk (some 1) _ _ _ _ _ :: _) _ _); refine kAllocL _ _ rfl rfl zero_CoinC ?_; intro w2 hR2 hz2 hB2; have hle2 := hB1.size; have hV2 := hV1.below hB2; have hB3 := hB1.trans (hB2.mono hB1.size); clear hV1 hB1 hB2 hz2; go_frame)
    | ((with_reducible change wpList _ _ _ (Oper.mk none _ _ _ _ _ :: _) _ _); refine kStoreCoin _ _ _ 7 _ 3 true _ hR2 rfl hV2 rfl rfl rfl rfl ?_; intro w3 hR3 hW3; have hV3 := vals_wroteN hV2 hR2 (coin_noByte 0 0 false (isVals_nil w2)) hW3; have hB4 := hB3.trans (hW3.below hle2); clear hV2 hR2 hW3 hB3 hle2; go_frame)
    | ((with_reducible change wpList _ _ _ (Oper.mk (some 8) _ _ _ _ _ :: _) _ _); refine kLoadCoin _ _ 7 _ 3 true hR3 rfl rfl rfl ?_; go_frame)
    | (go_at_call 32; refine (coBytes_any (c := coA) _ hV3 (by decide)).mono ?_; rintro e w4 ⟨v4, rfl, hO4, hB5⟩; have hR4 := hR3.below hB5 hR3.lt; have hV4 := hV3.below hB5; have hB6 := hB4.trans (hB5.mono hB4.size); have hS4 := hO4.vals; clear hR3 hV3 hB4 hB5 hO4; go_frame)
    | (go_at_call 9; refine (hps _ _ hS4).mono ?_; rintro e w5 ⟨u, rfl, hO5, hB7⟩; have hR5 := hR4.below hB7 hR4.lt; have hV5 := hV4.below hB7; have hS5 := hS4.below hB7; have hB8 := hB6.trans (hB7.mono hB6.size); have hU5 := hO5.vals; clear hR4 hV4 hS4 hB6 hB7 hO5 hps; go_frame)
    | ((with_reducible change wpList _ _ _ (Oper.mk (some 3) _ _ _ _ _ :: _) _ _); refine kAllocL _ _ rfl rfl zero_CoinC ?_; intro w6 hR6 hz6 hB9; have hle6 := hB8.size; have hne := Nat.ne_of_lt hR5.lt; have hR7 := hR5.below hB9 hR5.lt; have hV6 := hV5.below hB9; have hS6 := hS5.below hB9; have hU6 := hU5.below hB9; have hB10 := hB8.trans (hB9.mono hB8.size); clear hR5 hV5 hS5 hU5 hB8 hB9 hz6; go_frame)
    | ((with_reducible change wpList _ _ _ (Oper.mk none _ _ _ _ _ :: _) _ _); refine kStoreCoin _ _ _ 7 u 3 true _ hR6 rfl hU6 rfl rfl rfl rfl ?_; intro w7 hR8 hW7; have hn6 := coin_noByte 0 0 false (isVals_nil w6); have hR9 := hW7.row hR7 hne; have hV7 := vals_wroteN hV6 hR6 hn6 hW7; have hS7 := vals_wroteN hS6 hR6 hn6 hW7; have hU7 := vals_wroteN hU6 hR6 hn6 hW7; have hB11 := hB10.trans (hW7.below hle6); clear hR6 hR7 hV6 hS6 hU6 hB10 hW7 hn6 hle6; go_frame)
    | (go_at_call 14; (with_reducible change Calls _ _ #[.int .i64 149] _ _); refine (coSubsidy_any (h := 149) (by decide) _).mono ?_; rintro e w8 ⟨rfl, rfl⟩; rw [sub149]; go_frame)
    | (go_at_call 14; (with_reducible change Calls _ _ #[.int .i64 150] _ _); refine (coSubsidy_any (h := 150) (by decide) _).mono ?_; rintro e w9 ⟨rfl, rfl⟩; rw [sub150]; go_frame)
    | ((with_reducible change wpList _ _ _ (Oper.mk (some 16) _ _ _ _ _ :: _) _ _); refine kEqlI _ _ _ _ .i64 ((5000000000 : Nat) : Int) 5000000000 true rfl rfl rfl rfl (by decide) ?_; go_frame)
    | ((with_reducible change wpList _ _ _ (Oper.mk (some 19) _ _ _ _ _ :: _) _ _); refine kEqlI _ _ _ _ .i64 ((2500000000 : Nat) : Int) 2500000000 true rfl rfl rfl rfl (by decide) ?_; go_frame)
    | ((with_reducible change wpList _ _ _ (Oper.mk (some 23) _ _ _ _ _ :: _) _ _); refine kEqlI _ _ _ _ .i64 ((0 : Nat) : Int) 0 true rfl rfl rfl rfl (by decide) ?_; go_frame)
    | ((with_reducible change wpList _ _ _ (Oper.mk (some 26) _ _ _ _ _ :: _) _ _); refine kLoadCoin _ _ 7 _ 3 true hR9 rfl rfl rfl ?_; go_frame)
    | ((with_reducible change wpList _ _ _ (Oper.mk (some 27) _ _ _ _ _ :: _) _ _); refine kLoadCoin _ _ 7 u 3 true hR8 rfl rfl rfl ?_; go_frame)
    | (go_at_call 31; refine (zSameCoin_any (c := coA) (d := coA) _ hV7 hU7).mono ?_; rintro e w10 ⟨rfl, hB12⟩; rw [sameC_refl]; have hS8 := hS7.below hB12; have hB13 := hB11.trans (hB12.mono hB11.size); clear hV7 hU7 hS7 hB11 hB12 hR8 hR9; go_frame)
    | ((with_reducible change wpList _ _ _ (Oper.mk (some 32) _ _ _ _ _ :: _) _ _); refine kToString _ _ _ _ v4 (coinL coA) rfl rfl rfl hS8 Try.underlying25 Try.underlying5 Try.underlying9 ?_; go_frame)
    | ((with_reducible change wpList _ _ _ (Oper.mk (some 33) _ _ _ _ _ :: _) _ _); refine kEqlStr _ _ _ _ (coinL coA) [7, 7, 0, 0, 0, 0, 0, 0, 0, 1, 81] true rfl rfl rfl rfl (by rw [coA_bytes]; decide) ?_; go_frame))
  go_ret
  exact ⟨rfl, hB13⟩
section
variable {P : Program} {ops : Array Oper} {o : Oper} {a : Act} {S : World → Prop}
theorem yNeqBoolC (T T2 : TypeId) (x y : Operand) (b c d : Bool) (ho : o.op = .binOp .neq T x y T2) (hg : Region.wanted o (yielded ops a.tmps) = true) (hx : a.eval x = .bool b) (hy : a.eval y = .bool c) (ht : P.underlying T = some .bool) (hd : (b != c) = d) : YieldsIf P ops S o (.bool d) a :=
  yOf hg fun w _ => by
    subst hd
    have hr := run_neqBool (P := P) (w := w) T b c x y ht
    unfold execOp; simp only [ho, hx, hy]; rw [Sem.run_bind, hr]; rfl
end
def allN : Nat → Nat
  | 0 => 0
  | k + 1 => allN k + 150 * subsidyN (150 * (k : Int))
theorem allN_le (k : Nat) : allN k ≤ k * 750000000000 := by
  induction k with
  | zero => exact Nat.le_refl _
  | succ k ih =>
    have := subsidy_le (150 * (k : Int))
    show allN k + 150 * subsidyN (150 * (k : Int)) ≤ _
    omega
theorem allN_money : moneyB ((allN 40 : Nat) : Int) = true := by decide +kernel
set_option maxRecDepth 100000 in
set_option maxHeartbeats 8000000 in
theorem coinHalves_walk {h : Int} (h1 : -9223372036854775808 ≤ h) (h2 : h < 9223372036854775808) (W0 : World) : Calls Try.prog 7 #[.int .i64 h] W0 (AlivePost W0) := by
  by_cases g1 : h < 0
  · have hc1 : decide (h < 0) = true := by simp; exact g1
    have hS := subsidy_neg g1
    go_enter Try.func7, Try.ntmps7
    go_wp2_with (first
      | (go_at_call 10; refine (coinAlive_any _).mono ?_; rintro e w1 ⟨rfl, hB1⟩; go_frame)
      | ((with_reducible change wpList _ _ _ (Oper.mk (some 10) _ _ _ _ _ :: _) _ _); refine kLssI _ _ _ _ .i64 h 0 true rfl rfl rfl rfl hc1 ?_; go_frame)
      | (go_at_call 14; (with_reducible change Calls _ _ #[.int .i64 h] _ _); refine (coSubsidy_any (h := h) (by omega) _).mono ?_; rintro e w2 ⟨rfl, rfl⟩; rw [hS]; go_frame)
      | ((with_reducible change wpList _ _ _ (Oper.mk (some 17) _ _ _ _ _ :: _) _ _); refine kEqlI _ _ _ _ .i64 ((0 : Nat) : Int) 0 true rfl rfl rfl rfl (by decide) ?_; go_frame))
    go_ret
    exact ⟨rfl, hB1⟩
  have hc1 : decide (h < 0) = false := by simp; omega
  by_cases g2 : 1000000000 < h
  · have hc2 : decide (h > 1000000000) = true := by simp; exact g2
    have hc3 : decide (h > 0) = true := by simp; omega
    obtain ⟨S, hS⟩ : ∃ S, subsidyN h = S := ⟨_, rfl⟩
    obtain ⟨b, hb⟩ : ∃ b, decide ((S : Int) = 0) = b := ⟨_, rfl⟩
    cases b
    · go_enter Try.func7, Try.ntmps7
      go_wp2_with (first
        | (go_at_call 10; refine (coinAlive_any _).mono ?_; rintro e w1 ⟨rfl, hB1⟩; go_frame)
        | ((with_reducible change wpList _ _ _ (Oper.mk (some 10) _ _ _ _ _ :: _) _ _); refine kLssI _ _ _ _ .i64 h 0 false rfl rfl rfl rfl hc1 ?_; go_frame)
        | ((with_reducible change wpList _ _ _ (Oper.mk (some 13) _ _ _ _ _ :: _) _ _); refine kGtrI _ _ _ _ .i64 h 1000000000 true rfl rfl rfl rfl hc2 ?_; go_frame)
        | (go_at_call 14; (with_reducible change Calls _ _ #[.int .i64 h] _ _); refine (coSubsidy_any (h := h) h2 _).mono ?_; rintro e w2 ⟨rfl, rfl⟩; rw [hS]; go_frame)
        | ((with_reducible change wpList _ _ _ (Oper.mk (some 17) _ _ _ _ _ :: _) _ _); refine kEqlI _ _ _ _ .i64 (S : Int) 0 false rfl rfl rfl rfl hb ?_; go_frame)
        | ((with_reducible change wpList _ _ _ (Oper.mk (some 20) _ _ _ _ _ :: _) _ _); refine kGtrI _ _ _ _ .i64 h 0 true rfl rfl rfl rfl hc3 ?_; go_frame))
      go_ret
      exact ⟨rfl, hB1⟩
    · go_enter Try.func7, Try.ntmps7
      go_wp2_with (first
        | (go_at_call 10; refine (coinAlive_any _).mono ?_; rintro e w1 ⟨rfl, hB1⟩; go_frame)
        | ((with_reducible change wpList _ _ _ (Oper.mk (some 10) _ _ _ _ _ :: _) _ _); refine kLssI _ _ _ _ .i64 h 0 false rfl rfl rfl rfl hc1 ?_; go_frame)
        | ((with_reducible change wpList _ _ _ (Oper.mk (some 13) _ _ _ _ _ :: _) _ _); refine kGtrI _ _ _ _ .i64 h 1000000000 true rfl rfl rfl rfl hc2 ?_; go_frame)
        | (go_at_call 14; (with_reducible change Calls _ _ #[.int .i64 h] _ _); refine (coSubsidy_any (h := h) h2 _).mono ?_; rintro e w2 ⟨rfl, rfl⟩; rw [hS]; go_frame)
        | ((with_reducible change wpList _ _ _ (Oper.mk (some 17) _ _ _ _ _ :: _) _ _); refine kEqlI _ _ _ _ .i64 (S : Int) 0 true rfl rfl rfl rfl hb ?_; go_frame))
      go_ret
      exact ⟨rfl, hB1⟩
  have hc2 : decide (h > 1000000000) = false := by simp; omega
  have hst := subsidy_step (h := h) (by omega)
  have hmo := subsidy_mono (h := h) (by omega)
  have hle := subsidy_le h
  obtain ⟨S, hS⟩ : ∃ S, subsidyN h = S := ⟨_, rfl⟩
  obtain ⟨S1, hS1⟩ : ∃ S, subsidyN (h + 1) = S := ⟨_, rfl⟩
  rw [hS] at hst hmo hle
  rw [hS1] at hmo
  go_enter Try.func7, Try.ntmps7
  go_wp2_with (first
    | (go_at_call 10; refine (coinAlive_any _).mono ?_; rintro e w1 ⟨rfl, hB1⟩; go_frame)
    | ((with_reducible change wpList _ _ _ (Oper.mk (some 10) _ _ _ _ _ :: _) _ _); refine kLssI _ _ _ _ .i64 h 0 false rfl rfl rfl rfl hc1 ?_; go_frame)
    | ((with_reducible change wpList _ _ _ (Oper.mk (some 13) _ _ _ _ _ :: _) _ _); refine kGtrI _ _ _ _ .i64 h 1000000000 false rfl rfl rfl rfl hc2 ?_; go_frame)
    | (go_at_call 14; (with_reducible change Calls _ _ #[.int .i64 h] _ _); refine (coSubsidy_any (h := h) (by omega) _).mono ?_; rintro e w2 ⟨rfl, rfl⟩; rw [hS]; go_frame)
    | ((with_reducible change wpList _ _ _ (Oper.mk (some 25) _ _ _ _ _ :: _) _ _); refine kAddI _ _ _ _ h 150 (h + 150) (by omega) rfl rfl rfl rfl ?_; go_frame)
    | (go_at_call 14; (with_reducible change Calls _ _ #[.int .i64 (h + 150)] _ _); refine (coSubsidy_any (h := (h + 150)) (by omega) _).mono ?_; rintro e w2 ⟨rfl, rfl⟩; rw [hst]; go_frame))
  go_loopw [5, 6] (fun x y wr => ∃ k : Nat, k ≤ 40 ∧ x = .int .i64 ((allN k : Nat) : Int) ∧ y = .int .i64 (k : Int) ∧ Below W0.heap.size W0 wr) (fun _ y _ => 40 - (intOf y).toNat)
  case atStart => exact ⟨0, by omega, rfl, rfl, hB1⟩
  case round =>
    clear hB1
    obtain ⟨k, hk, rfl, rfl, hB⟩ := hrel
    have hal := allN_le k
    have hsk := subsidy_le (150 * (k : Int))
    by_cases hlt : k < 40
    · have hd : decide ((k : Int) < 40) = true := by simp; omega
      have hnx : allN (k + 1) = allN k + 150 * subsidyN (150 * (k : Int)) := rfl
      obtain ⟨T, hT⟩ : ∃ T, subsidyN (150 * (k : Int)) = T := ⟨_, rfl⟩
      obtain ⟨M, hM⟩ : ∃ M, allN k = M := ⟨_, rfl⟩
      rw [hT] at hsk hnx
      rw [hM] at hal hnx
      rw [hM]
      go_wp2_with (first
        | ((with_reducible change wpList _ _ _ (Oper.mk (some 28) _ _ _ _ _ :: _) _ _); refine kLssI _ _ _ _ .i64 (k : Int) 40 true rfl rfl rfl rfl hd ?_; go_frame)
        | ((with_reducible change wpList _ _ _ (Oper.mk (some 33) _ _ _ _ _ :: _) _ _); refine kMulC _ _ _ _ 150 (k : Int) (150 * (k : Int)) (by omega) rfl rfl rfl rfl ?_; go_frame)
        | (go_at_call 14; (with_reducible change Calls _ _ #[.int .i64 (150 * (k : Int))] _ _); refine (coSubsidy_any (h := (150 * (k : Int))) (by omega) _).mono ?_; rintro e w2 ⟨rfl, rfl⟩; rw [hT]; go_frame)
        | ((with_reducible change wpList _ _ _ (Oper.mk (some 35) _ _ _ _ _ :: _) _ _); refine kMulC _ _ _ _ 150 (T : Int) (150 * (T : Int)) (by omega) rfl rfl rfl rfl ?_; go_frame)
        | ((with_reducible change wpList _ _ _ (Oper.mk (some 36) _ _ _ _ _ :: _) _ _); refine kAddI _ _ _ _ (M : Int) (150 * (T : Int)) ((M + 150 * T : Nat) : Int) (by omega) rfl rfl rfl rfl ?_; go_frame)
        | ((with_reducible change wpList _ _ _ (Oper.mk (some 30) _ _ _ _ _ :: _) _ _); refine kAddI _ _ _ _ (k : Int) 1 ((k + 1 : Nat) : Int) (by omega) rfl rfl rfl rfl ?_; go_frame))
      go_roundw
      case rel => exact ⟨k + 1, by omega, by rw [hnx], rfl, hB⟩
      case measure => simp [intOf]; omega
    · have hd : decide ((k : Int) < 40) = false := by simp; omega
      obtain rfl : k = 40 := by omega
      have hma := allN_money
      obtain ⟨M, hM⟩ : ∃ M, allN 40 = M := ⟨_, rfl⟩
      rw [hM] at hma ⊢
      have hms : moneyB (S : Int) = true := moneyB_iff.2 (by omega)
      have hl1 : decide ((S1 : Int) ≤ (S : Int)) = true := by simp; omega
      go_wp2_with (first
        | ((with_reducible change wpList _ _ _ (Oper.mk (some 28) _ _ _ _ _ :: _) _ _); refine kLssI _ _ _ _ .i64 ((40 : Nat) : Int) 40 false rfl rfl rfl rfl hd ?_; go_frame)
        | ((with_reducible change wpList _ _ _ (Oper.mk (some 39) _ _ _ _ _ :: _) _ _); refine kQuoZ _ _ _ _ S 2 (by decide) (by omega) rfl rfl rfl rfl ?_; go_frame)
        | ((with_reducible change wpList _ _ _ (Oper.mk (some 40) _ _ _ _ _ :: _) _ _); refine kEqlI _ _ _ _ .i64 ((S / 2 : Nat) : Int) ((S / 2 : Nat) : Int) true rfl rfl rfl rfl (by simp) ?_; go_frame)
        | ((with_reducible change wpList _ _ _ (Oper.mk (some 43) _ _ _ _ _ :: _) _ _); refine kAddI _ _ _ _ h 1 (h + 1) (by omega) rfl rfl rfl rfl ?_; go_frame)
        | (go_at_call 14; (with_reducible change Calls _ _ #[.int .i64 (h + 1)] _ _); refine (coSubsidy_any (h := (h + 1)) (by omega) _).mono ?_; rintro e w2 ⟨rfl, rfl⟩; rw [hS1]; go_frame)
        | ((with_reducible change wpList _ _ _ (Oper.mk (some 46) _ _ _ _ _ :: _) _ _); refine kLeqI _ _ _ _ .i64 (S1 : Int) (S : Int) true rfl rfl rfl rfl hl1 ?_; go_frame)
        | (go_at_call 11; (with_reducible change Calls _ _ #[.int .i64 (S : Int)] _ _); refine (coMoney_any (S : Int) _).mono ?_; rintro e w3 ⟨rfl, rfl⟩; rw [hms]; go_frame)
        | (go_at_call 11; (with_reducible change Calls _ _ #[.int .i64 (M : Int)] _ _); refine (coMoney_any (M : Int) _).mono ?_; rintro e w4 ⟨rfl, rfl⟩; rw [hma]; go_frame))
      go_ret
      exact ⟨rfl, hB⟩
set_option maxRecDepth 100000 in
set_option maxHeartbeats 8000000 in
theorem coinSums_walk {v : Value} {zs : List (Int × Value)} {h : Int} (h2 : h < 9223372036854775808) (W0 : World) (hv : AreOuts W0 v zs) : Calls Try.prog 4 #[v, .int .i64 h] W0 (AlivePost W0) := by
  obtain ⟨N, hN⟩ : ∃ N, zs.length = N := ⟨_, rfl⟩
  by_cases h0 : 100 < N
  · have hd0 : decide ((N : Int) > 100) = true := by simp; omega
    clear h0
    go_enter Try.func4, Try.ntmps4
    go_wp2_with (first
      | (go_at_call 10; refine (coinAlive_any _).mono ?_; rintro e w1 ⟨rfl, hB1⟩; have hv1 := hv.below hB1; go_frame)
      | ((with_reducible change wpList _ _ _ (Oper.mk (some 14) _ _ _ _ _ :: _) _ _); refine kLenOuts _ v zs N hv1 hN rfl rfl rfl ?_; go_frame)
      | ((with_reducible change wpList _ _ _ (Oper.mk (some 15) _ _ _ _ _ :: _) _ _); refine kGtrI _ _ _ _ .i64 (N : Int) 100 true rfl rfl rfl rfl hd0 ?_; go_frame))
    go_ret
    exact ⟨rfl, hB1⟩
  have hd0 : decide ((N : Int) > 100) = false := by simp; omega
  obtain ⟨R, hR⟩ : ∃ R, sumS 0 (zs.map Prod.fst) = R := ⟨_, rfl⟩
  have hcs := fun w (hw : AreOuts w v zs) => coSum_any w hw (by omega)
  have hzs := fun w (hw : AreOuts w v zs) => zSum_any w hw (by omega)
  rw [hR] at hcs hzs
  obtain ⟨S, hS⟩ : ∃ S, subsidyN h = S := ⟨_, rfl⟩
  have hN100 : N ≤ 100 := by omega
  clear h0 hR
  go_enter Try.func4, Try.ntmps4
  go_wp2_with (first
    | (go_at_call 10; refine (coinAlive_any _).mono ?_; rintro e w1 ⟨rfl, hB1⟩; have hv1 := hv.below hB1; go_frame)
    | ((with_reducible change wpList _ _ _ (Oper.mk (some 14) _ _ _ _ _ :: _) _ _); refine kLenOuts _ v zs N hv1 hN rfl rfl rfl ?_; go_frame)
    | ((with_reducible change wpList _ _ _ (Oper.mk (some 15) _ _ _ _ _ :: _) _ _); refine kGtrI _ _ _ _ .i64 (N : Int) 100 false rfl rfl rfl rfl hd0 ?_; go_frame)
    | (go_at_call 8; refine (hcs _ hv1).mono ?_; rintro e w2 ⟨rfl, hB2⟩; have hv2 := hv1.below hB2; have hB3 := hB1.trans (hB2.mono hB1.size); clear hv1 hB1 hB2 hcs; go_frame)
    | (go_at_call 12; refine (hzs _ hv2).mono ?_; rintro e w3 ⟨rfl, hB4⟩; have hv3 := hv2.below hB4; have hB5 := hB3.trans (hB4.mono hB3.size); clear hv2 hB3 hB4 hzs; go_frame)
    | ((with_reducible change wpList _ _ _ (Oper.mk (some 27) _ _ _ _ _ :: _) _ _); refine kLenOuts _ v zs N hv3 hN rfl rfl rfl ?_; go_frame))
  go_loopw [28] (fun i wr => ∃ k : Nat, k ≤ N ∧ i = .int .i64 k ∧ Below W0.heap.size W0 wr) (fun i _ => N - (intOf i).toNat)
  case atStart => exact ⟨0, by omega, rfl, hB5⟩
  case round =>
    clear hv3 hB5
    obtain ⟨k, hk, rfl, hB⟩ := hrel
    by_cases hlt : k < N
    · have hd : decide ((k : Int) < (N : Int)) = true := by simp; omega
      obtain ⟨⟨z, lv⟩, hsk⟩ : ∃ p, zs[k]? = some p := ⟨_, List.getElem?_eq_getElem (by omega)⟩
      have hone := hv.one hsk
      have hvr := hv.below hB
      obtain ⟨m, hm⟩ : ∃ m, moneyB z = m := ⟨_, rfl⟩
      go_wp2_with (first
        | ((with_reducible change wpList _ _ _ (Oper.mk (some 29) _ _ _ _ _ :: _) _ _); refine kLssI _ _ _ _ .i64 (k : Int) (N : Int) true rfl rfl rfl rfl hd ?_; go_frame)
        | ((with_reducible change wpList _ _ _ (Oper.mk (some 30) _ _ _ _ _ :: _) _ _); refine kIndexOut _ _ v zs k (z, lv) hvr hsk rfl rfl rfl rfl ?_; intro b hb; go_frame)
        | ((with_reducible change wpList _ _ _ (Oper.mk (some 31) _ _ _ _ _ :: _) _ _); refine kLoadOutAt _ b (z, lv) hb rfl rfl rfl ?_; clear hb hvr; go_frame)
        | ((with_reducible change wpList _ _ _ (Oper.mk (some 10) _ _ _ _ _ :: _) _ _); refine kAllocL _ _ rfl rfl zero_OutC ?_; intro w2 hR2 hz2 hB2; have hle := hB.size; have hB3 := hB.trans (hB2.mono hB.size); clear hB hB2 hz2; go_frame)
        | ((with_reducible change wpList _ _ _ (Oper.mk none _ _ _ _ _ :: _) _ _); refine kStoreRow _ _ _ _ _ _ _ rfl rfl rfl rfl hR2 info_OutC rfl (outC_one2 z hone) ?_; intro w4 hR4 hW4; have hB5 := hB3.trans (hW4.below hle); clear hB3 hW4 hR2; go_frame))
      refine region_mixD [(0, true), (1, true), (3, true), (4, true), (2, false), (5, false), (6, true)] (fun w => (Row w wr.heap.size 27 (outC z lv))) (by kernel_rfl) (by kernel_rfl) rfl ?_
      intro q0 hBd hsd
      clear hsd
      have hR4_1 := hR4.below hBd hR4.lt
      have hB_2 := hB5.trans (hBd.mono hB5.size)
      clear hR4 hB5 hBd
      simp only [List.map_cons, List.map_nil]
      dsimp only [List.filterMap, List.getElem?_cons_zero, List.getElem?_cons_succ]
      have hS : (Row q0 wr.heap.size 27 (outC z lv)) := hR4_1
      refine dY _ hS (yFld outCF0 _ _ 0 0 rfl rfl rfl rfl) ?_; go_frame
      refine dY _ hS (yLoad1 _ _ _ _ 0 _ (.int .i64 z) _ rfl rfl rfl (fun _ h => h) Try.underlying2 rfl rfl) ?_; go_frame
      refine dY _ hS (yFld outCF0 _ _ 0 0 rfl rfl rfl rfl) ?_; go_frame
      refine dY _ hS (yLoad1 _ _ _ _ 0 _ (.int .i64 z) _ rfl rfl rfl (fun _ h => h) Try.underlying2 rfl rfl) ?_; go_frame
      refine dLoud ?_
      refine kCall1 11 _ _ _ rfl rfl (by kernel_rfl) rfl ?_
      refine (coMoney_any z _).mono ?_
      rintro e q1 ⟨rfl, rfl⟩
      rw [hm]
      refine ⟨_, rfl, mixOn ⟨_, (fun _ h => h), hS, ?_⟩⟩
      go_frame
      refine dLoud ?_
      refine kCall1 13 _ _ _ rfl rfl (by kernel_rfl) rfl ?_
      refine (zMoney_any z _).mono ?_
      rintro e q2 ⟨rfl, rfl⟩
      rw [hm]
      refine ⟨_, rfl, mixOn ⟨_, (fun _ h => h), hS, ?_⟩⟩
      go_frame
      refine dY _ hS (yNeqBoolC _ _ _ _ m m false rfl rfl rfl rfl Try.underlying4 (by simp)) ?_; go_frame
      refine dDone ?_
      go_wp2_with (first
        | ((with_reducible change wpList _ _ _ (Oper.mk (some 39) _ _ _ _ _ :: _) _ _); refine kAddI _ _ _ _ (k : Int) 1 ((k + 1 : Nat) : Int) (by omega) rfl rfl rfl rfl ?_; go_frame))
      go_roundw
      case rel => exact ⟨k + 1, by omega, rfl, hB_2⟩
      case measure => simp [intOf]; omega
    · have hd : decide ((k : Int) < (N : Int)) = false := by simp; omega
      go_wp2_with (first
        | ((with_reducible change wpList _ _ _ (Oper.mk (some 29) _ _ _ _ _ :: _) _ _); refine kLssI _ _ _ _ .i64 (k : Int) (N : Int) false rfl rfl rfl rfl hd ?_; go_frame)
        | ((with_reducible change wpList _ _ _ (Oper.mk (some 42) _ _ _ _ _ :: _) _ _); refine kEqlI _ _ _ _ .i64 (sumV R) (sumV R) true rfl rfl rfl rfl (by simp) ?_; go_frame)
        | ((with_reducible change wpList _ _ _ (Oper.mk (some 46) _ _ _ _ _ :: _) _ _); refine kEqlI _ _ _ _ .i64 (sumE R) (sumE R) true rfl rfl rfl rfl (by simp) ?_; go_frame)
        | (go_at_call 14; refine (coSubsidy_any (h := h) h2 _).mono ?_; rintro e w8 ⟨rfl, rfl⟩; rw [hS]; go_frame)
        | (go_at_call 15; refine (zSubsidy_any (h := h) h2 _).mono ?_; rintro e w9 ⟨rfl, rfl⟩; rw [hS]; go_frame)
        | ((with_reducible change wpList _ _ _ (Oper.mk (some 53) _ _ _ _ _ :: _) _ _); refine kEqlI _ _ _ _ .i64 (S : Int) (S : Int) true rfl rfl rfl rfl (by simp) ?_; go_frame))
      go_ret
      exact ⟨rfl, hB⟩
theorem built2 (w : World) : (Instr.buildSlice 34 2 #[(0, .agg (outC 2000000000000 (.slice none 0 0))), (1, .agg (outC 1 (.slice none 0 0)))]).run Try.prog w = .ok (.slice (some ⟨w.heap.size, 0, none⟩) 2 2) (w.alloc (.cells #[.int .i64 2000000000000, .slice none 0 0, .int .i64 1, .slice none 0 0] 27)) := by kernel_rfl
theorem built9 (w : World) : (Instr.buildSlice 25 9 #[(0, VB 0), (1, VB 255), (2, VB 255), (3, VB 255), (4, VB 255), (5, VB 255), (6, VB 255), (7, VB 255), (8, VB 255)]).run Try.prog w = .ok (.slice (some ⟨w.heap.size, 0, none⟩) 9 9) (w.alloc (.cells #[VB 0, VB 255, VB 255, VB 255, VB 255, VB 255, VB 255, VB 255, VB 255] 5)) := by kernel_rfl
section
variable {ops : Array Oper} {Q : Exit → Act → World → Prop} {rest : List Oper} {o : Oper} {a : Act} {w : World}
theorem kBuildOuts2 (x y : Operand) (ho : o.op = .buildSlice 34 2 #[(0, x), (1, y)]) (hg : Region.wanted o (yielded ops a.tmps) = true) (hx : a.eval x = .agg (outC 2000000000000 (.slice none 0 0))) (hy : a.eval y = .agg (outC 1 (.slice none 0 0)))
    (h : ∀ w1, AreOuts w1 (.slice (some ⟨w.heap.size, 0, none⟩) 2 2) [(2000000000000, .slice none 0 0), (1, .slice none 0 0)] → Below w.heap.size w w1 → wpList Try.prog ops Q rest (a.put o.dst (.slice (some ⟨w.heap.size, 0, none⟩) 2 2)) w1) : wpList Try.prog ops Q (o :: rest) a w := by
  refine BigFrame.wpList_want hg fun K hK => ?_
  unfold Oper.wp execOp
  simp only [ho, List.map_toArray, List.map_cons, List.map_nil, hx, hy, Sem.run_bind, built2 w, Result.andThen_ok, Sem.run_pure]
  have hR : Row (w.alloc (.cells #[.int .i64 2000000000000, .slice none 0 0, .int .i64 1, .slice none 0 0] 27)) w.heap.size 27 #[.int .i64 2000000000000, .slice none 0 0, .int .i64 1, .slice none 0 0] := heap_alloc_new w _
  refine hK _ _ (h _ ⟨some ⟨w.heap.size, 0, none⟩, 2, rfl, fun k s hs => ?_⟩ ((Below.refl _ _).alloc (Nat.le_refl _) _))
  match k with
  | 0 =>
    cases hs
    refine ⟨rfl, _, rfl, fun j u hu => ?_⟩
    rw [add_none, add_none, hR.cell]
    match j with
    | 0 => cases hu; rfl
    | 1 => cases hu; rfl
    | j + 2 => simp at hu
  | 1 =>
    cases hs
    refine ⟨rfl, _, rfl, fun j u hu => ?_⟩
    rw [add_none, add_none, hR.cell]
    match j with
    | 0 => cases hu; rfl
    | 1 => cases hu; rfl
    | j + 2 => simp at hu
  | k + 2 => simp at hs
theorem kBuild9 (x0 x1 x2 x3 x4 x5 x6 x7 x8 : Operand) (ho : o.op = .buildSlice 25 9 #[(0, x0), (1, x1), (2, x2), (3, x3), (4, x4), (5, x5), (6, x6), (7, x7), (8, x8)]) (hg : Region.wanted o (yielded ops a.tmps) = true) (h0 : a.eval x0 = VB 0) (h1 : a.eval x1 = VB 255) (h2 : a.eval x2 = VB 255) (h3 : a.eval x3 = VB 255) (h4 : a.eval x4 = VB 255) (h5 : a.eval x5 = VB 255) (h6 : a.eval x6 = VB 255) (h7 : a.eval x7 = VB 255) (h8 : a.eval x8 = VB 255)
    (h : ∀ w1, IsVals w1 (.slice (some ⟨w.heap.size, 0, none⟩) 9 9) (([0, 255, 255, 255, 255, 255, 255, 255, 255] : List UInt8).map VB) → Below w.heap.size w w1 → wpList Try.prog ops Q rest (a.put o.dst (.slice (some ⟨w.heap.size, 0, none⟩) 9 9)) w1) : wpList Try.prog ops Q (o :: rest) a w := by
  refine BigFrame.wpList_want hg fun K hK => ?_
  unfold Oper.wp execOp
  simp only [ho, List.map_toArray, List.map_cons, List.map_nil, h0, h1, h2, h3, h4, h5, h6, h7, h8, Sem.run_bind, built9 w, Result.andThen_ok, Sem.run_pure]
  have hR : Row (w.alloc (.cells #[VB 0, VB 255, VB 255, VB 255, VB 255, VB 255, VB 255, VB 255, VB 255] 5)) w.heap.size 5 (([0, 255, 255, 255, 255, 255, 255, 255, 255] : List UInt8).map VB).toArray := heap_alloc_new w _
  exact hK _ _ (h _ (isVals_lit hR) ((Below.refl _ _).alloc (Nat.le_refl _) _))
end
theorem parse_nil : parseC [] = (noCoin, 61) := by kernel_rfl
theorem parse_nine : parseC [0, 255, 255, 255, 255, 255, 255, 255, 255] = (noCoin, 62) := by kernel_rfl
set_option maxRecDepth 100000 in
set_option maxHeartbeats 8000000 in
theorem coinNames_walk (W0 : World) : Calls Try.prog 3 #[] W0 (AlivePost W0) := by
  have hcs := fun w v (h : AreOuts w v [(2000000000000, .slice none 0 0), (1, .slice none 0 0)]) => coSum_any w h (by decide)
  rw [show sumS 0 (List.map Prod.fst [((2000000000000 : Int), Value.slice none 0 0), (1, .slice none 0 0)]) = none from rfl] at hcs
  have hc0 := fun w => coSum_any w (areOuts_nil w) (by decide)
  rw [show sumS 0 (List.map Prod.fst ([] : List (Int × Value))) = some 0 from rfl] at hc0
  have hp0 := fun w => coParse_any (b := []) w (isVals_nil w) (by decide)
  rw [parse_nil] at hp0
  have hp9 := fun w v (h : IsVals w v (([0, 255, 255, 255, 255, 255, 255, 255, 255] : List UInt8).map VB)) => coParse_any w h (by decide)
  rw [parse_nine] at hp9
  have hm1 : moneyB 2000000000000 = true := by decide
  have hm2 : moneyB (-1) = false := by decide
  go_enter Try.func3, Try.ntmps3
  go_wp2_with (first
    | ((with_reducible change wpList _ _ _ (Oper.mk (some 10) _ _ _ _ _ :: _) _ _); refine kBuildOut1 _ 2000000000000 rfl rfl rfl ?_; go_frame)
    | ((with_reducible change wpList _ _ _ (Oper.mk (some 11) _ _ _ _ _ :: _) _ _); refine kBuildOut1 _ 1 rfl rfl rfl ?_; go_frame)
    | ((with_reducible change wpList _ _ _ (Oper.mk (some 12) _ _ _ _ _ :: _) _ _); refine kBuildOuts2 _ _ rfl rfl rfl rfl ?_; intro w1 hA hB1; go_frame)
    | (go_at_call 8; (with_reducible change Calls _ _ #[.slice (some _) _ _] _ _); refine (hcs _ _ hA).mono ?_; rintro e w2 ⟨rfl, hB2⟩; have hB3 := hB1.trans (hB2.mono hB1.size); clear hA hB1 hB2 hcs; go_frame)
    | (go_at_call 9; (with_reducible change Calls _ _ #[.slice none 0 0] _ _); refine (hp0 _).mono ?_; rintro e w3 ⟨u3, rfl, hO3, hB4⟩; have hB5 := hB3.trans (hB4.mono hB3.size); have hU3 := hO3.vals; clear hO3 hB3 hB4 hp0; go_frame)
    | ((with_reducible change wpList _ _ _ (Oper.mk (some 3) _ _ _ _ _ :: _) _ _); refine kAllocL _ _ rfl rfl zero_CoinC ?_; intro w4 hR4 hz4 hB6; have hle4 := hB5.size; have hU4 := hU3.below hB6; have hB7 := hB5.trans (hB6.mono hB5.size); clear hU3 hB5 hB6 hz4; go_frame)
    | ((with_reducible change wpList _ _ _ (Oper.mk none _ _ _ _ _ :: _) _ _); refine kStoreCoin _ _ _ 0 u3 0 false _ hR4 rfl hU4 rfl rfl rfl rfl ?_; intro w5 hR5 hW5; have hB8 := hB7.trans (hW5.below hle4); clear hR4 hR5 hU4 hW5 hB7 hle4; go_frame)
    | ((with_reducible change wpList _ _ _ (Oper.mk (some 21) _ _ _ _ _ :: _) _ _); refine kBuild9 _ _ _ _ _ _ _ _ _ rfl rfl rfl rfl rfl rfl rfl rfl rfl rfl rfl ?_; intro w6 hV6 hB9; have hB10 := hB8.trans (hB9.mono hB8.size); clear hB8 hB9; go_frame)
    | (go_at_call 9; (with_reducible change Calls _ _ #[.slice (some _) _ _] _ _); refine (hp9 _ _ hV6).mono ?_; rintro e w7 ⟨u7, rfl, hO7, hB11⟩; have hB12 := hB10.trans (hB11.mono hB10.size); have hU7 := hO7.vals; clear hV6 hO7 hB10 hB11 hp9; go_frame)
    | ((with_reducible change wpList _ _ _ (Oper.mk (some 5) _ _ _ _ _ :: _) _ _); refine kAllocL _ _ rfl rfl zero_CoinC ?_; intro w8 hR8 hz8 hB13; have hle8 := hB12.size; have hU8 := hU7.below hB13; have hB14 := hB12.trans (hB13.mono hB12.size); clear hU7 hB12 hB13 hz8; go_frame)
    | ((with_reducible change wpList _ _ _ (Oper.mk none _ _ _ _ _ :: _) _ _); refine kStoreCoin _ _ _ 0 u7 0 false _ hR8 rfl hU8 rfl rfl rfl rfl ?_; intro w9 hR9 hW9; have hB15 := hB14.trans (hW9.below hle8); clear hR8 hR9 hU8 hW9 hB14 hle8; go_frame)
    | (go_at_call 8; (with_reducible change Calls _ _ #[.slice none 0 0] _ _); refine (hc0 _).mono ?_; rintro e w10 ⟨rfl, hB16⟩; have hB17 := hB15.trans (hB16.mono hB15.size); clear hB15 hB16 hc0; go_frame)
    | (go_at_call 10; refine (coinAlive_any _).mono ?_; rintro e w11 ⟨rfl, hB18⟩; have hB19 := hB17.trans (hB18.mono hB17.size); clear hB17 hB18; go_frame)
    | ((with_reducible change wpList _ _ _ (Oper.mk (some 40) _ _ _ _ _ :: _) _ _); refine kEqlI _ _ _ _ .i64 (sumE none) 91 true rfl rfl rfl rfl (by decide) ?_; go_frame)
    | ((with_reducible change wpList _ _ _ (Oper.mk (some 44) _ _ _ _ _ :: _) _ _); refine kEqlI _ _ _ _ .i64 (((61 : Nat) : Int)) 61 true rfl rfl rfl rfl (by decide) ?_; go_frame)
    | ((with_reducible change wpList _ _ _ (Oper.mk (some 48) _ _ _ _ _ :: _) _ _); refine kEqlI _ _ _ _ .i64 (((62 : Nat) : Int)) 62 true rfl rfl rfl rfl (by decide) ?_; go_frame)
    | ((with_reducible change wpList _ _ _ (Oper.mk (some 52) _ _ _ _ _ :: _) _ _); refine kEqlI _ _ _ _ .i64 (sumV (some 0)) 0 true rfl rfl rfl rfl (by decide) ?_; go_frame)
    | ((with_reducible change wpList _ _ _ (Oper.mk (some 56) _ _ _ _ _ :: _) _ _); refine kEqlI _ _ _ _ .i64 (sumE (some 0)) 0 true rfl rfl rfl rfl (by decide) ?_; go_frame)
    | (go_at_call 11; (with_reducible change Calls _ _ #[.int .i64 2000000000000] _ _); refine (coMoney_any 2000000000000 _).mono ?_; rintro e w12 ⟨rfl, rfl⟩; rw [hm1]; go_frame)
    | (go_at_call 11; (with_reducible change Calls _ _ #[.int .i64 (-1)] _ _); refine (coMoney_any (-1) _).mono ?_; rintro e w13 ⟨rfl, rfl⟩; rw [hm2]; go_frame))
  go_ret
  exact ⟨rfl, hB19⟩
end Go.Proofs.Ytgichipcmbnnhaa
