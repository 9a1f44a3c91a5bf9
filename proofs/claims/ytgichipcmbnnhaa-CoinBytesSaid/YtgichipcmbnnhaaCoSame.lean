/-
  Layer 9: the walks of Same, SameCoin and Right.
-/
import Derived.Test.YtgichipcmbnnhaaCoSum
namespace Go.Proofs.Ytgichipcmbnnhaa
open Go Go.RowKit

def sameO (n : Int) (l : List UInt8) (m : Int) (k : List UInt8) : Bool := decide (n = m) && (l == k)
theorem sameO_iff {n m : Int} {l k : List UInt8} : sameO n l m k = true ↔ n = m ∧ l = k := by unfold sameO; simp
def sameC (c d : CoinP) : Bool := (sameO c.value c.lock d.value d.lock && decide (c.height = d.height)) && decide (c.base = d.base)
theorem sameC_refl (c : CoinP) : sameC c c = true := by simp [sameC, sameO]
set_option maxRecDepth 100000 in
set_option maxHeartbeats 8000000 in
theorem coSame_any {n m : Int} {l k : List UInt8} {v u : Value} (w : World) (hv : IsVals w v (l.map VB)) (hu : IsVals w u (k.map VB)) : Calls Try.prog 20 #[.agg (outC n v), .agg (outC m u)] w fun e w' => e = .returned (.bool (sameO n l m k)) ∧ Below w.heap.size w w' := by
  unfold sameO
  obtain ⟨c, hc⟩ : ∃ c, decide (n = m) = c := ⟨_, rfl⟩
  obtain ⟨d, hd⟩ : ∃ d, (l == k) = d := ⟨_, rfl⟩
  rw [hc, hd]
  cases c
  · go_enter Try.func20, Try.ntmps20
    go_wp2_with (first
      | ((with_reducible change wpList _ _ _ (Oper.mk (some 2) _ _ _ _ _ :: _) _ _); refine kBoxL _ _ _ rfl rfl rfl ?_; intro w1 hR1 hz1 hB1; have hv1 := hv.below hB1; have hu1 := hu.below hB1; go_frame)
      | ((with_reducible change wpList _ _ _ (Oper.mk (some 3) _ _ _ _ _ :: _) _ _); refine kBoxL _ _ _ rfl rfl rfl ?_; intro w2 hR2 hz2 hB2; have hR3 := hR1.below hB2 hR1.lt; have hv2 := hv1.below hB2; have hu2 := hu1.below hB2; have hB3 := hB1.trans (hB2.mono (Nat.le_of_lt hz1)); clear hR1 hv1 hu1 hB1 hB2 hz1 hz2; go_frame)
      | ((with_reducible change wpList _ _ _ (Oper.mk (some 5) _ _ _ _ _ :: _) _ _); refine kFld outCF0 _ _ 0 0 rfl rfl rfl rfl ?_; go_frame)
      | ((with_reducible change wpList _ _ _ (Oper.mk (some 6) _ _ _ _ _ :: _) _ _); refine kLd Try.underlying2 rfl _ _ 0 _ (.int .i64 n) hR3 rfl rfl rfl rfl ?_; go_frame)
      | ((with_reducible change wpList _ _ _ (Oper.mk (some 7) _ _ _ _ _ :: _) _ _); refine kFld outCF0 _ _ 0 0 rfl rfl rfl rfl ?_; go_frame)
      | ((with_reducible change wpList _ _ _ (Oper.mk (some 8) _ _ _ _ _ :: _) _ _); refine kLd Try.underlying2 rfl _ _ 0 _ (.int .i64 m) hR2 rfl rfl rfl rfl ?_; go_frame)
      | ((with_reducible change wpList _ _ _ (Oper.mk (some 9) _ _ _ _ _ :: _) _ _); refine kEqlI _ _ _ _ .i64 n m false rfl rfl rfl rfl hc ?_; go_frame)
      | ((with_reducible change wpList _ _ _ (Oper.mk (some 11) _ _ _ _ _ :: _) _ _); refine kFld outCF1 _ _ 0 1 rfl rfl rfl rfl ?_; go_frame)
      | ((with_reducible change wpList _ _ _ (Oper.mk (some 12) _ _ _ _ _ :: _) _ _); refine kLd Try.underlying25 rfl _ _ 1 _ v hR3 rfl rfl rfl rfl ?_; go_frame)
      | ((with_reducible change wpList _ _ _ (Oper.mk (some 13) _ _ _ _ _ :: _) _ _); refine kFld outCF1 _ _ 0 1 rfl rfl rfl rfl ?_; go_frame)
      | ((with_reducible change wpList _ _ _ (Oper.mk (some 14) _ _ _ _ _ :: _) _ _); refine kLd Try.underlying25 rfl _ _ 1 _ u hR2 rfl rfl rfl rfl ?_; go_frame)
      | (go_at_call 40; refine (cEqual_any _ hv2 hu2).mono ?_; rintro e w3 ⟨rfl, rfl⟩; rw [hd]; go_frame))
    go_ret
    exact ⟨rfl, hB3⟩
  · go_enter Try.func20, Try.ntmps20
    go_wp2_with (first
      | ((with_reducible change wpList _ _ _ (Oper.mk (some 2) _ _ _ _ _ :: _) _ _); refine kBoxL _ _ _ rfl rfl rfl ?_; intro w1 hR1 hz1 hB1; have hv1 := hv.below hB1; have hu1 := hu.below hB1; go_frame)
      | ((with_reducible change wpList _ _ _ (Oper.mk (some 3) _ _ _ _ _ :: _) _ _); refine kBoxL _ _ _ rfl rfl rfl ?_; intro w2 hR2 hz2 hB2; have hR3 := hR1.below hB2 hR1.lt; have hv2 := hv1.below hB2; have hu2 := hu1.below hB2; have hB3 := hB1.trans (hB2.mono (Nat.le_of_lt hz1)); clear hR1 hv1 hu1 hB1 hB2 hz1 hz2; go_frame)
      | ((with_reducible change wpList _ _ _ (Oper.mk (some 5) _ _ _ _ _ :: _) _ _); refine kFld outCF0 _ _ 0 0 rfl rfl rfl rfl ?_; go_frame)
      | ((with_reducible change wpList _ _ _ (Oper.mk (some 6) _ _ _ _ _ :: _) _ _); refine kLd Try.underlying2 rfl _ _ 0 _ (.int .i64 n) hR3 rfl rfl rfl rfl ?_; go_frame)
      | ((with_reducible change wpList _ _ _ (Oper.mk (some 7) _ _ _ _ _ :: _) _ _); refine kFld outCF0 _ _ 0 0 rfl rfl rfl rfl ?_; go_frame)
      | ((with_reducible change wpList _ _ _ (Oper.mk (some 8) _ _ _ _ _ :: _) _ _); refine kLd Try.underlying2 rfl _ _ 0 _ (.int .i64 m) hR2 rfl rfl rfl rfl ?_; go_frame)
      | ((with_reducible change wpList _ _ _ (Oper.mk (some 9) _ _ _ _ _ :: _) _ _); refine kEqlI _ _ _ _ .i64 n m true rfl rfl rfl rfl hc ?_; go_frame)
      | ((with_reducible change wpList _ _ _ (Oper.mk (some 11) _ _ _ _ _ :: _) _ _); refine kFld outCF1 _ _ 0 1 rfl rfl rfl rfl ?_; go_frame)
      | ((with_reducible change wpList _ _ _ (Oper.mk (some 12) _ _ _ _ _ :: _) _ _); refine kLd Try.underlying25 rfl _ _ 1 _ v hR3 rfl rfl rfl rfl ?_; go_frame)
      | ((with_reducible change wpList _ _ _ (Oper.mk (some 13) _ _ _ _ _ :: _) _ _); refine kFld outCF1 _ _ 0 1 rfl rfl rfl rfl ?_; go_frame)
      | ((with_reducible change wpList _ _ _ (Oper.mk (some 14) _ _ _ _ _ :: _) _ _); refine kLd Try.underlying25 rfl _ _ 1 _ u hR2 rfl rfl rfl rfl ?_; go_frame)
      | (go_at_call 40; refine (cEqual_any _ hv2 hu2).mono ?_; rintro e w3 ⟨rfl, rfl⟩; rw [hd]; go_frame))
    go_ret
    exact ⟨rfl, hB3⟩
set_option maxRecDepth 100000 in
set_option maxHeartbeats 8000000 in
theorem zSame_any {n m : Int} {l k : List UInt8} {v u : Value} (w : World) (hv : IsVals w v (l.map VB)) (hu : IsVals w u (k.map VB)) : Calls Try.prog 27 #[.agg (outC n v), .agg (outC m u)] w fun e w' => e = .returned (.bool (sameO n l m k)) ∧ Below w.heap.size w w' := by
  unfold sameO
  obtain ⟨c, hc⟩ : ∃ c, decide (n = m) = c := ⟨_, rfl⟩
  obtain ⟨d, hd⟩ : ∃ d, (l == k) = d := ⟨_, rfl⟩
  rw [hc, hd]
  cases c
  · go_enter Try.func27, Try.ntmps27
    go_wp2_with (first
      | ((with_reducible change wpList _ _ _ (Oper.mk (some 2) _ _ _ _ _ :: _) _ _); refine kBoxL _ _ _ rfl rfl rfl ?_; intro w1 hR1 hz1 hB1; have hv1 := hv.below hB1; have hu1 := hu.below hB1; go_frame)
      | ((with_reducible change wpList _ _ _ (Oper.mk (some 3) _ _ _ _ _ :: _) _ _); refine kBoxL _ _ _ rfl rfl rfl ?_; intro w2 hR2 hz2 hB2; have hR3 := hR1.below hB2 hR1.lt; have hv2 := hv1.below hB2; have hu2 := hu1.below hB2; have hB3 := hB1.trans (hB2.mono (Nat.le_of_lt hz1)); clear hR1 hv1 hu1 hB1 hB2 hz1 hz2; go_frame)
      | ((with_reducible change wpList _ _ _ (Oper.mk (some 5) _ _ _ _ _ :: _) _ _); refine kFld outCF0 _ _ 0 0 rfl rfl rfl rfl ?_; go_frame)
      | ((with_reducible change wpList _ _ _ (Oper.mk (some 6) _ _ _ _ _ :: _) _ _); refine kLd Try.underlying2 rfl _ _ 0 _ (.int .i64 n) hR3 rfl rfl rfl rfl ?_; go_frame)
      | ((with_reducible change wpList _ _ _ (Oper.mk (some 7) _ _ _ _ _ :: _) _ _); refine kFld outCF0 _ _ 0 0 rfl rfl rfl rfl ?_; go_frame)
      | ((with_reducible change wpList _ _ _ (Oper.mk (some 8) _ _ _ _ _ :: _) _ _); refine kLd Try.underlying2 rfl _ _ 0 _ (.int .i64 m) hR2 rfl rfl rfl rfl ?_; go_frame)
      | ((with_reducible change wpList _ _ _ (Oper.mk (some 9) _ _ _ _ _ :: _) _ _); refine kEqlI _ _ _ _ .i64 n m false rfl rfl rfl rfl hc ?_; go_frame)
      | ((with_reducible change wpList _ _ _ (Oper.mk (some 11) _ _ _ _ _ :: _) _ _); refine kFld outCF1 _ _ 0 1 rfl rfl rfl rfl ?_; go_frame)
      | ((with_reducible change wpList _ _ _ (Oper.mk (some 12) _ _ _ _ _ :: _) _ _); refine kLd Try.underlying25 rfl _ _ 1 _ v hR3 rfl rfl rfl rfl ?_; go_frame)
      | ((with_reducible change wpList _ _ _ (Oper.mk (some 13) _ _ _ _ _ :: _) _ _); refine kToString _ _ _ _ v l rfl rfl rfl hv2 Try.underlying25 Try.underlying5 Try.underlying9 ?_; go_frame)
      | ((with_reducible change wpList _ _ _ (Oper.mk (some 14) _ _ _ _ _ :: _) _ _); refine kFld outCF1 _ _ 0 1 rfl rfl rfl rfl ?_; go_frame)
      | ((with_reducible change wpList _ _ _ (Oper.mk (some 15) _ _ _ _ _ :: _) _ _); refine kLd Try.underlying25 rfl _ _ 1 _ u hR2 rfl rfl rfl rfl ?_; go_frame)
      | ((with_reducible change wpList _ _ _ (Oper.mk (some 16) _ _ _ _ _ :: _) _ _); refine kToString _ _ _ _ u k rfl rfl rfl hu2 Try.underlying25 Try.underlying5 Try.underlying9 ?_; go_frame)
      | ((with_reducible change wpList _ _ _ (Oper.mk (some 17) _ _ _ _ _ :: _) _ _); refine kEqlStr _ _ _ _ l k d rfl rfl rfl rfl hd ?_; go_frame))
    go_ret
    exact ⟨rfl, hB3⟩
  · go_enter Try.func27, Try.ntmps27
    go_wp2_with (first
      | ((with_reducible change wpList _ _ _ (Oper.mk (some 2) _ _ _ _ _ :: _) _ _); refine kBoxL _ _ _ rfl rfl rfl ?_; intro w1 hR1 hz1 hB1; have hv1 := hv.below hB1; have hu1 := hu.below hB1; go_frame)
      | ((with_reducible change wpList _ _ _ (Oper.mk (some 3) _ _ _ _ _ :: _) _ _); refine kBoxL _ _ _ rfl rfl rfl ?_; intro w2 hR2 hz2 hB2; have hR3 := hR1.below hB2 hR1.lt; have hv2 := hv1.below hB2; have hu2 := hu1.below hB2; have hB3 := hB1.trans (hB2.mono (Nat.le_of_lt hz1)); clear hR1 hv1 hu1 hB1 hB2 hz1 hz2; go_frame)
      | ((with_reducible change wpList _ _ _ (Oper.mk (some 5) _ _ _ _ _ :: _) _ _); refine kFld outCF0 _ _ 0 0 rfl rfl rfl rfl ?_; go_frame)
      | ((with_reducible change wpList _ _ _ (Oper.mk (some 6) _ _ _ _ _ :: _) _ _); refine kLd Try.underlying2 rfl _ _ 0 _ (.int .i64 n) hR3 rfl rfl rfl rfl ?_; go_frame)
      | ((with_reducible change wpList _ _ _ (Oper.mk (some 7) _ _ _ _ _ :: _) _ _); refine kFld outCF0 _ _ 0 0 rfl rfl rfl rfl ?_; go_frame)
      | ((with_reducible change wpList _ _ _ (Oper.mk (some 8) _ _ _ _ _ :: _) _ _); refine kLd Try.underlying2 rfl _ _ 0 _ (.int .i64 m) hR2 rfl rfl rfl rfl ?_; go_frame)
      | ((with_reducible change wpList _ _ _ (Oper.mk (some 9) _ _ _ _ _ :: _) _ _); refine kEqlI _ _ _ _ .i64 n m true rfl rfl rfl rfl hc ?_; go_frame)
      | ((with_reducible change wpList _ _ _ (Oper.mk (some 11) _ _ _ _ _ :: _) _ _); refine kFld outCF1 _ _ 0 1 rfl rfl rfl rfl ?_; go_frame)
      | ((with_reducible change wpList _ _ _ (Oper.mk (some 12) _ _ _ _ _ :: _) _ _); refine kLd Try.underlying25 rfl _ _ 1 _ v hR3 rfl rfl rfl rfl ?_; go_frame)
      | ((with_reducible change wpList _ _ _ (Oper.mk (some 13) _ _ _ _ _ :: _) _ _); refine kToString _ _ _ _ v l rfl rfl rfl hv2 Try.underlying25 Try.underlying5 Try.underlying9 ?_; go_frame)
      | ((with_reducible change wpList _ _ _ (Oper.mk (some 14) _ _ _ _ _ :: _) _ _); refine kFld outCF1 _ _ 0 1 rfl rfl rfl rfl ?_; go_frame)
      | ((with_reducible change wpList _ _ _ (Oper.mk (some 15) _ _ _ _ _ :: _) _ _); refine kLd Try.underlying25 rfl _ _ 1 _ u hR2 rfl rfl rfl rfl ?_; go_frame)
      | ((with_reducible change wpList _ _ _ (Oper.mk (some 16) _ _ _ _ _ :: _) _ _); refine kToString _ _ _ _ u k rfl rfl rfl hu2 Try.underlying25 Try.underlying5 Try.underlying9 ?_; go_frame)
      | ((with_reducible change wpList _ _ _ (Oper.mk (some 17) _ _ _ _ _ :: _) _ _); refine kEqlStr _ _ _ _ l k d rfl rfl rfl rfl hd ?_; go_frame))
    go_ret
    exact ⟨rfl, hB3⟩
/-- a coin's cells, with what stands for its lock -/
def coinV (c : CoinP) (v : Value) : Array Value := coinC c.value v c.height c.base
set_option maxRecDepth 100000 in
set_option maxHeartbeats 8000000 in
theorem zSameCoin_any {c d : CoinP} {v u : Value} (w : World) (hv : IsVals w v (c.lock.map VB)) (hu : IsVals w u (d.lock.map VB)) : Calls Try.prog 31 #[.agg (coinV c v), .agg (coinV d u)] w fun e w' => e = .returned (.bool (sameC c d)) ∧ Below w.heap.size w w' := by
  unfold sameC
  obtain ⟨c1, h1⟩ : ∃ x, sameO c.value c.lock d.value d.lock = x := ⟨_, rfl⟩
  obtain ⟨c2, h2⟩ : ∃ x, decide (c.height = d.height) = x := ⟨_, rfl⟩
  obtain ⟨c3, h3⟩ : ∃ x, decide (c.base = d.base) = x := ⟨_, rfl⟩
  rw [h1, h2, h3]
  have h3' : (c.base == d.base) = c3 := by rw [← h3]; cases c.base <;> cases d.base <;> rfl
  cases c1
  · go_enter Try.func31, Try.ntmps31
    go_wp2_with (first
      | ((with_reducible change wpList _ _ _ (Oper.mk (some 2) _ _ _ _ _ :: _) _ _); refine kBoxL _ _ _ rfl rfl rfl ?_; intro w1 hR1 hz1 hB1; have hv1 := hv.below hB1; have hu1 := hu.below hB1; go_frame)
      | ((with_reducible change wpList _ _ _ (Oper.mk (some 3) _ _ _ _ _ :: _) _ _); refine kBoxL _ _ _ rfl rfl rfl ?_; intro w2 hR2 hz2 hB2; have hR3 := hR1.below hB2 hR1.lt; have hv2 := hv1.below hB2; have hu2 := hu1.below hB2; have hB3 := hB1.trans (hB2.mono (Nat.le_of_lt hz1)); clear hR1 hv1 hu1 hB1 hB2 hz1 hz2; go_frame)
      | ((with_reducible change wpList _ _ _ (Oper.mk (some 5) _ _ _ _ _ :: _) _ _); refine kFld coinCF0 _ _ 0 0 rfl rfl rfl rfl ?_; go_frame)
      | ((with_reducible change wpList _ _ _ (Oper.mk (some 6) _ _ _ _ _ :: _) _ _); refine kLoadCOut _ _ c.value v c.height c.base hR3 rfl rfl rfl ?_; go_frame)
      | ((with_reducible change wpList _ _ _ (Oper.mk (some 7) _ _ _ _ _ :: _) _ _); refine kFld coinCF0 _ _ 0 0 rfl rfl rfl rfl ?_; go_frame)
      | ((with_reducible change wpList _ _ _ (Oper.mk (some 8) _ _ _ _ _ :: _) _ _); refine kLoadCOut _ _ d.value u d.height d.base hR2 rfl rfl rfl ?_; go_frame)
      | (go_at_call 27; refine (zSame_any _ hv2 hu2).mono ?_; rintro e w3 ⟨rfl, hB4⟩; rw [h1]; have hR5 := hR3.below hB4 hR3.lt; have hR6 := hR2.below hB4 hR2.lt; have hB5 := hB3.trans (hB4.mono hB3.size); clear hR2 hR3 hB3 hB4; go_frame)
      | ((with_reducible change wpList _ _ _ (Oper.mk (some 11) _ _ _ _ _ :: _) _ _); refine kFld coinCF1 _ _ 0 2 rfl rfl rfl rfl ?_; go_frame)
      | ((with_reducible change wpList _ _ _ (Oper.mk (some 12) _ _ _ _ _ :: _) _ _); refine kLd Try.underlying2 rfl _ _ 2 _ (.int .i64 c.height) hR5 rfl rfl rfl rfl ?_; go_frame)
      | ((with_reducible change wpList _ _ _ (Oper.mk (some 13) _ _ _ _ _ :: _) _ _); refine kFld coinCF1 _ _ 0 2 rfl rfl rfl rfl ?_; go_frame)
      | ((with_reducible change wpList _ _ _ (Oper.mk (some 14) _ _ _ _ _ :: _) _ _); refine kLd Try.underlying2 rfl _ _ 2 _ (.int .i64 d.height) hR6 rfl rfl rfl rfl ?_; go_frame)
      | ((with_reducible change wpList _ _ _ (Oper.mk (some 15) _ _ _ _ _ :: _) _ _); refine kEqlI _ _ _ _ .i64 c.height d.height _ rfl rfl rfl rfl h2 ?_; go_frame)
      | ((with_reducible change wpList _ _ _ (Oper.mk (some 18) _ _ _ _ _ :: _) _ _); refine kFld coinCF2 _ _ 0 3 rfl rfl rfl rfl ?_; go_frame)
      | ((with_reducible change wpList _ _ _ (Oper.mk (some 19) _ _ _ _ _ :: _) _ _); refine kLd Try.underlying4 rfl _ _ 3 _ (.bool c.base) hR5 rfl rfl rfl rfl ?_; go_frame)
      | ((with_reducible change wpList _ _ _ (Oper.mk (some 20) _ _ _ _ _ :: _) _ _); refine kFld coinCF2 _ _ 0 3 rfl rfl rfl rfl ?_; go_frame)
      | ((with_reducible change wpList _ _ _ (Oper.mk (some 21) _ _ _ _ _ :: _) _ _); refine kLd Try.underlying4 rfl _ _ 3 _ (.bool d.base) hR6 rfl rfl rfl rfl ?_; go_frame)
      | ((with_reducible change wpList _ _ _ (Oper.mk (some 22) _ _ _ _ _ :: _) _ _); refine kEqlBool _ _ _ _ c.base d.base c3 rfl rfl rfl rfl Try.underlying4 h3' ?_; go_frame))
    go_ret
    exact ⟨rfl, hB5⟩
  cases c2
  · go_enter Try.func31, Try.ntmps31
    go_wp2_with (first
      | ((with_reducible change wpList _ _ _ (Oper.mk (some 2) _ _ _ _ _ :: _) _ _); refine kBoxL _ _ _ rfl rfl rfl ?_; intro w1 hR1 hz1 hB1; have hv1 := hv.below hB1; have hu1 := hu.below hB1; go_frame)
      | ((with_reducible change wpList _ _ _ (Oper.mk (some 3) _ _ _ _ _ :: _) _ _); refine kBoxL _ _ _ rfl rfl rfl ?_; intro w2 hR2 hz2 hB2; have hR3 := hR1.below hB2 hR1.lt; have hv2 := hv1.below hB2; have hu2 := hu1.below hB2; have hB3 := hB1.trans (hB2.mono (Nat.le_of_lt hz1)); clear hR1 hv1 hu1 hB1 hB2 hz1 hz2; go_frame)
      | ((with_reducible change wpList _ _ _ (Oper.mk (some 5) _ _ _ _ _ :: _) _ _); refine kFld coinCF0 _ _ 0 0 rfl rfl rfl rfl ?_; go_frame)
      | ((with_reducible change wpList _ _ _ (Oper.mk (some 6) _ _ _ _ _ :: _) _ _); refine kLoadCOut _ _ c.value v c.height c.base hR3 rfl rfl rfl ?_; go_frame)
      | ((with_reducible change wpList _ _ _ (Oper.mk (some 7) _ _ _ _ _ :: _) _ _); refine kFld coinCF0 _ _ 0 0 rfl rfl rfl rfl ?_; go_frame)
      | ((with_reducible change wpList _ _ _ (Oper.mk (some 8) _ _ _ _ _ :: _) _ _); refine kLoadCOut _ _ d.value u d.height d.base hR2 rfl rfl rfl ?_; go_frame)
      | (go_at_call 27; refine (zSame_any _ hv2 hu2).mono ?_; rintro e w3 ⟨rfl, hB4⟩; rw [h1]; have hR5 := hR3.below hB4 hR3.lt; have hR6 := hR2.below hB4 hR2.lt; have hB5 := hB3.trans (hB4.mono hB3.size); clear hR2 hR3 hB3 hB4; go_frame)
      | ((with_reducible change wpList _ _ _ (Oper.mk (some 11) _ _ _ _ _ :: _) _ _); refine kFld coinCF1 _ _ 0 2 rfl rfl rfl rfl ?_; go_frame)
      | ((with_reducible change wpList _ _ _ (Oper.mk (some 12) _ _ _ _ _ :: _) _ _); refine kLd Try.underlying2 rfl _ _ 2 _ (.int .i64 c.height) hR5 rfl rfl rfl rfl ?_; go_frame)
      | ((with_reducible change wpList _ _ _ (Oper.mk (some 13) _ _ _ _ _ :: _) _ _); refine kFld coinCF1 _ _ 0 2 rfl rfl rfl rfl ?_; go_frame)
      | ((with_reducible change wpList _ _ _ (Oper.mk (some 14) _ _ _ _ _ :: _) _ _); refine kLd Try.underlying2 rfl _ _ 2 _ (.int .i64 d.height) hR6 rfl rfl rfl rfl ?_; go_frame)
      | ((with_reducible change wpList _ _ _ (Oper.mk (some 15) _ _ _ _ _ :: _) _ _); refine kEqlI _ _ _ _ .i64 c.height d.height _ rfl rfl rfl rfl h2 ?_; go_frame)
      | ((with_reducible change wpList _ _ _ (Oper.mk (some 18) _ _ _ _ _ :: _) _ _); refine kFld coinCF2 _ _ 0 3 rfl rfl rfl rfl ?_; go_frame)
      | ((with_reducible change wpList _ _ _ (Oper.mk (some 19) _ _ _ _ _ :: _) _ _); refine kLd Try.underlying4 rfl _ _ 3 _ (.bool c.base) hR5 rfl rfl rfl rfl ?_; go_frame)
      | ((with_reducible change wpList _ _ _ (Oper.mk (some 20) _ _ _ _ _ :: _) _ _); refine kFld coinCF2 _ _ 0 3 rfl rfl rfl rfl ?_; go_frame)
      | ((with_reducible change wpList _ _ _ (Oper.mk (some 21) _ _ _ _ _ :: _) _ _); refine kLd Try.underlying4 rfl _ _ 3 _ (.bool d.base) hR6 rfl rfl rfl rfl ?_; go_frame)
      | ((with_reducible change wpList _ _ _ (Oper.mk (some 22) _ _ _ _ _ :: _) _ _); refine kEqlBool _ _ _ _ c.base d.base c3 rfl rfl rfl rfl Try.underlying4 h3' ?_; go_frame))
    go_ret
    exact ⟨rfl, hB5⟩
  go_enter Try.func31, Try.ntmps31
  go_wp2_with (first
    | ((with_reducible change wpList _ _ _ (Oper.mk (some 2) _ _ _ _ _ :: _) _ _); refine kBoxL _ _ _ rfl rfl rfl ?_; intro w1 hR1 hz1 hB1; have hv1 := hv.below hB1; have hu1 := hu.below hB1; go_frame)
    | ((with_reducible change wpList _ _ _ (Oper.mk (some 3) _ _ _ _ _ :: _) _ _); refine kBoxL _ _ _ rfl rfl rfl ?_; intro w2 hR2 hz2 hB2; have hR3 := hR1.below hB2 hR1.lt; have hv2 := hv1.below hB2; have hu2 := hu1.below hB2; have hB3 := hB1.trans (hB2.mono (Nat.le_of_lt hz1)); clear hR1 hv1 hu1 hB1 hB2 hz1 hz2; go_frame)
    | ((with_reducible change wpList _ _ _ (Oper.mk (some 5) _ _ _ _ _ :: _) _ _); refine kFld coinCF0 _ _ 0 0 rfl rfl rfl rfl ?_; go_frame)
    | ((with_reducible change wpList _ _ _ (Oper.mk (some 6) _ _ _ _ _ :: _) _ _); refine kLoadCOut _ _ c.value v c.height c.base hR3 rfl rfl rfl ?_; go_frame)
    | ((with_reducible change wpList _ _ _ (Oper.mk (some 7) _ _ _ _ _ :: _) _ _); refine kFld coinCF0 _ _ 0 0 rfl rfl rfl rfl ?_; go_frame)
    | ((with_reducible change wpList _ _ _ (Oper.mk (some 8) _ _ _ _ _ :: _) _ _); refine kLoadCOut _ _ d.value u d.height d.base hR2 rfl rfl rfl ?_; go_frame)
    | (go_at_call 27; refine (zSame_any _ hv2 hu2).mono ?_; rintro e w3 ⟨rfl, hB4⟩; rw [h1]; have hR5 := hR3.below hB4 hR3.lt; have hR6 := hR2.below hB4 hR2.lt; have hB5 := hB3.trans (hB4.mono hB3.size); clear hR2 hR3 hB3 hB4; go_frame)
    | ((with_reducible change wpList _ _ _ (Oper.mk (some 11) _ _ _ _ _ :: _) _ _); refine kFld coinCF1 _ _ 0 2 rfl rfl rfl rfl ?_; go_frame)
    | ((with_reducible change wpList _ _ _ (Oper.mk (some 12) _ _ _ _ _ :: _) _ _); refine kLd Try.underlying2 rfl _ _ 2 _ (.int .i64 c.height) hR5 rfl rfl rfl rfl ?_; go_frame)
    | ((with_reducible change wpList _ _ _ (Oper.mk (some 13) _ _ _ _ _ :: _) _ _); refine kFld coinCF1 _ _ 0 2 rfl rfl rfl rfl ?_; go_frame)
    | ((with_reducible change wpList _ _ _ (Oper.mk (some 14) _ _ _ _ _ :: _) _ _); refine kLd Try.underlying2 rfl _ _ 2 _ (.int .i64 d.height) hR6 rfl rfl rfl rfl ?_; go_frame)
    | ((with_reducible change wpList _ _ _ (Oper.mk (some 15) _ _ _ _ _ :: _) _ _); refine kEqlI _ _ _ _ .i64 c.height d.height _ rfl rfl rfl rfl h2 ?_; go_frame)
    | ((with_reducible change wpList _ _ _ (Oper.mk (some 18) _ _ _ _ _ :: _) _ _); refine kFld coinCF2 _ _ 0 3 rfl rfl rfl rfl ?_; go_frame)
    | ((with_reducible change wpList _ _ _ (Oper.mk (some 19) _ _ _ _ _ :: _) _ _); refine kLd Try.underlying4 rfl _ _ 3 _ (.bool c.base) hR5 rfl rfl rfl rfl ?_; go_frame)
    | ((with_reducible change wpList _ _ _ (Oper.mk (some 20) _ _ _ _ _ :: _) _ _); refine kFld coinCF2 _ _ 0 3 rfl rfl rfl rfl ?_; go_frame)
    | ((with_reducible change wpList _ _ _ (Oper.mk (some 21) _ _ _ _ _ :: _) _ _); refine kLd Try.underlying4 rfl _ _ 3 _ (.bool d.base) hR6 rfl rfl rfl rfl ?_; go_frame)
    | ((with_reducible change wpList _ _ _ (Oper.mk (some 22) _ _ _ _ _ :: _) _ _); refine kEqlBool _ _ _ _ c.base d.base c3 rfl rfl rfl rfl Try.underlying4 h3' ?_; go_frame))
  go_ret
  exact ⟨rfl, hB5⟩
set_option maxRecDepth 100000 in
set_option maxHeartbeats 8000000 in
theorem zRight_any {c : CoinP} {v : Value} (w : World) (hv : IsVals w v (c.lock.map VB)) : Calls Try.prog 29 #[.agg (coinV c v)] w fun e w' => e = .returned (.bool (rightC c)) ∧ Below w.heap.size w w' := by
  unfold rightC
  obtain ⟨c1, h1⟩ : ∃ x, moneyB c.value = x := ⟨_, rfl⟩
  obtain ⟨c2, h2⟩ : ∃ x, decide (c.lock.length ≤ 2000) = x := ⟨_, rfl⟩
  obtain ⟨c3, h3⟩ : ∃ x, decide (0 ≤ c.height) = x := ⟨_, rfl⟩
  obtain ⟨c4, h4⟩ : ∃ x, decide (c.height ≤ 1000000000) = x := ⟨_, rfl⟩
  obtain ⟨N, hN⟩ : ∃ N, c.lock.length = N := ⟨_, rfl⟩
  rw [h1, h2, h3, h4]
  have h2' : decide ((N : Int) ≤ 2000) = c2 := by rw [← h2, hN]; simp; omega
  clear h2
  cases c1
  · go_enter Try.func29, Try.ntmps29
    go_wp2_with (first
      | ((with_reducible change wpList _ _ _ (Oper.mk (some 1) _ _ _ _ _ :: _) _ _); refine kBoxL _ _ _ rfl rfl rfl ?_; intro w1 hR1 hz1 hB1; have hv1 := hv.below hB1; clear hz1; go_frame)
      | ((with_reducible change wpList _ _ _ (Oper.mk (some 3) _ _ _ _ _ :: _) _ _); refine kFld coinCF0 _ _ 0 0 rfl rfl rfl rfl ?_; go_frame)
      | ((with_reducible change wpList _ _ _ (Oper.mk (some 4) _ _ _ _ _ :: _) _ _); refine kFld outCF0 _ _ 0 0 rfl rfl rfl rfl ?_; go_frame)
      | ((with_reducible change wpList _ _ _ (Oper.mk (some 5) _ _ _ _ _ :: _) _ _); refine kLd Try.underlying2 rfl _ _ 0 _ (.int .i64 c.value) hR1 rfl rfl rfl rfl ?_; go_frame)
      | (go_at_call 13; refine (zMoney_any c.value _).mono ?_; rintro e w3 ⟨rfl, rfl⟩; rw [h1]; go_frame)
      | ((with_reducible change wpList _ _ _ (Oper.mk (some 8) _ _ _ _ _ :: _) _ _); refine kFld coinCF0 _ _ 0 0 rfl rfl rfl rfl ?_; go_frame)
      | ((with_reducible change wpList _ _ _ (Oper.mk (some 9) _ _ _ _ _ :: _) _ _); refine kFld outCF1 _ _ 0 1 rfl rfl rfl rfl ?_; go_frame)
      | ((with_reducible change wpList _ _ _ (Oper.mk (some 10) _ _ _ _ _ :: _) _ _); refine kLd Try.underlying25 rfl _ _ 1 _ v hR1 rfl rfl rfl rfl ?_; go_frame)
      | ((with_reducible change wpList _ _ _ (Oper.mk (some 11) _ _ _ _ _ :: _) _ _); refine kLenN _ _ _ v _ N rfl rfl rfl hv1 (by rw [List.length_map, hN]) Try.underlying25 ?_; go_frame)
      | ((with_reducible change wpList _ _ _ (Oper.mk (some 12) _ _ _ _ _ :: _) _ _); refine kLeqI _ _ _ _ .i64 (N : Int) 2000 _ rfl rfl rfl rfl h2' ?_; go_frame)
      | ((with_reducible change wpList _ _ _ (Oper.mk (some 15) _ _ _ _ _ :: _) _ _); refine kFld coinCF1 _ _ 0 2 rfl rfl rfl rfl ?_; go_frame)
      | ((with_reducible change wpList _ _ _ (Oper.mk (some 16) _ _ _ _ _ :: _) _ _); refine kLd Try.underlying2 rfl _ _ 2 _ (.int .i64 c.height) hR1 rfl rfl rfl rfl ?_; go_frame)
      | ((with_reducible change wpList _ _ _ (Oper.mk (some 17) _ _ _ _ _ :: _) _ _); refine kGeqI _ _ _ _ .i64 c.height 0 _ rfl rfl rfl rfl h3 ?_; go_frame)
      | ((with_reducible change wpList _ _ _ (Oper.mk (some 20) _ _ _ _ _ :: _) _ _); refine kFld coinCF1 _ _ 0 2 rfl rfl rfl rfl ?_; go_frame)
      | ((with_reducible change wpList _ _ _ (Oper.mk (some 21) _ _ _ _ _ :: _) _ _); refine kLd Try.underlying2 rfl _ _ 2 _ (.int .i64 c.height) hR1 rfl rfl rfl rfl ?_; go_frame)
      | ((with_reducible change wpList _ _ _ (Oper.mk (some 22) _ _ _ _ _ :: _) _ _); refine kLeqI _ _ _ _ .i64 c.height 1000000000 _ rfl rfl rfl rfl h4 ?_; go_frame))
    go_ret
    exact ⟨rfl, hB1⟩
  cases c2
  · go_enter Try.func29, Try.ntmps29
    go_wp2_with (first
      | ((with_reducible change wpList _ _ _ (Oper.mk (some 1) _ _ _ _ _ :: _) _ _); refine kBoxL _ _ _ rfl rfl rfl ?_; intro w1 hR1 hz1 hB1; have hv1 := hv.below hB1; clear hz1; go_frame)
      | ((with_reducible change wpList _ _ _ (Oper.mk (some 3) _ _ _ _ _ :: _) _ _); refine kFld coinCF0 _ _ 0 0 rfl rfl rfl rfl ?_; go_frame)
      | ((with_reducible change wpList _ _ _ (Oper.mk (some 4) _ _ _ _ _ :: _) _ _); refine kFld outCF0 _ _ 0 0 rfl rfl rfl rfl ?_; go_frame)
      | ((with_reducible change wpList _ _ _ (Oper.mk (some 5) _ _ _ _ _ :: _) _ _); refine kLd Try.underlying2 rfl _ _ 0 _ (.int .i64 c.value) hR1 rfl rfl rfl rfl ?_; go_frame)
      | (go_at_call 13; refine (zMoney_any c.value _).mono ?_; rintro e w3 ⟨rfl, rfl⟩; rw [h1]; go_frame)
      | ((with_reducible change wpList _ _ _ (Oper.mk (some 8) _ _ _ _ _ :: _) _ _); refine kFld coinCF0 _ _ 0 0 rfl rfl rfl rfl ?_; go_frame)
      | ((with_reducible change wpList _ _ _ (Oper.mk (some 9) _ _ _ _ _ :: _) _ _); refine kFld outCF1 _ _ 0 1 rfl rfl rfl rfl ?_; go_frame)
      | ((with_reducible change wpList _ _ _ (Oper.mk (some 10) _ _ _ _ _ :: _) _ _); refine kLd Try.underlying25 rfl _ _ 1 _ v hR1 rfl rfl rfl rfl ?_; go_frame)
      | ((with_reducible change wpList _ _ _ (Oper.mk (some 11) _ _ _ _ _ :: _) _ _); refine kLenN _ _ _ v _ N rfl rfl rfl hv1 (by rw [List.length_map, hN]) Try.underlying25 ?_; go_frame)
      | ((with_reducible change wpList _ _ _ (Oper.mk (some 12) _ _ _ _ _ :: _) _ _); refine kLeqI _ _ _ _ .i64 (N : Int) 2000 _ rfl rfl rfl rfl h2' ?_; go_frame)
      | ((with_reducible change wpList _ _ _ (Oper.mk (some 15) _ _ _ _ _ :: _) _ _); refine kFld coinCF1 _ _ 0 2 rfl rfl rfl rfl ?_; go_frame)
      | ((with_reducible change wpList _ _ _ (Oper.mk (some 16) _ _ _ _ _ :: _) _ _); refine kLd Try.underlying2 rfl _ _ 2 _ (.int .i64 c.height) hR1 rfl rfl rfl rfl ?_; go_frame)
      | ((with_reducible change wpList _ _ _ (Oper.mk (some 17) _ _ _ _ _ :: _) _ _); refine kGeqI _ _ _ _ .i64 c.height 0 _ rfl rfl rfl rfl h3 ?_; go_frame)
      | ((with_reducible change wpList _ _ _ (Oper.mk (some 20) _ _ _ _ _ :: _) _ _); refine kFld coinCF1 _ _ 0 2 rfl rfl rfl rfl ?_; go_frame)
      | ((with_reducible change wpList _ _ _ (Oper.mk (some 21) _ _ _ _ _ :: _) _ _); refine kLd Try.underlying2 rfl _ _ 2 _ (.int .i64 c.height) hR1 rfl rfl rfl rfl ?_; go_frame)
      | ((with_reducible change wpList _ _ _ (Oper.mk (some 22) _ _ _ _ _ :: _) _ _); refine kLeqI _ _ _ _ .i64 c.height 1000000000 _ rfl rfl rfl rfl h4 ?_; go_frame))
    go_ret
    exact ⟨rfl, hB1⟩
  cases c3
  · go_enter Try.func29, Try.ntmps29
    go_wp2_with (first
      | ((with_reducible change wpList _ _ _ (Oper.mk (some 1) _ _ _ _ _ :: _) _ _); refine kBoxL _ _ _ rfl rfl rfl ?_; intro w1 hR1 hz1 hB1; have hv1 := hv.below hB1; clear hz1; go_frame)
      | ((with_reducible change wpList _ _ _ (Oper.mk (some 3) _ _ _ _ _ :: _) _ _); refine kFld coinCF0 _ _ 0 0 rfl rfl rfl rfl ?_; go_frame)
      | ((with_reducible change wpList _ _ _ (Oper.mk (some 4) _ _ _ _ _ :: _) _ _); refine kFld outCF0 _ _ 0 0 rfl rfl rfl rfl ?_; go_frame)
      | ((with_reducible change wpList _ _ _ (Oper.mk (some 5) _ _ _ _ _ :: _) _ _); refine kLd Try.underlying2 rfl _ _ 0 _ (.int .i64 c.value) hR1 rfl rfl rfl rfl ?_; go_frame)
      | (go_at_call 13; refine (zMoney_any c.value _).mono ?_; rintro e w3 ⟨rfl, rfl⟩; rw [h1]; go_frame)
      | ((with_reducible change wpList _ _ _ (Oper.mk (some 8) _ _ _ _ _ :: _) _ _); refine kFld coinCF0 _ _ 0 0 rfl rfl rfl rfl ?_; go_frame)
      | ((with_reducible change wpList _ _ _ (Oper.mk (some 9) _ _ _ _ _ :: _) _ _); refine kFld outCF1 _ _ 0 1 rfl rfl rfl rfl ?_; go_frame)
      | ((with_reducible change wpList _ _ _ (Oper.mk (some 10) _ _ _ _ _ :: _) _ _); refine kLd Try.underlying25 rfl _ _ 1 _ v hR1 rfl rfl rfl rfl ?_; go_frame)
      | ((with_reducible change wpList _ _ _ (Oper.mk (some 11) _ _ _ _ _ :: _) _ _); refine kLenN _ _ _ v _ N rfl rfl rfl hv1 (by rw [List.length_map, hN]) Try.underlying25 ?_; go_frame)
      | ((with_reducible change wpList _ _ _ (Oper.mk (some 12) _ _ _ _ _ :: _) _ _); refine kLeqI _ _ _ _ .i64 (N : Int) 2000 _ rfl rfl rfl rfl h2' ?_; go_frame)
      | ((with_reducible change wpList _ _ _ (Oper.mk (some 15) _ _ _ _ _ :: _) _ _); refine kFld coinCF1 _ _ 0 2 rfl rfl rfl rfl ?_; go_frame)
      | ((with_reducible change wpList _ _ _ (Oper.mk (some 16) _ _ _ _ _ :: _) _ _); refine kLd Try.underlying2 rfl _ _ 2 _ (.int .i64 c.height) hR1 rfl rfl rfl rfl ?_; go_frame)
      | ((with_reducible change wpList _ _ _ (Oper.mk (some 17) _ _ _ _ _ :: _) _ _); refine kGeqI _ _ _ _ .i64 c.height 0 _ rfl rfl rfl rfl h3 ?_; go_frame)
      | ((with_reducible change wpList _ _ _ (Oper.mk (some 20) _ _ _ _ _ :: _) _ _); refine kFld coinCF1 _ _ 0 2 rfl rfl rfl rfl ?_; go_frame)
      | ((with_reducible change wpList _ _ _ (Oper.mk (some 21) _ _ _ _ _ :: _) _ _); refine kLd Try.underlying2 rfl _ _ 2 _ (.int .i64 c.height) hR1 rfl rfl rfl rfl ?_; go_frame)
      | ((with_reducible change wpList _ _ _ (Oper.mk (some 22) _ _ _ _ _ :: _) _ _); refine kLeqI _ _ _ _ .i64 c.height 1000000000 _ rfl rfl rfl rfl h4 ?_; go_frame))
    go_ret
    exact ⟨rfl, hB1⟩
  go_enter Try.func29, Try.ntmps29
  go_wp2_with (first
    | ((with_reducible change wpList _ _ _ (Oper.mk (some 1) _ _ _ _ _ :: _) _ _); refine kBoxL _ _ _ rfl rfl rfl ?_; intro w1 hR1 hz1 hB1; have hv1 := hv.below hB1; clear hz1; go_frame)
    | ((with_reducible change wpList _ _ _ (Oper.mk (some 3) _ _ _ _ _ :: _) _ _); refine kFld coinCF0 _ _ 0 0 rfl rfl rfl rfl ?_; go_frame)
    | ((with_reducible change wpList _ _ _ (Oper.mk (some 4) _ _ _ _ _ :: _) _ _); refine kFld outCF0 _ _ 0 0 rfl rfl rfl rfl ?_; go_frame)
    | ((with_reducible change wpList _ _ _ (Oper.mk (some 5) _ _ _ _ _ :: _) _ _); refine kLd Try.underlying2 rfl _ _ 0 _ (.int .i64 c.value) hR1 rfl rfl rfl rfl ?_; go_frame)
    | (go_at_call 13; refine (zMoney_any c.value _).mono ?_; rintro e w3 ⟨rfl, rfl⟩; rw [h1]; go_frame)
    | ((with_reducible change wpList _ _ _ (Oper.mk (some 8) _ _ _ _ _ :: _) _ _); refine kFld coinCF0 _ _ 0 0 rfl rfl rfl rfl ?_; go_frame)
    | ((with_reducible change wpList _ _ _ (Oper.mk (some 9) _ _ _ _ _ :: _) _ _); refine kFld outCF1 _ _ 0 1 rfl rfl rfl rfl ?_; go_frame)
    | ((with_reducible change wpList _ _ _ (Oper.mk (some 10) _ _ _ _ _ :: _) _ _); refine kLd Try.underlying25 rfl _ _ 1 _ v hR1 rfl rfl rfl rfl ?_; go_frame)
    | ((with_reducible change wpList _ _ _ (Oper.mk (some 11) _ _ _ _ _ :: _) _ _); refine kLenN _ _ _ v _ N rfl rfl rfl hv1 (by rw [List.length_map, hN]) Try.underlying25 ?_; go_frame)
    | ((with_reducible change wpList _ _ _ (Oper.mk (some 12) _ _ _ _ _ :: _) _ _); refine kLeqI _ _ _ _ .i64 (N : Int) 2000 _ rfl rfl rfl rfl h2' ?_; go_frame)
    | ((with_reducible change wpList _ _ _ (Oper.mk (some 15) _ _ _ _ _ :: _) _ _); refine kFld coinCF1 _ _ 0 2 rfl rfl rfl rfl ?_; go_frame)
    | ((with_reducible change wpList _ _ _ (Oper.mk (some 16) _ _ _ _ _ :: _) _ _); refine kLd Try.underlying2 rfl _ _ 2 _ (.int .i64 c.height) hR1 rfl rfl rfl rfl ?_; go_frame)
    | ((with_reducible change wpList _ _ _ (Oper.mk (some 17) _ _ _ _ _ :: _) _ _); refine kGeqI _ _ _ _ .i64 c.height 0 _ rfl rfl rfl rfl h3 ?_; go_frame)
    | ((with_reducible change wpList _ _ _ (Oper.mk (some 20) _ _ _ _ _ :: _) _ _); refine kFld coinCF1 _ _ 0 2 rfl rfl rfl rfl ?_; go_frame)
    | ((with_reducible change wpList _ _ _ (Oper.mk (some 21) _ _ _ _ _ :: _) _ _); refine kLd Try.underlying2 rfl _ _ 2 _ (.int .i64 c.height) hR1 rfl rfl rfl rfl ?_; go_frame)
    | ((with_reducible change wpList _ _ _ (Oper.mk (some 22) _ _ _ _ _ :: _) _ _); refine kLeqI _ _ _ _ .i64 c.height 1000000000 _ rfl rfl rfl rfl h4 ?_; go_frame))
  go_ret
  exact ⟨rfl, hB1⟩
end Go.Proofs.Ytgichipcmbnnhaa
