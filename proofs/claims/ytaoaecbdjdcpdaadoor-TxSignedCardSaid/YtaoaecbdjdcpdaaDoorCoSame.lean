/-
  Layer 9: the walks of Same, SameCoin and Right.
-/
import Derived.Test.YtaoaecbdjdcpdaaDoorCoSum
namespace Go.Proofs.YtaoaecbdjdcpdaaDoor
open Go Go.RowKit

def sameO (n : Int) (l : List UInt8) (m : Int) (k : List UInt8) : Bool := decide (n = m) && (l == k)
theorem sameO_iff {n m : Int} {l k : List UInt8} : sameO n l m k = true ↔ n = m ∧ l = k := by unfold sameO; simp
def sameC (c d : CoinP) : Bool := (sameO c.value c.lock d.value d.lock && decide (c.height = d.height)) && decide (c.base = d.base)
theorem sameC_refl (c : CoinP) : sameC c c = true := by simp [sameC, sameO]
set_option maxRecDepth 100000 in
set_option maxHeartbeats 8000000 in
theorem coSame_any {n m : Int} {l k : List UInt8} {v u : Value} (w : World) (hv : IsVals w v (l.map VB)) (hu : IsVals w u (k.map VB)) : Calls Tryd.prog 47 #[.agg (outC n v), .agg (outC m u)] w fun e w' => e = .returned (.bool (sameO n l m k)) ∧ Below w.heap.size w w' := by
  unfold sameO
  obtain ⟨c, hc⟩ : ∃ c, decide (n = m) = c := ⟨_, rfl⟩
  obtain ⟨d, hd⟩ : ∃ d, (l == k) = d := ⟨_, rfl⟩
  rw [hc, hd]
  cases c
  · go_enter Tryd.func47, Tryd.ntmps47
    go_wp2_with (first
      | ((with_reducible change wpList _ _ _ (Oper.mk (some 2) _ _ _ _ _ :: _) _ _); refine kBoxL _ _ _ rfl rfl rfl ?_; intro w1 hR1 hz1 hB1; have hv1 := hv.below hB1; have hu1 := hu.below hB1; go_frame)
      | ((with_reducible change wpList _ _ _ (Oper.mk (some 3) _ _ _ _ _ :: _) _ _); refine kBoxL _ _ _ rfl rfl rfl ?_; intro w2 hR2 hz2 hB2; have hR3 := hR1.below hB2 hR1.lt; have hv2 := hv1.below hB2; have hu2 := hu1.below hB2; have hB3 := hB1.trans (hB2.mono (Nat.le_of_lt hz1)); clear hR1 hv1 hu1 hB1 hB2 hz1 hz2; go_frame)
      | ((with_reducible change wpList _ _ _ (Oper.mk (some 5) _ _ _ _ _ :: _) _ _); refine kFld outCF0 _ _ 0 0 rfl rfl rfl rfl ?_; go_frame)
      | ((with_reducible change wpList _ _ _ (Oper.mk (some 6) _ _ _ _ _ :: _) _ _); refine kLd Tryd.underlying2 rfl _ _ 0 _ (.int .i64 n) hR3 rfl rfl rfl rfl ?_; go_frame)
      | ((with_reducible change wpList _ _ _ (Oper.mk (some 7) _ _ _ _ _ :: _) _ _); refine kFld outCF0 _ _ 0 0 rfl rfl rfl rfl ?_; go_frame)
      | ((with_reducible change wpList _ _ _ (Oper.mk (some 8) _ _ _ _ _ :: _) _ _); refine kLd Tryd.underlying2 rfl _ _ 0 _ (.int .i64 m) hR2 rfl rfl rfl rfl ?_; go_frame)
      | ((with_reducible change wpList _ _ _ (Oper.mk (some 9) _ _ _ _ _ :: _) _ _); refine kEqlI _ _ _ _ .i64 n m false rfl rfl rfl rfl hc ?_; go_frame)
      | ((with_reducible change wpList _ _ _ (Oper.mk (some 11) _ _ _ _ _ :: _) _ _); refine kFld outCF1 _ _ 0 1 rfl rfl rfl rfl ?_; go_frame)
      | ((with_reducible change wpList _ _ _ (Oper.mk (some 12) _ _ _ _ _ :: _) _ _); refine kLd Tryd.underlying28 rfl _ _ 1 _ v hR3 rfl rfl rfl rfl ?_; go_frame)
      | ((with_reducible change wpList _ _ _ (Oper.mk (some 13) _ _ _ _ _ :: _) _ _); refine kFld outCF1 _ _ 0 1 rfl rfl rfl rfl ?_; go_frame)
      | ((with_reducible change wpList _ _ _ (Oper.mk (some 14) _ _ _ _ _ :: _) _ _); refine kLd Tryd.underlying28 rfl _ _ 1 _ u hR2 rfl rfl rfl rfl ?_; go_frame)
      | (go_at_call 68; refine (cEqual_any _ hv2 hu2).mono ?_; rintro e w3 ⟨rfl, rfl⟩; rw [hd]; go_frame))
    go_ret
    exact ⟨rfl, hB3⟩
  · go_enter Tryd.func47, Tryd.ntmps47
    go_wp2_with (first
      | ((with_reducible change wpList _ _ _ (Oper.mk (some 2) _ _ _ _ _ :: _) _ _); refine kBoxL _ _ _ rfl rfl rfl ?_; intro w1 hR1 hz1 hB1; have hv1 := hv.below hB1; have hu1 := hu.below hB1; go_frame)
      | ((with_reducible change wpList _ _ _ (Oper.mk (some 3) _ _ _ _ _ :: _) _ _); refine kBoxL _ _ _ rfl rfl rfl ?_; intro w2 hR2 hz2 hB2; have hR3 := hR1.below hB2 hR1.lt; have hv2 := hv1.below hB2; have hu2 := hu1.below hB2; have hB3 := hB1.trans (hB2.mono (Nat.le_of_lt hz1)); clear hR1 hv1 hu1 hB1 hB2 hz1 hz2; go_frame)
      | ((with_reducible change wpList _ _ _ (Oper.mk (some 5) _ _ _ _ _ :: _) _ _); refine kFld outCF0 _ _ 0 0 rfl rfl rfl rfl ?_; go_frame)
      | ((with_reducible change wpList _ _ _ (Oper.mk (some 6) _ _ _ _ _ :: _) _ _); refine kLd Tryd.underlying2 rfl _ _ 0 _ (.int .i64 n) hR3 rfl rfl rfl rfl ?_; go_frame)
      | ((with_reducible change wpList _ _ _ (Oper.mk (some 7) _ _ _ _ _ :: _) _ _); refine kFld outCF0 _ _ 0 0 rfl rfl rfl rfl ?_; go_frame)
      | ((with_reducible change wpList _ _ _ (Oper.mk (some 8) _ _ _ _ _ :: _) _ _); refine kLd Tryd.underlying2 rfl _ _ 0 _ (.int .i64 m) hR2 rfl rfl rfl rfl ?_; go_frame)
      | ((with_reducible change wpList _ _ _ (Oper.mk (some 9) _ _ _ _ _ :: _) _ _); refine kEqlI _ _ _ _ .i64 n m true rfl rfl rfl rfl hc ?_; go_frame)
      | ((with_reducible change wpList _ _ _ (Oper.mk (some 11) _ _ _ _ _ :: _) _ _); refine kFld outCF1 _ _ 0 1 rfl rfl rfl rfl ?_; go_frame)
      | ((with_reducible change wpList _ _ _ (Oper.mk (some 12) _ _ _ _ _ :: _) _ _); refine kLd Tryd.underlying28 rfl _ _ 1 _ v hR3 rfl rfl rfl rfl ?_; go_frame)
      | ((with_reducible change wpList _ _ _ (Oper.mk (some 13) _ _ _ _ _ :: _) _ _); refine kFld outCF1 _ _ 0 1 rfl rfl rfl rfl ?_; go_frame)
      | ((with_reducible change wpList _ _ _ (Oper.mk (some 14) _ _ _ _ _ :: _) _ _); refine kLd Tryd.underlying28 rfl _ _ 1 _ u hR2 rfl rfl rfl rfl ?_; go_frame)
      | (go_at_call 68; refine (cEqual_any _ hv2 hu2).mono ?_; rintro e w3 ⟨rfl, rfl⟩; rw [hd]; go_frame))
    go_ret
    exact ⟨rfl, hB3⟩
/-- a coin's cells, with what stands for its lock -/
def coinV (c : CoinP) (v : Value) : Array Value := coinC c.value v c.height c.base
end Go.Proofs.YtaoaecbdjdcpdaaDoor
