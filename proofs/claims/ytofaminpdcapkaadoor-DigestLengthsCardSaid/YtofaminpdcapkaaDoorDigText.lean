/-
  The walk of digest's Text: a hash in digits, its last byte first.
-/
import Derived.Test.YtofaminpdcapkaaDoorDigSum
import Derived.Test.YtofaminpdcapkaaDoorKitStr
namespace Go.Proofs.YtofaminpdcapkaaDoor
open Go.RowKit

theorem made_own (w : World) (g m : Nat) (hm : m ≤ maxLen) (h : Row w g 5 (Array.replicate m (VB 0))) : OwnBytes w g (.slice (some ⟨g, 0, none⟩) 0 m) [] :=
  ⟨rfl, .inr ⟨g, m, _, rfl, Nat.le_refl _, h, Nat.zero_le _, hm, by simp, by simp⟩⟩

set_option maxRecDepth 100000 in
set_option maxHeartbeats 400000 in
theorem Text_any (h : List UInt8) (w : World) :
    Calls Tryd.prog 11 #[.agg (tab 32 fun p => VB (at8 h p))] w fun e w' => e = .returned (textV (textTo h 32)) ∧ Below w.heap.size w w' := by
  obtain ⟨i, hi, hz, hs1, hby⟩ := byteInfo
  go_enter Tryd.func11, Tryd.ntmps11
  go_wp2_with (first
    | ((with_reducible change wpList _ _ _ (Oper.mk (some 1) _ _ _ _ _ :: _) _ _); refine kBox _ _ _ rfl rfl rfl ?_; intro w1 hR1 hz1 hB1)
    | ((with_reducible change wpList _ _ _ (Oper.mk (some 6) _ _ _ _ _ :: _) _ _); refine kMake _ _ _ _ rfl rfl i _ Tryd.underlying25 hi hz hs1 (VB 0) rfl _ _ _ _ 0 64 rfl rfl rfl rfl (by omega) (by rw [hby]; omega) (by omega) ?_; intro w2 hR2 hz2 hB2))
  have hO := made_own w2 _ 64 (by decide) hR2
  have hR1' := hR1.below hB2 (by omega)
  have hB : Below w.heap.size w w2 := hB1.trans (hB2.mono (by omega))
  have hlt : w.heap.size < w1.heap.size := by omega
  rw [hz1] at hO
  clear hR1 hR2 hB1 hB2 hz1 hz2
  go_loopw [7, 3] (fun i v wr => ∃ k : Nat, k ≤ 32 ∧ i = .int .i64 k ∧ OwnBytes wr (w.heap.size + 1) v (textTo h k) ∧ Row wr w.heap.size 23 (tab 32 fun p => VB (at8 h p)) ∧ Below w.heap.size w wr) (fun i _ _ => 32 - (intOf i).toNat)
  case atStart => exact ⟨0, by omega, rfl, hO, hR1', hB⟩
  case round =>
    obtain ⟨k, hk, rfl, hOr, hRr, hBr⟩ := hrel
    by_cases hlt2 : k < 32
    · have hd : decide ((k : Int) < 32) = true := by simp; omega
      have hlen : ((textTo h k).map VB).length ≤ 64 := by rw [List.length_map, textTo_len]; omega
      have hszr := hRr.lt
      go_wp2_with (first
        | ((with_reducible change wpList _ _ _ (Oper.mk (some 12) _ _ _ _ _ :: _) _ _); refine kIndexAddr1 _ _ _ _ _ _ _ (31 - k) _ rfl rfl rfl rfl Tryd.underlying23 info_byte (by omega) (by omega) ?_)
        | ((with_reducible change wpList _ _ _ (Oper.mk (some 13) _ _ _ _ _ :: _) _ _); refine kLoad1 _ _ _ _ _ _ _ _ rfl rfl rfl hRr Tryd.underlying5 rfl (tab_get _ _ _ (by omega)) ?_))
      refine region_mix' [true, true, true, true, true, true, true, false, false] (fun _ => True) (by kernel_rfl) (by kernel_rfl) ?_
      intro wd hBd hsd
      have hOd := ownsRow_below hOr hBd
      simp only [List.length_cons, List.length_nil, List.take_succ_cons, List.take_zero, List.drop_succ_cons, List.drop_zero]
      refine mixMove _ u3 trivial rfl rfl rfl ?_; go_frame
      refine mixMove _ (VB (at8 h (31 - k))) trivial rfl rfl rfl ?_; go_frame
      refine mixQuiet (.int .u8 (B (at8 h (31 - k)) / 16)) trivial rfl (fun w _ => by go_simp) ?_; go_frame
      refine mixIndexStr _ _ _ _ _ ((at8 h (31 - k)).toNat / 16) hexL trivial rfl rfl rfl rfl Tryd.underlying9 (B_div16 _) (by have := (at8 h (31 - k)).toNat_lt; simp [hexL]; omega) ?_; go_frame
      refine mixMove _ (VB (at8 h (31 - k))) trivial rfl rfl rfl ?_; go_frame
      refine mixQuiet (.int .u8 (bits .and .u8 (B (at8 h (31 - k))) 15)) trivial rfl (fun w _ => by go_simp) ?_; go_frame
      refine mixIndexStr _ _ _ _ _ ((at8 h (31 - k)).toNat % 16) hexL trivial rfl rfl rfl rfl Tryd.underlying9 (B_and15 _) (by simp [hexL]; omega) ?_; go_frame
      refine mixLoud ?_
      refine kBuildSlice2 _ _ _ _ (VB (hexd ((at8 h (31 - k)).toNat / 16))) (VB (hexd ((at8 h (31 - k)).toNat % 16))) rfl rfl Tryd.underlying25 i _ hi hz hs1 rfl rfl rfl rfl ?_
      intro w3 hR3 hz3 hB3
      refine mixOn ⟨trivial, ?_⟩
      go_frame
      refine mixLoud ?_
      refine kAppend _ _ _ _ rfl rfl (w.heap.size + 1) i _ Tryd.underlying25 hi hz hs1 rfl u3 _ _ ((pairOf (at8 h (31 - k))).map VB) rfl (ownsRow_below hOd hB3) rfl (isVals_lit hR3) (vb_one _) (by unfold maxLen; simp [pairOf] at hlen ⊢; omega) (by rw [hby]; simp [pairOf] at hlen ⊢; omega) (by omega) ?_
      intro v4 w4 hO4 hG4
      refine mixOn ⟨trivial, ?_⟩
      go_frame
      have hb4 := below_grown (ownsRow_below hOd hB3) hG4 (by omega)
      have hRr4 := ((hRr.below hBd hszr).below hB3 (by omega)).below hb4 (by omega)
      have hBr4 : Below w.heap.size w w4 := ((hBr.trans (hBd.mono (by omega))).trans (hB3.mono (by omega))).trans (hb4.mono (by omega))
      clear hG4 hb4 hR3 hz3 hB3 hOd hBd hsd
      refine mixEnd ?_
      go_wp2
      go_roundw
      case rel =>
        refine ⟨k + 1, by omega, by go_num, ?_, hRr4, hBr4⟩
        rw [textTo_succ]
        unfold OwnBytes
        rw [List.map_append]
        exact hO4
      case measure => simp [intOf]; omega
    · obtain rfl : k = 32 := by omega
      go_wp2_with (first
        | ((with_reducible change wpList _ _ _ (Oper.mk (some 25) _ _ _ _ _ :: _) _ _); refine kToString _ _ _ _ _ _ rfl rfl rfl hOr.vals Tryd.underlying25 Tryd.underlying5 Tryd.underlying9 ?_))
      go_ret
      exact ⟨rfl, hBr⟩
end Go.Proofs.YtofaminpdcapkaaDoor
