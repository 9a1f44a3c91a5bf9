/-
  bynamelaw12.WorkMedian, walked.
-/
import Derived.Test.YtdeggdmoijfhdaaSoTop
import Derived.Test.YtdeggdmoijfhdaaWkMedRef
namespace Go.Proofs.Ytdeggdmoijfhdaa
open Go Go.RowKit SoI

theorem kMedian_none {v : Value} (w : World) (hv : IsVals w v []) : Calls Try.prog 12 #[v] w fun e w' => e = .returned (VW 0) ∧ Below w.heap.size w w' := by
  go_enter Try.func12, Try.ntmps12
  go_wp2_with (first
    | ((with_reducible change wpList _ _ _ (Oper.mk (some 4) _ _ _ _ _ :: _) _ _); refine kLenN _ _ _ _ [] 0 rfl rfl rfl hv rfl Try.underlying45 ?_; go_frame)
    | ((with_reducible change wpList _ _ _ (Oper.mk (some 5) _ _ _ _ _ :: _) _ _); refine kYw (yEqlK _ _ _ _ .i64 0 0 true rfl rfl rfl rfl rfl) ?_; go_frame))
  go_ret
  exact ⟨rfl, Below.refl _ _⟩
theorem kMedian_own {u : Value} {b m : Nat} {l : List Nat} (w : World) (hO : OwnW w b u l) (hl : l.length ≤ 50) (hm : medianN l = m) : Calls Try.prog 12 #[u] w fun e w' => e = .returned (VW m) ∧ Below w.heap.size w w' := by
  by_cases h0 : 0 < l.length
  · obtain ⟨g, cap, rfl, -, hD⟩ := hO.dat h0
    exact kMedian_any w hD h0 hl (by simpa using hm)
  · have hnil : l = [] := List.eq_nil_of_length_eq_zero (by omega)
    subst hnil
    subst hm
    exact kMedian_none w (isVals_own hO)
theorem vals_slot {w : World} {v : Value} {L : List Value} {k : Nat} {u : Value} (h : IsVals w v L) (hk : L[k]? = some u) : ∃ b c, v = .slice (some b) L.length c ∧ k < L.length ∧ w.cell? (b.add k) = some u := by
  obtain ⟨ao, c, rfl, -, -, hj⟩ := h
  obtain ⟨b, rfl, hc⟩ := hj k u hk
  exact ⟨b, c, rfl, (List.getElem?_eq_some_iff.1 hk).1, hc⟩
set_option maxRecDepth 100000 in
set_option maxHeartbeats 16000000 in
theorem WorkMedian_any {l : List Nat} {v : Value} (w : World) (hv : IsVals w v (l.map VW)) : Calls Try.prog 6 #[v] w (fun e w' => e = .returned (.bool true) ∧ Below w.heap.size w w') := by
  obtain ⟨N, HN⟩ : ∃ N, l.length = N := ⟨_, rfl⟩
  have hml : (l.map VW).length = N := by rw [List.length_map, HN]
  obtain ⟨i8, hi8, hz8, hs8, hby8⟩ := u32Info
  by_cases hN : 50 < N
  · have d9 : decide ((N : Int) > 50) = true := by simp; omega
    go_enter Try.func6, Try.ntmps6
    go_wp2_with (first
      | (go_at_call 10; refine (workAlive_any _).mono ?_; rintro e w1 ⟨rfl, hB1⟩; have hv1 := hv.below hB1; go_frame)
      | ((with_reducible change wpList _ _ _ (Oper.mk (some 6) _ _ _ _ _ :: _) _ _); refine kYw (yNotW _ _ true rfl rfl rfl) ?_; go_frame)
      | ((with_reducible change wpList _ _ _ (Oper.mk (some 8) _ _ _ _ _ :: _) _ _); refine kLenN _ _ _ v _ N rfl rfl rfl hv1 hml Try.underlying45 ?_; go_frame)
      | ((with_reducible change wpList _ _ _ (Oper.mk (some 9) _ _ _ _ _ :: _) _ _); refine kYw (yGtrK _ _ _ _ .i64 (N : Int) 50 true d9 rfl rfl rfl rfl) ?_; go_frame))
    go_ret
    exact ⟨rfl, hB1⟩
  · have d9 : decide ((N : Int) > 50) = false := by simp; omega
    obtain ⟨m, Hm⟩ : ∃ m, medianN l = m := ⟨_, rfl⟩
    go_enter Try.func6, Try.ntmps6
    go_wp2_with (first
      | (go_at_call 10; refine (workAlive_any _).mono ?_; rintro e w1 ⟨rfl, hB1⟩; have hv1 := hv.below hB1; go_frame)
      | ((with_reducible change wpList _ _ _ (Oper.mk (some 6) _ _ _ _ _ :: _) _ _); refine kYw (yNotW _ _ true rfl rfl rfl) ?_; go_frame)
      | ((with_reducible change wpList _ _ _ (Oper.mk (some 8) _ _ _ _ _ :: _) _ _); refine kLenN _ _ _ v _ N rfl rfl rfl hv1 hml Try.underlying45 ?_; go_frame)
      | ((with_reducible change wpList _ _ _ (Oper.mk (some 9) _ _ _ _ _ :: _) _ _); refine kYw (yGtrK _ _ _ _ .i64 (N : Int) 50 false d9 rfl rfl rfl rfl) ?_; go_frame)
      | ((with_reducible change wpList _ _ _ (Oper.mk (some 10) _ _ _ _ _ :: _) _ _); refine kBuildSlice0 _ _ rfl rfl Try.underlying45 i8 hi8 ?_; intro w2 hR2 hzz hB2; clear hzz; have hO2 : OwnW w2 w1.heap.size _ [] := own_empty (Nat.le_refl _) hR2; have hv2 := hv1.below hB2; have hs2 := hB2.size; go_frame)
      | ((with_reducible change wpList _ _ _ (Oper.mk (some 12) _ _ _ _ _ :: _) _ _); refine kAppW _ _ w1.heap.size _ v [] l hO2 hv2 (by simp; omega) hs2 rfl rfl rfl rfl ?_; intro u w3 hO3 hB3 hg3; rw [List.nil_append] at hO3; have hB13 := hB2.trans hB3; have hv3 := hv1.below hB13; have hBa := hB1.trans (hB13.mono hB1.size); clear hR2 hO2 hv2 hs2 hB2 hB3 hg3 hv1 hB1 hB13; go_frame)
      | (go_at_call 12; refine (kMedian_own _ hO3 (by omega) Hm).mono ?_; rintro e w4 ⟨rfl, hB4⟩; have hO4 := OwnW.below hO3 hB4; have hv4 := hv3.below hB4; have hBb := hBa.trans (hB4.mono hBa.size); clear hO3 hv3 hBa hB4; go_frame)
      | (go_at_call 22; refine (qMedian_any _ hv4 (by omega) Hm).mono ?_; rintro e w5 ⟨rfl, rfl⟩; go_frame)
      | ((with_reducible change wpList _ _ _ (Oper.mk (some 17) _ _ _ _ _ :: _) _ _); refine kYw (yNeqK _ _ _ _ .u32 (m : Int) (m : Int) false (by simp) rfl rfl rfl rfl) ?_; go_frame)
      | ((with_reducible change wpList _ _ _ (Oper.mk (some 19) _ _ _ _ _ :: _) _ _); refine kLenN _ _ _ v _ N rfl rfl rfl hv4 hml Try.underlying45 ?_; go_frame))
    go_loopw [20] (fun i wr => ∃ k : Nat, k ≤ N ∧ i = .int .i64 (k : Int) ∧ OwnW wr w1.heap.size u l ∧ IsVals wr v (l.map VW) ∧ Below w.heap.size w wr) (fun i _ => (N + 2) - (intOf i).toNat)
    case atStart => exact ⟨0, Nat.zero_le _, rfl, hO4, hv4, hBb⟩
    case round =>
      obtain ⟨k, hk, rfl, hO, hV, hB⟩ := hrel
      clear hO4 hv4 hBb
      by_cases hlt : k < N
      · have d21 : decide ((k : Int) < (N : Int)) = true := by simp; omega
        obtain ⟨x, hx, hxv⟩ := vw_at (l := l) (k := k) (by omega)
        obtain ⟨bu, cu, hue, hku, hcu⟩ := vals_slot (isVals_own hO) hxv
        obtain ⟨bv, cv, hve, hkv, hcv⟩ := vals_slot hV hxv
        go_wp2_with (first
          | ((with_reducible change wpList _ _ _ (Oper.mk (some 21) _ _ _ _ _ :: _) _ _); refine kYw (yLssK _ _ _ _ .i64 (k : Int) (N : Int) true d21 rfl rfl rfl rfl) ?_; go_frame))
        refine region_mixD [(0, true), (1, true), (2, true), (3, true), (4, true), (5, true), (6, true), (7, true), (8, true)] (fun q => q.cell? (bu.add k) = some (VW x) ∧ q.cell? (bv.add k) = some (VW x)) (by kernel_rfl) (by kernel_rfl) rfl ?_
        intro z hBd hsd; clear hsd
        simp only [List.map_cons, List.map_nil]
        dsimp only [List.filterMap, List.getElem?_cons_zero, List.getElem?_cons_succ]
        have hS : z.cell? (bu.add k) = some (VW x) ∧ z.cell? (bv.add k) = some (VW x) := ⟨(hBd.cell (block_lt_of_cell hcu)).trans hcu, (hBd.cell (block_lt_of_cell hcv)).trans hcv⟩
        have hO5 := OwnW.below hO hBd
        have hV5 := hV.below hBd
        have hB5 := hB.trans (hBd.mono hB.size)
        clear hO hV hB hBd hcu hcv
        refine dY _ hS (yMove _ u rfl rfl rfl) ?_; go_frame
        refine dY _ hS (yMove _ (.int .i64 (k : Int)) rfl rfl rfl) ?_; go_frame
        refine dY _ hS (yIndexK _ _ _ _ bu _ cu k Try.underlying45 info_u32W hku rfl rfl hue rfl) ?_; go_frame
        refine dY _ hS (yLoadK _ _ (bu.add k) (VW x) _ (fun _ h => h.1) Try.underlying28 rfl rfl rfl rfl) ?_; go_frame
        refine dY _ hS (yMove _ v rfl rfl rfl) ?_; go_frame
        refine dY _ hS (yMove _ (.int .i64 (k : Int)) rfl rfl rfl) ?_; go_frame
        refine dY _ hS (yIndexK _ _ _ _ bv _ cv k Try.underlying45 info_u32W hkv rfl rfl hve rfl) ?_; go_frame
        refine dY _ hS (yLoadK _ _ (bv.add k) (VW x) _ (fun _ h => h.2) Try.underlying28 rfl rfl rfl rfl) ?_; go_frame
        refine dY _ hS (yNeqK _ _ _ _ .u32 (x : Int) (x : Int) false (by simp) rfl rfl rfl rfl) ?_; go_frame
        refine dDone ?_
        clear hS
        go_wp2_with (first
          | ((with_reducible change wpList _ _ _ (Oper.mk (some 32) _ _ _ _ _ :: _) _ _); refine kYw (yAddZ _ _ _ _ (k : Int) 1 ((k + 1 : Nat) : Int) (by omega) rfl rfl rfl rfl) ?_; go_frame))
        go_roundw
        case rel => exact ⟨k + 1, by omega, rfl, hO5, hV5, hB5⟩
        case measure => first | (simp [intOf]; done) | (simp [intOf]; omega)
      · have d21 : decide ((k : Int) < (N : Int)) = false := by simp; omega
        go_wp2_with (first
          | ((with_reducible change wpList _ _ _ (Oper.mk (some 21) _ _ _ _ _ :: _) _ _); refine kYw (yLssK _ _ _ _ .i64 (k : Int) (N : Int) false d21 rfl rfl rfl rfl) ?_; go_frame))
        go_ret
        exact ⟨rfl, hB⟩
end Go.Proofs.Ytdeggdmoijfhdaa
