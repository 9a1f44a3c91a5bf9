/-
  Layer 6: the walk of PieceWrites.
-/
import Derived.Test.YtalcopfhofijlaaPcLaw2
namespace Go.Proofs.Ytalcopfhofijlaa
open Go Go.RowKit

set_option maxRecDepth 100000 in
set_option maxHeartbeats 8000000 in
theorem PieceWrites_out {l : List UInt8} {v u : Value} {n : Nat} {Ls : List (List UInt8)} (w : World) (hv : IsVals w v (l.map VB)) (hu : AreLists w u Ls) (h : 100 < l.length ∨ 9 < Ls.length) : Calls Try.prog 4 #[v, .int .u64 (n : Int), u] w (SizesPost w) := by
  obtain ⟨m, hm⟩ : ∃ m, l.length = m := ⟨_, rfl⟩
  obtain ⟨N, hN⟩ : ∃ N, Ls.length = N := ⟨_, rfl⟩
  by_cases h1 : 100 < m
  · have hm1 : decide ((m : Int) > 100) = true := by simp; omega
    clear h h1
    go_enter Try.func4, Try.ntmps4
    go_wp2_with (first
      | (go_at_call 9; refine (pieceAlive_any _).mono ?_; rintro e w1 ⟨rfl, hB1⟩; have hsz1 := hB1.size; have hv1 := hv.below hB1; have hu1 := hu.below hB1; obtain ⟨vs1, hvs1, hU1⟩ := hu1.len; go_frame)
      | ((with_reducible change wpList _ _ _ (Oper.mk (some 16) _ _ _ _ _ :: _) _ _); refine kLenN _ _ _ v _ m rfl rfl rfl hv1 (by rw [List.length_map, hm]) Try.underlying25 ?_; go_frame)
      | ((with_reducible change wpList _ _ _ (Oper.mk (some 17) _ _ _ _ _ :: _) _ _); refine kGtrI _ _ _ _ .i64 (m : Int) 100 true rfl rfl rfl rfl hm1 ?_; go_frame))
    go_ret
    exact ⟨rfl, hB1⟩
  · have hm1 : decide ((m : Int) > 100) = false := by simp; omega
    have hn1 : decide ((N : Int) > 9) = true := by simp; omega
    clear h h1
    go_enter Try.func4, Try.ntmps4
    go_wp2_with (first
      | (go_at_call 9; refine (pieceAlive_any _).mono ?_; rintro e w1 ⟨rfl, hB1⟩; have hsz1 := hB1.size; have hv1 := hv.below hB1; have hu1 := hu.below hB1; obtain ⟨vs1, hvs1, hU1⟩ := hu1.len; go_frame)
      | ((with_reducible change wpList _ _ _ (Oper.mk (some 16) _ _ _ _ _ :: _) _ _); refine kLenN _ _ _ v _ m rfl rfl rfl hv1 (by rw [List.length_map, hm]) Try.underlying25 ?_; go_frame)
      | ((with_reducible change wpList _ _ _ (Oper.mk (some 17) _ _ _ _ _ :: _) _ _); refine kGtrI _ _ _ _ .i64 (m : Int) 100 false rfl rfl rfl rfl hm1 ?_; go_frame)
      | ((with_reducible change wpList _ _ _ (Oper.mk (some 20) _ _ _ _ _ :: _) _ _); refine kLenN _ _ _ u _ N rfl rfl rfl hU1 (hvs1.trans hN) Try.underlying34 ?_; go_frame)
      | ((with_reducible change wpList _ _ _ (Oper.mk (some 21) _ _ _ _ _ :: _) _ _); refine kGtrI _ _ _ _ .i64 (N : Int) 9 true rfl rfl rfl rfl hn1 ?_; go_frame))
    go_ret
    exact ⟨rfl, hB1⟩
set_option maxRecDepth 100000 in
set_option maxHeartbeats 8000000 in
theorem PieceWrites_in {l : List UInt8} {v u : Value} {n : Nat} {Ls : List (List UInt8)} (hn : n < 18446744073709551616) (w : World) (hv : IsVals w v (l.map VB)) (hu : AreLists w u Ls) (h1 : l.length ≤ 100) (h2 : Ls.length ≤ 9) : Calls Try.prog 4 #[v, .int .u64 (n : Int), u] w (SizesPost w) := by
  obtain ⟨i, hi, hz, hs1, hby⟩ := b8Info
  obtain ⟨m, hm⟩ : ∃ m, l.length = m := ⟨_, rfl⟩
  obtain ⟨N, hN⟩ : ∃ N, Ls.length = N := ⟨_, rfl⟩
  have hm1 : decide ((m : Int) > 100) = false := by simp; omega
  have hn1 : decide ((N : Int) > 9) = false := by simp; omega
  have hcl := countL_le n
  go_enter Try.func4, Try.ntmps4
  go_wp2_with (first
    | (go_at_call 9; refine (pieceAlive_any _).mono ?_; rintro e w1 ⟨rfl, hB1⟩; have hsz1 := hB1.size; have hv1 := hv.below hB1; have hu1 := hu.below hB1; obtain ⟨vs1, hvs1, hU1⟩ := hu1.len; go_frame)
    | ((with_reducible change wpList _ _ _ (Oper.mk (some 16) _ _ _ _ _ :: _) _ _); refine kLenN _ _ _ v _ m rfl rfl rfl hv1 (by rw [List.length_map, hm]) Try.underlying25 ?_; go_frame)
    | ((with_reducible change wpList _ _ _ (Oper.mk (some 17) _ _ _ _ _ :: _) _ _); refine kGtrI _ _ _ _ .i64 (m : Int) 100 false rfl rfl rfl rfl hm1 ?_; go_frame)
    | ((with_reducible change wpList _ _ _ (Oper.mk (some 20) _ _ _ _ _ :: _) _ _); refine kLenN _ _ _ u _ N rfl rfl rfl hU1 (hvs1.trans hN) Try.underlying34 ?_; go_frame)
    | ((with_reducible change wpList _ _ _ (Oper.mk (some 21) _ _ _ _ _ :: _) _ _); refine kGtrI _ _ _ _ .i64 (N : Int) 9 false rfl rfl rfl rfl hn1 ?_; go_frame)
    | ((with_reducible change wpList _ _ _ (Oper.mk (some 24) _ _ _ _ _ :: _) _ _); refine kToString _ _ _ _ v l rfl rfl rfl hv1 Try.underlying25 Try.underlying5 Try.underlying9 ?_; go_frame)
    | ((with_reducible change wpList _ _ _ (Oper.mk (some 25) _ _ _ _ _ :: _) _ _); refine kBuildSlice0 _ _ rfl rfl Try.underlying25 i hi ?_; intro w2 hR2 hz2 hB2; clear hz2; have hO2 : OwnB w2 w1.heap.size _ [] := own_empty (Nat.le_refl _) hR2; clear hR2; have hv2 := hv1.below hB2; have hsz2 := hB2.size; go_frame)
    | ((with_reducible change wpList _ _ _ (Oper.mk (some 27) _ _ _ _ _ :: _) _ _); refine kAppB _ _ rfl rfl w1.heap.size _ _ [] l hO2 hv2 rfl rfl (by simp; omega) hsz2 ?_; intro v3 w3 hO3 hB3; rw [List.nil_append] at hO3; have hB4 := hB2.trans hB3; have hsz4 := hB4.size; clear hO2 hB2 hB3 hv2 hsz2; go_frame)
    | (go_at_call 17; refine (jCount_any n hn _).mono ?_; rintro e w5 ⟨v5, rfl, hO5, hB5⟩; have hO6 := hO3.below hB5; have hB6 := hB4.trans (hB5.mono hsz4); have hsz6 := hB6.size; clear hO3 hB4 hB5 hsz4; go_frame)
    | ((with_reducible change wpList _ _ _ (Oper.mk (some 30) _ _ _ _ _ :: _) _ _); refine kAppB _ _ rfl rfl w1.heap.size _ _ l (countL n) hO6 hO5.vals rfl rfl (by omega) hsz6 ?_; intro v7 w7 hO7 hB7; have hO8 := own_less hsz1 hO7; have hB8 := hB1.trans ((hB6.trans hB7).mono hsz1); have hu8 := hu.below hB8; obtain ⟨vs8, hvs8, hU8⟩ := hu8.len; clear hO5 hO6 hO7 hB6 hB7 hB1 hsz6 hv1 hu1 hU1 hvs1; go_frame)
    | ((with_reducible change wpList _ _ _ (Oper.mk (some 32) _ _ _ _ _ :: _) _ _); refine kLenN _ _ _ u _ N rfl rfl rfl hU8 (hvs8.trans hN) Try.underlying34 ?_; clear hU8 hvs8 hu8; go_frame))
  go_loopw [33, 8] (fun i t wr => ∃ k : Nat, k ≤ N ∧ i = .int .i64 k ∧ OwnB wr w.heap.size t (l ++ countL n ++ textsL (Ls.take k)) ∧ Below w.heap.size w wr ∧ ∀ L ∈ Ls.take k, L.length ≤ 300) (fun i _ _ => N - (intOf i).toNat)
  case atStart => exact ⟨0, by omega, rfl, by simpa [textsL] using hO8, hB8, fun L h => by simp at h⟩
  case round =>
    obtain ⟨k, hk, rfl, hO, hB, hall⟩ := hrel
    clear hO8 hB8 hsz1
    by_cases hlt : k < N
    · have hd : decide ((k : Int) < (N : Int)) = true := by simp; omega
      have hkl : k < Ls.length := by omega
      obtain ⟨vs, x, hvs, hV0, hxk, hX0⟩ := hu.at hkl
      have hV := hV0.below hB
      have hX := hX0.below hB
      have hsz := hB.size
      have hTk := textsL_take Ls k hkl
      have hTl : (textsL (Ls.take k)).length ≤ 10000 := by have := textsL_le (Ls.take k) 300 hall; rw [List.length_take] at this; omega
      have hallS : Ls[k].length ≤ 300 → ∀ L ∈ Ls.take (k + 1), L.length ≤ 300 := fun hx L hL => by
        rw [List.take_succ_eq_append_getElem hkl, List.mem_append] at hL
        rcases hL with hL | hL
        · exact hall L hL
        · simp at hL; rw [hL]; exact hx
      obtain ⟨X, hXe⟩ : ∃ X, Ls[k] = X := ⟨_, rfl⟩
      rw [hXe] at hX hX0 hTk hallS
      obtain ⟨q, hqe⟩ : ∃ q, X.length = q := ⟨_, rfl⟩
      clear hV0
      by_cases hbig : 300 < q
      · have hg : decide ((q : Int) > 300) = true := by simp; omega
        clear hallS hTk hTl hbig
        go_wp2_with (first
          | ((with_reducible change wpList _ _ _ (Oper.mk (some 34) _ _ _ _ _ :: _) _ _); refine kLssI _ _ _ _ .i64 (k : Int) (N : Int) true rfl rfl rfl rfl hd ?_; go_frame)
          | ((with_reducible change wpList _ _ _ (Oper.mk (some 35) _ _ _ _ _ :: _) _ _); refine kIndexAddrV _ _ _ _ .i64 u vs (k : Int) k x rfl rfl rfl hV rfl Try.underlying34 info_bytesP rfl hxk ?_; intro b hb; go_frame)
          | ((with_reducible change wpList _ _ _ (Oper.mk (some 36) _ _ _ _ _ :: _) _ _); refine kLoadCell _ _ b x _ rfl rfl rfl hb Try.underlying25 rfl ?_; clear hb hV; go_frame)
          | ((with_reducible change wpList _ _ _ (Oper.mk (some 38) _ _ _ _ _ :: _) _ _); refine kLenN _ _ _ x _ q rfl rfl rfl hX (by rw [List.length_map, hqe]) Try.underlying25 ?_; go_frame)
          | ((with_reducible change wpList _ _ _ (Oper.mk (some 39) _ _ _ _ _ :: _) _ _); refine kGtrI _ _ _ _ .i64 (q : Int) 300 true rfl rfl rfl rfl hg ?_; go_frame))
        go_ret
        exact ⟨rfl, hB⟩
      · have hg : decide ((q : Int) > 300) = false := by simp; omega
        have htl := textL_le (x := X) (m := 300) (by omega)
        go_wp2_with (first
          | ((with_reducible change wpList _ _ _ (Oper.mk (some 34) _ _ _ _ _ :: _) _ _); refine kLssI _ _ _ _ .i64 (k : Int) (N : Int) true rfl rfl rfl rfl hd ?_; go_frame)
          | ((with_reducible change wpList _ _ _ (Oper.mk (some 35) _ _ _ _ _ :: _) _ _); refine kIndexAddrV _ _ _ _ .i64 u vs (k : Int) k x rfl rfl rfl hV rfl Try.underlying34 info_bytesP rfl hxk ?_; intro b hb; go_frame)
          | ((with_reducible change wpList _ _ _ (Oper.mk (some 36) _ _ _ _ _ :: _) _ _); refine kLoadCell _ _ b x _ rfl rfl rfl hb Try.underlying25 rfl ?_; clear hb hV; go_frame)
          | ((with_reducible change wpList _ _ _ (Oper.mk (some 38) _ _ _ _ _ :: _) _ _); refine kLenN _ _ _ x _ q rfl rfl rfl hX (by rw [List.length_map, hqe]) Try.underlying25 ?_; go_frame)
          | ((with_reducible change wpList _ _ _ (Oper.mk (some 39) _ _ _ _ _ :: _) _ _); refine kGtrI _ _ _ _ .i64 (q : Int) 300 false rfl rfl rfl rfl hg ?_; go_frame)
          | (go_at_call 18; refine (jText_any _ hX (by omega)).mono ?_; rintro e w2 ⟨v2, rfl, hO2, hB2⟩; have hO3 := hO.below hB2; have hsz2 := hB2.size; have hB3 := hB.trans (hB2.mono hsz); have hsz3 := hB3.size; clear hB2 hO hX hB; go_frame)
          | ((with_reducible change wpList _ _ _ (Oper.mk (some 43) _ _ _ _ _ :: _) _ _); refine kAppB _ _ rfl rfl w.heap.size _ _ (l ++ countL n ++ textsL (Ls.take k)) (textL X) hO3 hO2.vals rfl rfl (by simp only [List.length_append]; omega) hsz3 ?_; intro v4 w4 hO4 hB4; have hB5 := hB3.trans hB4; clear hO2 hO3 hB4 hB3; go_frame)
          | ((with_reducible change wpList _ _ _ (Oper.mk (some 44) _ _ _ _ _ :: _) _ _); refine kAddI _ _ _ _ (k : Int) 1 ((k + 1 : Nat) : Int) (by omega) rfl rfl rfl rfl ?_; go_frame))
        go_roundw
        case rel => exact ⟨k + 1, by omega, rfl, by rw [hTk, ← List.append_assoc]; exact hO4, hB5, hallS (by omega)⟩
        case measure => simp [intOf]; omega
    · have hd : decide ((k : Int) < (N : Int)) = false := by simp; omega
      have hT : Ls.take k = Ls := List.take_of_length_le (by omega)
      rw [hT] at hO hall
      have hV8 := hO.vals
      clear hT hO
      go_wp2_with (first
        | ((with_reducible change wpList _ _ _ (Oper.mk (some 34) _ _ _ _ _ :: _) _ _); refine kLssI _ _ _ _ .i64 (k : Int) (N : Int) false rfl rfl rfl rfl hd ?_; go_frame))
      go_loopw [11] (fun i ws => ∃ j : Nat, j ≤ 11 ∧ i = .int .i64 ((j : Int) - 1) ∧ IsVals ws u8 ((l ++ countL n ++ textsL Ls).map VB) ∧ Below w.heap.size w ws) (fun i _ => 11 - (intOf i + 1).toNat)
      case atStart => exact ⟨0, by omega, rfl, hV8, hB⟩
      case round =>
        obtain ⟨j, hj, rfl, hV9, hB9⟩ := hrel
        clear hV8 hB
        obtain ⟨z, hz9⟩ : ∃ z : Int, (j : Int) - 1 = z := ⟨_, rfl⟩
        rw [hz9]
        have hsz9 := hB9.size
        have hv9 := hv.below hB9
        have hu9 := hu.below hB9
        have hc8 := clampS_le z
        by_cases hle : z ≤ 9
        · have hd2 : decide (z ≤ 9) = true := by simp; omega
          go_wp2_with (first
            | ((with_reducible change wpList _ _ _ (Oper.mk (some 46) _ _ _ _ _ :: _) _ _); refine kLeqI _ _ _ _ .i64 z 9 true rfl rfl rfl rfl hd2 ?_; go_frame)
            | ((with_reducible change wpList _ _ _ (Oper.mk (some 49) _ _ _ _ _ :: _) _ _); refine kBuildSlice0 _ _ rfl rfl Try.underlying25 i hi ?_; intro q2 hR2 hz2 hB2; clear hz2; have hO2 : OwnB q2 wr.heap.size _ [] := own_empty (Nat.le_refl _) hR2; clear hR2; have hv2 := hv9.below hB2; have hsz2 := hB2.size; go_frame)
            | ((with_reducible change wpList _ _ _ (Oper.mk (some 51) _ _ _ _ _ :: _) _ _); refine kAppB _ _ rfl rfl wr.heap.size _ _ [] l hO2 hv2 rfl rfl (by simp; omega) hsz2 ?_; intro v3 q3 hO3 hB3; rw [List.nil_append] at hO3; have hB4 := hB2.trans hB3; have hsz4 := hB4.size; clear hO2 hB2 hB3 hv2 hsz2; go_frame)
            | (go_at_call 19; refine (jFixed_any n hn z _).mono ?_; rintro e q5 ⟨v5, rfl, hO5, hB5⟩; have hO6 := hO3.below hB5; have hB6 := hB4.trans (hB5.mono hsz4); have hsz6 := hB6.size; clear hO3 hB4 hB5 hsz4; go_frame)
            | ((with_reducible change wpList _ _ _ (Oper.mk (some 55) _ _ _ _ _ :: _) _ _); refine kAppB _ _ rfl rfl wr.heap.size _ _ l (fixedL n (clampS z)) hO6 hO5.vals rfl rfl (by rw [fixedL_len]; omega) hsz6 ?_; intro v7 q7 hO7 hB7; have hF7 := hO7.vals; have hB8 := hB6.trans hB7; have hV7 := hV9.below hB8; have hv7 := hv9.below hB8; have hB10 := hB9.trans (hB8.mono hsz9); have hsz10 := hB10.size; clear hO5 hO6 hO7 hB6 hB7 hB8 hsz6 hV9 hv9 hu9 hB9 hsz9; go_frame))
          refine region_mixD [(0, true), (1, true), (2, true), (5, true), (6, true), (3, false), (4, true), (7, true)] (fun w => IsVals w v7 ((l ++ fixedL n (clampS z)).map VB)) (by kernel_rfl) (by kernel_rfl) rfl ?_
          intro q8 hBd hsd
          have hF8 := hF7.below hBd
          have hV8 := hV7.below hBd
          have hv8 := hv7.below hBd
          have hB11 := hB10.trans (hBd.mono hsz10)
          have hsz11 := hB11.size
          clear hBd hsd hF7 hV7 hv7 hB10 hsz10
          simp only [List.map_cons, List.map_nil]
          dsimp only [List.filterMap, List.getElem?_cons_zero, List.getElem?_cons_succ]
          have hS := hF8
          refine dY _ hS (yMove _ (v) rfl rfl rfl) ?_; go_frame
          refine dY _ hS (yMove _ (.int .u64 (n : Int)) rfl rfl rfl) ?_; go_frame
          refine dY _ hS (yMove _ (.int .i64 z) rfl rfl rfl) ?_; go_frame
          refine dY _ hS (yMove _ (v7) rfl rfl rfl) ?_; go_frame
          refine dY _ hS (yStr _ _ _ _ v7 (l ++ fixedL n (clampS z)) rfl rfl rfl (fun _ h => h) Try.underlying25 Try.underlying5 Try.underlying9) ?_; go_frame
          refine dLoud ?_
          refine kCall3 16 _ _ _ _ _ _ _ rfl rfl (by kernel_rfl) rfl rfl rfl ?_
          refine (pcFixed_any n z _ hv8 (by omega)).mono ?_
          rintro e q9 ⟨v9, rfl, hO9, hB9⟩
          have hV9 := hV8.below hB9
          have hB12 := hB11.trans (hB9.mono hsz11)
          have hF9 := hF8.below hB9
          clear hV8 hB11 hsz11 hv8
          refine ⟨_, rfl, mixOn ⟨(fun w => IsVals w v7 ((l ++ fixedL n (clampS z)).map VB) ∧ IsVals w v9 ((l ++ fixedL n (clampS z)).map VB)), (fun _ h => h.1), (⟨hF9, hO9.vals⟩ : IsVals q9 v7 ((l ++ fixedL n (clampS z)).map VB) ∧ IsVals q9 v9 ((l ++ fixedL n (clampS z)).map VB)), ?_⟩⟩
          have hS2 := (⟨hF9, hO9.vals⟩ : IsVals q9 v7 ((l ++ fixedL n (clampS z)).map VB) ∧ IsVals q9 v9 ((l ++ fixedL n (clampS z)).map VB)); clear hS; have hS := hS2; clear hS2
          go_frame
          refine dY _ hS (yStr _ _ _ _ v9 (l ++ fixedL n (clampS z)) rfl rfl rfl (fun _ h => h.2) Try.underlying25 Try.underlying5 Try.underlying9) ?_; go_frame
          refine dY _ hS (yNeqStr _ _ _ _ (l ++ fixedL n (clampS z)) (l ++ fixedL n (clampS z)) false rfl rfl rfl rfl (by simp)) ?_; go_frame
          refine dDone ?_
          go_wp2_with (first
            | ((with_reducible change wpList _ _ _ (Oper.mk (some 48) _ _ _ _ _ :: _) _ _); refine kAddI _ _ _ _ z 1 (((j + 1 : Nat) : Int) - 1) (by omega) rfl rfl rfl rfl ?_; go_frame))
          go_roundw
          case rel => exact ⟨j + 1, by omega, rfl, hV9, hB12⟩
          case measure => simp [intOf]; omega
        · have hd2 : decide (z ≤ 9) = false := by simp; omega
          go_wp2_with (first
            | ((with_reducible change wpList _ _ _ (Oper.mk (some 46) _ _ _ _ _ :: _) _ _); refine kLeqI _ _ _ _ .i64 z 9 false rfl rfl rfl rfl hd2 ?_; go_frame))
          refine region_mixD [(0, true), (1, true), (3, true), (6, true), (7, true), (2, false), (4, false), (5, true), (8, true), (9, true), (10, true), (11, true), (12, true), (13, true), (14, true), (15, true)] (fun w => IsVals w u8 ((l ++ countL n ++ textsL Ls).map VB) ∧ IsVals w v (l.map VB)) (by kernel_rfl) (by kernel_rfl) rfl ?_
          intro q1 hBd hsd
          have hV1 := hV9.below hBd
          have hv1 := hv9.below hBd
          have hu1 := hu9.below hBd
          have hB1 := hB9.trans (hBd.mono hsz9)
          have hsz1 := hB1.size
          clear hBd hsd hV9 hv9 hu9 hB9 hsz9
          simp only [List.map_cons, List.map_nil]
          dsimp only [List.filterMap, List.getElem?_cons_zero, List.getElem?_cons_succ]
          have hS := (⟨hV1, hv1⟩ : IsVals q1 u8 ((l ++ countL n ++ textsL Ls).map VB) ∧ IsVals q1 v (l.map VB))
          refine dY _ hS (yMove _ (v) rfl rfl rfl) ?_; go_frame
          refine dY _ hS (yMove _ (.int .u64 (n : Int)) rfl rfl rfl) ?_; go_frame
          refine dY _ hS (yMove _ (u) rfl rfl rfl) ?_; go_frame
          refine dY _ hS (yMove _ (u8) rfl rfl rfl) ?_; go_frame
          refine dY _ hS (yStr _ _ _ _ u8 (l ++ countL n ++ textsL Ls) rfl rfl rfl (fun _ h => h.1) Try.underlying25 Try.underlying5 Try.underlying9) ?_; go_frame
          refine dLoud ?_
          refine kCall2 15 _ _ _ _ _ rfl rfl (by kernel_rfl) rfl rfl ?_
          refine (pcCount_any n _ hv1 (by omega)).mono ?_
          rintro e q2 ⟨v2, rfl, hO2, hB2⟩
          have hV2 := hV1.below hB2
          have hv2 := hv1.below hB2
          have hu2 := hu1.below hB2
          have hB3 := hB1.trans (hB2.mono hsz1)
          have hsz3 := hB3.size
          clear hV1 hv1 hu1 hB1 hB2 hsz1
          refine ⟨_, rfl, mixOn ⟨(fun w => IsVals w u8 ((l ++ countL n ++ textsL Ls).map VB) ∧ IsVals w v (l.map VB)), (fun _ h => h), (⟨hV2, hv2⟩ : IsVals q2 u8 ((l ++ countL n ++ textsL Ls).map VB) ∧ IsVals q2 v (l.map VB)), ?_⟩⟩
          have hS2 := (⟨hV2, hv2⟩ : IsVals q2 u8 ((l ++ countL n ++ textsL Ls).map VB) ∧ IsVals q2 v (l.map VB)); clear hS; have hS := hS2; clear hS2
          go_frame
          refine dLoud ?_
          refine kCall2 20 _ _ _ _ _ rfl rfl (by kernel_rfl) rfl rfl ?_
          refine (pcText_any _ hO2.vals hu2 (by rw [List.length_append]; omega) (by omega) (fun L hL => Nat.le_trans (hall L hL) (by decide))).mono ?_
          rintro e q4 ⟨v4, rfl, hO4, hB4⟩
          have hV4 := hV2.below hB4
          have hv4 := hv2.below hB4
          have hB5 := hB3.trans (hB4.mono hsz3)
          clear hV2 hv2 hu2 hB3 hB4 hsz3
          refine ⟨_, rfl, mixOn ⟨(fun w => (IsVals w u8 ((l ++ countL n ++ textsL Ls).map VB) ∧ IsVals w v (l.map VB)) ∧ IsVals w v4 ((l ++ countL n ++ textsL Ls).map VB)), (fun _ h => h.1), (⟨⟨hV4, hv4⟩, hO4.vals⟩ : (IsVals q4 u8 ((l ++ countL n ++ textsL Ls).map VB) ∧ IsVals q4 v (l.map VB)) ∧ IsVals q4 v4 ((l ++ countL n ++ textsL Ls).map VB)), ?_⟩⟩
          have hS2 := (⟨⟨hV4, hv4⟩, hO4.vals⟩ : (IsVals q4 u8 ((l ++ countL n ++ textsL Ls).map VB) ∧ IsVals q4 v (l.map VB)) ∧ IsVals q4 v4 ((l ++ countL n ++ textsL Ls).map VB)); clear hS; have hS := hS2; clear hS2
          go_frame
          refine dY _ hS (yStr _ _ _ _ v4 (l ++ countL n ++ textsL Ls) rfl rfl rfl (fun _ h => h.2) Try.underlying25 Try.underlying5 Try.underlying9) ?_; go_frame
          refine dY _ hS (yEqlStr _ _ _ _ (l ++ countL n ++ textsL Ls) (l ++ countL n ++ textsL Ls) true rfl rfl rfl rfl (by simp)) ?_; go_frame
          refine dY _ hS (yMove _ (.bool true) rfl rfl rfl) ?_; go_frame
          refine dY _ hS (yMove _ (v) rfl rfl rfl) ?_; go_frame
          refine dY _ hS (yStr _ _ _ _ v l rfl rfl rfl (fun _ h => h.1.2) Try.underlying25 Try.underlying5 Try.underlying9) ?_; go_frame
          refine dY _ hS (yMove _ (textV l) rfl rfl rfl) ?_; go_frame
          refine dY _ hS (yEqlStr _ _ _ _ l l true rfl rfl rfl rfl (by simp)) ?_; go_frame
          refine dY _ hS (yPick _ _ _ true (.bool true) rfl rfl rfl rfl) ?_; go_frame
          refine dY _ hS (yAssign _ (.bool true) rfl rfl rfl) ?_; go_frame
          refine dDone ?_
          go_wp2
          go_ret
          exact ⟨rfl, hB5⟩
theorem PieceWrites_any {l : List UInt8} {v u : Value} {n : Nat} {Ls : List (List UInt8)} (hn : n < 18446744073709551616) (w : World) (hv : IsVals w v (l.map VB)) (hu : AreLists w u Ls) : Calls Try.prog 4 #[v, .int .u64 (n : Int), u] w (SizesPost w) := by
  by_cases h : 100 < l.length ∨ 9 < Ls.length
  · exact PieceWrites_out w hv hu h
  · exact PieceWrites_in hn w hv hu (by omega) (by omega)
end Go.Proofs.Ytalcopfhofijlaa
