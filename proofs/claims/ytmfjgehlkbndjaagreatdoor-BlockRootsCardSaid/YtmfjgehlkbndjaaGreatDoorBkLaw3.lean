/-
  Layer 11: the walk of BlockRoots.
-/
import Derived.Test.YtmfjgehlkbndjaaGreatDoorBkC
namespace Go.Proofs.YtmfjgehlkbndjaaGreatDoor
open Go Go.RowKit Go.Shelf

set_option maxRecDepth 100000 in
set_option maxHeartbeats 8000000 in
theorem blockRoots_walk {l : List (List UInt8)} {v : Value} (W0 : World) (hK : Keys W0) (hv : HashesOf W0 v l) (h32 : ∀ x ∈ l, x.length = 32) : Calls Tryz.prog 5 #[v] W0 (BoolPost W0 true) := by
  obtain ⟨ih0, hih0⟩ : ∃ i, Tryz.prog.info? 24 = some i := by
    obtain ⟨j, z, e1, _⟩ := rowInfo hashInfo0; exact ⟨j, e1⟩
  obtain ⟨n, hn⟩ : ∃ n, l.length = n := ⟨_, rfl⟩
  by_cases h1 : 60 < n
  · have d1 : decide ((n : Int) > 60) = true := by simp; omega
    have hB00 := Below.refl W0.heap.size W0
    go_enter Tryz.func5, Tryz.ntmps5
    go_wp2_with (first
      | (go_at_call 12; refine (blockAlive_any _ (hK.below hB00)).mono ?_; rintro e y1 ⟨rfl, hBq⟩; have hv_1 := hv.below hBq; have hB_2 := hB00.trans (hBq.mono hB00.size); clear hv hB00 hBq; go_frame)
      | ((with_reducible change wpList _ _ _ (Oper.mk (some 10) _ _ _ _ _ :: _) _ _); refine kY (yNotC _ _ true rfl rfl rfl) ?_; go_frame)
      | ((with_reducible change wpList _ _ _ (Oper.mk (some 12) _ _ _ _ _ :: _) _ _); refine kY (yLenHs _ v l n (fun _ e => by cases e; exact hv_1) hn rfl rfl rfl) ?_; go_frame)
      | ((with_reducible change wpList _ _ _ (Oper.mk (some 13) _ _ _ _ _ :: _) _ _); refine kY (yGtrI _ _ _ _ .i64 (n : Int) 60 true rfl rfl rfl rfl d1) ?_; go_frame))
    (try simp only [Exit.inBlock, Exit.then])
    refine retBT rfl rfl ?_
    exact ⟨rfl, hB_2⟩
  · have d1 : decide ((n : Int) > 60) = false := by simp; omega
    have hle : l.length ≤ 1000 := by omega
    clear h1
    have hB00 := Below.refl W0.heap.size W0
    go_enter Tryz.func5, Tryz.ntmps5
    go_wp2_with (first
      | (go_at_call 12; refine (blockAlive_any _ (hK.below hB00)).mono ?_; rintro e y1 ⟨rfl, hBq⟩; have hv_1 := hv.below hBq; have hB_2 := hB00.trans (hBq.mono hB00.size); clear hv hB00 hBq; go_frame)
      | ((with_reducible change wpList _ _ _ (Oper.mk (some 10) _ _ _ _ _ :: _) _ _); refine kY (yNotC _ _ true rfl rfl rfl) ?_; go_frame)
      | ((with_reducible change wpList _ _ _ (Oper.mk (some 12) _ _ _ _ _ :: _) _ _); refine kY (yLenHs _ v l n (fun _ e => by cases e; exact hv_1) hn rfl rfl rfl) ?_; go_frame)
      | ((with_reducible change wpList _ _ _ (Oper.mk (some 13) _ _ _ _ _ :: _) _ _); refine kY (yGtrI _ _ _ _ .i64 (n : Int) 60 false rfl rfl rfl rfl d1) ?_; go_frame)
      | ((with_reducible change wpList _ _ _ (Oper.mk (some 14) _ _ _ _ _ :: _) _ _); refine kBuildSlice0 _ _ rfl rfl Tryz.underlying46 ih0 hih0 ?_; intro y2 hRe hze hA; clear hze; have hO14 : OwnHs y2 y1.heap.size (.slice (some ⟨y1.heap.size, 0, none⟩) 0 0) [] := ownR_empty (Nat.le_refl _) hRe; clear hRe; go_frame)
      | ((with_reducible change wpList _ _ _ (Oper.mk (some 16) _ _ _ _ _ :: _) _ _); refine kAppHs _ _ rfl rfl y1.heap.size _ _ [] l rfl hO14 rfl (hv_1.below hA) (by simp; omega) hA.size ?_; intro u16 y3 hO16 hA2 hgr; have hBq := hA.trans hA2; have hO16 : OwnHs y3 y1.heap.size u16 l := hO16; clear hO14 hA hA2 hgr; have hv_3 := hv_1.below hBq; have hB_4 := hB_2.trans (hBq.mono hB_2.size); clear hv_1 hB_2 hBq; go_frame)
      | (go_at_call 11; refine (blRoot_any (l := l) _ hO16.of h32 hle (hK.below hB_4)).mono ?_; rintro e y4 ⟨rfl, hBq⟩; have hv_5 := hv_3.below hBq; have hO16_6 := hO16.below hBq; have hB_7 := hB_4.trans (hBq.mono hB_4.size); clear hv_3 hO16 hB_4 hBq; go_frame)
      | ((with_reducible change wpList _ _ _ (Oper.mk (some 4) _ _ _ _ _ :: _) _ _); refine kAllocL _ _ rfl rfl zero_Hash ?_; intro y5 hV4 hzq hBq; clear hzq; have hP := hBq; clear hBq; go_frame)
      | ((with_reducible change wpList _ _ _ (Oper.mk none (Op.store _ (Operand.tmp 4) _) _ _ _ _ :: _) _ _); refine kStoreHash _ _ _ (rootL l).1 _ hV4 (by first | exact tab_size _ _ | rfl) rfl rfl rfl rfl ?_; intro y6 hT4 hWq; have hPn := hP.trans (hWq.below (Nat.le_refl _)); clear hP; have hP := hPn; clear hPn; clear hWq hV4; have hv_8 := hv_5.below hP; have hO16_9 := hO16_6.below hP; have hB_10 := hB_7.trans (hP.mono hB_7.size); clear hv_5 hO16_6 hB_7 hP; go_frame)
      | (go_at_call 18; refine (xRoot_any (l := l) _ hv_8 h32 hle).mono ?_; rintro e y7 ⟨rfl, hBq⟩; have hv_11 := hv_8.below hBq; have hO16_12 := hO16_9.below hBq; have hT4_13 := hT4.below hBq hT4.lt; have hB_14 := hB_10.trans (hBq.mono hB_10.size); clear hv_8 hO16_9 hT4 hB_10 hBq; go_frame)
      | ((with_reducible change wpList _ _ _ (Oper.mk (some 6) _ _ _ _ _ :: _) _ _); refine kAllocL _ _ rfl rfl zero_Hash ?_; intro y8 hV6 hzq hBq; clear hzq; have hP := hBq; clear hBq; go_frame)
      | ((with_reducible change wpList _ _ _ (Oper.mk none (Op.store _ (Operand.tmp 6) _) _ _ _ _ :: _) _ _); refine kStoreHash _ _ _ (rootL l).1 _ hV6 (by first | exact tab_size _ _ | rfl) rfl rfl rfl rfl ?_; intro y9 hT6 hWq; have hPn := hP.trans (hWq.below (Nat.le_refl _)); clear hP; have hP := hPn; clear hPn; clear hWq hV6; have hv_15 := hv_11.below hP; have hO16_16 := hO16_12.below hP; have hT4_17 := hT4_13.below hP hT4_13.lt; have hB_18 := hB_14.trans (hP.mono hB_14.size); clear hv_11 hO16_12 hT4_13 hB_14 hP; go_frame)
      | ((with_reducible change wpList _ _ _ (Oper.mk (some 27) _ _ _ _ _ :: _) _ _); refine kY (yLoadRowC Tryz.underlying24 rfl _ _ (tab 32 fun p => VB (at8 ((rootL l).1) p)) info_HashT (fun _ e => by cases e; exact hT4_17) rfl rfl rfl) ?_; go_frame)
      | ((with_reducible change wpList _ _ _ (Oper.mk (some 28) _ _ _ _ _ :: _) _ _); refine kY (yLoadRowC Tryz.underlying24 rfl _ _ (tab 32 fun p => VB (at8 ((rootL l).1) p)) info_HashT (fun _ e => by cases e; exact hT6) rfl rfl rfl) ?_; go_frame)
      | ((with_reducible change wpList _ _ _ (Oper.mk (some 29) _ _ _ _ _ :: _) _ _); refine kY (yNeqHash _ _ _ (rootL l).1 (rootL l).1 false ((rootL_len h32)) ((rootL_len h32)) rfl rfl rfl rfl (by simp)) ?_; go_frame)
      | ((with_reducible change wpList _ _ _ (Oper.mk (some 33) _ _ _ _ _ :: _) _ _); refine kY (yNeqBoolT _ _ _ _ (rootL l).2 (rootL l).2 false rfl rfl rfl rfl Tryz.underlying4 (by simp)) ?_; go_frame)
      | ((with_reducible change wpList _ _ _ (Oper.mk (some 36) _ _ _ _ _ :: _) _ _); refine kY (yLenHs _ v l n (fun _ e => by cases e; exact hv_15) hn rfl rfl rfl) ?_; go_frame))
    go_loopw [37] (fun x wr => ∃ k : Nat, k ≤ n ∧ x = .int .i64 (k : Int) ∧ Below y9.heap.size y9 wr) (fun x _ => n - (intOf x).toNat)
    case atStart => exact ⟨0, by omega, rfl, Below.refl _ _⟩
    case round =>
      obtain ⟨k, hk, rfl, hB⟩ := hrel
      by_cases hlt : k < n
      · have hd : decide ((k : Int) < (n : Int)) = true := by simp; omega
        obtain ⟨x, hx⟩ : ∃ x, l[k]? = some x := ⟨_, List.getElem?_eq_getElem (by omega)⟩
        have hx32 := h32 x (List.mem_of_getElem? hx)
        obtain ⟨p, hp, hpc⟩ := hs_addr (hO16_16.of.below hB) hx
        obtain ⟨q, hq, hqc⟩ := hs_addr (hv_15.below hB) hx
        clear hx
        go_wp2_with (first
          | ((with_reducible change wpList _ _ _ (Oper.mk (some 38) _ _ _ _ _ :: _) _ _); refine kLssI _ _ _ _ .i64 (k : Int) (n : Int) true rfl rfl rfl rfl hd ?_; go_frame))
        refine region_mixD [(0, true), (1, true), (2, true), (3, true), (4, true), (5, true), (6, true), (7, true), (8, true)] (fun w => (∀ (j : Nat) (u : Value), (hashR x)[j]? = some u → w.cell? (p.add j) = some u) ∧ ∀ (j : Nat) (u : Value), (hashR x)[j]? = some u → w.cell? (q.add j) = some u) (by kernel_rfl) (by kernel_rfl) rfl ?_
        intro z hBd hsd
        clear hsd
        have hS : (∀ (j : Nat) (u : Value), (hashR x)[j]? = some u → z.cell? (p.add j) = some u) ∧ ∀ (j : Nat) (u : Value), (hashR x)[j]? = some u → z.cell? (q.add j) = some u := ⟨cells_below hpc hBd, cells_below hqc hBd⟩
        have hB2 := hB.trans (hBd.mono hB.size)
        clear hpc hqc hB hBd
        simp only [List.map_cons, List.map_nil]
        dsimp only [List.filterMap, List.getElem?_cons_zero, List.getElem?_cons_succ]
        refine dY _ hS (yMove _ u16 rfl rfl rfl) ?_; go_frame
        refine dY _ hS (yMove _ (.int .i64 (k : Int)) rfl rfl rfl) ?_; go_frame
        refine dY _ hS (yIndexAt _ _ _ _ k p hp rfl rfl rfl rfl) ?_; go_frame
        refine dY _ hS (yLoadHsAt _ p x (fun _ h => h.1) rfl rfl rfl) ?_; go_frame
        refine dY _ hS (yMove _ v rfl rfl rfl) ?_; go_frame
        refine dY _ hS (yMove _ (.int .i64 (k : Int)) rfl rfl rfl) ?_; go_frame
        refine dY _ hS (yIndexAt _ _ _ _ k q hq rfl rfl rfl rfl) ?_; go_frame
        refine dY _ hS (yLoadHsAt _ q x (fun _ h => h.2) rfl rfl rfl) ?_; go_frame
        refine dY _ hS (yNeqHash _ _ _ x x false hx32 hx32 rfl rfl rfl rfl (by simp)) ?_; go_frame
        refine dDone ?_
        go_wp2_with (first
          | ((with_reducible change wpList _ _ _ (Oper.mk (some 49) _ _ _ _ _ :: _) _ _); refine kAddI _ _ _ _ (k : Int) 1 ((k + 1 : Nat) : Int) (by omega) rfl rfl rfl rfl ?_; go_frame))
        go_roundw
        case rel => exact ⟨k + 1, by omega, rfl, hB2⟩
        case measure => simp [intOf]; omega
      · have hd : decide ((k : Int) < (n : Int)) = false := by simp; omega
        go_wp2_with (first
          | ((with_reducible change wpList _ _ _ (Oper.mk (some 38) _ _ _ _ _ :: _) _ _); refine kLssI _ _ _ _ .i64 (k : Int) (n : Int) false rfl rfl rfl rfl hd ?_; go_frame))
        go_ret
        exact ⟨rfl, hB_18.trans (hB.mono hB_18.size)⟩
end Go.Proofs.YtmfjgehlkbndjaaGreatDoor
