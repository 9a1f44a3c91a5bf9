/-
  Layer 11: the walk of BlockPairs.
-/
import Derived.Test.YtmfjgehlkbndjaaDoorBkPair
import Derived.Test.YtmfjgehlkbndjaaDoorBkTree
namespace Go.Proofs.YtmfjgehlkbndjaaDoor
open Go Go.RowKit Go.Shelf

set_option maxRecDepth 100000 in
set_option maxHeartbeats 8000000 in
theorem blockPairs_walk {l : List (List UInt8)} {v : Value} (W0 : World) (hK : Keys W0) (hv : HashesOf W0 v l) (h32 : ∀ x ∈ l, x.length = 32) : Calls Tryd.prog 3 #[v] W0 (BoolPost W0 true) := by
  obtain ⟨ih0, hih0⟩ : ∃ i, Tryd.prog.info? 25 = some i := by
    obtain ⟨j, z, e1, _⟩ := rowInfo hashInfo0; exact ⟨j, e1⟩
  obtain ⟨n, hn⟩ : ∃ n, l.length = n := ⟨_, rfl⟩
  by_cases h1 : n < 2
  · have d1 : decide ((n : Int) < 2) = true := by simp; omega
    have hB00 := Below.refl W0.heap.size W0
    go_enter Tryd.func3, Tryd.ntmps3
    go_wp2_with (first
      | (go_at_call 4; refine (blockAlive_any _ (hK.below hB00)).mono ?_; rintro e y1 ⟨rfl, hBq⟩; have hv_1 := hv.below hBq; have hB_2 := hB00.trans (hBq.mono hB00.size); clear hv hB00 hBq; go_frame)
      | ((with_reducible change wpList _ _ _ (Oper.mk (some 15) _ _ _ _ _ :: _) _ _); refine kY (yNotC _ _ true rfl rfl rfl) ?_; go_frame)
      | ((with_reducible change wpList _ _ _ (Oper.mk (some 17) _ _ _ _ _ :: _) _ _); refine kY (yLenHs _ v l n (fun _ e => by cases e; exact hv_1) hn rfl rfl rfl) ?_; go_frame)
      | ((with_reducible change wpList _ _ _ (Oper.mk (some 18) _ _ _ _ _ :: _) _ _); refine kY (yLssI _ _ _ _ .i64 (n : Int) 2 true rfl rfl rfl rfl d1) ?_; go_frame))
    (try simp only [Exit.inBlock, Exit.then])
    refine retBT rfl rfl ?_
    exact ⟨rfl, hB_2⟩
  have d1 : decide ((n : Int) < 2) = false := by simp; omega
  by_cases h2 : 60 < n
  · have d2 : decide ((n : Int) > 60) = true := by simp; omega
    have hB00 := Below.refl W0.heap.size W0
    go_enter Tryd.func3, Tryd.ntmps3
    go_wp2_with (first
      | (go_at_call 4; refine (blockAlive_any _ (hK.below hB00)).mono ?_; rintro e y1 ⟨rfl, hBq⟩; have hv_1 := hv.below hBq; have hB_2 := hB00.trans (hBq.mono hB00.size); clear hv hB00 hBq; go_frame)
      | ((with_reducible change wpList _ _ _ (Oper.mk (some 15) _ _ _ _ _ :: _) _ _); refine kY (yNotC _ _ true rfl rfl rfl) ?_; go_frame)
      | ((with_reducible change wpList _ _ _ (Oper.mk (some 17) _ _ _ _ _ :: _) _ _); refine kY (yLenHs _ v l n (fun _ e => by cases e; exact hv_1) hn rfl rfl rfl) ?_; go_frame)
      | ((with_reducible change wpList _ _ _ (Oper.mk (some 18) _ _ _ _ _ :: _) _ _); refine kY (yLssI _ _ _ _ .i64 (n : Int) 2 false rfl rfl rfl rfl d1) ?_; go_frame)
      | ((with_reducible change wpList _ _ _ (Oper.mk (some 21) _ _ _ _ _ :: _) _ _); refine kY (yLenHs _ v l n (fun _ e => by cases e; exact hv_1) hn rfl rfl rfl) ?_; go_frame)
      | ((with_reducible change wpList _ _ _ (Oper.mk (some 22) _ _ _ _ _ :: _) _ _); refine kY (yGtrI _ _ _ _ .i64 (n : Int) 60 true rfl rfl rfl rfl d2) ?_; go_frame))
    (try simp only [Exit.inBlock, Exit.then])
    refine retBT rfl rfl ?_
    exact ⟨rfl, hB_2⟩
  have d2 : decide ((n : Int) > 60) = false := by simp; omega
  have hle : l.length ≤ 1000 := by omega
  have hst := rootL_step (l := l) (by omega)
  have hB00 := Below.refl W0.heap.size W0
  go_enter Tryd.func3, Tryd.ntmps3
  go_wp2_with (first
    | (go_at_call 4; refine (blockAlive_any _ (hK.below hB00)).mono ?_; rintro e y1 ⟨rfl, hBq⟩; have hv_1 := hv.below hBq; have hB_2 := hB00.trans (hBq.mono hB00.size); clear hv hB00 hBq; go_frame)
    | ((with_reducible change wpList _ _ _ (Oper.mk (some 15) _ _ _ _ _ :: _) _ _); refine kY (yNotC _ _ true rfl rfl rfl) ?_; go_frame)
    | ((with_reducible change wpList _ _ _ (Oper.mk (some 17) _ _ _ _ _ :: _) _ _); refine kY (yLenHs _ v l n (fun _ e => by cases e; exact hv_1) hn rfl rfl rfl) ?_; go_frame)
    | ((with_reducible change wpList _ _ _ (Oper.mk (some 18) _ _ _ _ _ :: _) _ _); refine kY (yLssI _ _ _ _ .i64 (n : Int) 2 false rfl rfl rfl rfl d1) ?_; go_frame)
    | ((with_reducible change wpList _ _ _ (Oper.mk (some 21) _ _ _ _ _ :: _) _ _); refine kY (yLenHs _ v l n (fun _ e => by cases e; exact hv_1) hn rfl rfl rfl) ?_; go_frame)
    | ((with_reducible change wpList _ _ _ (Oper.mk (some 22) _ _ _ _ _ :: _) _ _); refine kY (yGtrI _ _ _ _ .i64 (n : Int) 60 false rfl rfl rfl rfl d2) ?_; go_frame)
    | ((with_reducible change wpList _ _ _ (Oper.mk (some 24) _ _ _ _ _ :: _) _ _); refine kBuildSlice0 _ _ rfl rfl Tryd.underlying22 ih0 hih0 ?_; intro y2 hRe hze hA; clear hze; have hO24 : OwnHs y2 y1.heap.size (.slice (some ⟨y1.heap.size, 0, none⟩) 0 0) [] := ownR_empty (Nat.le_refl _) hRe; clear hRe; go_frame))
  have hvb := (hv_1 : HashesOf y1 v l)
  have hB0 := hB_2
  clear d1 d2
  go_loopw [4, 3] (fun x y wr => ∃ (i : Nat) (X : List (List UInt8)), x = .int .i64 (i : Int) ∧ i ≤ n + 1 ∧ X.length ≤ i ∧ OwnHs wr y1.heap.size y X ∧ (joinL l).1 = X ++ (joinL (l.drop i)).1 ∧ Below y1.heap.size y1 wr) (fun x _ _ => n + 1 - (intOf x).toNat)
  case atStart => exact ⟨0, [], rfl, by omega, Nat.le_refl _, hO24, by rw [List.drop_zero]; rfl, hA⟩
  case round =>
    clear hO24 hA
    obtain ⟨i, X, rfl, hi, hX, hO, hj, hB⟩ := hrel
    have hV := hvb.below hB
    by_cases hlt : i < n
    · have hd : decide ((i : Int) < (n : Int)) = true := by simp; omega
      obtain ⟨k, hk, hk2, hkn⟩ : ∃ k : Nat, (if ((n - 1 : Nat) : Int) < ((i + 1 : Nat) : Int) then ((n - 1 : Nat) : Int) else ((i + 1 : Nat) : Int)) = (k : Int) ∧ k = min (i + 1) (n - 1) ∧ k < n := ⟨min (i + 1) (n - 1), by split <;> omega, rfl, by omega⟩
      obtain ⟨a, hia⟩ : ∃ a, l[i]? = some a := ⟨_, List.getElem?_eq_getElem (by omega)⟩
      obtain ⟨b, hib⟩ : ∃ b, l[k]? = some b := ⟨_, List.getElem?_eq_getElem (by omega)⟩
      have ha32 := h32 a (List.mem_of_getElem? hia)
      have hb32 := h32 b (List.mem_of_getElem? hib)
      have hja : (joinL (l.drop i)).1 = pairL a b :: (joinL (l.drop (i + 2))).1 := by
        by_cases h3 : i + 1 < n
        · have e : k = i + 1 := by omega
          rw [(joinL_at hia).1 b (by rw [← e]; exact hib)]
        · have e : k = i := by omega
          have : a = b := by rw [e, hia] at hib; exact Option.some.inj hib
          subst this
          rw [(joinL_at hia).2 (by omega)]
      obtain ⟨p0, hi0, hc0⟩ := hs_addr hV hia
      obtain ⟨p1, hi1, hc1⟩ := hs_addr hV hib
      clear hia hib
      go_wp2_with (first
        | ((with_reducible change wpList _ _ _ (Oper.mk (some 27) _ _ _ _ _ :: _) _ _); refine kY (yLenHs _ v l n (fun _ e => by cases e; exact hV) hn rfl rfl rfl) ?_; go_frame)
        | ((with_reducible change wpList _ _ _ (Oper.mk (some 28) _ _ _ _ _ :: _) _ _); refine kLssI _ _ _ _ .i64 (i : Int) (n : Int) true rfl rfl rfl rfl hd ?_; go_frame)
        | ((with_reducible change wpList _ _ _ (Oper.mk (some 33) _ _ _ _ _ :: _) _ _); refine kAddI _ _ _ _ (i : Int) 1 ((i + 1 : Nat) : Int) (by omega) rfl rfl rfl rfl ?_; go_frame)
        | ((with_reducible change wpList _ _ _ (Oper.mk (some 35) _ _ _ _ _ :: _) _ _); refine kY (yLenHs _ v l n (fun _ e => by cases e; exact hV) hn rfl rfl rfl) ?_; go_frame)
        | ((with_reducible change wpList _ _ _ (Oper.mk (some 36) _ _ _ _ _ :: _) _ _); refine kY (ySubI _ _ _ _ (n : Int) 1 ((n - 1 : Nat) : Int) (by omega) rfl rfl rfl rfl) ?_; go_frame)
        | ((with_reducible change wpList _ _ _ (Oper.mk (some 37) _ _ _ _ _ :: _) _ _); refine kMinZ _ _ ((i + 1 : Nat) : Int) ((n - 1 : Nat) : Int) (k : Int) hk rfl rfl rfl rfl ?_; go_frame)
        | ((with_reducible change wpList _ _ _ (Oper.mk (some 38) _ _ _ _ _ :: _) _ _); refine kY (yIndexAt _ _ _ _ k p1 hi1 rfl rfl rfl rfl) ?_; go_frame)
        | ((with_reducible change wpList _ _ _ (Oper.mk (some 39) _ _ _ _ _ :: _) _ _); refine kY (yLoadHsAt _ p1 b (fun _ e => by cases e; exact hc1) rfl rfl rfl) ?_; go_frame)
        | ((with_reducible change wpList _ _ _ (Oper.mk (some 5) _ _ _ _ _ :: _) _ _); refine kAllocL _ _ rfl rfl zero_Hash ?_; intro w4 hR4 hz4 hBq; clear hz4; go_frame)
        | ((with_reducible change wpList _ _ _ (Oper.mk none (Op.store _ (Operand.tmp 5) _) _ _ _ _ :: _) _ _); refine kStoreHash _ _ wr.heap.size b _ hR4 (tab_size _ _) rfl rfl rfl rfl ?_; intro w5 hR5 hW5; have hB5 := hBq.trans (hW5.below (Nat.le_refl _)); have hc5 := fun j u e => cells_below hc0 hB5 j u e; have hV5 := hV.below hB5; have hO5 := hO.below hB5; have hB05 := hB.trans (hB5.mono hB.size); clear hR4 hW5 hBq hB5 hc0 hc1 hV hO hB; go_frame))
      refine region_tree (.q 0 (.q 1 (.q 2 (.q 3 (.q 4 (.two 5 (.two 6 (.q 7 (.q 8 (.q 9 (.one 10 (.one 11 (.q 12 .fin)))))) 10 (.one 6 (.q 7 (.q 8 (.q 9 (.one 11 (.q 12 .fin))))))) 10 (.one 5 (.one 6 (.q 7 (.q 8 (.q 9 (.one 11 (.q 12 .fin)))))))))))))  (fun w => (∀ (j : Nat) (u : Value), (hashR a)[j]? = some u → w.cell? (p0.add j) = some u) ∧ Row w wr.heap.size 25 (tab 32 fun p => VB (at8 b p))) (by kernel_rfl) (by kernel_rfl) ?_
      intro z0 hBd hsd
      clear hsd
      have hOz := hO5.below hBd
      have hB0z := hB05.trans (hBd.mono hB05.size)
      have hKz := (hK.below hB_2).below (hB0z.mono (Nat.le_refl _))
      have hS : (∀ (j : Nat) (u : Value), (hashR a)[j]? = some u → z0.cell? (p0.add j) = some u) ∧ Row z0 wr.heap.size 25 (tab 32 fun p => VB (at8 b p)) := ⟨cells_below hc5 hBd, hR5.below hBd hR5.lt⟩
      have hSk : ∀ w, Below z0.heap.size z0 w → (∀ (j : Nat) (u : Value), (hashR a)[j]? = some u → w.cell? (p0.add j) = some u) ∧ Row w wr.heap.size 25 (tab 32 fun p => VB (at8 b p)) := fun w h => ⟨cells_below hS.1 h, hS.2.below h hS.2.lt⟩
      have hBx := Below.refl z0.heap.size z0
      clear hc5 hR5 hBd hO5 hB05 hV5

      refine tY (v) hS rfl (yMove _ v rfl rfl rfl) ?_; go_frame
      refine tY (.int .i64 (i : Int)) hS rfl (yMove _ _ rfl rfl rfl) ?_; go_frame
      refine tY (.pointer (some p0)) hS rfl (yIndexAt _ _ _ _ i p0 hi0 rfl rfl rfl rfl) ?_; go_frame
      refine tY (HV a) hS rfl (yLoadHsAt _ p0 a (fun _ h => h.1) rfl rfl rfl) ?_; go_frame
      refine tY (HV b) hS rfl (yLoadRowC Tryd.underlying25 rfl _ _ (tab 32 fun p => VB (at8 b p)) info_HashT (fun _ h => h.2) rfl rfl rfl) ?_; go_frame
      refine tTwo rfl rfl ?_ ?_
      · refine kBuildHs2 _ _ a b rfl rfl rfl rfl ?_
        intro x1 hL0 hz0 hBq
        have hL : HashesOf x1 (.slice (some ⟨z0.heap.size, 0, none⟩) 2 2) [a, b] := hL0.of
        clear hL0 hz0
        have hBn := hBx.trans (hBq.mono hBx.size)
        clear hBx hBq
        have hBx := hBn
        clear hBn
        clear hS
        have hS := hSk _ hBx
        refine mixOn ⟨_, (fun _ h => h), hS, ?_⟩
        go_frame
        refine tTwo rfl rfl ?_ ?_
        · refine kCall1 5 _ _ _ rfl rfl (by kernel_rfl) rfl ?_
          refine (blRoot_two _ ha32 hb32 hL (hKz.below hBx)).mono ?_
          rintro e x2 ⟨rfl, hBq⟩
          have hBn := hBx.trans (hBq.mono hBx.size)
          clear hBx hBq
          have hBx := hBn
          clear hBn
          clear hL
          clear hS
          have hS := hSk _ hBx
          refine ⟨_, rfl, mixOn ⟨_, (fun _ h => h), hS, ?_⟩⟩
          go_frame
          refine tY (.tuple #[HV (pairL a b), .bool (decide (a = b))]) hS rfl (yMove _ _ rfl rfl rfl) ?_; go_frame
          refine tY (HV (pairL a b)) hS rfl (yExtract _ 0 _ (HV (pairL a b)) rfl rfl rfl rfl) ?_; go_frame
          refine tY (.bool (decide (a = b))) hS rfl (yExtract _ 1 _ (.bool (decide (a = b))) rfl rfl rfl rfl) ?_; go_frame
          refine tOne rfl ?_
          refine kAllocL _ _ rfl rfl zero_Hash ?_
          intro x3 hR hz0 hBq
          clear hz0
          have hBn := hBx.trans (hBq.mono hBx.size)
          have hg6 : z0.heap.size ≤ x2.heap.size := hBx.size
          clear hBx hBq
          have hBx := hBn
          clear hBn
          clear hS
          have hS := hSk _ hBx
          refine mixOn ⟨_, (fun _ h => h), hS, ?_⟩
          go_frame
          refine tOne rfl ?_
          refine kStoreHash _ _ x2.heap.size (pairL a b) _ hR (tab_size _ _) rfl rfl rfl rfl ?_
          intro x4 hR6 hW6
          have hBn := hBx.trans (hW6.below hg6)
          clear hBx hR hW6
          have hBx := hBn
          clear hBn
          clear hS
          have hS := hSk _ hBx
          refine mixOn ⟨_, (fun _ h => h), hS, ?_⟩
          go_frame
          refine tY (.bool (decide (a = b))) hS rfl (yAssign _ (.bool (decide (a = b))) rfl rfl rfl) ?_; go_frame
          refine tDone ?_
          clear hS hSk
          have hOx := hOz.below hBx
          have hBz := hB0z.trans (hBx.mono hB0z.size)
          have hR6' := hR6
          clear hR6 hBx
          go_wp2_with (first
            | ((with_reducible change wpList _ _ _ (Oper.mk (some 51) _ _ _ _ _ :: _) _ _); refine kLoadHash _ x2.heap.size (pairL a b) hR6' rfl rfl rfl ?_; go_frame)
            | ((with_reducible change wpList _ _ _ (Oper.mk (some 52) _ _ _ _ _ :: _) _ _); refine kBuildHs1 _ (pairL a b) rfl rfl rfl ?_; intro y7 hR7 hz7 hBq; clear hz7; have hO7 := hOx.below hBq; have hB7 := hBz.trans (hBq.mono hBz.size); clear hBq hOx hBz; go_frame)
            | ((with_reducible change wpList _ _ _ (Oper.mk (some 53) _ _ _ _ _ :: _) _ _); refine kAppHs _ _ rfl rfl y1.heap.size _ _ X [pairL a b] rfl hO7 rfl (isRows_one hR7 (hashR_len _) : HashesOf y7 _ [pairL a b]) (by simp; omega) hB7.size ?_; intro v8 y8 hO8 hBq hgr; have hB8 := hB7.trans hBq; clear hBq hO7 hB7 hgr; go_frame)
            | ((with_reducible change wpList _ _ _ (Oper.mk (some 30) _ _ _ _ _ :: _) _ _); refine kAddI _ _ _ _ (i : Int) 2 ((i + 2 : Nat) : Int) (by omega) rfl rfl rfl rfl ?_; go_frame))
          go_roundw
          case rel => exact ⟨i + 2, X ++ [pairL a b], rfl, by omega, by rw [List.length_append]; exact Nat.le_trans (Nat.succ_le_succ hX) (Nat.le_succ _), hO8, by rw [hj, hja]; simp, hB8⟩
          case measure => simp [intOf]; omega
        · refine kAllocL _ _ rfl rfl zero_Hash ?_
          intro x2 hR hz0 hBq
          clear hz0
          have hBn := hBx.trans (hBq.mono hBx.size)
          have hg6 : z0.heap.size ≤ x1.heap.size := hBx.size
          have hLn := hL.below hBq
          clear hL
          have hL := hLn
          clear hLn
          clear hBx hBq
          have hBx := hBn
          clear hBn
          clear hS
          have hS := hSk _ hBx
          refine mixOn ⟨_, (fun _ h => h), hS, ?_⟩
          go_frame
          refine tOne rfl ?_
          refine kCall1 5 _ _ _ rfl rfl (by kernel_rfl) rfl ?_
          refine (blRoot_two _ ha32 hb32 hL (hKz.below hBx)).mono ?_
          rintro e x3 ⟨rfl, hBq⟩
          have hBn := hBx.trans (hBq.mono hBx.size)
          have hRn := hR.below hBq hR.lt
          clear hR
          have hR := hRn
          clear hRn
          clear hBx hBq
          have hBx := hBn
          clear hBn
          clear hL
          clear hS
          have hS := hSk _ hBx
          refine ⟨_, rfl, mixOn ⟨_, (fun _ h => h), hS, ?_⟩⟩
          go_frame
          refine tY (.tuple #[HV (pairL a b), .bool (decide (a = b))]) hS rfl (yMove _ _ rfl rfl rfl) ?_; go_frame
          refine tY (HV (pairL a b)) hS rfl (yExtract _ 0 _ (HV (pairL a b)) rfl rfl rfl rfl) ?_; go_frame
          refine tY (.bool (decide (a = b))) hS rfl (yExtract _ 1 _ (.bool (decide (a = b))) rfl rfl rfl rfl) ?_; go_frame
          refine tOne rfl ?_
          refine kStoreHash _ _ x1.heap.size (pairL a b) _ hR (tab_size _ _) rfl rfl rfl rfl ?_
          intro x4 hR6 hW6
          have hBn := hBx.trans (hW6.below hg6)
          clear hBx hR hW6
          have hBx := hBn
          clear hBn
          clear hS
          have hS := hSk _ hBx
          refine mixOn ⟨_, (fun _ h => h), hS, ?_⟩
          go_frame
          refine tY (.bool (decide (a = b))) hS rfl (yAssign _ (.bool (decide (a = b))) rfl rfl rfl) ?_; go_frame
          refine tDone ?_
          clear hS hSk
          have hOx := hOz.below hBx
          have hBz := hB0z.trans (hBx.mono hB0z.size)
          have hR6' := hR6
          clear hR6 hBx
          go_wp2_with (first
            | ((with_reducible change wpList _ _ _ (Oper.mk (some 51) _ _ _ _ _ :: _) _ _); refine kLoadHash _ x1.heap.size (pairL a b) hR6' rfl rfl rfl ?_; go_frame)
            | ((with_reducible change wpList _ _ _ (Oper.mk (some 52) _ _ _ _ _ :: _) _ _); refine kBuildHs1 _ (pairL a b) rfl rfl rfl ?_; intro y7 hR7 hz7 hBq; clear hz7; have hO7 := hOx.below hBq; have hB7 := hBz.trans (hBq.mono hBz.size); clear hBq hOx hBz; go_frame)
            | ((with_reducible change wpList _ _ _ (Oper.mk (some 53) _ _ _ _ _ :: _) _ _); refine kAppHs _ _ rfl rfl y1.heap.size _ _ X [pairL a b] rfl hO7 rfl (isRows_one hR7 (hashR_len _) : HashesOf y7 _ [pairL a b]) (by simp; omega) hB7.size ?_; intro v8 y8 hO8 hBq hgr; have hB8 := hB7.trans hBq; clear hBq hO7 hB7 hgr; go_frame)
            | ((with_reducible change wpList _ _ _ (Oper.mk (some 30) _ _ _ _ _ :: _) _ _); refine kAddI _ _ _ _ (i : Int) 2 ((i + 2 : Nat) : Int) (by omega) rfl rfl rfl rfl ?_; go_frame))
          go_roundw
          case rel => exact ⟨i + 2, X ++ [pairL a b], rfl, by omega, by rw [List.length_append]; exact Nat.le_trans (Nat.succ_le_succ hX) (Nat.le_succ _), hO8, by rw [hj, hja]; simp, hB8⟩
          case measure => simp [intOf]; omega
      · refine kAllocL _ _ rfl rfl zero_Hash ?_
        intro x1 hR hz0 hBq
        clear hz0
        have hBn := hBx.trans (hBq.mono hBx.size)
        have hg6 : z0.heap.size ≤ z0.heap.size := hBx.size
        clear hBx hBq
        have hBx := hBn
        clear hBn
        clear hS
        have hS := hSk _ hBx
        refine mixOn ⟨_, (fun _ h => h), hS, ?_⟩
        go_frame
        refine tOne rfl ?_
        refine kBuildHs2 _ _ a b rfl rfl rfl rfl ?_
        intro x2 hL0 hz0 hBq
        have hL : HashesOf x2 (.slice (some ⟨x1.heap.size, 0, none⟩) 2 2) [a, b] := hL0.of
        clear hL0 hz0
        have hBn := hBx.trans (hBq.mono hBx.size)
        have hRn := hR.below hBq hR.lt
        clear hR
        have hR := hRn
        clear hRn
        clear hBx hBq
        have hBx := hBn
        clear hBn
        clear hS
        have hS := hSk _ hBx
        refine mixOn ⟨_, (fun _ h => h), hS, ?_⟩
        go_frame
        refine tOne rfl ?_
        refine kCall1 5 _ _ _ rfl rfl (by kernel_rfl) rfl ?_
        refine (blRoot_two _ ha32 hb32 hL (hKz.below hBx)).mono ?_
        rintro e x3 ⟨rfl, hBq⟩
        have hBn := hBx.trans (hBq.mono hBx.size)
        have hRn := hR.below hBq hR.lt
        clear hR
        have hR := hRn
        clear hRn
        clear hBx hBq
        have hBx := hBn
        clear hBn
        clear hL
        clear hS
        have hS := hSk _ hBx
        refine ⟨_, rfl, mixOn ⟨_, (fun _ h => h), hS, ?_⟩⟩
        go_frame
        refine tY (.tuple #[HV (pairL a b), .bool (decide (a = b))]) hS rfl (yMove _ _ rfl rfl rfl) ?_; go_frame
        refine tY (HV (pairL a b)) hS rfl (yExtract _ 0 _ (HV (pairL a b)) rfl rfl rfl rfl) ?_; go_frame
        refine tY (.bool (decide (a = b))) hS rfl (yExtract _ 1 _ (.bool (decide (a = b))) rfl rfl rfl rfl) ?_; go_frame
        refine tOne rfl ?_
        refine kStoreHash _ _ z0.heap.size (pairL a b) _ hR (tab_size _ _) rfl rfl rfl rfl ?_
        intro x4 hR6 hW6
        have hBn := hBx.trans (hW6.below hg6)
        clear hBx hR hW6
        have hBx := hBn
        clear hBn
        clear hS
        have hS := hSk _ hBx
        refine mixOn ⟨_, (fun _ h => h), hS, ?_⟩
        go_frame
        refine tY (.bool (decide (a = b))) hS rfl (yAssign _ (.bool (decide (a = b))) rfl rfl rfl) ?_; go_frame
        refine tDone ?_
        clear hS hSk
        have hOx := hOz.below hBx
        have hBz := hB0z.trans (hBx.mono hB0z.size)
        have hR6' := hR6
        clear hR6 hBx
        go_wp2_with (first
          | ((with_reducible change wpList _ _ _ (Oper.mk (some 51) _ _ _ _ _ :: _) _ _); refine kLoadHash _ z0.heap.size (pairL a b) hR6' rfl rfl rfl ?_; go_frame)
          | ((with_reducible change wpList _ _ _ (Oper.mk (some 52) _ _ _ _ _ :: _) _ _); refine kBuildHs1 _ (pairL a b) rfl rfl rfl ?_; intro y7 hR7 hz7 hBq; clear hz7; have hO7 := hOx.below hBq; have hB7 := hBz.trans (hBq.mono hBz.size); clear hBq hOx hBz; go_frame)
          | ((with_reducible change wpList _ _ _ (Oper.mk (some 53) _ _ _ _ _ :: _) _ _); refine kAppHs _ _ rfl rfl y1.heap.size _ _ X [pairL a b] rfl hO7 rfl (isRows_one hR7 (hashR_len _) : HashesOf y7 _ [pairL a b]) (by simp; omega) hB7.size ?_; intro v8 y8 hO8 hBq hgr; have hB8 := hB7.trans hBq; clear hBq hO7 hB7 hgr; go_frame)
          | ((with_reducible change wpList _ _ _ (Oper.mk (some 30) _ _ _ _ _ :: _) _ _); refine kAddI _ _ _ _ (i : Int) 2 ((i + 2 : Nat) : Int) (by omega) rfl rfl rfl rfl ?_; go_frame))
        go_roundw
        case rel => exact ⟨i + 2, X ++ [pairL a b], rfl, by omega, by rw [List.length_append]; exact Nat.le_trans (Nat.succ_le_succ hX) (Nat.le_succ _), hO8, by rw [hj, hja]; simp, hB8⟩
        case measure => simp [intOf]; omega
    · have hd : decide ((i : Int) < (n : Int)) = false := by simp; omega
      have hXe : X = (joinL l).1 := by
        have e : l.drop i = [] := List.drop_eq_nil_of_le (by omega)
        rw [e] at hj
        have e2 : (joinL ([] : List (List UInt8))).1 = [] := rfl
        rw [e2, List.append_nil] at hj
        exact hj.symm
      have hX32 : ∀ x ∈ X, x.length = 32 := by rw [hXe]; exact joinL_32 l
      have hXle : X.length ≤ 1000 := by omega
      have hr1 : (!decide ((rootL l).1 = (rootL X).1)) = false := by rw [hst, ← hXe]; simp
      have hBr := hB_2.trans (hB.mono hB_2.size)
      clear hj hXe hst hX hB hvb
      by_cases hodd : n % 2 = 1
      · replace hodd : ((n % 2 : Nat) : Int) = 1 := by omega
        go_wp2_with (first
          | ((with_reducible change wpList _ _ _ (Oper.mk (some 27) _ _ _ _ _ :: _) _ _); refine kY (yLenHs _ v l n (fun _ e => by cases e; exact hV) hn rfl rfl rfl) ?_; go_frame)
          | ((with_reducible change wpList _ _ _ (Oper.mk (some 28) _ _ _ _ _ :: _) _ _); refine kLssI _ _ _ _ .i64 (i : Int) (n : Int) false rfl rfl rfl rfl hd ?_; go_frame)
          | (go_at_call 5; refine (blRoot_any (l := l) _ hV h32 hle (hK.below hBr)).mono ?_; rintro e y41 ⟨rfl, hBq⟩; have hV_1 := hV.below hBq; have hO_2 := hO.below hBq; have hB_3 := hBr.trans (hBq.mono hBr.size); clear hV hO hBr hBq; go_frame)
          | ((with_reducible change wpList _ _ _ (Oper.mk (some 8) _ _ _ _ _ :: _) _ _); refine kAllocL _ _ rfl rfl zero_Hash ?_; intro y42 hV8 hzq hBq; clear hzq; have hP := hBq; clear hBq; go_frame)
          | ((with_reducible change wpList _ _ _ (Oper.mk none (Op.store _ (Operand.tmp 8) _) _ _ _ _ :: _) _ _); refine kStoreHash _ _ _ (rootL l).1 _ hV8 (by first | exact tab_size _ _ | rfl) rfl rfl rfl rfl ?_; intro y43 hT8 hWq; have hPn := hP.trans (hWq.below (Nat.le_refl _)); clear hP; have hP := hPn; clear hPn; clear hWq hV8; have hV_4 := hV_1.below hP; have hO_5 := hO_2.below hP; have hB_6 := hB_3.trans (hP.mono hB_3.size); clear hV_1 hO_2 hB_3 hP; go_frame)
          | (go_at_call 5; refine (blRoot_any (l := X) _ hO_5.of hX32 hXle (hK.below hB_6)).mono ?_; rintro e y44 ⟨rfl, hBq⟩; have hV_7 := hV_4.below hBq; have hO_8 := hO_5.below hBq; have hT8_9 := hT8.below hBq hT8.lt; have hB_10 := hB_6.trans (hBq.mono hB_6.size); clear hV_4 hO_5 hT8 hB_6 hBq; go_frame)
          | ((with_reducible change wpList _ _ _ (Oper.mk (some 10) _ _ _ _ _ :: _) _ _); refine kAllocL _ _ rfl rfl zero_Hash ?_; intro y45 hV10 hzq hBq; clear hzq; have hP := hBq; clear hBq; go_frame)
          | ((with_reducible change wpList _ _ _ (Oper.mk none (Op.store _ (Operand.tmp 10) _) _ _ _ _ :: _) _ _); refine kStoreHash _ _ _ (rootL X).1 _ hV10 (by first | exact tab_size _ _ | rfl) rfl rfl rfl rfl ?_; intro y46 hT10 hWq; have hPn := hP.trans (hWq.below (Nat.le_refl _)); clear hP; have hP := hPn; clear hPn; clear hWq hV10; have hV_11 := hV_7.below hP; have hO_12 := hO_8.below hP; have hT8_13 := hT8_9.below hP hT8_9.lt; have hB_14 := hB_10.trans (hP.mono hB_10.size); clear hV_7 hO_8 hT8_9 hB_10 hP; go_frame)
          | ((with_reducible change wpList _ _ _ (Oper.mk (some 64) _ _ _ _ _ :: _) _ _); refine kY (yLoadRowC Tryd.underlying25 rfl _ _ (tab 32 fun p => VB (at8 ((rootL l).1) p)) info_HashT (fun _ e => by cases e; exact hT8_13) rfl rfl rfl) ?_; go_frame)
          | ((with_reducible change wpList _ _ _ (Oper.mk (some 65) _ _ _ _ _ :: _) _ _); refine kY (yLoadRowC Tryd.underlying25 rfl _ _ (tab 32 fun p => VB (at8 ((rootL X).1) p)) info_HashT (fun _ e => by cases e; exact hT10) rfl rfl rfl) ?_; go_frame)
          | ((with_reducible change wpList _ _ _ (Oper.mk (some 66) _ _ _ _ _ :: _) _ _); refine kY (yNeqHash _ _ _ (rootL l).1 (rootL X).1 false ((rootL_len h32)) ((rootL_len hX32)) rfl rfl rfl rfl hr1) ?_; go_frame)
          | ((with_reducible change wpList _ _ _ (Oper.mk (some 68) _ _ _ _ _ :: _) _ _); refine kY (yLenHs _ v l n (fun _ e => by cases e; exact hV_11) hn rfl rfl rfl) ?_; go_frame)
          | ((with_reducible change wpList _ _ _ (Oper.mk (some 69) _ _ _ _ _ :: _) _ _); refine kY (yRemI2 _ _ _ _ n 1 hodd rfl rfl rfl rfl) ?_; go_frame)
          | ((with_reducible change wpList _ _ _ (Oper.mk (some 70) _ _ _ _ _ :: _) _ _); refine kY (yEqlIC _ _ _ _ .i64 1 1 true rfl rfl rfl rfl (by simp)) ?_; go_frame))
        have hon : l.length % 2 = 1 := by omega
        have h2l : 2 ≤ l.length := by omega
        have hl60 : l.length ≤ 60 := by omega
        obtain ⟨zl, hzl⟩ : ∃ z, l[l.length - 1]? = some z := ⟨_, List.getElem?_eq_getElem (by omega)⟩
        have hcall : ∀ W u, HashesOf W u (l ++ [zl]) → Keys W → Calls Tryd.prog 5 #[u] W fun e w' => e = .returned (.tuple #[HV (rootL l).1, .bool true]) ∧ Below W.heap.size W w' := fun W u h hK => blRoot_odd W h32 h2l hl60 hon hzl h hK
        have hzn : l[n - 1]? = some zl := by rw [← hn]; exact hzl
        obtain ⟨pz, hiz, hcz⟩ := hs_addr (hV_11) hzn
        clear hzl hzn hon hodd
        refine region_tree (.q 1 (.q 3 (.q 4 (.q 5 (.q 6 (.q 7 (.q 8 (.three 0 (.three 2 (.two 9 (.two 10 (.two 11 (.q 12 (.q 13 (.q 14 (.one 15 (.one 16 (.q 17 .fin)))))) 15 (.one 11 (.q 12 (.q 13 (.q 14 (.one 16 (.q 17 .fin))))))) 15 (.one 10 (.one 11 (.q 12 (.q 13 (.q 14 (.one 16 (.q 17 .fin)))))))) 15 (.one 9 (.one 10 (.one 11 (.q 12 (.q 13 (.q 14 (.one 16 (.q 17 .fin))))))))) 9 (.two 2 (.two 10 (.two 11 (.q 12 (.q 13 (.q 14 (.one 15 (.one 16 (.q 17 .fin)))))) 15 (.one 11 (.q 12 (.q 13 (.q 14 (.one 16 (.q 17 .fin))))))) 15 (.one 10 (.one 11 (.q 12 (.q 13 (.q 14 (.one 16 (.q 17 .fin)))))))) 15 (.one 2 (.one 10 (.one 11 (.q 12 (.q 13 (.q 14 (.one 16 (.q 17 .fin))))))))) 15 (.two 2 (.one 9 (.one 10 (.one 11 (.q 12 (.q 13 (.q 14 (.one 16 (.q 17 .fin)))))))) 9 (.one 2 (.one 10 (.one 11 (.q 12 (.q 13 (.q 14 (.one 16 (.q 17 .fin)))))))))) 9 (.two 0 (.two 2 (.two 10 (.two 11 (.q 12 (.q 13 (.q 14 (.one 15 (.one 16 (.q 17 .fin)))))) 15 (.one 11 (.q 12 (.q 13 (.q 14 (.one 16 (.q 17 .fin))))))) 15 (.one 10 (.one 11 (.q 12 (.q 13 (.q 14 (.one 16 (.q 17 .fin)))))))) 15 (.one 2 (.one 10 (.one 11 (.q 12 (.q 13 (.q 14 (.one 16 (.q 17 .fin))))))))) 15 (.one 0 (.one 2 (.one 10 (.one 11 (.q 12 (.q 13 (.q 14 (.one 16 (.q 17 .fin)))))))))) 15 (.two 0 (.two 2 (.one 9 (.one 10 (.one 11 (.q 12 (.q 13 (.q 14 (.one 16 (.q 17 .fin)))))))) 9 (.one 2 (.one 10 (.one 11 (.q 12 (.q 13 (.q 14 (.one 16 (.q 17 .fin))))))))) 9 (.one 0 (.one 2 (.one 10 (.one 11 (.q 12 (.q 13 (.q 14 (.one 16 (.q 17 .fin)))))))))))))))))) (fun w => (∀ (j : Nat) (u : Value), (hashR zl)[j]? = some u → w.cell? (pz.add j) = some u) ∧ HashesOf w v l) (by kernel_rfl) (by kernel_rfl) ?_
        intro z0 hBd hsd
        clear hsd
        have hVz := (hV_11).below hBd
        have hBz := (hB_14).trans (hBd.mono (hB_14).size)
        have hKz := hK.below hBz
        have hR8z := (hT8_13).below hBd (hT8_13).lt
        have hcy := cells_below hcz hBd
        have hSk : ∀ w, Below z0.heap.size z0 w → (∀ (j : Nat) (u : Value), (hashR zl)[j]? = some u → w.cell? (pz.add j) = some u) ∧ HashesOf w v l := fun w h => ⟨cells_below hcy h, hVz.below h⟩
        have hBx := Below.refl z0.heap.size z0
        have hS := hSk _ hBx
        clear hcz hcy hBd hV_11 hB_14 hT8_13
        refine tY (v) hS rfl (yMove _ v rfl rfl rfl) ?_; go_frame
        refine tY (v) hS rfl (yMove _ v rfl rfl rfl) ?_; go_frame
        refine tY (v) hS rfl (yMove _ v rfl rfl rfl) ?_; go_frame
        refine tY (.int .i64 (n : Int)) hS rfl (yLenHs _ v l n (fun _ h => h.2) hn rfl rfl rfl) ?_; go_frame
        refine tY (.int .i64 ((n - 1 : Nat) : Int)) hS rfl (ySubI _ _ _ _ (n : Int) 1 ((n - 1 : Nat) : Int) (by omega) rfl rfl rfl rfl) ?_; go_frame
        refine tY (.pointer (some pz)) hS rfl (yIndexAt _ _ _ _ (n - 1) pz hiz rfl rfl rfl rfl) ?_; go_frame
        refine tY (HV zl) hS rfl (yLoadHsAt _ pz zl (fun _ h => h.1) rfl rfl rfl) ?_; go_frame
        refine tThree rfl rfl rfl ?_ ?_ ?_
        refine kBuildSlice0 _ _ rfl rfl Tryd.underlying22 ih0 hih0 ?_
        intro x1 hRA1 hz0 hBq
        clear hz0
        have hgA : z0.heap.size ≤ z0.heap.size := hBx.size
        have hBn := hBx.trans (hBq.mono hBx.size)
        clear hBx hBq
        have hBx := hBn
        clear hBn
        have hRA := hRA1
        clear hRA1
        clear hS
        have hS := hSk _ hBx
        refine mixOn ⟨_, (fun _ h => h), hS, ?_⟩
        go_frame
        refine tThree rfl rfl rfl ?_ ?_ ?_
        have hOa : OwnHs x1 z0.heap.size (.slice (some ⟨z0.heap.size, 0, none⟩) 0 0) [] := ownR_empty hgA hRA
        refine kAppHs _ _ rfl rfl z0.heap.size _ _ [] l rfl hOa rfl (hVz.below hBx) (by simp; omega) hBx.size ?_
        intro u74 x2 hO1 hBq hgr
        have hO : OwnHs x2 z0.heap.size u74 l := hO1
        clear hO1 hOa
        have hn1 := hBx.trans hBq
        clear hBx
        have hBx := hn1
        clear hn1
        clear hBq hgr hRA hgA
        clear hS
        have hS := hSk _ hBx
        refine mixOn ⟨_, (fun _ h => h), hS, ?_⟩
        go_frame
        refine tTwo rfl rfl ?_ ?_
        refine kBuildHs1 _ zl rfl rfl rfl ?_
        intro x3 hRB1 hz0 hBq
        clear hz0
        have hn1 := hO.below hBq
        clear hO
        have hO := hn1
        clear hn1
        have hBn := hBx.trans (hBq.mono hBx.size)
        clear hBx hBq
        have hBx := hBn
        clear hBn
        have hRB := hRB1
        clear hRB1
        clear hS
        have hS := hSk _ hBx
        refine mixOn ⟨_, (fun _ h => h), hS, ?_⟩
        go_frame
        refine tTwo rfl rfl ?_ ?_
        refine kAppHs _ _ rfl rfl z0.heap.size _ _ l [zl] rfl hO rfl (isRows_one hRB (hashR_len _) : HashesOf x3 _ [zl]) (by simp; omega) hBx.size ?_
        intro u82 x4 hO2 hBq hgr
        have hn1 := hBx.trans hBq
        clear hBx
        have hBx := hn1
        clear hn1
        clear hBq hgr hRB hO
        clear hS
        have hS := hSk _ hBx
        refine mixOn ⟨_, (fun _ h => h), hS, ?_⟩
        go_frame
        refine tTwo rfl rfl ?_ ?_
        refine kCall1 5 _ _ _ rfl rfl (by kernel_rfl) rfl ?_
        refine (hcall _ _ hO2.of (hKz.below hBx)).mono ?_
        rintro e x5 ⟨rfl, hBq⟩
        clear hO2
        have hBn := hBx.trans (hBq.mono hBx.size)
        clear hBx hBq
        have hBx := hBn
        clear hBn
        clear hS
        have hS := hSk _ hBx
        refine ⟨_, rfl, mixOn ⟨_, (fun _ h => h), hS, ?_⟩⟩
        go_frame
        refine tY (.tuple #[HV (rootL l).1, .bool true]) hS rfl (yMove _ _ rfl rfl rfl) ?_; go_frame
        refine tY (HV (rootL l).1) hS rfl (yExtract _ 0 _ (HV (rootL l).1) rfl rfl rfl rfl) ?_; go_frame
        refine tY (.bool true) hS rfl (yExtract _ 1 _ (.bool true) rfl rfl rfl rfl) ?_; go_frame
        refine tOne rfl ?_
        refine kAllocL _ _ rfl rfl zero_Hash ?_
        intro x6 hRC1 hz0 hBq
        clear hz0
        have hg6 : z0.heap.size ≤ x5.heap.size := hBx.size
        have hBn := hBx.trans (hBq.mono hBx.size)
        clear hBx hBq
        have hBx := hBn
        clear hBn
        have hRC := hRC1
        clear hRC1
        clear hS
        have hS := hSk _ hBx
        refine mixOn ⟨_, (fun _ h => h), hS, ?_⟩
        go_frame
        refine tOne rfl ?_
        refine kStoreHash _ _ _ (rootL l).1 _ hRC (tab_size _ _) rfl rfl rfl rfl ?_
        intro x7 hR6 hW6
        have hn1 := hBx.trans (hW6.below hg6)
        clear hBx
        have hBx := hn1
        clear hn1
        clear hRC hW6 hg6
        clear hS
        have hS := hSk _ hBx
        refine mixOn ⟨_, (fun _ h => h), hS, ?_⟩
        go_frame
        refine tY (.bool true) hS rfl (yAssign _ (.bool true) rfl rfl rfl) ?_; go_frame
        refine tDone ?_
        clear hS
        rotate_left
        refine kAllocL _ _ rfl rfl zero_Hash ?_
        intro x5 hRC1 hz0 hBq
        clear hz0
        have hg6 : z0.heap.size ≤ x4.heap.size := hBx.size
        have hn1 := hO2.below hBq
        clear hO2
        have hO2 := hn1
        clear hn1
        have hBn := hBx.trans (hBq.mono hBx.size)
        clear hBx hBq
        have hBx := hBn
        clear hBn
        have hRC := hRC1
        clear hRC1
        clear hS
        have hS := hSk _ hBx
        refine mixOn ⟨_, (fun _ h => h), hS, ?_⟩
        go_frame
        refine tOne rfl ?_
        refine kCall1 5 _ _ _ rfl rfl (by kernel_rfl) rfl ?_
        refine (hcall _ _ hO2.of (hKz.below hBx)).mono ?_
        rintro e x6 ⟨rfl, hBq⟩
        clear hO2
        have hn1 := hRC.below hBq hRC.lt
        clear hRC
        have hRC := hn1
        clear hn1
        have hBn := hBx.trans (hBq.mono hBx.size)
        clear hBx hBq
        have hBx := hBn
        clear hBn
        clear hS
        have hS := hSk _ hBx
        refine ⟨_, rfl, mixOn ⟨_, (fun _ h => h), hS, ?_⟩⟩
        go_frame
        refine tY (.tuple #[HV (rootL l).1, .bool true]) hS rfl (yMove _ _ rfl rfl rfl) ?_; go_frame
        refine tY (HV (rootL l).1) hS rfl (yExtract _ 0 _ (HV (rootL l).1) rfl rfl rfl rfl) ?_; go_frame
        refine tY (.bool true) hS rfl (yExtract _ 1 _ (.bool true) rfl rfl rfl rfl) ?_; go_frame
        refine tOne rfl ?_
        refine kStoreHash _ _ _ (rootL l).1 _ hRC (tab_size _ _) rfl rfl rfl rfl ?_
        intro x7 hR6 hW6
        have hn1 := hBx.trans (hW6.below hg6)
        clear hBx
        have hBx := hn1
        clear hn1
        clear hRC hW6 hg6
        clear hS
        have hS := hSk _ hBx
        refine mixOn ⟨_, (fun _ h => h), hS, ?_⟩
        go_frame
        refine tY (.bool true) hS rfl (yAssign _ (.bool true) rfl rfl rfl) ?_; go_frame
        refine tDone ?_
        clear hS
        rotate_left
        refine kAllocL _ _ rfl rfl zero_Hash ?_
        intro x4 hRC1 hz0 hBq
        clear hz0
        have hg6 : z0.heap.size ≤ x3.heap.size := hBx.size
        have hn1 := hO.below hBq
        clear hO
        have hO := hn1
        clear hn1
        have hn1 := hRB.below hBq hRB.lt
        clear hRB
        have hRB := hn1
        clear hn1
        have hBn := hBx.trans (hBq.mono hBx.size)
        clear hBx hBq
        have hBx := hBn
        clear hBn
        have hRC := hRC1
        clear hRC1
        clear hS
        have hS := hSk _ hBx
        refine mixOn ⟨_, (fun _ h => h), hS, ?_⟩
        go_frame
        refine tOne rfl ?_
        refine kAppHs _ _ rfl rfl z0.heap.size _ _ l [zl] rfl hO rfl (isRows_one hRB (hashR_len _) : HashesOf x4 _ [zl]) (by simp; omega) hBx.size ?_
        intro u82 x5 hO2 hBq hgr
        have hn1 := row_appJ hRC hgr (own_ne hO h2l hRC (tab_size _ _))
        clear hRC
        have hRC := hn1
        clear hn1
        have hn1 := hBx.trans hBq
        clear hBx
        have hBx := hn1
        clear hn1
        clear hBq hgr hRB hO
        clear hS
        have hS := hSk _ hBx
        refine mixOn ⟨_, (fun _ h => h), hS, ?_⟩
        go_frame
        refine tOne rfl ?_
        refine kCall1 5 _ _ _ rfl rfl (by kernel_rfl) rfl ?_
        refine (hcall _ _ hO2.of (hKz.below hBx)).mono ?_
        rintro e x6 ⟨rfl, hBq⟩
        clear hO2
        have hn1 := hRC.below hBq hRC.lt
        clear hRC
        have hRC := hn1
        clear hn1
        have hBn := hBx.trans (hBq.mono hBx.size)
        clear hBx hBq
        have hBx := hBn
        clear hBn
        clear hS
        have hS := hSk _ hBx
        refine ⟨_, rfl, mixOn ⟨_, (fun _ h => h), hS, ?_⟩⟩
        go_frame
        refine tY (.tuple #[HV (rootL l).1, .bool true]) hS rfl (yMove _ _ rfl rfl rfl) ?_; go_frame
        refine tY (HV (rootL l).1) hS rfl (yExtract _ 0 _ (HV (rootL l).1) rfl rfl rfl rfl) ?_; go_frame
        refine tY (.bool true) hS rfl (yExtract _ 1 _ (.bool true) rfl rfl rfl rfl) ?_; go_frame
        refine tOne rfl ?_
        refine kStoreHash _ _ _ (rootL l).1 _ hRC (tab_size _ _) rfl rfl rfl rfl ?_
        intro x7 hR6 hW6
        have hn1 := hBx.trans (hW6.below hg6)
        clear hBx
        have hBx := hn1
        clear hn1
        clear hRC hW6 hg6
        clear hS
        have hS := hSk _ hBx
        refine mixOn ⟨_, (fun _ h => h), hS, ?_⟩
        go_frame
        refine tY (.bool true) hS rfl (yAssign _ (.bool true) rfl rfl rfl) ?_; go_frame
        refine tDone ?_
        clear hS
        rotate_left
        refine kAllocL _ _ rfl rfl zero_Hash ?_
        intro x3 hRC1 hz0 hBq
        clear hz0
        have hg6 : z0.heap.size ≤ x2.heap.size := hBx.size
        have hn1 := hO.below hBq
        clear hO
        have hO := hn1
        clear hn1
        have hBn := hBx.trans (hBq.mono hBx.size)
        clear hBx hBq
        have hBx := hBn
        clear hBn
        have hRC := hRC1
        clear hRC1
        clear hS
        have hS := hSk _ hBx
        refine mixOn ⟨_, (fun _ h => h), hS, ?_⟩
        go_frame
        refine tOne rfl ?_
        refine kBuildHs1 _ zl rfl rfl rfl ?_
        intro x4 hRB1 hz0 hBq
        clear hz0
        have hn1 := hO.below hBq
        clear hO
        have hO := hn1
        clear hn1
        have hn1 := hRC.below hBq hRC.lt
        clear hRC
        have hRC := hn1
        clear hn1
        have hBn := hBx.trans (hBq.mono hBx.size)
        clear hBx hBq
        have hBx := hBn
        clear hBn
        have hRB := hRB1
        clear hRB1
        clear hS
        have hS := hSk _ hBx
        refine mixOn ⟨_, (fun _ h => h), hS, ?_⟩
        go_frame
        refine tOne rfl ?_
        refine kAppHs _ _ rfl rfl z0.heap.size _ _ l [zl] rfl hO rfl (isRows_one hRB (hashR_len _) : HashesOf x4 _ [zl]) (by simp; omega) hBx.size ?_
        intro u82 x5 hO2 hBq hgr
        have hn1 := row_appJ hRC hgr (own_ne hO h2l hRC (tab_size _ _))
        clear hRC
        have hRC := hn1
        clear hn1
        have hn1 := hBx.trans hBq
        clear hBx
        have hBx := hn1
        clear hn1
        clear hBq hgr hRB hO
        clear hS
        have hS := hSk _ hBx
        refine mixOn ⟨_, (fun _ h => h), hS, ?_⟩
        go_frame
        refine tOne rfl ?_
        refine kCall1 5 _ _ _ rfl rfl (by kernel_rfl) rfl ?_
        refine (hcall _ _ hO2.of (hKz.below hBx)).mono ?_
        rintro e x6 ⟨rfl, hBq⟩
        clear hO2
        have hn1 := hRC.below hBq hRC.lt
        clear hRC
        have hRC := hn1
        clear hn1
        have hBn := hBx.trans (hBq.mono hBx.size)
        clear hBx hBq
        have hBx := hBn
        clear hBn
        clear hS
        have hS := hSk _ hBx
        refine ⟨_, rfl, mixOn ⟨_, (fun _ h => h), hS, ?_⟩⟩
        go_frame
        refine tY (.tuple #[HV (rootL l).1, .bool true]) hS rfl (yMove _ _ rfl rfl rfl) ?_; go_frame
        refine tY (HV (rootL l).1) hS rfl (yExtract _ 0 _ (HV (rootL l).1) rfl rfl rfl rfl) ?_; go_frame
        refine tY (.bool true) hS rfl (yExtract _ 1 _ (.bool true) rfl rfl rfl rfl) ?_; go_frame
        refine tOne rfl ?_
        refine kStoreHash _ _ _ (rootL l).1 _ hRC (tab_size _ _) rfl rfl rfl rfl ?_
        intro x7 hR6 hW6
        have hn1 := hBx.trans (hW6.below hg6)
        clear hBx
        have hBx := hn1
        clear hn1
        clear hRC hW6 hg6
        clear hS
        have hS := hSk _ hBx
        refine mixOn ⟨_, (fun _ h => h), hS, ?_⟩
        go_frame
        refine tY (.bool true) hS rfl (yAssign _ (.bool true) rfl rfl rfl) ?_; go_frame
        refine tDone ?_
        clear hS
        rotate_left
        refine kBuildHs1 _ zl rfl rfl rfl ?_
        intro x2 hRB1 hz0 hBq
        clear hz0
        have hn1 := hRA.below hBq hRA.lt
        clear hRA
        have hRA := hn1
        clear hn1
        have hBn := hBx.trans (hBq.mono hBx.size)
        clear hBx hBq
        have hBx := hBn
        clear hBn
        have hRB := hRB1
        clear hRB1
        clear hS
        have hS := hSk _ hBx
        refine mixOn ⟨_, (fun _ h => h), hS, ?_⟩
        go_frame
        refine tTwo rfl rfl ?_ ?_
        have hOa : OwnHs x2 z0.heap.size (.slice (some ⟨z0.heap.size, 0, none⟩) 0 0) [] := ownR_empty hgA hRA
        refine kAppHs _ _ rfl rfl z0.heap.size _ _ [] l rfl hOa rfl (hVz.below hBx) (by simp; omega) hBx.size ?_
        intro u74 x3 hO1 hBq hgr
        have hO : OwnHs x3 z0.heap.size u74 l := hO1
        clear hO1 hOa
        have hn1 := row_appZ hRB hRA (by simp [hashR_len]) hgr
        clear hRB
        have hRB := hn1
        clear hn1
        have hn1 := hBx.trans hBq
        clear hBx
        have hBx := hn1
        clear hn1
        clear hBq hgr hRA hgA
        clear hS
        have hS := hSk _ hBx
        refine mixOn ⟨_, (fun _ h => h), hS, ?_⟩
        go_frame
        refine tTwo rfl rfl ?_ ?_
        refine kAppHs _ _ rfl rfl z0.heap.size _ _ l [zl] rfl hO rfl (isRows_one hRB (hashR_len _) : HashesOf x3 _ [zl]) (by simp; omega) hBx.size ?_
        intro u82 x4 hO2 hBq hgr
        have hn1 := hBx.trans hBq
        clear hBx
        have hBx := hn1
        clear hn1
        clear hBq hgr hRB hO
        clear hS
        have hS := hSk _ hBx
        refine mixOn ⟨_, (fun _ h => h), hS, ?_⟩
        go_frame
        refine tTwo rfl rfl ?_ ?_
        refine kCall1 5 _ _ _ rfl rfl (by kernel_rfl) rfl ?_
        refine (hcall _ _ hO2.of (hKz.below hBx)).mono ?_
        rintro e x5 ⟨rfl, hBq⟩
        clear hO2
        have hBn := hBx.trans (hBq.mono hBx.size)
        clear hBx hBq
        have hBx := hBn
        clear hBn
        clear hS
        have hS := hSk _ hBx
        refine ⟨_, rfl, mixOn ⟨_, (fun _ h => h), hS, ?_⟩⟩
        go_frame
        refine tY (.tuple #[HV (rootL l).1, .bool true]) hS rfl (yMove _ _ rfl rfl rfl) ?_; go_frame
        refine tY (HV (rootL l).1) hS rfl (yExtract _ 0 _ (HV (rootL l).1) rfl rfl rfl rfl) ?_; go_frame
        refine tY (.bool true) hS rfl (yExtract _ 1 _ (.bool true) rfl rfl rfl rfl) ?_; go_frame
        refine tOne rfl ?_
        refine kAllocL _ _ rfl rfl zero_Hash ?_
        intro x6 hRC1 hz0 hBq
        clear hz0
        have hg6 : z0.heap.size ≤ x5.heap.size := hBx.size
        have hBn := hBx.trans (hBq.mono hBx.size)
        clear hBx hBq
        have hBx := hBn
        clear hBn
        have hRC := hRC1
        clear hRC1
        clear hS
        have hS := hSk _ hBx
        refine mixOn ⟨_, (fun _ h => h), hS, ?_⟩
        go_frame
        refine tOne rfl ?_
        refine kStoreHash _ _ _ (rootL l).1 _ hRC (tab_size _ _) rfl rfl rfl rfl ?_
        intro x7 hR6 hW6
        have hn1 := hBx.trans (hW6.below hg6)
        clear hBx
        have hBx := hn1
        clear hn1
        clear hRC hW6 hg6
        clear hS
        have hS := hSk _ hBx
        refine mixOn ⟨_, (fun _ h => h), hS, ?_⟩
        go_frame
        refine tY (.bool true) hS rfl (yAssign _ (.bool true) rfl rfl rfl) ?_; go_frame
        refine tDone ?_
        clear hS
        rotate_left
        refine kAllocL _ _ rfl rfl zero_Hash ?_
        intro x5 hRC1 hz0 hBq
        clear hz0
        have hg6 : z0.heap.size ≤ x4.heap.size := hBx.size
        have hn1 := hO2.below hBq
        clear hO2
        have hO2 := hn1
        clear hn1
        have hBn := hBx.trans (hBq.mono hBx.size)
        clear hBx hBq
        have hBx := hBn
        clear hBn
        have hRC := hRC1
        clear hRC1
        clear hS
        have hS := hSk _ hBx
        refine mixOn ⟨_, (fun _ h => h), hS, ?_⟩
        go_frame
        refine tOne rfl ?_
        refine kCall1 5 _ _ _ rfl rfl (by kernel_rfl) rfl ?_
        refine (hcall _ _ hO2.of (hKz.below hBx)).mono ?_
        rintro e x6 ⟨rfl, hBq⟩
        clear hO2
        have hn1 := hRC.below hBq hRC.lt
        clear hRC
        have hRC := hn1
        clear hn1
        have hBn := hBx.trans (hBq.mono hBx.size)
        clear hBx hBq
        have hBx := hBn
        clear hBn
        clear hS
        have hS := hSk _ hBx
        refine ⟨_, rfl, mixOn ⟨_, (fun _ h => h), hS, ?_⟩⟩
        go_frame
        refine tY (.tuple #[HV (rootL l).1, .bool true]) hS rfl (yMove _ _ rfl rfl rfl) ?_; go_frame
        refine tY (HV (rootL l).1) hS rfl (yExtract _ 0 _ (HV (rootL l).1) rfl rfl rfl rfl) ?_; go_frame
        refine tY (.bool true) hS rfl (yExtract _ 1 _ (.bool true) rfl rfl rfl rfl) ?_; go_frame
        refine tOne rfl ?_
        refine kStoreHash _ _ _ (rootL l).1 _ hRC (tab_size _ _) rfl rfl rfl rfl ?_
        intro x7 hR6 hW6
        have hn1 := hBx.trans (hW6.below hg6)
        clear hBx
        have hBx := hn1
        clear hn1
        clear hRC hW6 hg6
        clear hS
        have hS := hSk _ hBx
        refine mixOn ⟨_, (fun _ h => h), hS, ?_⟩
        go_frame
        refine tY (.bool true) hS rfl (yAssign _ (.bool true) rfl rfl rfl) ?_; go_frame
        refine tDone ?_
        clear hS
        rotate_left
        refine kAllocL _ _ rfl rfl zero_Hash ?_
        intro x4 hRC1 hz0 hBq
        clear hz0
        have hg6 : z0.heap.size ≤ x3.heap.size := hBx.size
        have hn1 := hO.below hBq
        clear hO
        have hO := hn1
        clear hn1
        have hn1 := hRB.below hBq hRB.lt
        clear hRB
        have hRB := hn1
        clear hn1
        have hBn := hBx.trans (hBq.mono hBx.size)
        clear hBx hBq
        have hBx := hBn
        clear hBn
        have hRC := hRC1
        clear hRC1
        clear hS
        have hS := hSk _ hBx
        refine mixOn ⟨_, (fun _ h => h), hS, ?_⟩
        go_frame
        refine tOne rfl ?_
        refine kAppHs _ _ rfl rfl z0.heap.size _ _ l [zl] rfl hO rfl (isRows_one hRB (hashR_len _) : HashesOf x4 _ [zl]) (by simp; omega) hBx.size ?_
        intro u82 x5 hO2 hBq hgr
        have hn1 := row_appJ hRC hgr (own_ne hO h2l hRC (tab_size _ _))
        clear hRC
        have hRC := hn1
        clear hn1
        have hn1 := hBx.trans hBq
        clear hBx
        have hBx := hn1
        clear hn1
        clear hBq hgr hRB hO
        clear hS
        have hS := hSk _ hBx
        refine mixOn ⟨_, (fun _ h => h), hS, ?_⟩
        go_frame
        refine tOne rfl ?_
        refine kCall1 5 _ _ _ rfl rfl (by kernel_rfl) rfl ?_
        refine (hcall _ _ hO2.of (hKz.below hBx)).mono ?_
        rintro e x6 ⟨rfl, hBq⟩
        clear hO2
        have hn1 := hRC.below hBq hRC.lt
        clear hRC
        have hRC := hn1
        clear hn1
        have hBn := hBx.trans (hBq.mono hBx.size)
        clear hBx hBq
        have hBx := hBn
        clear hBn
        clear hS
        have hS := hSk _ hBx
        refine ⟨_, rfl, mixOn ⟨_, (fun _ h => h), hS, ?_⟩⟩
        go_frame
        refine tY (.tuple #[HV (rootL l).1, .bool true]) hS rfl (yMove _ _ rfl rfl rfl) ?_; go_frame
        refine tY (HV (rootL l).1) hS rfl (yExtract _ 0 _ (HV (rootL l).1) rfl rfl rfl rfl) ?_; go_frame
        refine tY (.bool true) hS rfl (yExtract _ 1 _ (.bool true) rfl rfl rfl rfl) ?_; go_frame
        refine tOne rfl ?_
        refine kStoreHash _ _ _ (rootL l).1 _ hRC (tab_size _ _) rfl rfl rfl rfl ?_
        intro x7 hR6 hW6
        have hn1 := hBx.trans (hW6.below hg6)
        clear hBx
        have hBx := hn1
        clear hn1
        clear hRC hW6 hg6
        clear hS
        have hS := hSk _ hBx
        refine mixOn ⟨_, (fun _ h => h), hS, ?_⟩
        go_frame
        refine tY (.bool true) hS rfl (yAssign _ (.bool true) rfl rfl rfl) ?_; go_frame
        refine tDone ?_
        clear hS
        rotate_left
        refine kAllocL _ _ rfl rfl zero_Hash ?_
        intro x3 hRC1 hz0 hBq
        clear hz0
        have hg6 : z0.heap.size ≤ x2.heap.size := hBx.size
        have hn1 := hRA.below hBq hRA.lt
        clear hRA
        have hRA := hn1
        clear hn1
        have hn1 := hRB.below hBq hRB.lt
        clear hRB
        have hRB := hn1
        clear hn1
        have hBn := hBx.trans (hBq.mono hBx.size)
        clear hBx hBq
        have hBx := hBn
        clear hBn
        have hRC := hRC1
        clear hRC1
        clear hS
        have hS := hSk _ hBx
        refine mixOn ⟨_, (fun _ h => h), hS, ?_⟩
        go_frame
        refine tOne rfl ?_
        have hOa : OwnHs x3 z0.heap.size (.slice (some ⟨z0.heap.size, 0, none⟩) 0 0) [] := ownR_empty hgA hRA
        refine kAppHs _ _ rfl rfl z0.heap.size _ _ [] l rfl hOa rfl (hVz.below hBx) (by simp; omega) hBx.size ?_
        intro u74 x4 hO1 hBq hgr
        have hO : OwnHs x4 z0.heap.size u74 l := hO1
        clear hO1 hOa
        have hn1 := row_appZ hRB hRA (by simp [hashR_len]) hgr
        clear hRB
        have hRB := hn1
        clear hn1
        have hn1 := row_appZ hRC hRA (tab_size _ _) hgr
        clear hRC
        have hRC := hn1
        clear hn1
        have hn1 := hBx.trans hBq
        clear hBx
        have hBx := hn1
        clear hn1
        clear hBq hgr hRA hgA
        clear hS
        have hS := hSk _ hBx
        refine mixOn ⟨_, (fun _ h => h), hS, ?_⟩
        go_frame
        refine tOne rfl ?_
        refine kAppHs _ _ rfl rfl z0.heap.size _ _ l [zl] rfl hO rfl (isRows_one hRB (hashR_len _) : HashesOf x4 _ [zl]) (by simp; omega) hBx.size ?_
        intro u82 x5 hO2 hBq hgr
        have hn1 := row_appJ hRC hgr (own_ne hO h2l hRC (tab_size _ _))
        clear hRC
        have hRC := hn1
        clear hn1
        have hn1 := hBx.trans hBq
        clear hBx
        have hBx := hn1
        clear hn1
        clear hBq hgr hRB hO
        clear hS
        have hS := hSk _ hBx
        refine mixOn ⟨_, (fun _ h => h), hS, ?_⟩
        go_frame
        refine tOne rfl ?_
        refine kCall1 5 _ _ _ rfl rfl (by kernel_rfl) rfl ?_
        refine (hcall _ _ hO2.of (hKz.below hBx)).mono ?_
        rintro e x6 ⟨rfl, hBq⟩
        clear hO2
        have hn1 := hRC.below hBq hRC.lt
        clear hRC
        have hRC := hn1
        clear hn1
        have hBn := hBx.trans (hBq.mono hBx.size)
        clear hBx hBq
        have hBx := hBn
        clear hBn
        clear hS
        have hS := hSk _ hBx
        refine ⟨_, rfl, mixOn ⟨_, (fun _ h => h), hS, ?_⟩⟩
        go_frame
        refine tY (.tuple #[HV (rootL l).1, .bool true]) hS rfl (yMove _ _ rfl rfl rfl) ?_; go_frame
        refine tY (HV (rootL l).1) hS rfl (yExtract _ 0 _ (HV (rootL l).1) rfl rfl rfl rfl) ?_; go_frame
        refine tY (.bool true) hS rfl (yExtract _ 1 _ (.bool true) rfl rfl rfl rfl) ?_; go_frame
        refine tOne rfl ?_
        refine kStoreHash _ _ _ (rootL l).1 _ hRC (tab_size _ _) rfl rfl rfl rfl ?_
        intro x7 hR6 hW6
        have hn1 := hBx.trans (hW6.below hg6)
        clear hBx
        have hBx := hn1
        clear hn1
        clear hRC hW6 hg6
        clear hS
        have hS := hSk _ hBx
        refine mixOn ⟨_, (fun _ h => h), hS, ?_⟩
        go_frame
        refine tY (.bool true) hS rfl (yAssign _ (.bool true) rfl rfl rfl) ?_; go_frame
        refine tDone ?_
        clear hS
        rotate_left
        refine kAllocL _ _ rfl rfl zero_Hash ?_
        intro x2 hRC1 hz0 hBq
        clear hz0
        have hg6 : z0.heap.size ≤ x1.heap.size := hBx.size
        have hn1 := hRA.below hBq hRA.lt
        clear hRA
        have hRA := hn1
        clear hn1
        have hBn := hBx.trans (hBq.mono hBx.size)
        clear hBx hBq
        have hBx := hBn
        clear hBn
        have hRC := hRC1
        clear hRC1
        clear hS
        have hS := hSk _ hBx
        refine mixOn ⟨_, (fun _ h => h), hS, ?_⟩
        go_frame
        refine tTwo rfl rfl ?_ ?_
        have hOa : OwnHs x2 z0.heap.size (.slice (some ⟨z0.heap.size, 0, none⟩) 0 0) [] := ownR_empty hgA hRA
        refine kAppHs _ _ rfl rfl z0.heap.size _ _ [] l rfl hOa rfl (hVz.below hBx) (by simp; omega) hBx.size ?_
        intro u74 x3 hO1 hBq hgr
        have hO : OwnHs x3 z0.heap.size u74 l := hO1
        clear hO1 hOa
        have hn1 := row_appZ hRC hRA (tab_size _ _) hgr
        clear hRC
        have hRC := hn1
        clear hn1
        have hn1 := hBx.trans hBq
        clear hBx
        have hBx := hn1
        clear hn1
        clear hBq hgr hRA hgA
        clear hS
        have hS := hSk _ hBx
        refine mixOn ⟨_, (fun _ h => h), hS, ?_⟩
        go_frame
        refine tOne rfl ?_
        refine kBuildHs1 _ zl rfl rfl rfl ?_
        intro x4 hRB1 hz0 hBq
        clear hz0
        have hn1 := hO.below hBq
        clear hO
        have hO := hn1
        clear hn1
        have hn1 := hRC.below hBq hRC.lt
        clear hRC
        have hRC := hn1
        clear hn1
        have hBn := hBx.trans (hBq.mono hBx.size)
        clear hBx hBq
        have hBx := hBn
        clear hBn
        have hRB := hRB1
        clear hRB1
        clear hS
        have hS := hSk _ hBx
        refine mixOn ⟨_, (fun _ h => h), hS, ?_⟩
        go_frame
        refine tOne rfl ?_
        refine kAppHs _ _ rfl rfl z0.heap.size _ _ l [zl] rfl hO rfl (isRows_one hRB (hashR_len _) : HashesOf x4 _ [zl]) (by simp; omega) hBx.size ?_
        intro u82 x5 hO2 hBq hgr
        have hn1 := row_appJ hRC hgr (own_ne hO h2l hRC (tab_size _ _))
        clear hRC
        have hRC := hn1
        clear hn1
        have hn1 := hBx.trans hBq
        clear hBx
        have hBx := hn1
        clear hn1
        clear hBq hgr hRB hO
        clear hS
        have hS := hSk _ hBx
        refine mixOn ⟨_, (fun _ h => h), hS, ?_⟩
        go_frame
        refine tOne rfl ?_
        refine kCall1 5 _ _ _ rfl rfl (by kernel_rfl) rfl ?_
        refine (hcall _ _ hO2.of (hKz.below hBx)).mono ?_
        rintro e x6 ⟨rfl, hBq⟩
        clear hO2
        have hn1 := hRC.below hBq hRC.lt
        clear hRC
        have hRC := hn1
        clear hn1
        have hBn := hBx.trans (hBq.mono hBx.size)
        clear hBx hBq
        have hBx := hBn
        clear hBn
        clear hS
        have hS := hSk _ hBx
        refine ⟨_, rfl, mixOn ⟨_, (fun _ h => h), hS, ?_⟩⟩
        go_frame
        refine tY (.tuple #[HV (rootL l).1, .bool true]) hS rfl (yMove _ _ rfl rfl rfl) ?_; go_frame
        refine tY (HV (rootL l).1) hS rfl (yExtract _ 0 _ (HV (rootL l).1) rfl rfl rfl rfl) ?_; go_frame
        refine tY (.bool true) hS rfl (yExtract _ 1 _ (.bool true) rfl rfl rfl rfl) ?_; go_frame
        refine tOne rfl ?_
        refine kStoreHash _ _ _ (rootL l).1 _ hRC (tab_size _ _) rfl rfl rfl rfl ?_
        intro x7 hR6 hW6
        have hn1 := hBx.trans (hW6.below hg6)
        clear hBx
        have hBx := hn1
        clear hn1
        clear hRC hW6 hg6
        clear hS
        have hS := hSk _ hBx
        refine mixOn ⟨_, (fun _ h => h), hS, ?_⟩
        go_frame
        refine tY (.bool true) hS rfl (yAssign _ (.bool true) rfl rfl rfl) ?_; go_frame
        refine tDone ?_
        clear hS
        rotate_left
        refine kBuildHs1 _ zl rfl rfl rfl ?_
        intro x3 hRB1 hz0 hBq
        clear hz0
        have hn1 := hRA.below hBq hRA.lt
        clear hRA
        have hRA := hn1
        clear hn1
        have hn1 := hRC.below hBq hRC.lt
        clear hRC
        have hRC := hn1
        clear hn1
        have hBn := hBx.trans (hBq.mono hBx.size)
        clear hBx hBq
        have hBx := hBn
        clear hBn
        have hRB := hRB1
        clear hRB1
        clear hS
        have hS := hSk _ hBx
        refine mixOn ⟨_, (fun _ h => h), hS, ?_⟩
        go_frame
        refine tOne rfl ?_
        have hOa : OwnHs x3 z0.heap.size (.slice (some ⟨z0.heap.size, 0, none⟩) 0 0) [] := ownR_empty hgA hRA
        refine kAppHs _ _ rfl rfl z0.heap.size _ _ [] l rfl hOa rfl (hVz.below hBx) (by simp; omega) hBx.size ?_
        intro u74 x4 hO1 hBq hgr
        have hO : OwnHs x4 z0.heap.size u74 l := hO1
        clear hO1 hOa
        have hn1 := row_appZ hRB hRA (by simp [hashR_len]) hgr
        clear hRB
        have hRB := hn1
        clear hn1
        have hn1 := row_appZ hRC hRA (tab_size _ _) hgr
        clear hRC
        have hRC := hn1
        clear hn1
        have hn1 := hBx.trans hBq
        clear hBx
        have hBx := hn1
        clear hn1
        clear hBq hgr hRA hgA
        clear hS
        have hS := hSk _ hBx
        refine mixOn ⟨_, (fun _ h => h), hS, ?_⟩
        go_frame
        refine tOne rfl ?_
        refine kAppHs _ _ rfl rfl z0.heap.size _ _ l [zl] rfl hO rfl (isRows_one hRB (hashR_len _) : HashesOf x4 _ [zl]) (by simp; omega) hBx.size ?_
        intro u82 x5 hO2 hBq hgr
        have hn1 := row_appJ hRC hgr (own_ne hO h2l hRC (tab_size _ _))
        clear hRC
        have hRC := hn1
        clear hn1
        have hn1 := hBx.trans hBq
        clear hBx
        have hBx := hn1
        clear hn1
        clear hBq hgr hRB hO
        clear hS
        have hS := hSk _ hBx
        refine mixOn ⟨_, (fun _ h => h), hS, ?_⟩
        go_frame
        refine tOne rfl ?_
        refine kCall1 5 _ _ _ rfl rfl (by kernel_rfl) rfl ?_
        refine (hcall _ _ hO2.of (hKz.below hBx)).mono ?_
        rintro e x6 ⟨rfl, hBq⟩
        clear hO2
        have hn1 := hRC.below hBq hRC.lt
        clear hRC
        have hRC := hn1
        clear hn1
        have hBn := hBx.trans (hBq.mono hBx.size)
        clear hBx hBq
        have hBx := hBn
        clear hBn
        clear hS
        have hS := hSk _ hBx
        refine ⟨_, rfl, mixOn ⟨_, (fun _ h => h), hS, ?_⟩⟩
        go_frame
        refine tY (.tuple #[HV (rootL l).1, .bool true]) hS rfl (yMove _ _ rfl rfl rfl) ?_; go_frame
        refine tY (HV (rootL l).1) hS rfl (yExtract _ 0 _ (HV (rootL l).1) rfl rfl rfl rfl) ?_; go_frame
        refine tY (.bool true) hS rfl (yExtract _ 1 _ (.bool true) rfl rfl rfl rfl) ?_; go_frame
        refine tOne rfl ?_
        refine kStoreHash _ _ _ (rootL l).1 _ hRC (tab_size _ _) rfl rfl rfl rfl ?_
        intro x7 hR6 hW6
        have hn1 := hBx.trans (hW6.below hg6)
        clear hBx
        have hBx := hn1
        clear hn1
        clear hRC hW6 hg6
        clear hS
        have hS := hSk _ hBx
        refine mixOn ⟨_, (fun _ h => h), hS, ?_⟩
        go_frame
        refine tY (.bool true) hS rfl (yAssign _ (.bool true) rfl rfl rfl) ?_; go_frame
        refine tDone ?_
        clear hS
        rotate_left
        refine kBuildHs1 _ zl rfl rfl rfl ?_
        intro x1 hRB1 hz0 hBq
        clear hz0
        have hBn := hBx.trans (hBq.mono hBx.size)
        clear hBx hBq
        have hBx := hBn
        clear hBn
        have hRB := hRB1
        clear hRB1
        clear hS
        have hS := hSk _ hBx
        refine mixOn ⟨_, (fun _ h => h), hS, ?_⟩
        go_frame
        refine tTwo rfl rfl ?_ ?_
        refine kBuildSlice0 _ _ rfl rfl Tryd.underlying22 ih0 hih0 ?_
        intro x2 hRA1 hz0 hBq
        clear hz0
        have hgA : z0.heap.size ≤ x1.heap.size := hBx.size
        have hn1 := hRB.below hBq hRB.lt
        clear hRB
        have hRB := hn1
        clear hn1
        have hBn := hBx.trans (hBq.mono hBx.size)
        clear hBx hBq
        have hBx := hBn
        clear hBn
        have hRA := hRA1
        clear hRA1
        clear hS
        have hS := hSk _ hBx
        refine mixOn ⟨_, (fun _ h => h), hS, ?_⟩
        go_frame
        refine tTwo rfl rfl ?_ ?_
        have hOa : OwnHs x2 z0.heap.size (.slice (some ⟨x1.heap.size, 0, none⟩) 0 0) [] := ownR_empty hgA hRA
        refine kAppHs _ _ rfl rfl z0.heap.size _ _ [] l rfl hOa rfl (hVz.below hBx) (by simp; omega) hBx.size ?_
        intro u74 x3 hO1 hBq hgr
        have hO : OwnHs x3 z0.heap.size u74 l := hO1
        clear hO1 hOa
        have hn1 := row_appZ hRB hRA (by simp [hashR_len]) hgr
        clear hRB
        have hRB := hn1
        clear hn1
        have hn1 := hBx.trans hBq
        clear hBx
        have hBx := hn1
        clear hn1
        clear hBq hgr hRA hgA
        clear hS
        have hS := hSk _ hBx
        refine mixOn ⟨_, (fun _ h => h), hS, ?_⟩
        go_frame
        refine tTwo rfl rfl ?_ ?_
        refine kAppHs _ _ rfl rfl z0.heap.size _ _ l [zl] rfl hO rfl (isRows_one hRB (hashR_len _) : HashesOf x3 _ [zl]) (by simp; omega) hBx.size ?_
        intro u82 x4 hO2 hBq hgr
        have hn1 := hBx.trans hBq
        clear hBx
        have hBx := hn1
        clear hn1
        clear hBq hgr hRB hO
        clear hS
        have hS := hSk _ hBx
        refine mixOn ⟨_, (fun _ h => h), hS, ?_⟩
        go_frame
        refine tTwo rfl rfl ?_ ?_
        refine kCall1 5 _ _ _ rfl rfl (by kernel_rfl) rfl ?_
        refine (hcall _ _ hO2.of (hKz.below hBx)).mono ?_
        rintro e x5 ⟨rfl, hBq⟩
        clear hO2
        have hBn := hBx.trans (hBq.mono hBx.size)
        clear hBx hBq
        have hBx := hBn
        clear hBn
        clear hS
        have hS := hSk _ hBx
        refine ⟨_, rfl, mixOn ⟨_, (fun _ h => h), hS, ?_⟩⟩
        go_frame
        refine tY (.tuple #[HV (rootL l).1, .bool true]) hS rfl (yMove _ _ rfl rfl rfl) ?_; go_frame
        refine tY (HV (rootL l).1) hS rfl (yExtract _ 0 _ (HV (rootL l).1) rfl rfl rfl rfl) ?_; go_frame
        refine tY (.bool true) hS rfl (yExtract _ 1 _ (.bool true) rfl rfl rfl rfl) ?_; go_frame
        refine tOne rfl ?_
        refine kAllocL _ _ rfl rfl zero_Hash ?_
        intro x6 hRC1 hz0 hBq
        clear hz0
        have hg6 : z0.heap.size ≤ x5.heap.size := hBx.size
        have hBn := hBx.trans (hBq.mono hBx.size)
        clear hBx hBq
        have hBx := hBn
        clear hBn
        have hRC := hRC1
        clear hRC1
        clear hS
        have hS := hSk _ hBx
        refine mixOn ⟨_, (fun _ h => h), hS, ?_⟩
        go_frame
        refine tOne rfl ?_
        refine kStoreHash _ _ _ (rootL l).1 _ hRC (tab_size _ _) rfl rfl rfl rfl ?_
        intro x7 hR6 hW6
        have hn1 := hBx.trans (hW6.below hg6)
        clear hBx
        have hBx := hn1
        clear hn1
        clear hRC hW6 hg6
        clear hS
        have hS := hSk _ hBx
        refine mixOn ⟨_, (fun _ h => h), hS, ?_⟩
        go_frame
        refine tY (.bool true) hS rfl (yAssign _ (.bool true) rfl rfl rfl) ?_; go_frame
        refine tDone ?_
        clear hS
        rotate_left
        refine kAllocL _ _ rfl rfl zero_Hash ?_
        intro x5 hRC1 hz0 hBq
        clear hz0
        have hg6 : z0.heap.size ≤ x4.heap.size := hBx.size
        have hn1 := hO2.below hBq
        clear hO2
        have hO2 := hn1
        clear hn1
        have hBn := hBx.trans (hBq.mono hBx.size)
        clear hBx hBq
        have hBx := hBn
        clear hBn
        have hRC := hRC1
        clear hRC1
        clear hS
        have hS := hSk _ hBx
        refine mixOn ⟨_, (fun _ h => h), hS, ?_⟩
        go_frame
        refine tOne rfl ?_
        refine kCall1 5 _ _ _ rfl rfl (by kernel_rfl) rfl ?_
        refine (hcall _ _ hO2.of (hKz.below hBx)).mono ?_
        rintro e x6 ⟨rfl, hBq⟩
        clear hO2
        have hn1 := hRC.below hBq hRC.lt
        clear hRC
        have hRC := hn1
        clear hn1
        have hBn := hBx.trans (hBq.mono hBx.size)
        clear hBx hBq
        have hBx := hBn
        clear hBn
        clear hS
        have hS := hSk _ hBx
        refine ⟨_, rfl, mixOn ⟨_, (fun _ h => h), hS, ?_⟩⟩
        go_frame
        refine tY (.tuple #[HV (rootL l).1, .bool true]) hS rfl (yMove _ _ rfl rfl rfl) ?_; go_frame
        refine tY (HV (rootL l).1) hS rfl (yExtract _ 0 _ (HV (rootL l).1) rfl rfl rfl rfl) ?_; go_frame
        refine tY (.bool true) hS rfl (yExtract _ 1 _ (.bool true) rfl rfl rfl rfl) ?_; go_frame
        refine tOne rfl ?_
        refine kStoreHash _ _ _ (rootL l).1 _ hRC (tab_size _ _) rfl rfl rfl rfl ?_
        intro x7 hR6 hW6
        have hn1 := hBx.trans (hW6.below hg6)
        clear hBx
        have hBx := hn1
        clear hn1
        clear hRC hW6 hg6
        clear hS
        have hS := hSk _ hBx
        refine mixOn ⟨_, (fun _ h => h), hS, ?_⟩
        go_frame
        refine tY (.bool true) hS rfl (yAssign _ (.bool true) rfl rfl rfl) ?_; go_frame
        refine tDone ?_
        clear hS
        rotate_left
        refine kAllocL _ _ rfl rfl zero_Hash ?_
        intro x4 hRC1 hz0 hBq
        clear hz0
        have hg6 : z0.heap.size ≤ x3.heap.size := hBx.size
        have hn1 := hO.below hBq
        clear hO
        have hO := hn1
        clear hn1
        have hn1 := hRB.below hBq hRB.lt
        clear hRB
        have hRB := hn1
        clear hn1
        have hBn := hBx.trans (hBq.mono hBx.size)
        clear hBx hBq
        have hBx := hBn
        clear hBn
        have hRC := hRC1
        clear hRC1
        clear hS
        have hS := hSk _ hBx
        refine mixOn ⟨_, (fun _ h => h), hS, ?_⟩
        go_frame
        refine tOne rfl ?_
        refine kAppHs _ _ rfl rfl z0.heap.size _ _ l [zl] rfl hO rfl (isRows_one hRB (hashR_len _) : HashesOf x4 _ [zl]) (by simp; omega) hBx.size ?_
        intro u82 x5 hO2 hBq hgr
        have hn1 := row_appJ hRC hgr (own_ne hO h2l hRC (tab_size _ _))
        clear hRC
        have hRC := hn1
        clear hn1
        have hn1 := hBx.trans hBq
        clear hBx
        have hBx := hn1
        clear hn1
        clear hBq hgr hRB hO
        clear hS
        have hS := hSk _ hBx
        refine mixOn ⟨_, (fun _ h => h), hS, ?_⟩
        go_frame
        refine tOne rfl ?_
        refine kCall1 5 _ _ _ rfl rfl (by kernel_rfl) rfl ?_
        refine (hcall _ _ hO2.of (hKz.below hBx)).mono ?_
        rintro e x6 ⟨rfl, hBq⟩
        clear hO2
        have hn1 := hRC.below hBq hRC.lt
        clear hRC
        have hRC := hn1
        clear hn1
        have hBn := hBx.trans (hBq.mono hBx.size)
        clear hBx hBq
        have hBx := hBn
        clear hBn
        clear hS
        have hS := hSk _ hBx
        refine ⟨_, rfl, mixOn ⟨_, (fun _ h => h), hS, ?_⟩⟩
        go_frame
        refine tY (.tuple #[HV (rootL l).1, .bool true]) hS rfl (yMove _ _ rfl rfl rfl) ?_; go_frame
        refine tY (HV (rootL l).1) hS rfl (yExtract _ 0 _ (HV (rootL l).1) rfl rfl rfl rfl) ?_; go_frame
        refine tY (.bool true) hS rfl (yExtract _ 1 _ (.bool true) rfl rfl rfl rfl) ?_; go_frame
        refine tOne rfl ?_
        refine kStoreHash _ _ _ (rootL l).1 _ hRC (tab_size _ _) rfl rfl rfl rfl ?_
        intro x7 hR6 hW6
        have hn1 := hBx.trans (hW6.below hg6)
        clear hBx
        have hBx := hn1
        clear hn1
        clear hRC hW6 hg6
        clear hS
        have hS := hSk _ hBx
        refine mixOn ⟨_, (fun _ h => h), hS, ?_⟩
        go_frame
        refine tY (.bool true) hS rfl (yAssign _ (.bool true) rfl rfl rfl) ?_; go_frame
        refine tDone ?_
        clear hS
        rotate_left
        refine kAllocL _ _ rfl rfl zero_Hash ?_
        intro x3 hRC1 hz0 hBq
        clear hz0
        have hg6 : z0.heap.size ≤ x2.heap.size := hBx.size
        have hn1 := hRA.below hBq hRA.lt
        clear hRA
        have hRA := hn1
        clear hn1
        have hn1 := hRB.below hBq hRB.lt
        clear hRB
        have hRB := hn1
        clear hn1
        have hBn := hBx.trans (hBq.mono hBx.size)
        clear hBx hBq
        have hBx := hBn
        clear hBn
        have hRC := hRC1
        clear hRC1
        clear hS
        have hS := hSk _ hBx
        refine mixOn ⟨_, (fun _ h => h), hS, ?_⟩
        go_frame
        refine tOne rfl ?_
        have hOa : OwnHs x3 z0.heap.size (.slice (some ⟨x1.heap.size, 0, none⟩) 0 0) [] := ownR_empty hgA hRA
        refine kAppHs _ _ rfl rfl z0.heap.size _ _ [] l rfl hOa rfl (hVz.below hBx) (by simp; omega) hBx.size ?_
        intro u74 x4 hO1 hBq hgr
        have hO : OwnHs x4 z0.heap.size u74 l := hO1
        clear hO1 hOa
        have hn1 := row_appZ hRB hRA (by simp [hashR_len]) hgr
        clear hRB
        have hRB := hn1
        clear hn1
        have hn1 := row_appZ hRC hRA (tab_size _ _) hgr
        clear hRC
        have hRC := hn1
        clear hn1
        have hn1 := hBx.trans hBq
        clear hBx
        have hBx := hn1
        clear hn1
        clear hBq hgr hRA hgA
        clear hS
        have hS := hSk _ hBx
        refine mixOn ⟨_, (fun _ h => h), hS, ?_⟩
        go_frame
        refine tOne rfl ?_
        refine kAppHs _ _ rfl rfl z0.heap.size _ _ l [zl] rfl hO rfl (isRows_one hRB (hashR_len _) : HashesOf x4 _ [zl]) (by simp; omega) hBx.size ?_
        intro u82 x5 hO2 hBq hgr
        have hn1 := row_appJ hRC hgr (own_ne hO h2l hRC (tab_size _ _))
        clear hRC
        have hRC := hn1
        clear hn1
        have hn1 := hBx.trans hBq
        clear hBx
        have hBx := hn1
        clear hn1
        clear hBq hgr hRB hO
        clear hS
        have hS := hSk _ hBx
        refine mixOn ⟨_, (fun _ h => h), hS, ?_⟩
        go_frame
        refine tOne rfl ?_
        refine kCall1 5 _ _ _ rfl rfl (by kernel_rfl) rfl ?_
        refine (hcall _ _ hO2.of (hKz.below hBx)).mono ?_
        rintro e x6 ⟨rfl, hBq⟩
        clear hO2
        have hn1 := hRC.below hBq hRC.lt
        clear hRC
        have hRC := hn1
        clear hn1
        have hBn := hBx.trans (hBq.mono hBx.size)
        clear hBx hBq
        have hBx := hBn
        clear hBn
        clear hS
        have hS := hSk _ hBx
        refine ⟨_, rfl, mixOn ⟨_, (fun _ h => h), hS, ?_⟩⟩
        go_frame
        refine tY (.tuple #[HV (rootL l).1, .bool true]) hS rfl (yMove _ _ rfl rfl rfl) ?_; go_frame
        refine tY (HV (rootL l).1) hS rfl (yExtract _ 0 _ (HV (rootL l).1) rfl rfl rfl rfl) ?_; go_frame
        refine tY (.bool true) hS rfl (yExtract _ 1 _ (.bool true) rfl rfl rfl rfl) ?_; go_frame
        refine tOne rfl ?_
        refine kStoreHash _ _ _ (rootL l).1 _ hRC (tab_size _ _) rfl rfl rfl rfl ?_
        intro x7 hR6 hW6
        have hn1 := hBx.trans (hW6.below hg6)
        clear hBx
        have hBx := hn1
        clear hn1
        clear hRC hW6 hg6
        clear hS
        have hS := hSk _ hBx
        refine mixOn ⟨_, (fun _ h => h), hS, ?_⟩
        go_frame
        refine tY (.bool true) hS rfl (yAssign _ (.bool true) rfl rfl rfl) ?_; go_frame
        refine tDone ?_
        clear hS
        rotate_left
        refine kAllocL _ _ rfl rfl zero_Hash ?_
        intro x2 hRC1 hz0 hBq
        clear hz0
        have hg6 : z0.heap.size ≤ x1.heap.size := hBx.size
        have hn1 := hRB.below hBq hRB.lt
        clear hRB
        have hRB := hn1
        clear hn1
        have hBn := hBx.trans (hBq.mono hBx.size)
        clear hBx hBq
        have hBx := hBn
        clear hBn
        have hRC := hRC1
        clear hRC1
        clear hS
        have hS := hSk _ hBx
        refine mixOn ⟨_, (fun _ h => h), hS, ?_⟩
        go_frame
        refine tOne rfl ?_
        refine kBuildSlice0 _ _ rfl rfl Tryd.underlying22 ih0 hih0 ?_
        intro x3 hRA1 hz0 hBq
        clear hz0
        have hgA : z0.heap.size ≤ x2.heap.size := hBx.size
        have hn1 := hRB.below hBq hRB.lt
        clear hRB
        have hRB := hn1
        clear hn1
        have hn1 := hRC.below hBq hRC.lt
        clear hRC
        have hRC := hn1
        clear hn1
        have hBn := hBx.trans (hBq.mono hBx.size)
        clear hBx hBq
        have hBx := hBn
        clear hBn
        have hRA := hRA1
        clear hRA1
        clear hS
        have hS := hSk _ hBx
        refine mixOn ⟨_, (fun _ h => h), hS, ?_⟩
        go_frame
        refine tOne rfl ?_
        have hOa : OwnHs x3 z0.heap.size (.slice (some ⟨x2.heap.size, 0, none⟩) 0 0) [] := ownR_empty hgA hRA
        refine kAppHs _ _ rfl rfl z0.heap.size _ _ [] l rfl hOa rfl (hVz.below hBx) (by simp; omega) hBx.size ?_
        intro u74 x4 hO1 hBq hgr
        have hO : OwnHs x4 z0.heap.size u74 l := hO1
        clear hO1 hOa
        have hn1 := row_appZ hRB hRA (by simp [hashR_len]) hgr
        clear hRB
        have hRB := hn1
        clear hn1
        have hn1 := row_appZ hRC hRA (tab_size _ _) hgr
        clear hRC
        have hRC := hn1
        clear hn1
        have hn1 := hBx.trans hBq
        clear hBx
        have hBx := hn1
        clear hn1
        clear hBq hgr hRA hgA
        clear hS
        have hS := hSk _ hBx
        refine mixOn ⟨_, (fun _ h => h), hS, ?_⟩
        go_frame
        refine tOne rfl ?_
        refine kAppHs _ _ rfl rfl z0.heap.size _ _ l [zl] rfl hO rfl (isRows_one hRB (hashR_len _) : HashesOf x4 _ [zl]) (by simp; omega) hBx.size ?_
        intro u82 x5 hO2 hBq hgr
        have hn1 := row_appJ hRC hgr (own_ne hO h2l hRC (tab_size _ _))
        clear hRC
        have hRC := hn1
        clear hn1
        have hn1 := hBx.trans hBq
        clear hBx
        have hBx := hn1
        clear hn1
        clear hBq hgr hRB hO
        clear hS
        have hS := hSk _ hBx
        refine mixOn ⟨_, (fun _ h => h), hS, ?_⟩
        go_frame
        refine tOne rfl ?_
        refine kCall1 5 _ _ _ rfl rfl (by kernel_rfl) rfl ?_
        refine (hcall _ _ hO2.of (hKz.below hBx)).mono ?_
        rintro e x6 ⟨rfl, hBq⟩
        clear hO2
        have hn1 := hRC.below hBq hRC.lt
        clear hRC
        have hRC := hn1
        clear hn1
        have hBn := hBx.trans (hBq.mono hBx.size)
        clear hBx hBq
        have hBx := hBn
        clear hBn
        clear hS
        have hS := hSk _ hBx
        refine ⟨_, rfl, mixOn ⟨_, (fun _ h => h), hS, ?_⟩⟩
        go_frame
        refine tY (.tuple #[HV (rootL l).1, .bool true]) hS rfl (yMove _ _ rfl rfl rfl) ?_; go_frame
        refine tY (HV (rootL l).1) hS rfl (yExtract _ 0 _ (HV (rootL l).1) rfl rfl rfl rfl) ?_; go_frame
        refine tY (.bool true) hS rfl (yExtract _ 1 _ (.bool true) rfl rfl rfl rfl) ?_; go_frame
        refine tOne rfl ?_
        refine kStoreHash _ _ _ (rootL l).1 _ hRC (tab_size _ _) rfl rfl rfl rfl ?_
        intro x7 hR6 hW6
        have hn1 := hBx.trans (hW6.below hg6)
        clear hBx
        have hBx := hn1
        clear hn1
        clear hRC hW6 hg6
        clear hS
        have hS := hSk _ hBx
        refine mixOn ⟨_, (fun _ h => h), hS, ?_⟩
        go_frame
        refine tY (.bool true) hS rfl (yAssign _ (.bool true) rfl rfl rfl) ?_; go_frame
        refine tDone ?_
        clear hS
        rotate_left
        refine kAllocL _ _ rfl rfl zero_Hash ?_
        intro x1 hRC1 hz0 hBq
        clear hz0
        have hg6 : z0.heap.size ≤ z0.heap.size := hBx.size
        have hBn := hBx.trans (hBq.mono hBx.size)
        clear hBx hBq
        have hBx := hBn
        clear hBn
        have hRC := hRC1
        clear hRC1
        clear hS
        have hS := hSk _ hBx
        refine mixOn ⟨_, (fun _ h => h), hS, ?_⟩
        go_frame
        refine tTwo rfl rfl ?_ ?_
        refine kBuildSlice0 _ _ rfl rfl Tryd.underlying22 ih0 hih0 ?_
        intro x2 hRA1 hz0 hBq
        clear hz0
        have hgA : z0.heap.size ≤ x1.heap.size := hBx.size
        have hn1 := hRC.below hBq hRC.lt
        clear hRC
        have hRC := hn1
        clear hn1
        have hBn := hBx.trans (hBq.mono hBx.size)
        clear hBx hBq
        have hBx := hBn
        clear hBn
        have hRA := hRA1
        clear hRA1
        clear hS
        have hS := hSk _ hBx
        refine mixOn ⟨_, (fun _ h => h), hS, ?_⟩
        go_frame
        refine tTwo rfl rfl ?_ ?_
        have hOa : OwnHs x2 z0.heap.size (.slice (some ⟨x1.heap.size, 0, none⟩) 0 0) [] := ownR_empty hgA hRA
        refine kAppHs _ _ rfl rfl z0.heap.size _ _ [] l rfl hOa rfl (hVz.below hBx) (by simp; omega) hBx.size ?_
        intro u74 x3 hO1 hBq hgr
        have hO : OwnHs x3 z0.heap.size u74 l := hO1
        clear hO1 hOa
        have hn1 := row_appZ hRC hRA (tab_size _ _) hgr
        clear hRC
        have hRC := hn1
        clear hn1
        have hn1 := hBx.trans hBq
        clear hBx
        have hBx := hn1
        clear hn1
        clear hBq hgr hRA hgA
        clear hS
        have hS := hSk _ hBx
        refine mixOn ⟨_, (fun _ h => h), hS, ?_⟩
        go_frame
        refine tOne rfl ?_
        refine kBuildHs1 _ zl rfl rfl rfl ?_
        intro x4 hRB1 hz0 hBq
        clear hz0
        have hn1 := hO.below hBq
        clear hO
        have hO := hn1
        clear hn1
        have hn1 := hRC.below hBq hRC.lt
        clear hRC
        have hRC := hn1
        clear hn1
        have hBn := hBx.trans (hBq.mono hBx.size)
        clear hBx hBq
        have hBx := hBn
        clear hBn
        have hRB := hRB1
        clear hRB1
        clear hS
        have hS := hSk _ hBx
        refine mixOn ⟨_, (fun _ h => h), hS, ?_⟩
        go_frame
        refine tOne rfl ?_
        refine kAppHs _ _ rfl rfl z0.heap.size _ _ l [zl] rfl hO rfl (isRows_one hRB (hashR_len _) : HashesOf x4 _ [zl]) (by simp; omega) hBx.size ?_
        intro u82 x5 hO2 hBq hgr
        have hn1 := row_appJ hRC hgr (own_ne hO h2l hRC (tab_size _ _))
        clear hRC
        have hRC := hn1
        clear hn1
        have hn1 := hBx.trans hBq
        clear hBx
        have hBx := hn1
        clear hn1
        clear hBq hgr hRB hO
        clear hS
        have hS := hSk _ hBx
        refine mixOn ⟨_, (fun _ h => h), hS, ?_⟩
        go_frame
        refine tOne rfl ?_
        refine kCall1 5 _ _ _ rfl rfl (by kernel_rfl) rfl ?_
        refine (hcall _ _ hO2.of (hKz.below hBx)).mono ?_
        rintro e x6 ⟨rfl, hBq⟩
        clear hO2
        have hn1 := hRC.below hBq hRC.lt
        clear hRC
        have hRC := hn1
        clear hn1
        have hBn := hBx.trans (hBq.mono hBx.size)
        clear hBx hBq
        have hBx := hBn
        clear hBn
        clear hS
        have hS := hSk _ hBx
        refine ⟨_, rfl, mixOn ⟨_, (fun _ h => h), hS, ?_⟩⟩
        go_frame
        refine tY (.tuple #[HV (rootL l).1, .bool true]) hS rfl (yMove _ _ rfl rfl rfl) ?_; go_frame
        refine tY (HV (rootL l).1) hS rfl (yExtract _ 0 _ (HV (rootL l).1) rfl rfl rfl rfl) ?_; go_frame
        refine tY (.bool true) hS rfl (yExtract _ 1 _ (.bool true) rfl rfl rfl rfl) ?_; go_frame
        refine tOne rfl ?_
        refine kStoreHash _ _ _ (rootL l).1 _ hRC (tab_size _ _) rfl rfl rfl rfl ?_
        intro x7 hR6 hW6
        have hn1 := hBx.trans (hW6.below hg6)
        clear hBx
        have hBx := hn1
        clear hn1
        clear hRC hW6 hg6
        clear hS
        have hS := hSk _ hBx
        refine mixOn ⟨_, (fun _ h => h), hS, ?_⟩
        go_frame
        refine tY (.bool true) hS rfl (yAssign _ (.bool true) rfl rfl rfl) ?_; go_frame
        refine tDone ?_
        clear hS
        rotate_left
        refine kBuildHs1 _ zl rfl rfl rfl ?_
        intro x3 hRB1 hz0 hBq
        clear hz0
        have hn1 := hRA.below hBq hRA.lt
        clear hRA
        have hRA := hn1
        clear hn1
        have hn1 := hRC.below hBq hRC.lt
        clear hRC
        have hRC := hn1
        clear hn1
        have hBn := hBx.trans (hBq.mono hBx.size)
        clear hBx hBq
        have hBx := hBn
        clear hBn
        have hRB := hRB1
        clear hRB1
        clear hS
        have hS := hSk _ hBx
        refine mixOn ⟨_, (fun _ h => h), hS, ?_⟩
        go_frame
        refine tOne rfl ?_
        have hOa : OwnHs x3 z0.heap.size (.slice (some ⟨x1.heap.size, 0, none⟩) 0 0) [] := ownR_empty hgA hRA
        refine kAppHs _ _ rfl rfl z0.heap.size _ _ [] l rfl hOa rfl (hVz.below hBx) (by simp; omega) hBx.size ?_
        intro u74 x4 hO1 hBq hgr
        have hO : OwnHs x4 z0.heap.size u74 l := hO1
        clear hO1 hOa
        have hn1 := row_appZ hRB hRA (by simp [hashR_len]) hgr
        clear hRB
        have hRB := hn1
        clear hn1
        have hn1 := row_appZ hRC hRA (tab_size _ _) hgr
        clear hRC
        have hRC := hn1
        clear hn1
        have hn1 := hBx.trans hBq
        clear hBx
        have hBx := hn1
        clear hn1
        clear hBq hgr hRA hgA
        clear hS
        have hS := hSk _ hBx
        refine mixOn ⟨_, (fun _ h => h), hS, ?_⟩
        go_frame
        refine tOne rfl ?_
        refine kAppHs _ _ rfl rfl z0.heap.size _ _ l [zl] rfl hO rfl (isRows_one hRB (hashR_len _) : HashesOf x4 _ [zl]) (by simp; omega) hBx.size ?_
        intro u82 x5 hO2 hBq hgr
        have hn1 := row_appJ hRC hgr (own_ne hO h2l hRC (tab_size _ _))
        clear hRC
        have hRC := hn1
        clear hn1
        have hn1 := hBx.trans hBq
        clear hBx
        have hBx := hn1
        clear hn1
        clear hBq hgr hRB hO
        clear hS
        have hS := hSk _ hBx
        refine mixOn ⟨_, (fun _ h => h), hS, ?_⟩
        go_frame
        refine tOne rfl ?_
        refine kCall1 5 _ _ _ rfl rfl (by kernel_rfl) rfl ?_
        refine (hcall _ _ hO2.of (hKz.below hBx)).mono ?_
        rintro e x6 ⟨rfl, hBq⟩
        clear hO2
        have hn1 := hRC.below hBq hRC.lt
        clear hRC
        have hRC := hn1
        clear hn1
        have hBn := hBx.trans (hBq.mono hBx.size)
        clear hBx hBq
        have hBx := hBn
        clear hBn
        clear hS
        have hS := hSk _ hBx
        refine ⟨_, rfl, mixOn ⟨_, (fun _ h => h), hS, ?_⟩⟩
        go_frame
        refine tY (.tuple #[HV (rootL l).1, .bool true]) hS rfl (yMove _ _ rfl rfl rfl) ?_; go_frame
        refine tY (HV (rootL l).1) hS rfl (yExtract _ 0 _ (HV (rootL l).1) rfl rfl rfl rfl) ?_; go_frame
        refine tY (.bool true) hS rfl (yExtract _ 1 _ (.bool true) rfl rfl rfl rfl) ?_; go_frame
        refine tOne rfl ?_
        refine kStoreHash _ _ _ (rootL l).1 _ hRC (tab_size _ _) rfl rfl rfl rfl ?_
        intro x7 hR6 hW6
        have hn1 := hBx.trans (hW6.below hg6)
        clear hBx
        have hBx := hn1
        clear hn1
        clear hRC hW6 hg6
        clear hS
        have hS := hSk _ hBx
        refine mixOn ⟨_, (fun _ h => h), hS, ?_⟩
        go_frame
        refine tY (.bool true) hS rfl (yAssign _ (.bool true) rfl rfl rfl) ?_; go_frame
        refine tDone ?_
        clear hS
        rotate_left
        refine kBuildHs1 _ zl rfl rfl rfl ?_
        intro x2 hRB1 hz0 hBq
        clear hz0
        have hn1 := hRC.below hBq hRC.lt
        clear hRC
        have hRC := hn1
        clear hn1
        have hBn := hBx.trans (hBq.mono hBx.size)
        clear hBx hBq
        have hBx := hBn
        clear hBn
        have hRB := hRB1
        clear hRB1
        clear hS
        have hS := hSk _ hBx
        refine mixOn ⟨_, (fun _ h => h), hS, ?_⟩
        go_frame
        refine tOne rfl ?_
        refine kBuildSlice0 _ _ rfl rfl Tryd.underlying22 ih0 hih0 ?_
        intro x3 hRA1 hz0 hBq
        clear hz0
        have hgA : z0.heap.size ≤ x2.heap.size := hBx.size
        have hn1 := hRB.below hBq hRB.lt
        clear hRB
        have hRB := hn1
        clear hn1
        have hn1 := hRC.below hBq hRC.lt
        clear hRC
        have hRC := hn1
        clear hn1
        have hBn := hBx.trans (hBq.mono hBx.size)
        clear hBx hBq
        have hBx := hBn
        clear hBn
        have hRA := hRA1
        clear hRA1
        clear hS
        have hS := hSk _ hBx
        refine mixOn ⟨_, (fun _ h => h), hS, ?_⟩
        go_frame
        refine tOne rfl ?_
        have hOa : OwnHs x3 z0.heap.size (.slice (some ⟨x2.heap.size, 0, none⟩) 0 0) [] := ownR_empty hgA hRA
        refine kAppHs _ _ rfl rfl z0.heap.size _ _ [] l rfl hOa rfl (hVz.below hBx) (by simp; omega) hBx.size ?_
        intro u74 x4 hO1 hBq hgr
        have hO : OwnHs x4 z0.heap.size u74 l := hO1
        clear hO1 hOa
        have hn1 := row_appZ hRB hRA (by simp [hashR_len]) hgr
        clear hRB
        have hRB := hn1
        clear hn1
        have hn1 := row_appZ hRC hRA (tab_size _ _) hgr
        clear hRC
        have hRC := hn1
        clear hn1
        have hn1 := hBx.trans hBq
        clear hBx
        have hBx := hn1
        clear hn1
        clear hBq hgr hRA hgA
        clear hS
        have hS := hSk _ hBx
        refine mixOn ⟨_, (fun _ h => h), hS, ?_⟩
        go_frame
        refine tOne rfl ?_
        refine kAppHs _ _ rfl rfl z0.heap.size _ _ l [zl] rfl hO rfl (isRows_one hRB (hashR_len _) : HashesOf x4 _ [zl]) (by simp; omega) hBx.size ?_
        intro u82 x5 hO2 hBq hgr
        have hn1 := row_appJ hRC hgr (own_ne hO h2l hRC (tab_size _ _))
        clear hRC
        have hRC := hn1
        clear hn1
        have hn1 := hBx.trans hBq
        clear hBx
        have hBx := hn1
        clear hn1
        clear hBq hgr hRB hO
        clear hS
        have hS := hSk _ hBx
        refine mixOn ⟨_, (fun _ h => h), hS, ?_⟩
        go_frame
        refine tOne rfl ?_
        refine kCall1 5 _ _ _ rfl rfl (by kernel_rfl) rfl ?_
        refine (hcall _ _ hO2.of (hKz.below hBx)).mono ?_
        rintro e x6 ⟨rfl, hBq⟩
        clear hO2
        have hn1 := hRC.below hBq hRC.lt
        clear hRC
        have hRC := hn1
        clear hn1
        have hBn := hBx.trans (hBq.mono hBx.size)
        clear hBx hBq
        have hBx := hBn
        clear hBn
        clear hS
        have hS := hSk _ hBx
        refine ⟨_, rfl, mixOn ⟨_, (fun _ h => h), hS, ?_⟩⟩
        go_frame
        refine tY (.tuple #[HV (rootL l).1, .bool true]) hS rfl (yMove _ _ rfl rfl rfl) ?_; go_frame
        refine tY (HV (rootL l).1) hS rfl (yExtract _ 0 _ (HV (rootL l).1) rfl rfl rfl rfl) ?_; go_frame
        refine tY (.bool true) hS rfl (yExtract _ 1 _ (.bool true) rfl rfl rfl rfl) ?_; go_frame
        refine tOne rfl ?_
        refine kStoreHash _ _ _ (rootL l).1 _ hRC (tab_size _ _) rfl rfl rfl rfl ?_
        intro x7 hR6 hW6
        have hn1 := hBx.trans (hW6.below hg6)
        clear hBx
        have hBx := hn1
        clear hn1
        clear hRC hW6 hg6
        clear hS
        have hS := hSk _ hBx
        refine mixOn ⟨_, (fun _ h => h), hS, ?_⟩
        go_frame
        refine tY (.bool true) hS rfl (yAssign _ (.bool true) rfl rfl rfl) ?_; go_frame
        refine tDone ?_
        clear hS
        rotate_left
        all_goals (have hR8 := hR8z.below hBx hR8z.lt; have hBf := hBz.trans (hBx.mono hBz.size); clear hR8z hBz hBx)
        go_wp2_with (first
          | ((with_reducible change wpList _ _ _ (Oper.mk (some 86) _ _ _ _ _ :: _) _ _); refine kLoadHash _ _ _ hR6 rfl rfl rfl ?_; go_frame)
          | ((with_reducible change wpList _ _ _ (Oper.mk (some 87) _ _ _ _ _ :: _) _ _); refine kLoadHash _ _ _ hR8 rfl rfl rfl ?_; go_frame)
          | ((with_reducible change wpList _ _ _ (Oper.mk (some 88) _ _ _ _ _ :: _) _ _); refine kEqlHash _ _ _ (rootL l).1 (rootL l).1 true (rootL_len h32) (rootL_len h32) rfl rfl rfl rfl (by simp) ?_; go_frame))
        all_goals (try simp only [Exit.inBlock, Exit.then])
        all_goals (refine retBT rfl rfl ?_; exact ⟨rfl, hBf⟩)
      · replace hodd : ((n % 2 : Nat) : Int) = 0 := by omega
        have hg1 : decide ((n : Int) > 1) = true := by simp; omega
        obtain ⟨b1, hb1⟩ : ∃ b, Hid ((rootL l).2 = b) := ⟨_, (rfl : (rootL l).2 = (rootL l).2)⟩
        cases b1
        · go_wp2_with (first
            | ((with_reducible change wpList _ _ _ (Oper.mk (some 27) _ _ _ _ _ :: _) _ _); refine kY (yLenHs _ v l n (fun _ e => by cases e; exact hV) hn rfl rfl rfl) ?_; go_frame)
            | ((with_reducible change wpList _ _ _ (Oper.mk (some 28) _ _ _ _ _ :: _) _ _); refine kLssI _ _ _ _ .i64 (i : Int) (n : Int) false rfl rfl rfl rfl hd ?_; go_frame)
            | (go_at_call 5; refine (blRoot_any (l := l) _ hV h32 hle (hK.below hBr)).mono ?_; rintro e y41 ⟨rfl, hBq⟩; have hV_1 := hV.below hBq; have hO_2 := hO.below hBq; have hB_3 := hBr.trans (hBq.mono hBr.size); clear hV hO hBr hBq; rw [hb1.out]; go_frame)
            | ((with_reducible change wpList _ _ _ (Oper.mk (some 8) _ _ _ _ _ :: _) _ _); refine kAllocL _ _ rfl rfl zero_Hash ?_; intro y42 hV8 hzq hBq; clear hzq; have hP := hBq; clear hBq; go_frame)
            | ((with_reducible change wpList _ _ _ (Oper.mk none (Op.store _ (Operand.tmp 8) _) _ _ _ _ :: _) _ _); refine kStoreHash _ _ _ (rootL l).1 _ hV8 (by first | exact tab_size _ _ | rfl) rfl rfl rfl rfl ?_; intro y43 hT8 hWq; have hPn := hP.trans (hWq.below (Nat.le_refl _)); clear hP; have hP := hPn; clear hPn; clear hWq hV8; have hV_4 := hV_1.below hP; have hO_5 := hO_2.below hP; have hB_6 := hB_3.trans (hP.mono hB_3.size); clear hV_1 hO_2 hB_3 hP; go_frame)
            | (go_at_call 5; refine (blRoot_any (l := X) _ hO_5.of hX32 hXle (hK.below hB_6)).mono ?_; rintro e y44 ⟨rfl, hBq⟩; have hV_7 := hV_4.below hBq; have hO_8 := hO_5.below hBq; have hT8_9 := hT8.below hBq hT8.lt; have hB_10 := hB_6.trans (hBq.mono hB_6.size); clear hV_4 hO_5 hT8 hB_6 hBq; go_frame)
            | ((with_reducible change wpList _ _ _ (Oper.mk (some 10) _ _ _ _ _ :: _) _ _); refine kAllocL _ _ rfl rfl zero_Hash ?_; intro y45 hV10 hzq hBq; clear hzq; have hP := hBq; clear hBq; go_frame)
            | ((with_reducible change wpList _ _ _ (Oper.mk none (Op.store _ (Operand.tmp 10) _) _ _ _ _ :: _) _ _); refine kStoreHash _ _ _ (rootL X).1 _ hV10 (by first | exact tab_size _ _ | rfl) rfl rfl rfl rfl ?_; intro y46 hT10 hWq; have hPn := hP.trans (hWq.below (Nat.le_refl _)); clear hP; have hP := hPn; clear hPn; clear hWq hV10; have hV_11 := hV_7.below hP; have hO_12 := hO_8.below hP; have hT8_13 := hT8_9.below hP hT8_9.lt; have hB_14 := hB_10.trans (hP.mono hB_10.size); clear hV_7 hO_8 hT8_9 hB_10 hP; go_frame)
            | ((with_reducible change wpList _ _ _ (Oper.mk (some 64) _ _ _ _ _ :: _) _ _); refine kY (yLoadRowC Tryd.underlying25 rfl _ _ (tab 32 fun p => VB (at8 ((rootL l).1) p)) info_HashT (fun _ e => by cases e; exact hT8_13) rfl rfl rfl) ?_; go_frame)
            | ((with_reducible change wpList _ _ _ (Oper.mk (some 65) _ _ _ _ _ :: _) _ _); refine kY (yLoadRowC Tryd.underlying25 rfl _ _ (tab 32 fun p => VB (at8 ((rootL X).1) p)) info_HashT (fun _ e => by cases e; exact hT10) rfl rfl rfl) ?_; go_frame)
            | ((with_reducible change wpList _ _ _ (Oper.mk (some 66) _ _ _ _ _ :: _) _ _); refine kY (yNeqHash _ _ _ (rootL l).1 (rootL X).1 false ((rootL_len h32)) ((rootL_len hX32)) rfl rfl rfl rfl hr1) ?_; go_frame)
            | ((with_reducible change wpList _ _ _ (Oper.mk (some 68) _ _ _ _ _ :: _) _ _); refine kY (yLenHs _ v l n (fun _ e => by cases e; exact hV_11) hn rfl rfl rfl) ?_; go_frame)
            | ((with_reducible change wpList _ _ _ (Oper.mk (some 69) _ _ _ _ _ :: _) _ _); refine kY (yRemI2 _ _ _ _ n 0 hodd rfl rfl rfl rfl) ?_; go_frame)
            | ((with_reducible change wpList _ _ _ (Oper.mk (some 70) _ _ _ _ _ :: _) _ _); refine kY (yEqlIC _ _ _ _ .i64 0 1 false rfl rfl rfl rfl (by simp)) ?_; go_frame)
            | ((with_reducible change wpList _ _ _ (Oper.mk (some 93) _ _ _ _ _ :: _) _ _); refine kY (yNotC _ _ false rfl rfl rfl) ?_; go_frame))
          go_ret
          exact ⟨rfl, hB_14⟩
        · go_wp2_with (first
            | ((with_reducible change wpList _ _ _ (Oper.mk (some 27) _ _ _ _ _ :: _) _ _); refine kY (yLenHs _ v l n (fun _ e => by cases e; exact hV) hn rfl rfl rfl) ?_; go_frame)
            | ((with_reducible change wpList _ _ _ (Oper.mk (some 28) _ _ _ _ _ :: _) _ _); refine kLssI _ _ _ _ .i64 (i : Int) (n : Int) false rfl rfl rfl rfl hd ?_; go_frame)
            | (go_at_call 5; refine (blRoot_any (l := l) _ hV h32 hle (hK.below hBr)).mono ?_; rintro e y41 ⟨rfl, hBq⟩; have hV_1 := hV.below hBq; have hO_2 := hO.below hBq; have hB_3 := hBr.trans (hBq.mono hBr.size); clear hV hO hBr hBq; rw [hb1.out]; go_frame)
            | ((with_reducible change wpList _ _ _ (Oper.mk (some 8) _ _ _ _ _ :: _) _ _); refine kAllocL _ _ rfl rfl zero_Hash ?_; intro y42 hV8 hzq hBq; clear hzq; have hP := hBq; clear hBq; go_frame)
            | ((with_reducible change wpList _ _ _ (Oper.mk none (Op.store _ (Operand.tmp 8) _) _ _ _ _ :: _) _ _); refine kStoreHash _ _ _ (rootL l).1 _ hV8 (by first | exact tab_size _ _ | rfl) rfl rfl rfl rfl ?_; intro y43 hT8 hWq; have hPn := hP.trans (hWq.below (Nat.le_refl _)); clear hP; have hP := hPn; clear hPn; clear hWq hV8; have hV_4 := hV_1.below hP; have hO_5 := hO_2.below hP; have hB_6 := hB_3.trans (hP.mono hB_3.size); clear hV_1 hO_2 hB_3 hP; go_frame)
            | (go_at_call 5; refine (blRoot_any (l := X) _ hO_5.of hX32 hXle (hK.below hB_6)).mono ?_; rintro e y44 ⟨rfl, hBq⟩; have hV_7 := hV_4.below hBq; have hO_8 := hO_5.below hBq; have hT8_9 := hT8.below hBq hT8.lt; have hB_10 := hB_6.trans (hBq.mono hB_6.size); clear hV_4 hO_5 hT8 hB_6 hBq; go_frame)
            | ((with_reducible change wpList _ _ _ (Oper.mk (some 10) _ _ _ _ _ :: _) _ _); refine kAllocL _ _ rfl rfl zero_Hash ?_; intro y45 hV10 hzq hBq; clear hzq; have hP := hBq; clear hBq; go_frame)
            | ((with_reducible change wpList _ _ _ (Oper.mk none (Op.store _ (Operand.tmp 10) _) _ _ _ _ :: _) _ _); refine kStoreHash _ _ _ (rootL X).1 _ hV10 (by first | exact tab_size _ _ | rfl) rfl rfl rfl rfl ?_; intro y46 hT10 hWq; have hPn := hP.trans (hWq.below (Nat.le_refl _)); clear hP; have hP := hPn; clear hPn; clear hWq hV10; have hV_11 := hV_7.below hP; have hO_12 := hO_8.below hP; have hT8_13 := hT8_9.below hP hT8_9.lt; have hB_14 := hB_10.trans (hP.mono hB_10.size); clear hV_7 hO_8 hT8_9 hB_10 hP; go_frame)
            | ((with_reducible change wpList _ _ _ (Oper.mk (some 64) _ _ _ _ _ :: _) _ _); refine kY (yLoadRowC Tryd.underlying25 rfl _ _ (tab 32 fun p => VB (at8 ((rootL l).1) p)) info_HashT (fun _ e => by cases e; exact hT8_13) rfl rfl rfl) ?_; go_frame)
            | ((with_reducible change wpList _ _ _ (Oper.mk (some 65) _ _ _ _ _ :: _) _ _); refine kY (yLoadRowC Tryd.underlying25 rfl _ _ (tab 32 fun p => VB (at8 ((rootL X).1) p)) info_HashT (fun _ e => by cases e; exact hT10) rfl rfl rfl) ?_; go_frame)
            | ((with_reducible change wpList _ _ _ (Oper.mk (some 66) _ _ _ _ _ :: _) _ _); refine kY (yNeqHash _ _ _ (rootL l).1 (rootL X).1 false ((rootL_len h32)) ((rootL_len hX32)) rfl rfl rfl rfl hr1) ?_; go_frame)
            | ((with_reducible change wpList _ _ _ (Oper.mk (some 68) _ _ _ _ _ :: _) _ _); refine kY (yLenHs _ v l n (fun _ e => by cases e; exact hV_11) hn rfl rfl rfl) ?_; go_frame)
            | ((with_reducible change wpList _ _ _ (Oper.mk (some 69) _ _ _ _ _ :: _) _ _); refine kY (yRemI2 _ _ _ _ n 0 hodd rfl rfl rfl rfl) ?_; go_frame)
            | ((with_reducible change wpList _ _ _ (Oper.mk (some 70) _ _ _ _ _ :: _) _ _); refine kY (yEqlIC _ _ _ _ .i64 0 1 false rfl rfl rfl rfl (by simp)) ?_; go_frame)
            | ((with_reducible change wpList _ _ _ (Oper.mk (some 93) _ _ _ _ _ :: _) _ _); refine kY (yNotC _ _ true rfl rfl rfl) ?_; go_frame)
            | ((with_reducible change wpList _ _ _ (Oper.mk (some 96) _ _ _ _ _ :: _) _ _); refine kY (yLenHs _ v l n (fun _ e => by cases e; exact hV_11) hn rfl rfl rfl) ?_; go_frame)
            | ((with_reducible change wpList _ _ _ (Oper.mk (some 97) _ _ _ _ _ :: _) _ _); refine kY (yGtrI _ _ _ _ .i64 (n : Int) 1 true rfl rfl rfl rfl hg1) ?_; go_frame))
          go_ret
          exact ⟨rfl, hB_14⟩
end Go.Proofs.YtmfjgehlkbndjaaDoor
