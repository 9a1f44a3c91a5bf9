/-
  Layer 8: the walks of the reference's Right, push and Lock.
-/
import Derived.Test.YtnaclalbeocpkaaDoorLbAll
namespace Go.Proofs.YtnaclalbeocpkaaDoor
open Go Go.RowKit

theorem z20_tab : (tab 20 fun _ => VB 0) = tab 20 fun p => VB (at8 z20 p) := by
  unfold tab
  rw [List.map_congr_left (g := fun p => VB (at8 z20 p)) fun j hj => by rw [at_z20 j (List.mem_range.1 hj)]]
theorem build_short8 : ∀ w, (Instr.build 27 #[]).run Tryd.prog w = .ok (.agg (tab 20 fun p => VB (at8 z20 p))) w := fun w => by rw [← z20_tab]; exact build_zeroShort w
theorem zero_short8 : ((Tryd.prog.info? 27).bind (·.zero)).map Value.cells = some (tab 20 fun p => VB (at8 z20 p)) := by rw [← z20_tab]; exact zero_Short
theorem eqGuard_Short : Tryd.prog.eqGuardType Tryd.prog.depth 27 = false := by kernel_rfl
theorem tab_one8 (l : List UInt8) (n : Nat) : ∀ v ∈ tab n fun p => VB (at8 l p), v.oneCell' = true := by
  intro v hv
  simp only [tab, List.mem_toArray, List.mem_map] at hv
  obtain ⟨j, -, rfl⟩ := hv; rfl
theorem tab_size8 (n : Nat) (f : Nat → Value) : (tab n f).size = n := by simp [tab]
theorem right_n1 {d : Deed} (hk : d.kind = 1) : rightB d = (decide (d.name = []) && decide (d.value = []) && decide (d.rand = [])) := by simp [rightB, hk, Bool.decide_and, Bool.and_assoc]
theorem right_n2 {d : Deed} (hk : d.kind = 2) : rightB d = (decide ((d.name.length : Int) > 0) && decide ((d.name.length : Int) ≤ 64) && decide ((d.rand.length : Int) > 0) && decide ((d.rand.length : Int) ≤ 32) && decide ((d.value.length : Int) ≤ 200) && decide (d.commit = z20)) := by
  rw [Bool.eq_iff_iff]
  simp only [rightB, hk, Bool.and_eq_true, decide_eq_true_eq]
  simp
  grind
theorem right_n3 {d : Deed} (hk : d.kind = 3) : rightB d = (decide ((d.name.length : Int) > 0) && decide ((d.name.length : Int) ≤ 64) && decide (d.rand = []) && decide ((d.value.length : Int) ≤ 200) && decide (d.commit = z20)) := by
  rw [Bool.eq_iff_iff]
  simp only [rightB, hk, Bool.and_eq_true, decide_eq_true_eq]
  simp
  grind
theorem beq_decide (l m : List UInt8) : (l == m) = decide (l = m) := by by_cases h : l = m <;> simp [h]
set_option maxRecDepth 100000 in
set_option maxHeartbeats 8000000 in
theorem nRight_any {d : Deed} (hd : d.Is) (w : World) : Calls Tryd.prog 10 #[deedV d] w fun e w' => e = .returned (.bool (rightB d)) ∧ Below w.heap.size w w' := by
  have hz20 : z20.length = 20 := rfl
  by_cases k0 : d.kind = 0
  · have hk := k0
    rw [right_0 hk]
    obtain ⟨b, hb⟩ : ∃ b, sameD d noDeed = b := ⟨_, rfl⟩
    rw [hb]
    go_enter Tryd.func10, Tryd.ntmps10
    go_wp2_with (first
      | ((with_reducible change wpList _ _ _ (Oper.mk (some 1) _ _ _ _ _ :: _) _ _); refine kBoxD _ _ rfl rfl rfl ?_; intro w1 hR hz1 hB; go_frame)
      | ((with_reducible change wpList _ _ _ (Oper.mk (some 4) _ _ _ _ _ :: _) _ _); refine kBuild _ _ _ _ rfl rfl (by simp) build_short8 ?_; go_frame)
      | ((with_reducible change wpList _ _ _ (Oper.mk (some 3) _ _ _ _ _ :: _) _ _); refine kAllocL _ _ rfl rfl zero_short8 ?_; intro w2 hR2 hz2 hB2; clear hz2; go_frame)
      | ((with_reducible change wpList _ _ _ (Oper.mk none _ _ _ _ _ :: _) _ _); refine kStoreRow _ _ _ _ _ _ _ rfl rfl rfl rfl hR2 (by rw [tab_size8]; exact info_Short) rfl (tab_one8 _ _) ?_; intro w3 hS hW; have hR4 := hW.row (hR.below hB2 hR.lt) (Nat.ne_of_lt hz1); have hB4 := (hB.trans (hB2.mono (Nat.le_of_lt hz1))).trans (hW.below (Nat.le_of_lt hz1)); clear hR hR2 hB hB2 hW; go_frame)
      | ((with_reducible change wpList _ _ _ (Oper.mk (some 5) _ _ _ _ _ :: _) _ _); refine kDeed0 _ _ rfl rfl rfl ?_; go_frame)
      | ((with_reducible change wpList _ _ _ (Oper.mk (some 6) _ _ _ _ _ :: _) _ _); refine kLoadK _ _ _ hR4 rfl rfl rfl ?_; rw [hk]; go_frame)
      | ((with_reducible change wpList _ _ _ (Oper.mk (some 9) _ _ _ _ _ :: _) _ _); refine kLoadD _ _ _ hR4 rfl rfl rfl ?_; go_frame)
      | ((with_reducible change wpList _ _ _ (Oper.mk (some 10) _ _ _ _ _ :: _) _ _); refine kBuildD0 rfl rfl ?_; go_frame)
      | ((with_reducible change wpList _ _ _ (Oper.mk (some 11) _ _ _ _ _ :: _) _ _); refine kEqlD _ _ _ hd (by exact hz20) b rfl rfl rfl rfl hb ?_; go_frame))
    go_ret
    exact ⟨rfl, hB4⟩
  by_cases k1 : d.kind = 1
  · have hk := k1
    rw [right_n1 hk]
    obtain ⟨c1, h1⟩ : ∃ c, decide (d.name = []) = c := ⟨_, rfl⟩
    obtain ⟨c2, h2⟩ : ∃ c, decide (d.value = []) = c := ⟨_, rfl⟩
    obtain ⟨c3, h3⟩ : ∃ c, decide (d.rand = []) = c := ⟨_, rfl⟩
    rw [h1, h2, h3]
    rw [← beq_decide] at h1 h2 h3
    cases c1
    · go_enter Tryd.func10, Tryd.ntmps10
      go_wp2_with (first
        | ((with_reducible change wpList _ _ _ (Oper.mk (some 1) _ _ _ _ _ :: _) _ _); refine kBoxD _ _ rfl rfl rfl ?_; intro w1 hR hz1 hB; go_frame)
        | ((with_reducible change wpList _ _ _ (Oper.mk (some 4) _ _ _ _ _ :: _) _ _); refine kBuild _ _ _ _ rfl rfl (by simp) build_short8 ?_; go_frame)
        | ((with_reducible change wpList _ _ _ (Oper.mk (some 3) _ _ _ _ _ :: _) _ _); refine kAllocL _ _ rfl rfl zero_short8 ?_; intro w2 hR2 hz2 hB2; clear hz2; go_frame)
        | ((with_reducible change wpList _ _ _ (Oper.mk none _ _ _ _ _ :: _) _ _); refine kStoreRow _ _ _ _ _ _ _ rfl rfl rfl rfl hR2 (by rw [tab_size8]; exact info_Short) rfl (tab_one8 _ _) ?_; intro w3 hS hW; have hR4 := hW.row (hR.below hB2 hR.lt) (Nat.ne_of_lt hz1); have hB4 := (hB.trans (hB2.mono (Nat.le_of_lt hz1))).trans (hW.below (Nat.le_of_lt hz1)); clear hR hR2 hB hB2 hW; go_frame)
        | ((with_reducible change wpList _ _ _ (Oper.mk (some 5) _ _ _ _ _ :: _) _ _); refine kDeed0 _ _ rfl rfl rfl ?_; go_frame)
        | ((with_reducible change wpList _ _ _ (Oper.mk (some 6) _ _ _ _ _ :: _) _ _); refine kLoadK _ _ _ hR4 rfl rfl rfl ?_; rw [hk]; go_frame)
        | ((with_reducible change wpList _ _ _ (Oper.mk (some 14) _ _ _ _ _ :: _) _ _); refine kDeed1 _ _ rfl rfl rfl ?_; go_frame)
        | ((with_reducible change wpList _ _ _ (Oper.mk (some 15) _ _ _ _ _ :: _) _ _); refine kLoadN1 _ _ _ hR4 rfl rfl rfl ?_; go_frame)
        | ((with_reducible change wpList _ _ _ (Oper.mk (some 16) _ _ _ _ _ :: _) _ _); refine kEqlStr _ _ _ _ d.name [] _ rfl rfl rfl rfl h1 ?_; go_frame)
        | ((with_reducible change wpList _ _ _ (Oper.mk (some 18) _ _ _ _ _ :: _) _ _); refine kDeed2 _ _ rfl rfl rfl ?_; go_frame)
        | ((with_reducible change wpList _ _ _ (Oper.mk (some 19) _ _ _ _ _ :: _) _ _); refine kLoadN2 _ _ _ hR4 rfl rfl rfl ?_; go_frame)
        | ((with_reducible change wpList _ _ _ (Oper.mk (some 20) _ _ _ _ _ :: _) _ _); refine kEqlStr _ _ _ _ d.value [] _ rfl rfl rfl rfl h2 ?_; go_frame)
        | ((with_reducible change wpList _ _ _ (Oper.mk (some 23) _ _ _ _ _ :: _) _ _); refine kDeed3 _ _ rfl rfl rfl ?_; go_frame)
        | ((with_reducible change wpList _ _ _ (Oper.mk (some 24) _ _ _ _ _ :: _) _ _); refine kLoadN3 _ _ _ hR4 rfl rfl rfl ?_; go_frame)
        | ((with_reducible change wpList _ _ _ (Oper.mk (some 25) _ _ _ _ _ :: _) _ _); refine kEqlStr _ _ _ _ d.rand [] _ rfl rfl rfl rfl h3 ?_; go_frame))
      go_ret
      exact ⟨rfl, hB4⟩
    cases c2
    · go_enter Tryd.func10, Tryd.ntmps10
      go_wp2_with (first
        | ((with_reducible change wpList _ _ _ (Oper.mk (some 1) _ _ _ _ _ :: _) _ _); refine kBoxD _ _ rfl rfl rfl ?_; intro w1 hR hz1 hB; go_frame)
        | ((with_reducible change wpList _ _ _ (Oper.mk (some 4) _ _ _ _ _ :: _) _ _); refine kBuild _ _ _ _ rfl rfl (by simp) build_short8 ?_; go_frame)
        | ((with_reducible change wpList _ _ _ (Oper.mk (some 3) _ _ _ _ _ :: _) _ _); refine kAllocL _ _ rfl rfl zero_short8 ?_; intro w2 hR2 hz2 hB2; clear hz2; go_frame)
        | ((with_reducible change wpList _ _ _ (Oper.mk none _ _ _ _ _ :: _) _ _); refine kStoreRow _ _ _ _ _ _ _ rfl rfl rfl rfl hR2 (by rw [tab_size8]; exact info_Short) rfl (tab_one8 _ _) ?_; intro w3 hS hW; have hR4 := hW.row (hR.below hB2 hR.lt) (Nat.ne_of_lt hz1); have hB4 := (hB.trans (hB2.mono (Nat.le_of_lt hz1))).trans (hW.below (Nat.le_of_lt hz1)); clear hR hR2 hB hB2 hW; go_frame)
        | ((with_reducible change wpList _ _ _ (Oper.mk (some 5) _ _ _ _ _ :: _) _ _); refine kDeed0 _ _ rfl rfl rfl ?_; go_frame)
        | ((with_reducible change wpList _ _ _ (Oper.mk (some 6) _ _ _ _ _ :: _) _ _); refine kLoadK _ _ _ hR4 rfl rfl rfl ?_; rw [hk]; go_frame)
        | ((with_reducible change wpList _ _ _ (Oper.mk (some 14) _ _ _ _ _ :: _) _ _); refine kDeed1 _ _ rfl rfl rfl ?_; go_frame)
        | ((with_reducible change wpList _ _ _ (Oper.mk (some 15) _ _ _ _ _ :: _) _ _); refine kLoadN1 _ _ _ hR4 rfl rfl rfl ?_; go_frame)
        | ((with_reducible change wpList _ _ _ (Oper.mk (some 16) _ _ _ _ _ :: _) _ _); refine kEqlStr _ _ _ _ d.name [] _ rfl rfl rfl rfl h1 ?_; go_frame)
        | ((with_reducible change wpList _ _ _ (Oper.mk (some 18) _ _ _ _ _ :: _) _ _); refine kDeed2 _ _ rfl rfl rfl ?_; go_frame)
        | ((with_reducible change wpList _ _ _ (Oper.mk (some 19) _ _ _ _ _ :: _) _ _); refine kLoadN2 _ _ _ hR4 rfl rfl rfl ?_; go_frame)
        | ((with_reducible change wpList _ _ _ (Oper.mk (some 20) _ _ _ _ _ :: _) _ _); refine kEqlStr _ _ _ _ d.value [] _ rfl rfl rfl rfl h2 ?_; go_frame)
        | ((with_reducible change wpList _ _ _ (Oper.mk (some 23) _ _ _ _ _ :: _) _ _); refine kDeed3 _ _ rfl rfl rfl ?_; go_frame)
        | ((with_reducible change wpList _ _ _ (Oper.mk (some 24) _ _ _ _ _ :: _) _ _); refine kLoadN3 _ _ _ hR4 rfl rfl rfl ?_; go_frame)
        | ((with_reducible change wpList _ _ _ (Oper.mk (some 25) _ _ _ _ _ :: _) _ _); refine kEqlStr _ _ _ _ d.rand [] _ rfl rfl rfl rfl h3 ?_; go_frame))
      go_ret
      exact ⟨rfl, hB4⟩
    go_enter Tryd.func10, Tryd.ntmps10
    go_wp2_with (first
      | ((with_reducible change wpList _ _ _ (Oper.mk (some 1) _ _ _ _ _ :: _) _ _); refine kBoxD _ _ rfl rfl rfl ?_; intro w1 hR hz1 hB; go_frame)
      | ((with_reducible change wpList _ _ _ (Oper.mk (some 4) _ _ _ _ _ :: _) _ _); refine kBuild _ _ _ _ rfl rfl (by simp) build_short8 ?_; go_frame)
      | ((with_reducible change wpList _ _ _ (Oper.mk (some 3) _ _ _ _ _ :: _) _ _); refine kAllocL _ _ rfl rfl zero_short8 ?_; intro w2 hR2 hz2 hB2; clear hz2; go_frame)
      | ((with_reducible change wpList _ _ _ (Oper.mk none _ _ _ _ _ :: _) _ _); refine kStoreRow _ _ _ _ _ _ _ rfl rfl rfl rfl hR2 (by rw [tab_size8]; exact info_Short) rfl (tab_one8 _ _) ?_; intro w3 hS hW; have hR4 := hW.row (hR.below hB2 hR.lt) (Nat.ne_of_lt hz1); have hB4 := (hB.trans (hB2.mono (Nat.le_of_lt hz1))).trans (hW.below (Nat.le_of_lt hz1)); clear hR hR2 hB hB2 hW; go_frame)
      | ((with_reducible change wpList _ _ _ (Oper.mk (some 5) _ _ _ _ _ :: _) _ _); refine kDeed0 _ _ rfl rfl rfl ?_; go_frame)
      | ((with_reducible change wpList _ _ _ (Oper.mk (some 6) _ _ _ _ _ :: _) _ _); refine kLoadK _ _ _ hR4 rfl rfl rfl ?_; rw [hk]; go_frame)
      | ((with_reducible change wpList _ _ _ (Oper.mk (some 14) _ _ _ _ _ :: _) _ _); refine kDeed1 _ _ rfl rfl rfl ?_; go_frame)
      | ((with_reducible change wpList _ _ _ (Oper.mk (some 15) _ _ _ _ _ :: _) _ _); refine kLoadN1 _ _ _ hR4 rfl rfl rfl ?_; go_frame)
      | ((with_reducible change wpList _ _ _ (Oper.mk (some 16) _ _ _ _ _ :: _) _ _); refine kEqlStr _ _ _ _ d.name [] _ rfl rfl rfl rfl h1 ?_; go_frame)
      | ((with_reducible change wpList _ _ _ (Oper.mk (some 18) _ _ _ _ _ :: _) _ _); refine kDeed2 _ _ rfl rfl rfl ?_; go_frame)
      | ((with_reducible change wpList _ _ _ (Oper.mk (some 19) _ _ _ _ _ :: _) _ _); refine kLoadN2 _ _ _ hR4 rfl rfl rfl ?_; go_frame)
      | ((with_reducible change wpList _ _ _ (Oper.mk (some 20) _ _ _ _ _ :: _) _ _); refine kEqlStr _ _ _ _ d.value [] _ rfl rfl rfl rfl h2 ?_; go_frame)
      | ((with_reducible change wpList _ _ _ (Oper.mk (some 23) _ _ _ _ _ :: _) _ _); refine kDeed3 _ _ rfl rfl rfl ?_; go_frame)
      | ((with_reducible change wpList _ _ _ (Oper.mk (some 24) _ _ _ _ _ :: _) _ _); refine kLoadN3 _ _ _ hR4 rfl rfl rfl ?_; go_frame)
      | ((with_reducible change wpList _ _ _ (Oper.mk (some 25) _ _ _ _ _ :: _) _ _); refine kEqlStr _ _ _ _ d.rand [] _ rfl rfl rfl rfl h3 ?_; go_frame))
    go_ret
    exact ⟨rfl, hB4⟩
  by_cases k2 : d.kind = 2
  · have hk := k2
    rw [right_n2 hk]
    obtain ⟨c1, h1⟩ : ∃ c, decide ((d.name.length : Int) > 0) = c := ⟨_, rfl⟩
    obtain ⟨c2, h2⟩ : ∃ c, decide ((d.name.length : Int) ≤ 64) = c := ⟨_, rfl⟩
    obtain ⟨c3, h3⟩ : ∃ c, decide ((d.rand.length : Int) > 0) = c := ⟨_, rfl⟩
    obtain ⟨c4, h4⟩ : ∃ c, decide ((d.rand.length : Int) ≤ 32) = c := ⟨_, rfl⟩
    obtain ⟨c5, h5⟩ : ∃ c, decide ((d.value.length : Int) ≤ 200) = c := ⟨_, rfl⟩
    obtain ⟨c6, h6⟩ : ∃ c, decide (d.commit = z20) = c := ⟨_, rfl⟩
    rw [h1, h2, h3, h4, h5, h6]
    rw [← all_at hd hz20] at h6
    cases c1
    · go_enter Tryd.func10, Tryd.ntmps10
      go_wp2_with (first
        | ((with_reducible change wpList _ _ _ (Oper.mk (some 1) _ _ _ _ _ :: _) _ _); refine kBoxD _ _ rfl rfl rfl ?_; intro w1 hR hz1 hB; go_frame)
        | ((with_reducible change wpList _ _ _ (Oper.mk (some 4) _ _ _ _ _ :: _) _ _); refine kBuild _ _ _ _ rfl rfl (by simp) build_short8 ?_; go_frame)
        | ((with_reducible change wpList _ _ _ (Oper.mk (some 3) _ _ _ _ _ :: _) _ _); refine kAllocL _ _ rfl rfl zero_short8 ?_; intro w2 hR2 hz2 hB2; clear hz2; go_frame)
        | ((with_reducible change wpList _ _ _ (Oper.mk none _ _ _ _ _ :: _) _ _); refine kStoreRow _ _ _ _ _ _ _ rfl rfl rfl rfl hR2 (by rw [tab_size8]; exact info_Short) rfl (tab_one8 _ _) ?_; intro w3 hS hW; have hR4 := hW.row (hR.below hB2 hR.lt) (Nat.ne_of_lt hz1); have hB4 := (hB.trans (hB2.mono (Nat.le_of_lt hz1))).trans (hW.below (Nat.le_of_lt hz1)); clear hR hR2 hB hB2 hW; go_frame)
        | ((with_reducible change wpList _ _ _ (Oper.mk (some 5) _ _ _ _ _ :: _) _ _); refine kDeed0 _ _ rfl rfl rfl ?_; go_frame)
        | ((with_reducible change wpList _ _ _ (Oper.mk (some 6) _ _ _ _ _ :: _) _ _); refine kLoadK _ _ _ hR4 rfl rfl rfl ?_; rw [hk]; go_frame)
        | ((with_reducible change wpList _ _ _ (Oper.mk (some 29) _ _ _ _ _ :: _) _ _); refine kDeed1 _ _ rfl rfl rfl ?_; go_frame)
        | ((with_reducible change wpList _ _ _ (Oper.mk (some 30) _ _ _ _ _ :: _) _ _); refine kLoadN1 _ _ _ hR4 rfl rfl rfl ?_; go_frame)
        | ((with_reducible change wpList _ _ _ (Oper.mk (some 31) _ _ _ _ _ :: _) _ _); refine kLenStr _ _ d.name rfl rfl rfl Tryd.underlying9 ?_; go_frame)
        | ((with_reducible change wpList _ _ _ (Oper.mk (some 32) _ _ _ _ _ :: _) _ _); refine kGtrI _ _ _ _ .i64 (d.name.length : Int) 0 _ rfl rfl rfl rfl h1 ?_; go_frame)
        | ((with_reducible change wpList _ _ _ (Oper.mk (some 34) _ _ _ _ _ :: _) _ _); refine kDeed1 _ _ rfl rfl rfl ?_; go_frame)
        | ((with_reducible change wpList _ _ _ (Oper.mk (some 35) _ _ _ _ _ :: _) _ _); refine kLoadN1 _ _ _ hR4 rfl rfl rfl ?_; go_frame)
        | ((with_reducible change wpList _ _ _ (Oper.mk (some 36) _ _ _ _ _ :: _) _ _); refine kLenStr _ _ d.name rfl rfl rfl Tryd.underlying9 ?_; go_frame)
        | ((with_reducible change wpList _ _ _ (Oper.mk (some 37) _ _ _ _ _ :: _) _ _); refine kLeqI _ _ _ _ .i64 (d.name.length : Int) 64 _ rfl rfl rfl rfl h2 ?_; go_frame)
        | ((with_reducible change wpList _ _ _ (Oper.mk (some 40) _ _ _ _ _ :: _) _ _); refine kDeed3 _ _ rfl rfl rfl ?_; go_frame)
        | ((with_reducible change wpList _ _ _ (Oper.mk (some 41) _ _ _ _ _ :: _) _ _); refine kLoadN3 _ _ _ hR4 rfl rfl rfl ?_; go_frame)
        | ((with_reducible change wpList _ _ _ (Oper.mk (some 42) _ _ _ _ _ :: _) _ _); refine kLenStr _ _ d.rand rfl rfl rfl Tryd.underlying9 ?_; go_frame)
        | ((with_reducible change wpList _ _ _ (Oper.mk (some 43) _ _ _ _ _ :: _) _ _); refine kGtrI _ _ _ _ .i64 (d.rand.length : Int) 0 _ rfl rfl rfl rfl h3 ?_; go_frame)
        | ((with_reducible change wpList _ _ _ (Oper.mk (some 46) _ _ _ _ _ :: _) _ _); refine kDeed3 _ _ rfl rfl rfl ?_; go_frame)
        | ((with_reducible change wpList _ _ _ (Oper.mk (some 47) _ _ _ _ _ :: _) _ _); refine kLoadN3 _ _ _ hR4 rfl rfl rfl ?_; go_frame)
        | ((with_reducible change wpList _ _ _ (Oper.mk (some 48) _ _ _ _ _ :: _) _ _); refine kLenStr _ _ d.rand rfl rfl rfl Tryd.underlying9 ?_; go_frame)
        | ((with_reducible change wpList _ _ _ (Oper.mk (some 49) _ _ _ _ _ :: _) _ _); refine kLeqI _ _ _ _ .i64 (d.rand.length : Int) 32 _ rfl rfl rfl rfl h4 ?_; go_frame)
        | ((with_reducible change wpList _ _ _ (Oper.mk (some 52) _ _ _ _ _ :: _) _ _); refine kDeed2 _ _ rfl rfl rfl ?_; go_frame)
        | ((with_reducible change wpList _ _ _ (Oper.mk (some 53) _ _ _ _ _ :: _) _ _); refine kLoadN2 _ _ _ hR4 rfl rfl rfl ?_; go_frame)
        | ((with_reducible change wpList _ _ _ (Oper.mk (some 54) _ _ _ _ _ :: _) _ _); refine kLenStr _ _ d.value rfl rfl rfl Tryd.underlying9 ?_; go_frame)
        | ((with_reducible change wpList _ _ _ (Oper.mk (some 55) _ _ _ _ _ :: _) _ _); refine kLeqI _ _ _ _ .i64 (d.value.length : Int) 200 _ rfl rfl rfl rfl h5 ?_; go_frame)
        | ((with_reducible change wpList _ _ _ (Oper.mk (some 58) _ _ _ _ _ :: _) _ _); refine kDeed4 _ _ rfl rfl rfl ?_; go_frame)
        | ((with_reducible change wpList _ _ _ (Oper.mk (some 59) _ _ _ _ _ :: _) _ _); refine kLoadC4 _ _ _ hR4 rfl rfl rfl ?_; go_frame)
        | ((with_reducible change wpList _ _ _ (Oper.mk (some 60) _ _ _ _ _ :: _) _ _); refine kLoadRow _ _ _ _ _ _ rfl rfl rfl hS Tryd.underlying27 rfl (by rw [tab_size8]; exact info_Short) ?_; go_frame)
        | ((with_reducible change wpList _ _ _ (Oper.mk (some 61) _ _ _ _ _ :: _) _ _); refine kEqlArr _ _ _ _ _ 20 .u8 .u8 (fun p => B (at8 d.commit p)) (fun p => B (at8 z20 p)) _ rfl rfl rfl rfl Tryd.underlying27 Tryd.underlying5 info_b8P eqGuard_Short h6 ?_; go_frame))
      go_ret
      exact ⟨rfl, hB4⟩
    cases c2
    · go_enter Tryd.func10, Tryd.ntmps10
      go_wp2_with (first
        | ((with_reducible change wpList _ _ _ (Oper.mk (some 1) _ _ _ _ _ :: _) _ _); refine kBoxD _ _ rfl rfl rfl ?_; intro w1 hR hz1 hB; go_frame)
        | ((with_reducible change wpList _ _ _ (Oper.mk (some 4) _ _ _ _ _ :: _) _ _); refine kBuild _ _ _ _ rfl rfl (by simp) build_short8 ?_; go_frame)
        | ((with_reducible change wpList _ _ _ (Oper.mk (some 3) _ _ _ _ _ :: _) _ _); refine kAllocL _ _ rfl rfl zero_short8 ?_; intro w2 hR2 hz2 hB2; clear hz2; go_frame)
        | ((with_reducible change wpList _ _ _ (Oper.mk none _ _ _ _ _ :: _) _ _); refine kStoreRow _ _ _ _ _ _ _ rfl rfl rfl rfl hR2 (by rw [tab_size8]; exact info_Short) rfl (tab_one8 _ _) ?_; intro w3 hS hW; have hR4 := hW.row (hR.below hB2 hR.lt) (Nat.ne_of_lt hz1); have hB4 := (hB.trans (hB2.mono (Nat.le_of_lt hz1))).trans (hW.below (Nat.le_of_lt hz1)); clear hR hR2 hB hB2 hW; go_frame)
        | ((with_reducible change wpList _ _ _ (Oper.mk (some 5) _ _ _ _ _ :: _) _ _); refine kDeed0 _ _ rfl rfl rfl ?_; go_frame)
        | ((with_reducible change wpList _ _ _ (Oper.mk (some 6) _ _ _ _ _ :: _) _ _); refine kLoadK _ _ _ hR4 rfl rfl rfl ?_; rw [hk]; go_frame)
        | ((with_reducible change wpList _ _ _ (Oper.mk (some 29) _ _ _ _ _ :: _) _ _); refine kDeed1 _ _ rfl rfl rfl ?_; go_frame)
        | ((with_reducible change wpList _ _ _ (Oper.mk (some 30) _ _ _ _ _ :: _) _ _); refine kLoadN1 _ _ _ hR4 rfl rfl rfl ?_; go_frame)
        | ((with_reducible change wpList _ _ _ (Oper.mk (some 31) _ _ _ _ _ :: _) _ _); refine kLenStr _ _ d.name rfl rfl rfl Tryd.underlying9 ?_; go_frame)
        | ((with_reducible change wpList _ _ _ (Oper.mk (some 32) _ _ _ _ _ :: _) _ _); refine kGtrI _ _ _ _ .i64 (d.name.length : Int) 0 _ rfl rfl rfl rfl h1 ?_; go_frame)
        | ((with_reducible change wpList _ _ _ (Oper.mk (some 34) _ _ _ _ _ :: _) _ _); refine kDeed1 _ _ rfl rfl rfl ?_; go_frame)
        | ((with_reducible change wpList _ _ _ (Oper.mk (some 35) _ _ _ _ _ :: _) _ _); refine kLoadN1 _ _ _ hR4 rfl rfl rfl ?_; go_frame)
        | ((with_reducible change wpList _ _ _ (Oper.mk (some 36) _ _ _ _ _ :: _) _ _); refine kLenStr _ _ d.name rfl rfl rfl Tryd.underlying9 ?_; go_frame)
        | ((with_reducible change wpList _ _ _ (Oper.mk (some 37) _ _ _ _ _ :: _) _ _); refine kLeqI _ _ _ _ .i64 (d.name.length : Int) 64 _ rfl rfl rfl rfl h2 ?_; go_frame)
        | ((with_reducible change wpList _ _ _ (Oper.mk (some 40) _ _ _ _ _ :: _) _ _); refine kDeed3 _ _ rfl rfl rfl ?_; go_frame)
        | ((with_reducible change wpList _ _ _ (Oper.mk (some 41) _ _ _ _ _ :: _) _ _); refine kLoadN3 _ _ _ hR4 rfl rfl rfl ?_; go_frame)
        | ((with_reducible change wpList _ _ _ (Oper.mk (some 42) _ _ _ _ _ :: _) _ _); refine kLenStr _ _ d.rand rfl rfl rfl Tryd.underlying9 ?_; go_frame)
        | ((with_reducible change wpList _ _ _ (Oper.mk (some 43) _ _ _ _ _ :: _) _ _); refine kGtrI _ _ _ _ .i64 (d.rand.length : Int) 0 _ rfl rfl rfl rfl h3 ?_; go_frame)
        | ((with_reducible change wpList _ _ _ (Oper.mk (some 46) _ _ _ _ _ :: _) _ _); refine kDeed3 _ _ rfl rfl rfl ?_; go_frame)
        | ((with_reducible change wpList _ _ _ (Oper.mk (some 47) _ _ _ _ _ :: _) _ _); refine kLoadN3 _ _ _ hR4 rfl rfl rfl ?_; go_frame)
        | ((with_reducible change wpList _ _ _ (Oper.mk (some 48) _ _ _ _ _ :: _) _ _); refine kLenStr _ _ d.rand rfl rfl rfl Tryd.underlying9 ?_; go_frame)
        | ((with_reducible change wpList _ _ _ (Oper.mk (some 49) _ _ _ _ _ :: _) _ _); refine kLeqI _ _ _ _ .i64 (d.rand.length : Int) 32 _ rfl rfl rfl rfl h4 ?_; go_frame)
        | ((with_reducible change wpList _ _ _ (Oper.mk (some 52) _ _ _ _ _ :: _) _ _); refine kDeed2 _ _ rfl rfl rfl ?_; go_frame)
        | ((with_reducible change wpList _ _ _ (Oper.mk (some 53) _ _ _ _ _ :: _) _ _); refine kLoadN2 _ _ _ hR4 rfl rfl rfl ?_; go_frame)
        | ((with_reducible change wpList _ _ _ (Oper.mk (some 54) _ _ _ _ _ :: _) _ _); refine kLenStr _ _ d.value rfl rfl rfl Tryd.underlying9 ?_; go_frame)
        | ((with_reducible change wpList _ _ _ (Oper.mk (some 55) _ _ _ _ _ :: _) _ _); refine kLeqI _ _ _ _ .i64 (d.value.length : Int) 200 _ rfl rfl rfl rfl h5 ?_; go_frame)
        | ((with_reducible change wpList _ _ _ (Oper.mk (some 58) _ _ _ _ _ :: _) _ _); refine kDeed4 _ _ rfl rfl rfl ?_; go_frame)
        | ((with_reducible change wpList _ _ _ (Oper.mk (some 59) _ _ _ _ _ :: _) _ _); refine kLoadC4 _ _ _ hR4 rfl rfl rfl ?_; go_frame)
        | ((with_reducible change wpList _ _ _ (Oper.mk (some 60) _ _ _ _ _ :: _) _ _); refine kLoadRow _ _ _ _ _ _ rfl rfl rfl hS Tryd.underlying27 rfl (by rw [tab_size8]; exact info_Short) ?_; go_frame)
        | ((with_reducible change wpList _ _ _ (Oper.mk (some 61) _ _ _ _ _ :: _) _ _); refine kEqlArr _ _ _ _ _ 20 .u8 .u8 (fun p => B (at8 d.commit p)) (fun p => B (at8 z20 p)) _ rfl rfl rfl rfl Tryd.underlying27 Tryd.underlying5 info_b8P eqGuard_Short h6 ?_; go_frame))
      go_ret
      exact ⟨rfl, hB4⟩
    cases c3
    · go_enter Tryd.func10, Tryd.ntmps10
      go_wp2_with (first
        | ((with_reducible change wpList _ _ _ (Oper.mk (some 1) _ _ _ _ _ :: _) _ _); refine kBoxD _ _ rfl rfl rfl ?_; intro w1 hR hz1 hB; go_frame)
        | ((with_reducible change wpList _ _ _ (Oper.mk (some 4) _ _ _ _ _ :: _) _ _); refine kBuild _ _ _ _ rfl rfl (by simp) build_short8 ?_; go_frame)
        | ((with_reducible change wpList _ _ _ (Oper.mk (some 3) _ _ _ _ _ :: _) _ _); refine kAllocL _ _ rfl rfl zero_short8 ?_; intro w2 hR2 hz2 hB2; clear hz2; go_frame)
        | ((with_reducible change wpList _ _ _ (Oper.mk none _ _ _ _ _ :: _) _ _); refine kStoreRow _ _ _ _ _ _ _ rfl rfl rfl rfl hR2 (by rw [tab_size8]; exact info_Short) rfl (tab_one8 _ _) ?_; intro w3 hS hW; have hR4 := hW.row (hR.below hB2 hR.lt) (Nat.ne_of_lt hz1); have hB4 := (hB.trans (hB2.mono (Nat.le_of_lt hz1))).trans (hW.below (Nat.le_of_lt hz1)); clear hR hR2 hB hB2 hW; go_frame)
        | ((with_reducible change wpList _ _ _ (Oper.mk (some 5) _ _ _ _ _ :: _) _ _); refine kDeed0 _ _ rfl rfl rfl ?_; go_frame)
        | ((with_reducible change wpList _ _ _ (Oper.mk (some 6) _ _ _ _ _ :: _) _ _); refine kLoadK _ _ _ hR4 rfl rfl rfl ?_; rw [hk]; go_frame)
        | ((with_reducible change wpList _ _ _ (Oper.mk (some 29) _ _ _ _ _ :: _) _ _); refine kDeed1 _ _ rfl rfl rfl ?_; go_frame)
        | ((with_reducible change wpList _ _ _ (Oper.mk (some 30) _ _ _ _ _ :: _) _ _); refine kLoadN1 _ _ _ hR4 rfl rfl rfl ?_; go_frame)
        | ((with_reducible change wpList _ _ _ (Oper.mk (some 31) _ _ _ _ _ :: _) _ _); refine kLenStr _ _ d.name rfl rfl rfl Tryd.underlying9 ?_; go_frame)
        | ((with_reducible change wpList _ _ _ (Oper.mk (some 32) _ _ _ _ _ :: _) _ _); refine kGtrI _ _ _ _ .i64 (d.name.length : Int) 0 _ rfl rfl rfl rfl h1 ?_; go_frame)
        | ((with_reducible change wpList _ _ _ (Oper.mk (some 34) _ _ _ _ _ :: _) _ _); refine kDeed1 _ _ rfl rfl rfl ?_; go_frame)
        | ((with_reducible change wpList _ _ _ (Oper.mk (some 35) _ _ _ _ _ :: _) _ _); refine kLoadN1 _ _ _ hR4 rfl rfl rfl ?_; go_frame)
        | ((with_reducible change wpList _ _ _ (Oper.mk (some 36) _ _ _ _ _ :: _) _ _); refine kLenStr _ _ d.name rfl rfl rfl Tryd.underlying9 ?_; go_frame)
        | ((with_reducible change wpList _ _ _ (Oper.mk (some 37) _ _ _ _ _ :: _) _ _); refine kLeqI _ _ _ _ .i64 (d.name.length : Int) 64 _ rfl rfl rfl rfl h2 ?_; go_frame)
        | ((with_reducible change wpList _ _ _ (Oper.mk (some 40) _ _ _ _ _ :: _) _ _); refine kDeed3 _ _ rfl rfl rfl ?_; go_frame)
        | ((with_reducible change wpList _ _ _ (Oper.mk (some 41) _ _ _ _ _ :: _) _ _); refine kLoadN3 _ _ _ hR4 rfl rfl rfl ?_; go_frame)
        | ((with_reducible change wpList _ _ _ (Oper.mk (some 42) _ _ _ _ _ :: _) _ _); refine kLenStr _ _ d.rand rfl rfl rfl Tryd.underlying9 ?_; go_frame)
        | ((with_reducible change wpList _ _ _ (Oper.mk (some 43) _ _ _ _ _ :: _) _ _); refine kGtrI _ _ _ _ .i64 (d.rand.length : Int) 0 _ rfl rfl rfl rfl h3 ?_; go_frame)
        | ((with_reducible change wpList _ _ _ (Oper.mk (some 46) _ _ _ _ _ :: _) _ _); refine kDeed3 _ _ rfl rfl rfl ?_; go_frame)
        | ((with_reducible change wpList _ _ _ (Oper.mk (some 47) _ _ _ _ _ :: _) _ _); refine kLoadN3 _ _ _ hR4 rfl rfl rfl ?_; go_frame)
        | ((with_reducible change wpList _ _ _ (Oper.mk (some 48) _ _ _ _ _ :: _) _ _); refine kLenStr _ _ d.rand rfl rfl rfl Tryd.underlying9 ?_; go_frame)
        | ((with_reducible change wpList _ _ _ (Oper.mk (some 49) _ _ _ _ _ :: _) _ _); refine kLeqI _ _ _ _ .i64 (d.rand.length : Int) 32 _ rfl rfl rfl rfl h4 ?_; go_frame)
        | ((with_reducible change wpList _ _ _ (Oper.mk (some 52) _ _ _ _ _ :: _) _ _); refine kDeed2 _ _ rfl rfl rfl ?_; go_frame)
        | ((with_reducible change wpList _ _ _ (Oper.mk (some 53) _ _ _ _ _ :: _) _ _); refine kLoadN2 _ _ _ hR4 rfl rfl rfl ?_; go_frame)
        | ((with_reducible change wpList _ _ _ (Oper.mk (some 54) _ _ _ _ _ :: _) _ _); refine kLenStr _ _ d.value rfl rfl rfl Tryd.underlying9 ?_; go_frame)
        | ((with_reducible change wpList _ _ _ (Oper.mk (some 55) _ _ _ _ _ :: _) _ _); refine kLeqI _ _ _ _ .i64 (d.value.length : Int) 200 _ rfl rfl rfl rfl h5 ?_; go_frame)
        | ((with_reducible change wpList _ _ _ (Oper.mk (some 58) _ _ _ _ _ :: _) _ _); refine kDeed4 _ _ rfl rfl rfl ?_; go_frame)
        | ((with_reducible change wpList _ _ _ (Oper.mk (some 59) _ _ _ _ _ :: _) _ _); refine kLoadC4 _ _ _ hR4 rfl rfl rfl ?_; go_frame)
        | ((with_reducible change wpList _ _ _ (Oper.mk (some 60) _ _ _ _ _ :: _) _ _); refine kLoadRow _ _ _ _ _ _ rfl rfl rfl hS Tryd.underlying27 rfl (by rw [tab_size8]; exact info_Short) ?_; go_frame)
        | ((with_reducible change wpList _ _ _ (Oper.mk (some 61) _ _ _ _ _ :: _) _ _); refine kEqlArr _ _ _ _ _ 20 .u8 .u8 (fun p => B (at8 d.commit p)) (fun p => B (at8 z20 p)) _ rfl rfl rfl rfl Tryd.underlying27 Tryd.underlying5 info_b8P eqGuard_Short h6 ?_; go_frame))
      go_ret
      exact ⟨rfl, hB4⟩
    cases c4
    · go_enter Tryd.func10, Tryd.ntmps10
      go_wp2_with (first
        | ((with_reducible change wpList _ _ _ (Oper.mk (some 1) _ _ _ _ _ :: _) _ _); refine kBoxD _ _ rfl rfl rfl ?_; intro w1 hR hz1 hB; go_frame)
        | ((with_reducible change wpList _ _ _ (Oper.mk (some 4) _ _ _ _ _ :: _) _ _); refine kBuild _ _ _ _ rfl rfl (by simp) build_short8 ?_; go_frame)
        | ((with_reducible change wpList _ _ _ (Oper.mk (some 3) _ _ _ _ _ :: _) _ _); refine kAllocL _ _ rfl rfl zero_short8 ?_; intro w2 hR2 hz2 hB2; clear hz2; go_frame)
        | ((with_reducible change wpList _ _ _ (Oper.mk none _ _ _ _ _ :: _) _ _); refine kStoreRow _ _ _ _ _ _ _ rfl rfl rfl rfl hR2 (by rw [tab_size8]; exact info_Short) rfl (tab_one8 _ _) ?_; intro w3 hS hW; have hR4 := hW.row (hR.below hB2 hR.lt) (Nat.ne_of_lt hz1); have hB4 := (hB.trans (hB2.mono (Nat.le_of_lt hz1))).trans (hW.below (Nat.le_of_lt hz1)); clear hR hR2 hB hB2 hW; go_frame)
        | ((with_reducible change wpList _ _ _ (Oper.mk (some 5) _ _ _ _ _ :: _) _ _); refine kDeed0 _ _ rfl rfl rfl ?_; go_frame)
        | ((with_reducible change wpList _ _ _ (Oper.mk (some 6) _ _ _ _ _ :: _) _ _); refine kLoadK _ _ _ hR4 rfl rfl rfl ?_; rw [hk]; go_frame)
        | ((with_reducible change wpList _ _ _ (Oper.mk (some 29) _ _ _ _ _ :: _) _ _); refine kDeed1 _ _ rfl rfl rfl ?_; go_frame)
        | ((with_reducible change wpList _ _ _ (Oper.mk (some 30) _ _ _ _ _ :: _) _ _); refine kLoadN1 _ _ _ hR4 rfl rfl rfl ?_; go_frame)
        | ((with_reducible change wpList _ _ _ (Oper.mk (some 31) _ _ _ _ _ :: _) _ _); refine kLenStr _ _ d.name rfl rfl rfl Tryd.underlying9 ?_; go_frame)
        | ((with_reducible change wpList _ _ _ (Oper.mk (some 32) _ _ _ _ _ :: _) _ _); refine kGtrI _ _ _ _ .i64 (d.name.length : Int) 0 _ rfl rfl rfl rfl h1 ?_; go_frame)
        | ((with_reducible change wpList _ _ _ (Oper.mk (some 34) _ _ _ _ _ :: _) _ _); refine kDeed1 _ _ rfl rfl rfl ?_; go_frame)
        | ((with_reducible change wpList _ _ _ (Oper.mk (some 35) _ _ _ _ _ :: _) _ _); refine kLoadN1 _ _ _ hR4 rfl rfl rfl ?_; go_frame)
        | ((with_reducible change wpList _ _ _ (Oper.mk (some 36) _ _ _ _ _ :: _) _ _); refine kLenStr _ _ d.name rfl rfl rfl Tryd.underlying9 ?_; go_frame)
        | ((with_reducible change wpList _ _ _ (Oper.mk (some 37) _ _ _ _ _ :: _) _ _); refine kLeqI _ _ _ _ .i64 (d.name.length : Int) 64 _ rfl rfl rfl rfl h2 ?_; go_frame)
        | ((with_reducible change wpList _ _ _ (Oper.mk (some 40) _ _ _ _ _ :: _) _ _); refine kDeed3 _ _ rfl rfl rfl ?_; go_frame)
        | ((with_reducible change wpList _ _ _ (Oper.mk (some 41) _ _ _ _ _ :: _) _ _); refine kLoadN3 _ _ _ hR4 rfl rfl rfl ?_; go_frame)
        | ((with_reducible change wpList _ _ _ (Oper.mk (some 42) _ _ _ _ _ :: _) _ _); refine kLenStr _ _ d.rand rfl rfl rfl Tryd.underlying9 ?_; go_frame)
        | ((with_reducible change wpList _ _ _ (Oper.mk (some 43) _ _ _ _ _ :: _) _ _); refine kGtrI _ _ _ _ .i64 (d.rand.length : Int) 0 _ rfl rfl rfl rfl h3 ?_; go_frame)
        | ((with_reducible change wpList _ _ _ (Oper.mk (some 46) _ _ _ _ _ :: _) _ _); refine kDeed3 _ _ rfl rfl rfl ?_; go_frame)
        | ((with_reducible change wpList _ _ _ (Oper.mk (some 47) _ _ _ _ _ :: _) _ _); refine kLoadN3 _ _ _ hR4 rfl rfl rfl ?_; go_frame)
        | ((with_reducible change wpList _ _ _ (Oper.mk (some 48) _ _ _ _ _ :: _) _ _); refine kLenStr _ _ d.rand rfl rfl rfl Tryd.underlying9 ?_; go_frame)
        | ((with_reducible change wpList _ _ _ (Oper.mk (some 49) _ _ _ _ _ :: _) _ _); refine kLeqI _ _ _ _ .i64 (d.rand.length : Int) 32 _ rfl rfl rfl rfl h4 ?_; go_frame)
        | ((with_reducible change wpList _ _ _ (Oper.mk (some 52) _ _ _ _ _ :: _) _ _); refine kDeed2 _ _ rfl rfl rfl ?_; go_frame)
        | ((with_reducible change wpList _ _ _ (Oper.mk (some 53) _ _ _ _ _ :: _) _ _); refine kLoadN2 _ _ _ hR4 rfl rfl rfl ?_; go_frame)
        | ((with_reducible change wpList _ _ _ (Oper.mk (some 54) _ _ _ _ _ :: _) _ _); refine kLenStr _ _ d.value rfl rfl rfl Tryd.underlying9 ?_; go_frame)
        | ((with_reducible change wpList _ _ _ (Oper.mk (some 55) _ _ _ _ _ :: _) _ _); refine kLeqI _ _ _ _ .i64 (d.value.length : Int) 200 _ rfl rfl rfl rfl h5 ?_; go_frame)
        | ((with_reducible change wpList _ _ _ (Oper.mk (some 58) _ _ _ _ _ :: _) _ _); refine kDeed4 _ _ rfl rfl rfl ?_; go_frame)
        | ((with_reducible change wpList _ _ _ (Oper.mk (some 59) _ _ _ _ _ :: _) _ _); refine kLoadC4 _ _ _ hR4 rfl rfl rfl ?_; go_frame)
        | ((with_reducible change wpList _ _ _ (Oper.mk (some 60) _ _ _ _ _ :: _) _ _); refine kLoadRow _ _ _ _ _ _ rfl rfl rfl hS Tryd.underlying27 rfl (by rw [tab_size8]; exact info_Short) ?_; go_frame)
        | ((with_reducible change wpList _ _ _ (Oper.mk (some 61) _ _ _ _ _ :: _) _ _); refine kEqlArr _ _ _ _ _ 20 .u8 .u8 (fun p => B (at8 d.commit p)) (fun p => B (at8 z20 p)) _ rfl rfl rfl rfl Tryd.underlying27 Tryd.underlying5 info_b8P eqGuard_Short h6 ?_; go_frame))
      go_ret
      exact ⟨rfl, hB4⟩
    cases c5
    · go_enter Tryd.func10, Tryd.ntmps10
      go_wp2_with (first
        | ((with_reducible change wpList _ _ _ (Oper.mk (some 1) _ _ _ _ _ :: _) _ _); refine kBoxD _ _ rfl rfl rfl ?_; intro w1 hR hz1 hB; go_frame)
        | ((with_reducible change wpList _ _ _ (Oper.mk (some 4) _ _ _ _ _ :: _) _ _); refine kBuild _ _ _ _ rfl rfl (by simp) build_short8 ?_; go_frame)
        | ((with_reducible change wpList _ _ _ (Oper.mk (some 3) _ _ _ _ _ :: _) _ _); refine kAllocL _ _ rfl rfl zero_short8 ?_; intro w2 hR2 hz2 hB2; clear hz2; go_frame)
        | ((with_reducible change wpList _ _ _ (Oper.mk none _ _ _ _ _ :: _) _ _); refine kStoreRow _ _ _ _ _ _ _ rfl rfl rfl rfl hR2 (by rw [tab_size8]; exact info_Short) rfl (tab_one8 _ _) ?_; intro w3 hS hW; have hR4 := hW.row (hR.below hB2 hR.lt) (Nat.ne_of_lt hz1); have hB4 := (hB.trans (hB2.mono (Nat.le_of_lt hz1))).trans (hW.below (Nat.le_of_lt hz1)); clear hR hR2 hB hB2 hW; go_frame)
        | ((with_reducible change wpList _ _ _ (Oper.mk (some 5) _ _ _ _ _ :: _) _ _); refine kDeed0 _ _ rfl rfl rfl ?_; go_frame)
        | ((with_reducible change wpList _ _ _ (Oper.mk (some 6) _ _ _ _ _ :: _) _ _); refine kLoadK _ _ _ hR4 rfl rfl rfl ?_; rw [hk]; go_frame)
        | ((with_reducible change wpList _ _ _ (Oper.mk (some 29) _ _ _ _ _ :: _) _ _); refine kDeed1 _ _ rfl rfl rfl ?_; go_frame)
        | ((with_reducible change wpList _ _ _ (Oper.mk (some 30) _ _ _ _ _ :: _) _ _); refine kLoadN1 _ _ _ hR4 rfl rfl rfl ?_; go_frame)
        | ((with_reducible change wpList _ _ _ (Oper.mk (some 31) _ _ _ _ _ :: _) _ _); refine kLenStr _ _ d.name rfl rfl rfl Tryd.underlying9 ?_; go_frame)
        | ((with_reducible change wpList _ _ _ (Oper.mk (some 32) _ _ _ _ _ :: _) _ _); refine kGtrI _ _ _ _ .i64 (d.name.length : Int) 0 _ rfl rfl rfl rfl h1 ?_; go_frame)
        | ((with_reducible change wpList _ _ _ (Oper.mk (some 34) _ _ _ _ _ :: _) _ _); refine kDeed1 _ _ rfl rfl rfl ?_; go_frame)
        | ((with_reducible change wpList _ _ _ (Oper.mk (some 35) _ _ _ _ _ :: _) _ _); refine kLoadN1 _ _ _ hR4 rfl rfl rfl ?_; go_frame)
        | ((with_reducible change wpList _ _ _ (Oper.mk (some 36) _ _ _ _ _ :: _) _ _); refine kLenStr _ _ d.name rfl rfl rfl Tryd.underlying9 ?_; go_frame)
        | ((with_reducible change wpList _ _ _ (Oper.mk (some 37) _ _ _ _ _ :: _) _ _); refine kLeqI _ _ _ _ .i64 (d.name.length : Int) 64 _ rfl rfl rfl rfl h2 ?_; go_frame)
        | ((with_reducible change wpList _ _ _ (Oper.mk (some 40) _ _ _ _ _ :: _) _ _); refine kDeed3 _ _ rfl rfl rfl ?_; go_frame)
        | ((with_reducible change wpList _ _ _ (Oper.mk (some 41) _ _ _ _ _ :: _) _ _); refine kLoadN3 _ _ _ hR4 rfl rfl rfl ?_; go_frame)
        | ((with_reducible change wpList _ _ _ (Oper.mk (some 42) _ _ _ _ _ :: _) _ _); refine kLenStr _ _ d.rand rfl rfl rfl Tryd.underlying9 ?_; go_frame)
        | ((with_reducible change wpList _ _ _ (Oper.mk (some 43) _ _ _ _ _ :: _) _ _); refine kGtrI _ _ _ _ .i64 (d.rand.length : Int) 0 _ rfl rfl rfl rfl h3 ?_; go_frame)
        | ((with_reducible change wpList _ _ _ (Oper.mk (some 46) _ _ _ _ _ :: _) _ _); refine kDeed3 _ _ rfl rfl rfl ?_; go_frame)
        | ((with_reducible change wpList _ _ _ (Oper.mk (some 47) _ _ _ _ _ :: _) _ _); refine kLoadN3 _ _ _ hR4 rfl rfl rfl ?_; go_frame)
        | ((with_reducible change wpList _ _ _ (Oper.mk (some 48) _ _ _ _ _ :: _) _ _); refine kLenStr _ _ d.rand rfl rfl rfl Tryd.underlying9 ?_; go_frame)
        | ((with_reducible change wpList _ _ _ (Oper.mk (some 49) _ _ _ _ _ :: _) _ _); refine kLeqI _ _ _ _ .i64 (d.rand.length : Int) 32 _ rfl rfl rfl rfl h4 ?_; go_frame)
        | ((with_reducible change wpList _ _ _ (Oper.mk (some 52) _ _ _ _ _ :: _) _ _); refine kDeed2 _ _ rfl rfl rfl ?_; go_frame)
        | ((with_reducible change wpList _ _ _ (Oper.mk (some 53) _ _ _ _ _ :: _) _ _); refine kLoadN2 _ _ _ hR4 rfl rfl rfl ?_; go_frame)
        | ((with_reducible change wpList _ _ _ (Oper.mk (some 54) _ _ _ _ _ :: _) _ _); refine kLenStr _ _ d.value rfl rfl rfl Tryd.underlying9 ?_; go_frame)
        | ((with_reducible change wpList _ _ _ (Oper.mk (some 55) _ _ _ _ _ :: _) _ _); refine kLeqI _ _ _ _ .i64 (d.value.length : Int) 200 _ rfl rfl rfl rfl h5 ?_; go_frame)
        | ((with_reducible change wpList _ _ _ (Oper.mk (some 58) _ _ _ _ _ :: _) _ _); refine kDeed4 _ _ rfl rfl rfl ?_; go_frame)
        | ((with_reducible change wpList _ _ _ (Oper.mk (some 59) _ _ _ _ _ :: _) _ _); refine kLoadC4 _ _ _ hR4 rfl rfl rfl ?_; go_frame)
        | ((with_reducible change wpList _ _ _ (Oper.mk (some 60) _ _ _ _ _ :: _) _ _); refine kLoadRow _ _ _ _ _ _ rfl rfl rfl hS Tryd.underlying27 rfl (by rw [tab_size8]; exact info_Short) ?_; go_frame)
        | ((with_reducible change wpList _ _ _ (Oper.mk (some 61) _ _ _ _ _ :: _) _ _); refine kEqlArr _ _ _ _ _ 20 .u8 .u8 (fun p => B (at8 d.commit p)) (fun p => B (at8 z20 p)) _ rfl rfl rfl rfl Tryd.underlying27 Tryd.underlying5 info_b8P eqGuard_Short h6 ?_; go_frame))
      go_ret
      exact ⟨rfl, hB4⟩
    go_enter Tryd.func10, Tryd.ntmps10
    go_wp2_with (first
      | ((with_reducible change wpList _ _ _ (Oper.mk (some 1) _ _ _ _ _ :: _) _ _); refine kBoxD _ _ rfl rfl rfl ?_; intro w1 hR hz1 hB; go_frame)
      | ((with_reducible change wpList _ _ _ (Oper.mk (some 4) _ _ _ _ _ :: _) _ _); refine kBuild _ _ _ _ rfl rfl (by simp) build_short8 ?_; go_frame)
      | ((with_reducible change wpList _ _ _ (Oper.mk (some 3) _ _ _ _ _ :: _) _ _); refine kAllocL _ _ rfl rfl zero_short8 ?_; intro w2 hR2 hz2 hB2; clear hz2; go_frame)
      | ((with_reducible change wpList _ _ _ (Oper.mk none _ _ _ _ _ :: _) _ _); refine kStoreRow _ _ _ _ _ _ _ rfl rfl rfl rfl hR2 (by rw [tab_size8]; exact info_Short) rfl (tab_one8 _ _) ?_; intro w3 hS hW; have hR4 := hW.row (hR.below hB2 hR.lt) (Nat.ne_of_lt hz1); have hB4 := (hB.trans (hB2.mono (Nat.le_of_lt hz1))).trans (hW.below (Nat.le_of_lt hz1)); clear hR hR2 hB hB2 hW; go_frame)
      | ((with_reducible change wpList _ _ _ (Oper.mk (some 5) _ _ _ _ _ :: _) _ _); refine kDeed0 _ _ rfl rfl rfl ?_; go_frame)
      | ((with_reducible change wpList _ _ _ (Oper.mk (some 6) _ _ _ _ _ :: _) _ _); refine kLoadK _ _ _ hR4 rfl rfl rfl ?_; rw [hk]; go_frame)
      | ((with_reducible change wpList _ _ _ (Oper.mk (some 29) _ _ _ _ _ :: _) _ _); refine kDeed1 _ _ rfl rfl rfl ?_; go_frame)
      | ((with_reducible change wpList _ _ _ (Oper.mk (some 30) _ _ _ _ _ :: _) _ _); refine kLoadN1 _ _ _ hR4 rfl rfl rfl ?_; go_frame)
      | ((with_reducible change wpList _ _ _ (Oper.mk (some 31) _ _ _ _ _ :: _) _ _); refine kLenStr _ _ d.name rfl rfl rfl Tryd.underlying9 ?_; go_frame)
      | ((with_reducible change wpList _ _ _ (Oper.mk (some 32) _ _ _ _ _ :: _) _ _); refine kGtrI _ _ _ _ .i64 (d.name.length : Int) 0 _ rfl rfl rfl rfl h1 ?_; go_frame)
      | ((with_reducible change wpList _ _ _ (Oper.mk (some 34) _ _ _ _ _ :: _) _ _); refine kDeed1 _ _ rfl rfl rfl ?_; go_frame)
      | ((with_reducible change wpList _ _ _ (Oper.mk (some 35) _ _ _ _ _ :: _) _ _); refine kLoadN1 _ _ _ hR4 rfl rfl rfl ?_; go_frame)
      | ((with_reducible change wpList _ _ _ (Oper.mk (some 36) _ _ _ _ _ :: _) _ _); refine kLenStr _ _ d.name rfl rfl rfl Tryd.underlying9 ?_; go_frame)
      | ((with_reducible change wpList _ _ _ (Oper.mk (some 37) _ _ _ _ _ :: _) _ _); refine kLeqI _ _ _ _ .i64 (d.name.length : Int) 64 _ rfl rfl rfl rfl h2 ?_; go_frame)
      | ((with_reducible change wpList _ _ _ (Oper.mk (some 40) _ _ _ _ _ :: _) _ _); refine kDeed3 _ _ rfl rfl rfl ?_; go_frame)
      | ((with_reducible change wpList _ _ _ (Oper.mk (some 41) _ _ _ _ _ :: _) _ _); refine kLoadN3 _ _ _ hR4 rfl rfl rfl ?_; go_frame)
      | ((with_reducible change wpList _ _ _ (Oper.mk (some 42) _ _ _ _ _ :: _) _ _); refine kLenStr _ _ d.rand rfl rfl rfl Tryd.underlying9 ?_; go_frame)
      | ((with_reducible change wpList _ _ _ (Oper.mk (some 43) _ _ _ _ _ :: _) _ _); refine kGtrI _ _ _ _ .i64 (d.rand.length : Int) 0 _ rfl rfl rfl rfl h3 ?_; go_frame)
      | ((with_reducible change wpList _ _ _ (Oper.mk (some 46) _ _ _ _ _ :: _) _ _); refine kDeed3 _ _ rfl rfl rfl ?_; go_frame)
      | ((with_reducible change wpList _ _ _ (Oper.mk (some 47) _ _ _ _ _ :: _) _ _); refine kLoadN3 _ _ _ hR4 rfl rfl rfl ?_; go_frame)
      | ((with_reducible change wpList _ _ _ (Oper.mk (some 48) _ _ _ _ _ :: _) _ _); refine kLenStr _ _ d.rand rfl rfl rfl Tryd.underlying9 ?_; go_frame)
      | ((with_reducible change wpList _ _ _ (Oper.mk (some 49) _ _ _ _ _ :: _) _ _); refine kLeqI _ _ _ _ .i64 (d.rand.length : Int) 32 _ rfl rfl rfl rfl h4 ?_; go_frame)
      | ((with_reducible change wpList _ _ _ (Oper.mk (some 52) _ _ _ _ _ :: _) _ _); refine kDeed2 _ _ rfl rfl rfl ?_; go_frame)
      | ((with_reducible change wpList _ _ _ (Oper.mk (some 53) _ _ _ _ _ :: _) _ _); refine kLoadN2 _ _ _ hR4 rfl rfl rfl ?_; go_frame)
      | ((with_reducible change wpList _ _ _ (Oper.mk (some 54) _ _ _ _ _ :: _) _ _); refine kLenStr _ _ d.value rfl rfl rfl Tryd.underlying9 ?_; go_frame)
      | ((with_reducible change wpList _ _ _ (Oper.mk (some 55) _ _ _ _ _ :: _) _ _); refine kLeqI _ _ _ _ .i64 (d.value.length : Int) 200 _ rfl rfl rfl rfl h5 ?_; go_frame)
      | ((with_reducible change wpList _ _ _ (Oper.mk (some 58) _ _ _ _ _ :: _) _ _); refine kDeed4 _ _ rfl rfl rfl ?_; go_frame)
      | ((with_reducible change wpList _ _ _ (Oper.mk (some 59) _ _ _ _ _ :: _) _ _); refine kLoadC4 _ _ _ hR4 rfl rfl rfl ?_; go_frame)
      | ((with_reducible change wpList _ _ _ (Oper.mk (some 60) _ _ _ _ _ :: _) _ _); refine kLoadRow _ _ _ _ _ _ rfl rfl rfl hS Tryd.underlying27 rfl (by rw [tab_size8]; exact info_Short) ?_; go_frame)
      | ((with_reducible change wpList _ _ _ (Oper.mk (some 61) _ _ _ _ _ :: _) _ _); refine kEqlArr _ _ _ _ _ 20 .u8 .u8 (fun p => B (at8 d.commit p)) (fun p => B (at8 z20 p)) _ rfl rfl rfl rfl Tryd.underlying27 Tryd.underlying5 info_b8P eqGuard_Short h6 ?_; go_frame))
    go_ret
    exact ⟨rfl, hB4⟩
  by_cases k3 : d.kind = 3
  · have hk := k3
    rw [right_n3 hk]
    obtain ⟨c1, h1⟩ : ∃ c, decide ((d.name.length : Int) > 0) = c := ⟨_, rfl⟩
    obtain ⟨c2, h2⟩ : ∃ c, decide ((d.name.length : Int) ≤ 64) = c := ⟨_, rfl⟩
    obtain ⟨c3, h3⟩ : ∃ c, decide (d.rand = []) = c := ⟨_, rfl⟩
    obtain ⟨c4, h4⟩ : ∃ c, decide ((d.value.length : Int) ≤ 200) = c := ⟨_, rfl⟩
    obtain ⟨c5, h5⟩ : ∃ c, decide (d.commit = z20) = c := ⟨_, rfl⟩
    rw [h1, h2, h3, h4, h5]
    rw [← all_at hd hz20] at h5
    rw [← beq_decide] at h3
    cases c1
    · go_enter Tryd.func10, Tryd.ntmps10
      go_wp2_with (first
        | ((with_reducible change wpList _ _ _ (Oper.mk (some 1) _ _ _ _ _ :: _) _ _); refine kBoxD _ _ rfl rfl rfl ?_; intro w1 hR hz1 hB; go_frame)
        | ((with_reducible change wpList _ _ _ (Oper.mk (some 4) _ _ _ _ _ :: _) _ _); refine kBuild _ _ _ _ rfl rfl (by simp) build_short8 ?_; go_frame)
        | ((with_reducible change wpList _ _ _ (Oper.mk (some 3) _ _ _ _ _ :: _) _ _); refine kAllocL _ _ rfl rfl zero_short8 ?_; intro w2 hR2 hz2 hB2; clear hz2; go_frame)
        | ((with_reducible change wpList _ _ _ (Oper.mk none _ _ _ _ _ :: _) _ _); refine kStoreRow _ _ _ _ _ _ _ rfl rfl rfl rfl hR2 (by rw [tab_size8]; exact info_Short) rfl (tab_one8 _ _) ?_; intro w3 hS hW; have hR4 := hW.row (hR.below hB2 hR.lt) (Nat.ne_of_lt hz1); have hB4 := (hB.trans (hB2.mono (Nat.le_of_lt hz1))).trans (hW.below (Nat.le_of_lt hz1)); clear hR hR2 hB hB2 hW; go_frame)
        | ((with_reducible change wpList _ _ _ (Oper.mk (some 5) _ _ _ _ _ :: _) _ _); refine kDeed0 _ _ rfl rfl rfl ?_; go_frame)
        | ((with_reducible change wpList _ _ _ (Oper.mk (some 6) _ _ _ _ _ :: _) _ _); refine kLoadK _ _ _ hR4 rfl rfl rfl ?_; rw [hk]; go_frame)
        | ((with_reducible change wpList _ _ _ (Oper.mk (some 65) _ _ _ _ _ :: _) _ _); refine kDeed1 _ _ rfl rfl rfl ?_; go_frame)
        | ((with_reducible change wpList _ _ _ (Oper.mk (some 66) _ _ _ _ _ :: _) _ _); refine kLoadN1 _ _ _ hR4 rfl rfl rfl ?_; go_frame)
        | ((with_reducible change wpList _ _ _ (Oper.mk (some 67) _ _ _ _ _ :: _) _ _); refine kLenStr _ _ d.name rfl rfl rfl Tryd.underlying9 ?_; go_frame)
        | ((with_reducible change wpList _ _ _ (Oper.mk (some 68) _ _ _ _ _ :: _) _ _); refine kGtrI _ _ _ _ .i64 (d.name.length : Int) 0 _ rfl rfl rfl rfl h1 ?_; go_frame)
        | ((with_reducible change wpList _ _ _ (Oper.mk (some 70) _ _ _ _ _ :: _) _ _); refine kDeed1 _ _ rfl rfl rfl ?_; go_frame)
        | ((with_reducible change wpList _ _ _ (Oper.mk (some 71) _ _ _ _ _ :: _) _ _); refine kLoadN1 _ _ _ hR4 rfl rfl rfl ?_; go_frame)
        | ((with_reducible change wpList _ _ _ (Oper.mk (some 72) _ _ _ _ _ :: _) _ _); refine kLenStr _ _ d.name rfl rfl rfl Tryd.underlying9 ?_; go_frame)
        | ((with_reducible change wpList _ _ _ (Oper.mk (some 73) _ _ _ _ _ :: _) _ _); refine kLeqI _ _ _ _ .i64 (d.name.length : Int) 64 _ rfl rfl rfl rfl h2 ?_; go_frame)
        | ((with_reducible change wpList _ _ _ (Oper.mk (some 76) _ _ _ _ _ :: _) _ _); refine kDeed3 _ _ rfl rfl rfl ?_; go_frame)
        | ((with_reducible change wpList _ _ _ (Oper.mk (some 77) _ _ _ _ _ :: _) _ _); refine kLoadN3 _ _ _ hR4 rfl rfl rfl ?_; go_frame)
        | ((with_reducible change wpList _ _ _ (Oper.mk (some 78) _ _ _ _ _ :: _) _ _); refine kEqlStr _ _ _ _ d.rand [] _ rfl rfl rfl rfl h3 ?_; go_frame)
        | ((with_reducible change wpList _ _ _ (Oper.mk (some 81) _ _ _ _ _ :: _) _ _); refine kDeed2 _ _ rfl rfl rfl ?_; go_frame)
        | ((with_reducible change wpList _ _ _ (Oper.mk (some 82) _ _ _ _ _ :: _) _ _); refine kLoadN2 _ _ _ hR4 rfl rfl rfl ?_; go_frame)
        | ((with_reducible change wpList _ _ _ (Oper.mk (some 83) _ _ _ _ _ :: _) _ _); refine kLenStr _ _ d.value rfl rfl rfl Tryd.underlying9 ?_; go_frame)
        | ((with_reducible change wpList _ _ _ (Oper.mk (some 84) _ _ _ _ _ :: _) _ _); refine kLeqI _ _ _ _ .i64 (d.value.length : Int) 200 _ rfl rfl rfl rfl h4 ?_; go_frame)
        | ((with_reducible change wpList _ _ _ (Oper.mk (some 87) _ _ _ _ _ :: _) _ _); refine kDeed4 _ _ rfl rfl rfl ?_; go_frame)
        | ((with_reducible change wpList _ _ _ (Oper.mk (some 88) _ _ _ _ _ :: _) _ _); refine kLoadC4 _ _ _ hR4 rfl rfl rfl ?_; go_frame)
        | ((with_reducible change wpList _ _ _ (Oper.mk (some 89) _ _ _ _ _ :: _) _ _); refine kLoadRow _ _ _ _ _ _ rfl rfl rfl hS Tryd.underlying27 rfl (by rw [tab_size8]; exact info_Short) ?_; go_frame)
        | ((with_reducible change wpList _ _ _ (Oper.mk (some 90) _ _ _ _ _ :: _) _ _); refine kEqlArr _ _ _ _ _ 20 .u8 .u8 (fun p => B (at8 d.commit p)) (fun p => B (at8 z20 p)) _ rfl rfl rfl rfl Tryd.underlying27 Tryd.underlying5 info_b8P eqGuard_Short h5 ?_; go_frame))
      go_ret
      exact ⟨rfl, hB4⟩
    cases c2
    · go_enter Tryd.func10, Tryd.ntmps10
      go_wp2_with (first
        | ((with_reducible change wpList _ _ _ (Oper.mk (some 1) _ _ _ _ _ :: _) _ _); refine kBoxD _ _ rfl rfl rfl ?_; intro w1 hR hz1 hB; go_frame)
        | ((with_reducible change wpList _ _ _ (Oper.mk (some 4) _ _ _ _ _ :: _) _ _); refine kBuild _ _ _ _ rfl rfl (by simp) build_short8 ?_; go_frame)
        | ((with_reducible change wpList _ _ _ (Oper.mk (some 3) _ _ _ _ _ :: _) _ _); refine kAllocL _ _ rfl rfl zero_short8 ?_; intro w2 hR2 hz2 hB2; clear hz2; go_frame)
        | ((with_reducible change wpList _ _ _ (Oper.mk none _ _ _ _ _ :: _) _ _); refine kStoreRow _ _ _ _ _ _ _ rfl rfl rfl rfl hR2 (by rw [tab_size8]; exact info_Short) rfl (tab_one8 _ _) ?_; intro w3 hS hW; have hR4 := hW.row (hR.below hB2 hR.lt) (Nat.ne_of_lt hz1); have hB4 := (hB.trans (hB2.mono (Nat.le_of_lt hz1))).trans (hW.below (Nat.le_of_lt hz1)); clear hR hR2 hB hB2 hW; go_frame)
        | ((with_reducible change wpList _ _ _ (Oper.mk (some 5) _ _ _ _ _ :: _) _ _); refine kDeed0 _ _ rfl rfl rfl ?_; go_frame)
        | ((with_reducible change wpList _ _ _ (Oper.mk (some 6) _ _ _ _ _ :: _) _ _); refine kLoadK _ _ _ hR4 rfl rfl rfl ?_; rw [hk]; go_frame)
        | ((with_reducible change wpList _ _ _ (Oper.mk (some 65) _ _ _ _ _ :: _) _ _); refine kDeed1 _ _ rfl rfl rfl ?_; go_frame)
        | ((with_reducible change wpList _ _ _ (Oper.mk (some 66) _ _ _ _ _ :: _) _ _); refine kLoadN1 _ _ _ hR4 rfl rfl rfl ?_; go_frame)
        | ((with_reducible change wpList _ _ _ (Oper.mk (some 67) _ _ _ _ _ :: _) _ _); refine kLenStr _ _ d.name rfl rfl rfl Tryd.underlying9 ?_; go_frame)
        | ((with_reducible change wpList _ _ _ (Oper.mk (some 68) _ _ _ _ _ :: _) _ _); refine kGtrI _ _ _ _ .i64 (d.name.length : Int) 0 _ rfl rfl rfl rfl h1 ?_; go_frame)
        | ((with_reducible change wpList _ _ _ (Oper.mk (some 70) _ _ _ _ _ :: _) _ _); refine kDeed1 _ _ rfl rfl rfl ?_; go_frame)
        | ((with_reducible change wpList _ _ _ (Oper.mk (some 71) _ _ _ _ _ :: _) _ _); refine kLoadN1 _ _ _ hR4 rfl rfl rfl ?_; go_frame)
        | ((with_reducible change wpList _ _ _ (Oper.mk (some 72) _ _ _ _ _ :: _) _ _); refine kLenStr _ _ d.name rfl rfl rfl Tryd.underlying9 ?_; go_frame)
        | ((with_reducible change wpList _ _ _ (Oper.mk (some 73) _ _ _ _ _ :: _) _ _); refine kLeqI _ _ _ _ .i64 (d.name.length : Int) 64 _ rfl rfl rfl rfl h2 ?_; go_frame)
        | ((with_reducible change wpList _ _ _ (Oper.mk (some 76) _ _ _ _ _ :: _) _ _); refine kDeed3 _ _ rfl rfl rfl ?_; go_frame)
        | ((with_reducible change wpList _ _ _ (Oper.mk (some 77) _ _ _ _ _ :: _) _ _); refine kLoadN3 _ _ _ hR4 rfl rfl rfl ?_; go_frame)
        | ((with_reducible change wpList _ _ _ (Oper.mk (some 78) _ _ _ _ _ :: _) _ _); refine kEqlStr _ _ _ _ d.rand [] _ rfl rfl rfl rfl h3 ?_; go_frame)
        | ((with_reducible change wpList _ _ _ (Oper.mk (some 81) _ _ _ _ _ :: _) _ _); refine kDeed2 _ _ rfl rfl rfl ?_; go_frame)
        | ((with_reducible change wpList _ _ _ (Oper.mk (some 82) _ _ _ _ _ :: _) _ _); refine kLoadN2 _ _ _ hR4 rfl rfl rfl ?_; go_frame)
        | ((with_reducible change wpList _ _ _ (Oper.mk (some 83) _ _ _ _ _ :: _) _ _); refine kLenStr _ _ d.value rfl rfl rfl Tryd.underlying9 ?_; go_frame)
        | ((with_reducible change wpList _ _ _ (Oper.mk (some 84) _ _ _ _ _ :: _) _ _); refine kLeqI _ _ _ _ .i64 (d.value.length : Int) 200 _ rfl rfl rfl rfl h4 ?_; go_frame)
        | ((with_reducible change wpList _ _ _ (Oper.mk (some 87) _ _ _ _ _ :: _) _ _); refine kDeed4 _ _ rfl rfl rfl ?_; go_frame)
        | ((with_reducible change wpList _ _ _ (Oper.mk (some 88) _ _ _ _ _ :: _) _ _); refine kLoadC4 _ _ _ hR4 rfl rfl rfl ?_; go_frame)
        | ((with_reducible change wpList _ _ _ (Oper.mk (some 89) _ _ _ _ _ :: _) _ _); refine kLoadRow _ _ _ _ _ _ rfl rfl rfl hS Tryd.underlying27 rfl (by rw [tab_size8]; exact info_Short) ?_; go_frame)
        | ((with_reducible change wpList _ _ _ (Oper.mk (some 90) _ _ _ _ _ :: _) _ _); refine kEqlArr _ _ _ _ _ 20 .u8 .u8 (fun p => B (at8 d.commit p)) (fun p => B (at8 z20 p)) _ rfl rfl rfl rfl Tryd.underlying27 Tryd.underlying5 info_b8P eqGuard_Short h5 ?_; go_frame))
      go_ret
      exact ⟨rfl, hB4⟩
    cases c3
    · go_enter Tryd.func10, Tryd.ntmps10
      go_wp2_with (first
        | ((with_reducible change wpList _ _ _ (Oper.mk (some 1) _ _ _ _ _ :: _) _ _); refine kBoxD _ _ rfl rfl rfl ?_; intro w1 hR hz1 hB; go_frame)
        | ((with_reducible change wpList _ _ _ (Oper.mk (some 4) _ _ _ _ _ :: _) _ _); refine kBuild _ _ _ _ rfl rfl (by simp) build_short8 ?_; go_frame)
        | ((with_reducible change wpList _ _ _ (Oper.mk (some 3) _ _ _ _ _ :: _) _ _); refine kAllocL _ _ rfl rfl zero_short8 ?_; intro w2 hR2 hz2 hB2; clear hz2; go_frame)
        | ((with_reducible change wpList _ _ _ (Oper.mk none _ _ _ _ _ :: _) _ _); refine kStoreRow _ _ _ _ _ _ _ rfl rfl rfl rfl hR2 (by rw [tab_size8]; exact info_Short) rfl (tab_one8 _ _) ?_; intro w3 hS hW; have hR4 := hW.row (hR.below hB2 hR.lt) (Nat.ne_of_lt hz1); have hB4 := (hB.trans (hB2.mono (Nat.le_of_lt hz1))).trans (hW.below (Nat.le_of_lt hz1)); clear hR hR2 hB hB2 hW; go_frame)
        | ((with_reducible change wpList _ _ _ (Oper.mk (some 5) _ _ _ _ _ :: _) _ _); refine kDeed0 _ _ rfl rfl rfl ?_; go_frame)
        | ((with_reducible change wpList _ _ _ (Oper.mk (some 6) _ _ _ _ _ :: _) _ _); refine kLoadK _ _ _ hR4 rfl rfl rfl ?_; rw [hk]; go_frame)
        | ((with_reducible change wpList _ _ _ (Oper.mk (some 65) _ _ _ _ _ :: _) _ _); refine kDeed1 _ _ rfl rfl rfl ?_; go_frame)
        | ((with_reducible change wpList _ _ _ (Oper.mk (some 66) _ _ _ _ _ :: _) _ _); refine kLoadN1 _ _ _ hR4 rfl rfl rfl ?_; go_frame)
        | ((with_reducible change wpList _ _ _ (Oper.mk (some 67) _ _ _ _ _ :: _) _ _); refine kLenStr _ _ d.name rfl rfl rfl Tryd.underlying9 ?_; go_frame)
        | ((with_reducible change wpList _ _ _ (Oper.mk (some 68) _ _ _ _ _ :: _) _ _); refine kGtrI _ _ _ _ .i64 (d.name.length : Int) 0 _ rfl rfl rfl rfl h1 ?_; go_frame)
        | ((with_reducible change wpList _ _ _ (Oper.mk (some 70) _ _ _ _ _ :: _) _ _); refine kDeed1 _ _ rfl rfl rfl ?_; go_frame)
        | ((with_reducible change wpList _ _ _ (Oper.mk (some 71) _ _ _ _ _ :: _) _ _); refine kLoadN1 _ _ _ hR4 rfl rfl rfl ?_; go_frame)
        | ((with_reducible change wpList _ _ _ (Oper.mk (some 72) _ _ _ _ _ :: _) _ _); refine kLenStr _ _ d.name rfl rfl rfl Tryd.underlying9 ?_; go_frame)
        | ((with_reducible change wpList _ _ _ (Oper.mk (some 73) _ _ _ _ _ :: _) _ _); refine kLeqI _ _ _ _ .i64 (d.name.length : Int) 64 _ rfl rfl rfl rfl h2 ?_; go_frame)
        | ((with_reducible change wpList _ _ _ (Oper.mk (some 76) _ _ _ _ _ :: _) _ _); refine kDeed3 _ _ rfl rfl rfl ?_; go_frame)
        | ((with_reducible change wpList _ _ _ (Oper.mk (some 77) _ _ _ _ _ :: _) _ _); refine kLoadN3 _ _ _ hR4 rfl rfl rfl ?_; go_frame)
        | ((with_reducible change wpList _ _ _ (Oper.mk (some 78) _ _ _ _ _ :: _) _ _); refine kEqlStr _ _ _ _ d.rand [] _ rfl rfl rfl rfl h3 ?_; go_frame)
        | ((with_reducible change wpList _ _ _ (Oper.mk (some 81) _ _ _ _ _ :: _) _ _); refine kDeed2 _ _ rfl rfl rfl ?_; go_frame)
        | ((with_reducible change wpList _ _ _ (Oper.mk (some 82) _ _ _ _ _ :: _) _ _); refine kLoadN2 _ _ _ hR4 rfl rfl rfl ?_; go_frame)
        | ((with_reducible change wpList _ _ _ (Oper.mk (some 83) _ _ _ _ _ :: _) _ _); refine kLenStr _ _ d.value rfl rfl rfl Tryd.underlying9 ?_; go_frame)
        | ((with_reducible change wpList _ _ _ (Oper.mk (some 84) _ _ _ _ _ :: _) _ _); refine kLeqI _ _ _ _ .i64 (d.value.length : Int) 200 _ rfl rfl rfl rfl h4 ?_; go_frame)
        | ((with_reducible change wpList _ _ _ (Oper.mk (some 87) _ _ _ _ _ :: _) _ _); refine kDeed4 _ _ rfl rfl rfl ?_; go_frame)
        | ((with_reducible change wpList _ _ _ (Oper.mk (some 88) _ _ _ _ _ :: _) _ _); refine kLoadC4 _ _ _ hR4 rfl rfl rfl ?_; go_frame)
        | ((with_reducible change wpList _ _ _ (Oper.mk (some 89) _ _ _ _ _ :: _) _ _); refine kLoadRow _ _ _ _ _ _ rfl rfl rfl hS Tryd.underlying27 rfl (by rw [tab_size8]; exact info_Short) ?_; go_frame)
        | ((with_reducible change wpList _ _ _ (Oper.mk (some 90) _ _ _ _ _ :: _) _ _); refine kEqlArr _ _ _ _ _ 20 .u8 .u8 (fun p => B (at8 d.commit p)) (fun p => B (at8 z20 p)) _ rfl rfl rfl rfl Tryd.underlying27 Tryd.underlying5 info_b8P eqGuard_Short h5 ?_; go_frame))
      go_ret
      exact ⟨rfl, hB4⟩
    cases c4
    · go_enter Tryd.func10, Tryd.ntmps10
      go_wp2_with (first
        | ((with_reducible change wpList _ _ _ (Oper.mk (some 1) _ _ _ _ _ :: _) _ _); refine kBoxD _ _ rfl rfl rfl ?_; intro w1 hR hz1 hB; go_frame)
        | ((with_reducible change wpList _ _ _ (Oper.mk (some 4) _ _ _ _ _ :: _) _ _); refine kBuild _ _ _ _ rfl rfl (by simp) build_short8 ?_; go_frame)
        | ((with_reducible change wpList _ _ _ (Oper.mk (some 3) _ _ _ _ _ :: _) _ _); refine kAllocL _ _ rfl rfl zero_short8 ?_; intro w2 hR2 hz2 hB2; clear hz2; go_frame)
        | ((with_reducible change wpList _ _ _ (Oper.mk none _ _ _ _ _ :: _) _ _); refine kStoreRow _ _ _ _ _ _ _ rfl rfl rfl rfl hR2 (by rw [tab_size8]; exact info_Short) rfl (tab_one8 _ _) ?_; intro w3 hS hW; have hR4 := hW.row (hR.below hB2 hR.lt) (Nat.ne_of_lt hz1); have hB4 := (hB.trans (hB2.mono (Nat.le_of_lt hz1))).trans (hW.below (Nat.le_of_lt hz1)); clear hR hR2 hB hB2 hW; go_frame)
        | ((with_reducible change wpList _ _ _ (Oper.mk (some 5) _ _ _ _ _ :: _) _ _); refine kDeed0 _ _ rfl rfl rfl ?_; go_frame)
        | ((with_reducible change wpList _ _ _ (Oper.mk (some 6) _ _ _ _ _ :: _) _ _); refine kLoadK _ _ _ hR4 rfl rfl rfl ?_; rw [hk]; go_frame)
        | ((with_reducible change wpList _ _ _ (Oper.mk (some 65) _ _ _ _ _ :: _) _ _); refine kDeed1 _ _ rfl rfl rfl ?_; go_frame)
        | ((with_reducible change wpList _ _ _ (Oper.mk (some 66) _ _ _ _ _ :: _) _ _); refine kLoadN1 _ _ _ hR4 rfl rfl rfl ?_; go_frame)
        | ((with_reducible change wpList _ _ _ (Oper.mk (some 67) _ _ _ _ _ :: _) _ _); refine kLenStr _ _ d.name rfl rfl rfl Tryd.underlying9 ?_; go_frame)
        | ((with_reducible change wpList _ _ _ (Oper.mk (some 68) _ _ _ _ _ :: _) _ _); refine kGtrI _ _ _ _ .i64 (d.name.length : Int) 0 _ rfl rfl rfl rfl h1 ?_; go_frame)
        | ((with_reducible change wpList _ _ _ (Oper.mk (some 70) _ _ _ _ _ :: _) _ _); refine kDeed1 _ _ rfl rfl rfl ?_; go_frame)
        | ((with_reducible change wpList _ _ _ (Oper.mk (some 71) _ _ _ _ _ :: _) _ _); refine kLoadN1 _ _ _ hR4 rfl rfl rfl ?_; go_frame)
        | ((with_reducible change wpList _ _ _ (Oper.mk (some 72) _ _ _ _ _ :: _) _ _); refine kLenStr _ _ d.name rfl rfl rfl Tryd.underlying9 ?_; go_frame)
        | ((with_reducible change wpList _ _ _ (Oper.mk (some 73) _ _ _ _ _ :: _) _ _); refine kLeqI _ _ _ _ .i64 (d.name.length : Int) 64 _ rfl rfl rfl rfl h2 ?_; go_frame)
        | ((with_reducible change wpList _ _ _ (Oper.mk (some 76) _ _ _ _ _ :: _) _ _); refine kDeed3 _ _ rfl rfl rfl ?_; go_frame)
        | ((with_reducible change wpList _ _ _ (Oper.mk (some 77) _ _ _ _ _ :: _) _ _); refine kLoadN3 _ _ _ hR4 rfl rfl rfl ?_; go_frame)
        | ((with_reducible change wpList _ _ _ (Oper.mk (some 78) _ _ _ _ _ :: _) _ _); refine kEqlStr _ _ _ _ d.rand [] _ rfl rfl rfl rfl h3 ?_; go_frame)
        | ((with_reducible change wpList _ _ _ (Oper.mk (some 81) _ _ _ _ _ :: _) _ _); refine kDeed2 _ _ rfl rfl rfl ?_; go_frame)
        | ((with_reducible change wpList _ _ _ (Oper.mk (some 82) _ _ _ _ _ :: _) _ _); refine kLoadN2 _ _ _ hR4 rfl rfl rfl ?_; go_frame)
        | ((with_reducible change wpList _ _ _ (Oper.mk (some 83) _ _ _ _ _ :: _) _ _); refine kLenStr _ _ d.value rfl rfl rfl Tryd.underlying9 ?_; go_frame)
        | ((with_reducible change wpList _ _ _ (Oper.mk (some 84) _ _ _ _ _ :: _) _ _); refine kLeqI _ _ _ _ .i64 (d.value.length : Int) 200 _ rfl rfl rfl rfl h4 ?_; go_frame)
        | ((with_reducible change wpList _ _ _ (Oper.mk (some 87) _ _ _ _ _ :: _) _ _); refine kDeed4 _ _ rfl rfl rfl ?_; go_frame)
        | ((with_reducible change wpList _ _ _ (Oper.mk (some 88) _ _ _ _ _ :: _) _ _); refine kLoadC4 _ _ _ hR4 rfl rfl rfl ?_; go_frame)
        | ((with_reducible change wpList _ _ _ (Oper.mk (some 89) _ _ _ _ _ :: _) _ _); refine kLoadRow _ _ _ _ _ _ rfl rfl rfl hS Tryd.underlying27 rfl (by rw [tab_size8]; exact info_Short) ?_; go_frame)
        | ((with_reducible change wpList _ _ _ (Oper.mk (some 90) _ _ _ _ _ :: _) _ _); refine kEqlArr _ _ _ _ _ 20 .u8 .u8 (fun p => B (at8 d.commit p)) (fun p => B (at8 z20 p)) _ rfl rfl rfl rfl Tryd.underlying27 Tryd.underlying5 info_b8P eqGuard_Short h5 ?_; go_frame))
      go_ret
      exact ⟨rfl, hB4⟩
    go_enter Tryd.func10, Tryd.ntmps10
    go_wp2_with (first
      | ((with_reducible change wpList _ _ _ (Oper.mk (some 1) _ _ _ _ _ :: _) _ _); refine kBoxD _ _ rfl rfl rfl ?_; intro w1 hR hz1 hB; go_frame)
      | ((with_reducible change wpList _ _ _ (Oper.mk (some 4) _ _ _ _ _ :: _) _ _); refine kBuild _ _ _ _ rfl rfl (by simp) build_short8 ?_; go_frame)
      | ((with_reducible change wpList _ _ _ (Oper.mk (some 3) _ _ _ _ _ :: _) _ _); refine kAllocL _ _ rfl rfl zero_short8 ?_; intro w2 hR2 hz2 hB2; clear hz2; go_frame)
      | ((with_reducible change wpList _ _ _ (Oper.mk none _ _ _ _ _ :: _) _ _); refine kStoreRow _ _ _ _ _ _ _ rfl rfl rfl rfl hR2 (by rw [tab_size8]; exact info_Short) rfl (tab_one8 _ _) ?_; intro w3 hS hW; have hR4 := hW.row (hR.below hB2 hR.lt) (Nat.ne_of_lt hz1); have hB4 := (hB.trans (hB2.mono (Nat.le_of_lt hz1))).trans (hW.below (Nat.le_of_lt hz1)); clear hR hR2 hB hB2 hW; go_frame)
      | ((with_reducible change wpList _ _ _ (Oper.mk (some 5) _ _ _ _ _ :: _) _ _); refine kDeed0 _ _ rfl rfl rfl ?_; go_frame)
      | ((with_reducible change wpList _ _ _ (Oper.mk (some 6) _ _ _ _ _ :: _) _ _); refine kLoadK _ _ _ hR4 rfl rfl rfl ?_; rw [hk]; go_frame)
      | ((with_reducible change wpList _ _ _ (Oper.mk (some 65) _ _ _ _ _ :: _) _ _); refine kDeed1 _ _ rfl rfl rfl ?_; go_frame)
      | ((with_reducible change wpList _ _ _ (Oper.mk (some 66) _ _ _ _ _ :: _) _ _); refine kLoadN1 _ _ _ hR4 rfl rfl rfl ?_; go_frame)
      | ((with_reducible change wpList _ _ _ (Oper.mk (some 67) _ _ _ _ _ :: _) _ _); refine kLenStr _ _ d.name rfl rfl rfl Tryd.underlying9 ?_; go_frame)
      | ((with_reducible change wpList _ _ _ (Oper.mk (some 68) _ _ _ _ _ :: _) _ _); refine kGtrI _ _ _ _ .i64 (d.name.length : Int) 0 _ rfl rfl rfl rfl h1 ?_; go_frame)
      | ((with_reducible change wpList _ _ _ (Oper.mk (some 70) _ _ _ _ _ :: _) _ _); refine kDeed1 _ _ rfl rfl rfl ?_; go_frame)
      | ((with_reducible change wpList _ _ _ (Oper.mk (some 71) _ _ _ _ _ :: _) _ _); refine kLoadN1 _ _ _ hR4 rfl rfl rfl ?_; go_frame)
      | ((with_reducible change wpList _ _ _ (Oper.mk (some 72) _ _ _ _ _ :: _) _ _); refine kLenStr _ _ d.name rfl rfl rfl Tryd.underlying9 ?_; go_frame)
      | ((with_reducible change wpList _ _ _ (Oper.mk (some 73) _ _ _ _ _ :: _) _ _); refine kLeqI _ _ _ _ .i64 (d.name.length : Int) 64 _ rfl rfl rfl rfl h2 ?_; go_frame)
      | ((with_reducible change wpList _ _ _ (Oper.mk (some 76) _ _ _ _ _ :: _) _ _); refine kDeed3 _ _ rfl rfl rfl ?_; go_frame)
      | ((with_reducible change wpList _ _ _ (Oper.mk (some 77) _ _ _ _ _ :: _) _ _); refine kLoadN3 _ _ _ hR4 rfl rfl rfl ?_; go_frame)
      | ((with_reducible change wpList _ _ _ (Oper.mk (some 78) _ _ _ _ _ :: _) _ _); refine kEqlStr _ _ _ _ d.rand [] _ rfl rfl rfl rfl h3 ?_; go_frame)
      | ((with_reducible change wpList _ _ _ (Oper.mk (some 81) _ _ _ _ _ :: _) _ _); refine kDeed2 _ _ rfl rfl rfl ?_; go_frame)
      | ((with_reducible change wpList _ _ _ (Oper.mk (some 82) _ _ _ _ _ :: _) _ _); refine kLoadN2 _ _ _ hR4 rfl rfl rfl ?_; go_frame)
      | ((with_reducible change wpList _ _ _ (Oper.mk (some 83) _ _ _ _ _ :: _) _ _); refine kLenStr _ _ d.value rfl rfl rfl Tryd.underlying9 ?_; go_frame)
      | ((with_reducible change wpList _ _ _ (Oper.mk (some 84) _ _ _ _ _ :: _) _ _); refine kLeqI _ _ _ _ .i64 (d.value.length : Int) 200 _ rfl rfl rfl rfl h4 ?_; go_frame)
      | ((with_reducible change wpList _ _ _ (Oper.mk (some 87) _ _ _ _ _ :: _) _ _); refine kDeed4 _ _ rfl rfl rfl ?_; go_frame)
      | ((with_reducible change wpList _ _ _ (Oper.mk (some 88) _ _ _ _ _ :: _) _ _); refine kLoadC4 _ _ _ hR4 rfl rfl rfl ?_; go_frame)
      | ((with_reducible change wpList _ _ _ (Oper.mk (some 89) _ _ _ _ _ :: _) _ _); refine kLoadRow _ _ _ _ _ _ rfl rfl rfl hS Tryd.underlying27 rfl (by rw [tab_size8]; exact info_Short) ?_; go_frame)
      | ((with_reducible change wpList _ _ _ (Oper.mk (some 90) _ _ _ _ _ :: _) _ _); refine kEqlArr _ _ _ _ _ 20 .u8 .u8 (fun p => B (at8 d.commit p)) (fun p => B (at8 z20 p)) _ rfl rfl rfl rfl Tryd.underlying27 Tryd.underlying5 info_b8P eqGuard_Short h5 ?_; go_frame))
    go_ret
    exact ⟨rfl, hB4⟩
  rw [right_x k0 k1 k2 k3]
  have g0 : decide (d.kind = 0) = false := by simp [k0]
  have g1 : decide (d.kind = 1) = false := by simp [k1]
  have g2 : decide (d.kind = 2) = false := by simp [k2]
  have g3 : decide (d.kind = 3) = false := by simp [k3]
  go_enter Tryd.func10, Tryd.ntmps10
  go_wp2_with (first
    | ((with_reducible change wpList _ _ _ (Oper.mk (some 1) _ _ _ _ _ :: _) _ _); refine kBoxD _ _ rfl rfl rfl ?_; intro w1 hR hz1 hB; go_frame)
    | ((with_reducible change wpList _ _ _ (Oper.mk (some 4) _ _ _ _ _ :: _) _ _); refine kBuild _ _ _ _ rfl rfl (by simp) build_short8 ?_; go_frame)
    | ((with_reducible change wpList _ _ _ (Oper.mk (some 3) _ _ _ _ _ :: _) _ _); refine kAllocL _ _ rfl rfl zero_short8 ?_; intro w2 hR2 hz2 hB2; clear hz2; go_frame)
    | ((with_reducible change wpList _ _ _ (Oper.mk none _ _ _ _ _ :: _) _ _); refine kStoreRow _ _ _ _ _ _ _ rfl rfl rfl rfl hR2 (by rw [tab_size8]; exact info_Short) rfl (tab_one8 _ _) ?_; intro w3 hS hW; have hR4 := hW.row (hR.below hB2 hR.lt) (Nat.ne_of_lt hz1); have hB4 := (hB.trans (hB2.mono (Nat.le_of_lt hz1))).trans (hW.below (Nat.le_of_lt hz1)); clear hR hR2 hB hB2 hW; go_frame)
    | ((with_reducible change wpList _ _ _ (Oper.mk (some 5) _ _ _ _ _ :: _) _ _); refine kDeed0 _ _ rfl rfl rfl ?_; go_frame)
    | ((with_reducible change wpList _ _ _ (Oper.mk (some 6) _ _ _ _ _ :: _) _ _); refine kLoadK _ _ _ hR4 rfl rfl rfl ?_; go_frame)
    | ((with_reducible change wpList _ _ _ (Oper.mk (some 8) _ _ _ _ _ :: _) _ _); refine kEqlI _ _ _ _ .i64 d.kind 0 false rfl rfl rfl rfl g0 ?_; go_frame)
    | ((with_reducible change wpList _ _ _ (Oper.mk (some 13) _ _ _ _ _ :: _) _ _); refine kEqlI _ _ _ _ .i64 d.kind 1 false rfl rfl rfl rfl g1 ?_; go_frame)
    | ((with_reducible change wpList _ _ _ (Oper.mk (some 28) _ _ _ _ _ :: _) _ _); refine kEqlI _ _ _ _ .i64 d.kind 2 false rfl rfl rfl rfl g2 ?_; go_frame)
    | ((with_reducible change wpList _ _ _ (Oper.mk (some 64) _ _ _ _ _ :: _) _ _); refine kEqlI _ _ _ _ .i64 d.kind 3 false rfl rfl rfl rfl g3 ?_; go_frame))
  go_ret
  exact ⟨rfl, hB4⟩
end Go.Proofs.YtnaclalbeocpkaaDoor
