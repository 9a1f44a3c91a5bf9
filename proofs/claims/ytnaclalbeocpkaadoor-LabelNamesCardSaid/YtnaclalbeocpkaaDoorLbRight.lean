/-
  Layer 8: the walks of the program's Right and Named.
-/
import Derived.Test.YtnaclalbeocpkaaDoorLbBase
namespace Go.Proofs.YtnaclalbeocpkaaDoor
open Go Go.RowKit

theorem right_0 {d : Deed} (hk : d.kind = 0) : rightB d = sameD d noDeed := by
  rw [Bool.eq_iff_iff, sameD_iff]
  obtain ⟨k, n, v, r, c⟩ := d
  simp only at hk
  subst hk
  simp [rightB, noDeed]
theorem right_1 {d : Deed} (hk : d.kind = 1) : rightB d = sameD d ⟨1, [], [], [], d.commit⟩ := by simp [rightB, sameD, hk, Bool.decide_and, Bool.and_assoc]
theorem right_2 {d : Deed} (hk : d.kind = 2) : rightB d = (sameD d ⟨2, d.name, d.value, d.rand, z20⟩ && decide ((1 ≤ d.name.length ∧ d.name.length ≤ 64) ∧ d.value.length ≤ 200) && decide (1 ≤ d.rand.length ∧ d.rand.length ≤ 32)) := by
  simp [rightB, sameD, hk, Bool.decide_and, Bool.and_assoc]
theorem right_3 {d : Deed} (hk : d.kind = 3) : rightB d = (sameD d ⟨3, d.name, d.value, [], z20⟩ && decide ((1 ≤ d.name.length ∧ d.name.length ≤ 64) ∧ d.value.length ≤ 200)) := by
  simp only [rightB, sameD, hk, Bool.decide_and, Bool.and_assoc]
  cases decide (d.commit = z20) <;> simp
theorem right_x {d : Deed} (h0 : d.kind ≠ 0) (h1 : d.kind ≠ 1) (h2 : d.kind ≠ 2) (h3 : d.kind ≠ 3) : rightB d = false := by simp [rightB, h0, h1, h2, h3]
/-- no part is great -/
def Deed.Small (d : Deed) : Prop := d.name.length ≤ 1000000 ∧ d.value.length ≤ 1000000 ∧ d.rand.length ≤ 1000000
set_option maxRecDepth 100000 in
set_option maxHeartbeats 8000000 in
theorem lbRight_any {d : Deed} (hd : d.Is) (hs : d.Small) (w : World) : Calls Tryd.prog 9 #[deedV d] w fun e w' => e = .returned (.bool (rightB d)) ∧ Below w.heap.size w w' := by
  have hz20 : z20.length = 20 := rfl
  by_cases k0 : d.kind = 0
  · have hk := k0
    rw [right_0 hk]
    obtain ⟨b, hb⟩ : ∃ b, sameD d noDeed = b := ⟨_, rfl⟩
    rw [hb]
    go_enter Tryd.func9, Tryd.ntmps9
    go_wp2_with (first
      | ((with_reducible change wpList _ _ _ (Oper.mk (some 1) _ _ _ _ _ :: _) _ _); refine kBoxD _ _ rfl rfl rfl ?_; intro w1 hR hz hB; clear hz; go_frame)
      | ((with_reducible change wpList _ _ _ (Oper.mk (some 4) _ _ _ _ _ :: _) _ _); refine kDeed0 _ _ rfl rfl rfl ?_; go_frame)
      | ((with_reducible change wpList _ _ _ (Oper.mk (some 5) _ _ _ _ _ :: _) _ _); refine kLoadK _ _ _ hR rfl rfl rfl ?_; rw [hk]; go_frame)
      | ((with_reducible change wpList _ _ _ (Oper.mk (some 8) _ _ _ _ _ :: _) _ _); refine kLoadD _ _ _ hR rfl rfl rfl ?_; go_frame)
      | ((with_reducible change wpList _ _ _ (Oper.mk (some 9) _ _ _ _ _ :: _) _ _); refine kBuildD0 rfl rfl ?_; go_frame)
      | ((with_reducible change wpList _ _ _ (Oper.mk (some 10) _ _ _ _ _ :: _) _ _); refine kEqlD _ _ _ hd (by exact hz20) b rfl rfl rfl rfl hb ?_; go_frame))
    go_ret
    exact ⟨rfl, hB⟩
  by_cases k1 : d.kind = 1
  · have hk := k1
    rw [right_1 hk]
    obtain ⟨b, hb⟩ : ∃ b, sameD d ⟨1, [], [], [], d.commit⟩ = b := ⟨_, rfl⟩
    rw [hb]
    go_enter Tryd.func9, Tryd.ntmps9
    go_wp2_with (first
      | ((with_reducible change wpList _ _ _ (Oper.mk (some 1) _ _ _ _ _ :: _) _ _); refine kBoxD _ _ rfl rfl rfl ?_; intro w1 hR hz hB; clear hz; go_frame)
      | ((with_reducible change wpList _ _ _ (Oper.mk (some 4) _ _ _ _ _ :: _) _ _); refine kDeed0 _ _ rfl rfl rfl ?_; go_frame)
      | ((with_reducible change wpList _ _ _ (Oper.mk (some 5) _ _ _ _ _ :: _) _ _); refine kLoadK _ _ _ hR rfl rfl rfl ?_; rw [hk]; go_frame)
      | ((with_reducible change wpList _ _ _ (Oper.mk (some 13) _ _ _ _ _ :: _) _ _); refine kLoadD _ _ _ hR rfl rfl rfl ?_; go_frame)
      | ((with_reducible change wpList _ _ _ (Oper.mk (some 14) _ _ _ _ _ :: _) _ _); refine kDeed0 _ _ rfl rfl rfl ?_; go_frame)
      | ((with_reducible change wpList _ _ _ (Oper.mk (some 15) _ _ _ _ _ :: _) _ _); refine kLoadK _ _ _ hR rfl rfl rfl ?_; rw [hk]; go_frame)
      | ((with_reducible change wpList _ _ _ (Oper.mk (some 16) _ _ _ _ _ :: _) _ _); refine kDeed4 _ _ rfl rfl rfl ?_; go_frame)
      | ((with_reducible change wpList _ _ _ (Oper.mk (some 17) _ _ _ _ _ :: _) _ _); refine kLoadC4 _ _ _ hR rfl rfl rfl ?_; go_frame)
      | ((with_reducible change wpList _ _ _ (Oper.mk (some 18) _ _ _ _ _ :: _) _ _); refine kBuildD1 _ _ 1 d.commit rfl rfl rfl rfl ?_; go_frame)
      | ((with_reducible change wpList _ _ _ (Oper.mk (some 19) _ _ _ _ _ :: _) _ _); refine kEqlD _ _ _ hd (by exact hd) b rfl rfl rfl rfl hb ?_; go_frame))
    go_ret
    exact ⟨rfl, hB⟩
  by_cases k2 : d.kind = 2
  · have hk := k2
    rw [right_2 hk]
    have e1 := fun w => lbTells_any d w hs.1 hs.2.1
    have e2 := fun w => lbWithin_any d.rand 1 32 w hs.2.2
    obtain ⟨b1, hb1⟩ : ∃ b, decide ((1 ≤ d.name.length ∧ d.name.length ≤ 64) ∧ d.value.length ≤ 200) = b := ⟨_, rfl⟩
    obtain ⟨b2, hb2⟩ : ∃ b, decide (1 ≤ d.rand.length ∧ d.rand.length ≤ 32) = b := ⟨_, rfl⟩
    rw [hb1] at e1 ⊢
    rw [hb2] at e2 ⊢
    clear hb1 hb2
    obtain ⟨b0, hb0⟩ : ∃ b, sameD d ⟨2, d.name, d.value, d.rand, z20⟩ = b := ⟨_, rfl⟩
    rw [hb0]
    cases b0
    · rw [Bool.false_and, Bool.false_and]
      go_enter Tryd.func9, Tryd.ntmps9
      go_wp2_with (first
        | ((with_reducible change wpList _ _ _ (Oper.mk (some 1) _ _ _ _ _ :: _) _ _); refine kBoxD _ _ rfl rfl rfl ?_; intro w1 hR hz1 hB; go_frame)
        | ((with_reducible change wpList _ _ _ (Oper.mk (some 4) _ _ _ _ _ :: _) _ _); refine kDeed0 _ _ rfl rfl rfl ?_; go_frame)
        | ((with_reducible change wpList _ _ _ (Oper.mk (some 5) _ _ _ _ _ :: _) _ _); refine kLoadK _ _ _ hR rfl rfl rfl ?_; rw [hk]; go_frame)
        | ((with_reducible change wpList _ _ _ (Oper.mk (some 22) _ _ _ _ _ :: _) _ _); refine kDeed0 _ _ rfl rfl rfl ?_; go_frame)
        | ((with_reducible change wpList _ _ _ (Oper.mk (some 23) _ _ _ _ _ :: _) _ _); refine kLoadK _ _ _ hR rfl rfl rfl ?_; rw [hk]; go_frame)
        | ((with_reducible change wpList _ _ _ (Oper.mk (some 24) _ _ _ _ _ :: _) _ _); refine kDeed1 _ _ rfl rfl rfl ?_; go_frame)
        | ((with_reducible change wpList _ _ _ (Oper.mk (some 25) _ _ _ _ _ :: _) _ _); refine kLoadN1 _ _ _ hR rfl rfl rfl ?_; go_frame)
        | ((with_reducible change wpList _ _ _ (Oper.mk (some 26) _ _ _ _ _ :: _) _ _); refine kDeed3 _ _ rfl rfl rfl ?_; go_frame)
        | ((with_reducible change wpList _ _ _ (Oper.mk (some 27) _ _ _ _ _ :: _) _ _); refine kLoadN3 _ _ _ hR rfl rfl rfl ?_; go_frame)
        | ((with_reducible change wpList _ _ _ (Oper.mk (some 28) _ _ _ _ _ :: _) _ _); refine kDeed2 _ _ rfl rfl rfl ?_; go_frame)
        | ((with_reducible change wpList _ _ _ (Oper.mk (some 29) _ _ _ _ _ :: _) _ _); refine kLoadN2 _ _ _ hR rfl rfl rfl ?_; go_frame)
        | ((with_reducible change wpList _ _ _ (Oper.mk (some 30) _ _ _ _ _ :: _) _ _); refine kBuildD2 _ _ _ _ 2 d.name d.rand d.value rfl rfl rfl rfl rfl rfl ?_; go_frame)
        | ((with_reducible change wpList _ _ _ (Oper.mk (some 3) _ _ _ _ _ :: _) _ _); refine kAllocL _ _ rfl rfl zero_Deed ?_; intro w2 hR2 hz2 hB2; clear hz2; go_frame)
        | ((with_reducible change wpList _ _ _ (Oper.mk none _ _ _ _ _ :: _) _ _); refine kStoreD _ _ _ noDeed _ hR2 rfl rfl rfl rfl ?_; intro w3 hR3 hW3; have hR4 := hW3.row (hR.below hB2 hR.lt) (Nat.ne_of_lt hz1); have hB4 := (hB.trans (hB2.mono (Nat.le_of_lt hz1))).trans (hW3.below (Nat.le_of_lt hz1)); clear hR hR2 hB hB2 hW3; go_frame)
        | ((with_reducible change wpList _ _ _ (Oper.mk (some 31) _ _ _ _ _ :: _) _ _); refine kLoadD _ _ _ hR4 rfl rfl rfl ?_; go_frame)
        | ((with_reducible change wpList _ _ _ (Oper.mk (some 32) _ _ _ _ _ :: _) _ _); refine kLoadD _ _ _ hR3 rfl rfl rfl ?_; go_frame)
        | ((with_reducible change wpList _ _ _ (Oper.mk (some 33) _ _ _ _ _ :: _) _ _); refine kEqlD _ _ _ hd (by exact hz20) _ rfl rfl rfl rfl hb0 ?_; go_frame)
        | ((with_reducible change wpList _ _ _ (Oper.mk (some 35) _ _ _ _ _ :: _) _ _); refine kLoadD _ _ _ hR4 rfl rfl rfl ?_; go_frame)
        | (go_at_call 19; refine (e1 _).mono ?_; rintro e w5 ⟨rfl, hB5⟩; have hR5 := hR4.below hB5 hR4.lt; have hB6 := hB4.trans (hB5.mono hB4.size); clear hR4 hB4 hB5; go_frame)
        | ((with_reducible change wpList _ _ _ (Oper.mk (some 39) _ _ _ _ _ :: _) _ _); refine kDeed3 _ _ rfl rfl rfl ?_; go_frame)
        | ((with_reducible change wpList _ _ _ (Oper.mk (some 40) _ _ _ _ _ :: _) _ _); refine kLoadN3 _ _ _ hR5 rfl rfl rfl ?_; go_frame)
        | (go_at_call 20; refine (e2 _).mono ?_; rintro e w6 ⟨rfl, rfl⟩; go_frame))
      go_ret
      exact ⟨rfl, hB4⟩
    cases b1
    · rw [Bool.and_false, Bool.false_and]
      go_enter Tryd.func9, Tryd.ntmps9
      go_wp2_with (first
        | ((with_reducible change wpList _ _ _ (Oper.mk (some 1) _ _ _ _ _ :: _) _ _); refine kBoxD _ _ rfl rfl rfl ?_; intro w1 hR hz1 hB; go_frame)
        | ((with_reducible change wpList _ _ _ (Oper.mk (some 4) _ _ _ _ _ :: _) _ _); refine kDeed0 _ _ rfl rfl rfl ?_; go_frame)
        | ((with_reducible change wpList _ _ _ (Oper.mk (some 5) _ _ _ _ _ :: _) _ _); refine kLoadK _ _ _ hR rfl rfl rfl ?_; rw [hk]; go_frame)
        | ((with_reducible change wpList _ _ _ (Oper.mk (some 22) _ _ _ _ _ :: _) _ _); refine kDeed0 _ _ rfl rfl rfl ?_; go_frame)
        | ((with_reducible change wpList _ _ _ (Oper.mk (some 23) _ _ _ _ _ :: _) _ _); refine kLoadK _ _ _ hR rfl rfl rfl ?_; rw [hk]; go_frame)
        | ((with_reducible change wpList _ _ _ (Oper.mk (some 24) _ _ _ _ _ :: _) _ _); refine kDeed1 _ _ rfl rfl rfl ?_; go_frame)
        | ((with_reducible change wpList _ _ _ (Oper.mk (some 25) _ _ _ _ _ :: _) _ _); refine kLoadN1 _ _ _ hR rfl rfl rfl ?_; go_frame)
        | ((with_reducible change wpList _ _ _ (Oper.mk (some 26) _ _ _ _ _ :: _) _ _); refine kDeed3 _ _ rfl rfl rfl ?_; go_frame)
        | ((with_reducible change wpList _ _ _ (Oper.mk (some 27) _ _ _ _ _ :: _) _ _); refine kLoadN3 _ _ _ hR rfl rfl rfl ?_; go_frame)
        | ((with_reducible change wpList _ _ _ (Oper.mk (some 28) _ _ _ _ _ :: _) _ _); refine kDeed2 _ _ rfl rfl rfl ?_; go_frame)
        | ((with_reducible change wpList _ _ _ (Oper.mk (some 29) _ _ _ _ _ :: _) _ _); refine kLoadN2 _ _ _ hR rfl rfl rfl ?_; go_frame)
        | ((with_reducible change wpList _ _ _ (Oper.mk (some 30) _ _ _ _ _ :: _) _ _); refine kBuildD2 _ _ _ _ 2 d.name d.rand d.value rfl rfl rfl rfl rfl rfl ?_; go_frame)
        | ((with_reducible change wpList _ _ _ (Oper.mk (some 3) _ _ _ _ _ :: _) _ _); refine kAllocL _ _ rfl rfl zero_Deed ?_; intro w2 hR2 hz2 hB2; clear hz2; go_frame)
        | ((with_reducible change wpList _ _ _ (Oper.mk none _ _ _ _ _ :: _) _ _); refine kStoreD _ _ _ noDeed _ hR2 rfl rfl rfl rfl ?_; intro w3 hR3 hW3; have hR4 := hW3.row (hR.below hB2 hR.lt) (Nat.ne_of_lt hz1); have hB4 := (hB.trans (hB2.mono (Nat.le_of_lt hz1))).trans (hW3.below (Nat.le_of_lt hz1)); clear hR hR2 hB hB2 hW3; go_frame)
        | ((with_reducible change wpList _ _ _ (Oper.mk (some 31) _ _ _ _ _ :: _) _ _); refine kLoadD _ _ _ hR4 rfl rfl rfl ?_; go_frame)
        | ((with_reducible change wpList _ _ _ (Oper.mk (some 32) _ _ _ _ _ :: _) _ _); refine kLoadD _ _ _ hR3 rfl rfl rfl ?_; go_frame)
        | ((with_reducible change wpList _ _ _ (Oper.mk (some 33) _ _ _ _ _ :: _) _ _); refine kEqlD _ _ _ hd (by exact hz20) _ rfl rfl rfl rfl hb0 ?_; go_frame)
        | ((with_reducible change wpList _ _ _ (Oper.mk (some 35) _ _ _ _ _ :: _) _ _); refine kLoadD _ _ _ hR4 rfl rfl rfl ?_; go_frame)
        | (go_at_call 19; refine (e1 _).mono ?_; rintro e w5 ⟨rfl, hB5⟩; have hR5 := hR4.below hB5 hR4.lt; have hB6 := hB4.trans (hB5.mono hB4.size); clear hR4 hB4 hB5; go_frame)
        | ((with_reducible change wpList _ _ _ (Oper.mk (some 39) _ _ _ _ _ :: _) _ _); refine kDeed3 _ _ rfl rfl rfl ?_; go_frame)
        | ((with_reducible change wpList _ _ _ (Oper.mk (some 40) _ _ _ _ _ :: _) _ _); refine kLoadN3 _ _ _ hR5 rfl rfl rfl ?_; go_frame)
        | (go_at_call 20; refine (e2 _).mono ?_; rintro e w6 ⟨rfl, rfl⟩; go_frame))
      go_ret
      exact ⟨rfl, hB6⟩
    rw [Bool.true_and, Bool.true_and]
    go_enter Tryd.func9, Tryd.ntmps9
    go_wp2_with (first
      | ((with_reducible change wpList _ _ _ (Oper.mk (some 1) _ _ _ _ _ :: _) _ _); refine kBoxD _ _ rfl rfl rfl ?_; intro w1 hR hz1 hB; go_frame)
      | ((with_reducible change wpList _ _ _ (Oper.mk (some 4) _ _ _ _ _ :: _) _ _); refine kDeed0 _ _ rfl rfl rfl ?_; go_frame)
      | ((with_reducible change wpList _ _ _ (Oper.mk (some 5) _ _ _ _ _ :: _) _ _); refine kLoadK _ _ _ hR rfl rfl rfl ?_; rw [hk]; go_frame)
      | ((with_reducible change wpList _ _ _ (Oper.mk (some 22) _ _ _ _ _ :: _) _ _); refine kDeed0 _ _ rfl rfl rfl ?_; go_frame)
      | ((with_reducible change wpList _ _ _ (Oper.mk (some 23) _ _ _ _ _ :: _) _ _); refine kLoadK _ _ _ hR rfl rfl rfl ?_; rw [hk]; go_frame)
      | ((with_reducible change wpList _ _ _ (Oper.mk (some 24) _ _ _ _ _ :: _) _ _); refine kDeed1 _ _ rfl rfl rfl ?_; go_frame)
      | ((with_reducible change wpList _ _ _ (Oper.mk (some 25) _ _ _ _ _ :: _) _ _); refine kLoadN1 _ _ _ hR rfl rfl rfl ?_; go_frame)
      | ((with_reducible change wpList _ _ _ (Oper.mk (some 26) _ _ _ _ _ :: _) _ _); refine kDeed3 _ _ rfl rfl rfl ?_; go_frame)
      | ((with_reducible change wpList _ _ _ (Oper.mk (some 27) _ _ _ _ _ :: _) _ _); refine kLoadN3 _ _ _ hR rfl rfl rfl ?_; go_frame)
      | ((with_reducible change wpList _ _ _ (Oper.mk (some 28) _ _ _ _ _ :: _) _ _); refine kDeed2 _ _ rfl rfl rfl ?_; go_frame)
      | ((with_reducible change wpList _ _ _ (Oper.mk (some 29) _ _ _ _ _ :: _) _ _); refine kLoadN2 _ _ _ hR rfl rfl rfl ?_; go_frame)
      | ((with_reducible change wpList _ _ _ (Oper.mk (some 30) _ _ _ _ _ :: _) _ _); refine kBuildD2 _ _ _ _ 2 d.name d.rand d.value rfl rfl rfl rfl rfl rfl ?_; go_frame)
      | ((with_reducible change wpList _ _ _ (Oper.mk (some 3) _ _ _ _ _ :: _) _ _); refine kAllocL _ _ rfl rfl zero_Deed ?_; intro w2 hR2 hz2 hB2; clear hz2; go_frame)
      | ((with_reducible change wpList _ _ _ (Oper.mk none _ _ _ _ _ :: _) _ _); refine kStoreD _ _ _ noDeed _ hR2 rfl rfl rfl rfl ?_; intro w3 hR3 hW3; have hR4 := hW3.row (hR.below hB2 hR.lt) (Nat.ne_of_lt hz1); have hB4 := (hB.trans (hB2.mono (Nat.le_of_lt hz1))).trans (hW3.below (Nat.le_of_lt hz1)); clear hR hR2 hB hB2 hW3; go_frame)
      | ((with_reducible change wpList _ _ _ (Oper.mk (some 31) _ _ _ _ _ :: _) _ _); refine kLoadD _ _ _ hR4 rfl rfl rfl ?_; go_frame)
      | ((with_reducible change wpList _ _ _ (Oper.mk (some 32) _ _ _ _ _ :: _) _ _); refine kLoadD _ _ _ hR3 rfl rfl rfl ?_; go_frame)
      | ((with_reducible change wpList _ _ _ (Oper.mk (some 33) _ _ _ _ _ :: _) _ _); refine kEqlD _ _ _ hd (by exact hz20) _ rfl rfl rfl rfl hb0 ?_; go_frame)
      | ((with_reducible change wpList _ _ _ (Oper.mk (some 35) _ _ _ _ _ :: _) _ _); refine kLoadD _ _ _ hR4 rfl rfl rfl ?_; go_frame)
      | (go_at_call 19; refine (e1 _).mono ?_; rintro e w5 ⟨rfl, hB5⟩; have hR5 := hR4.below hB5 hR4.lt; have hB6 := hB4.trans (hB5.mono hB4.size); clear hR4 hB4 hB5; go_frame)
      | ((with_reducible change wpList _ _ _ (Oper.mk (some 39) _ _ _ _ _ :: _) _ _); refine kDeed3 _ _ rfl rfl rfl ?_; go_frame)
      | ((with_reducible change wpList _ _ _ (Oper.mk (some 40) _ _ _ _ _ :: _) _ _); refine kLoadN3 _ _ _ hR5 rfl rfl rfl ?_; go_frame)
      | (go_at_call 20; refine (e2 _).mono ?_; rintro e w6 ⟨rfl, rfl⟩; go_frame))
    go_ret
    exact ⟨rfl, hB6⟩
  by_cases k3 : d.kind = 3
  · have hk := k3
    rw [right_3 hk]
    have e1 := fun w => lbTells_any d w hs.1 hs.2.1
    obtain ⟨b1, hb1⟩ : ∃ b, decide ((1 ≤ d.name.length ∧ d.name.length ≤ 64) ∧ d.value.length ≤ 200) = b := ⟨_, rfl⟩
    rw [hb1] at e1 ⊢
    clear hb1
    obtain ⟨b0, hb0⟩ : ∃ b, sameD d ⟨3, d.name, d.value, [], z20⟩ = b := ⟨_, rfl⟩
    rw [hb0]
    cases b0
    · rw [Bool.false_and]
      go_enter Tryd.func9, Tryd.ntmps9
      go_wp2_with (first
        | ((with_reducible change wpList _ _ _ (Oper.mk (some 1) _ _ _ _ _ :: _) _ _); refine kBoxD _ _ rfl rfl rfl ?_; intro w1 hR hz1 hB; go_frame)
        | ((with_reducible change wpList _ _ _ (Oper.mk (some 4) _ _ _ _ _ :: _) _ _); refine kDeed0 _ _ rfl rfl rfl ?_; go_frame)
        | ((with_reducible change wpList _ _ _ (Oper.mk (some 5) _ _ _ _ _ :: _) _ _); refine kLoadK _ _ _ hR rfl rfl rfl ?_; rw [hk]; go_frame)
        | ((with_reducible change wpList _ _ _ (Oper.mk (some 45) _ _ _ _ _ :: _) _ _); refine kLoadD _ _ _ hR rfl rfl rfl ?_; go_frame)
        | ((with_reducible change wpList _ _ _ (Oper.mk (some 46) _ _ _ _ _ :: _) _ _); refine kDeed0 _ _ rfl rfl rfl ?_; go_frame)
        | ((with_reducible change wpList _ _ _ (Oper.mk (some 47) _ _ _ _ _ :: _) _ _); refine kLoadK _ _ _ hR rfl rfl rfl ?_; rw [hk]; go_frame)
        | ((with_reducible change wpList _ _ _ (Oper.mk (some 48) _ _ _ _ _ :: _) _ _); refine kDeed1 _ _ rfl rfl rfl ?_; go_frame)
        | ((with_reducible change wpList _ _ _ (Oper.mk (some 49) _ _ _ _ _ :: _) _ _); refine kLoadN1 _ _ _ hR rfl rfl rfl ?_; go_frame)
        | ((with_reducible change wpList _ _ _ (Oper.mk (some 50) _ _ _ _ _ :: _) _ _); refine kDeed2 _ _ rfl rfl rfl ?_; go_frame)
        | ((with_reducible change wpList _ _ _ (Oper.mk (some 51) _ _ _ _ _ :: _) _ _); refine kLoadN2 _ _ _ hR rfl rfl rfl ?_; go_frame)
        | ((with_reducible change wpList _ _ _ (Oper.mk (some 52) _ _ _ _ _ :: _) _ _); refine kBuildD3 _ _ _ 3 d.name d.value rfl rfl rfl rfl rfl ?_; go_frame)
        | ((with_reducible change wpList _ _ _ (Oper.mk (some 53) _ _ _ _ _ :: _) _ _); refine kEqlD _ _ _ hd (by exact hz20) _ rfl rfl rfl rfl hb0 ?_; go_frame)
        | ((with_reducible change wpList _ _ _ (Oper.mk (some 55) _ _ _ _ _ :: _) _ _); refine kLoadD _ _ _ hR rfl rfl rfl ?_; go_frame)
        | (go_at_call 19; refine (e1 _).mono ?_; rintro e w5 ⟨rfl, hB5⟩; have hB6 := hB.trans (hB5.mono hB.size); clear hB hB5; go_frame))
      go_ret
      exact ⟨rfl, hB⟩
    rw [Bool.true_and]
    go_enter Tryd.func9, Tryd.ntmps9
    go_wp2_with (first
      | ((with_reducible change wpList _ _ _ (Oper.mk (some 1) _ _ _ _ _ :: _) _ _); refine kBoxD _ _ rfl rfl rfl ?_; intro w1 hR hz1 hB; go_frame)
      | ((with_reducible change wpList _ _ _ (Oper.mk (some 4) _ _ _ _ _ :: _) _ _); refine kDeed0 _ _ rfl rfl rfl ?_; go_frame)
      | ((with_reducible change wpList _ _ _ (Oper.mk (some 5) _ _ _ _ _ :: _) _ _); refine kLoadK _ _ _ hR rfl rfl rfl ?_; rw [hk]; go_frame)
      | ((with_reducible change wpList _ _ _ (Oper.mk (some 45) _ _ _ _ _ :: _) _ _); refine kLoadD _ _ _ hR rfl rfl rfl ?_; go_frame)
      | ((with_reducible change wpList _ _ _ (Oper.mk (some 46) _ _ _ _ _ :: _) _ _); refine kDeed0 _ _ rfl rfl rfl ?_; go_frame)
      | ((with_reducible change wpList _ _ _ (Oper.mk (some 47) _ _ _ _ _ :: _) _ _); refine kLoadK _ _ _ hR rfl rfl rfl ?_; rw [hk]; go_frame)
      | ((with_reducible change wpList _ _ _ (Oper.mk (some 48) _ _ _ _ _ :: _) _ _); refine kDeed1 _ _ rfl rfl rfl ?_; go_frame)
      | ((with_reducible change wpList _ _ _ (Oper.mk (some 49) _ _ _ _ _ :: _) _ _); refine kLoadN1 _ _ _ hR rfl rfl rfl ?_; go_frame)
      | ((with_reducible change wpList _ _ _ (Oper.mk (some 50) _ _ _ _ _ :: _) _ _); refine kDeed2 _ _ rfl rfl rfl ?_; go_frame)
      | ((with_reducible change wpList _ _ _ (Oper.mk (some 51) _ _ _ _ _ :: _) _ _); refine kLoadN2 _ _ _ hR rfl rfl rfl ?_; go_frame)
      | ((with_reducible change wpList _ _ _ (Oper.mk (some 52) _ _ _ _ _ :: _) _ _); refine kBuildD3 _ _ _ 3 d.name d.value rfl rfl rfl rfl rfl ?_; go_frame)
      | ((with_reducible change wpList _ _ _ (Oper.mk (some 53) _ _ _ _ _ :: _) _ _); refine kEqlD _ _ _ hd (by exact hz20) _ rfl rfl rfl rfl hb0 ?_; go_frame)
      | ((with_reducible change wpList _ _ _ (Oper.mk (some 55) _ _ _ _ _ :: _) _ _); refine kLoadD _ _ _ hR rfl rfl rfl ?_; go_frame)
      | (go_at_call 19; refine (e1 _).mono ?_; rintro e w5 ⟨rfl, hB5⟩; have hB6 := hB.trans (hB5.mono hB.size); clear hB hB5; go_frame))
    go_ret
    exact ⟨rfl, hB6⟩
  rw [right_x k0 k1 k2 k3]
  have g0 : decide (d.kind = 0) = false := by simp [k0]
  have g1 : decide (d.kind = 1) = false := by simp [k1]
  have g2 : decide (d.kind = 2) = false := by simp [k2]
  have g3 : decide (d.kind = 3) = false := by simp [k3]
  go_enter Tryd.func9, Tryd.ntmps9
  go_wp2_with (first
    | ((with_reducible change wpList _ _ _ (Oper.mk (some 1) _ _ _ _ _ :: _) _ _); refine kBoxD _ _ rfl rfl rfl ?_; intro w1 hR hz hB; clear hz; go_frame)
    | ((with_reducible change wpList _ _ _ (Oper.mk (some 4) _ _ _ _ _ :: _) _ _); refine kDeed0 _ _ rfl rfl rfl ?_; go_frame)
    | ((with_reducible change wpList _ _ _ (Oper.mk (some 5) _ _ _ _ _ :: _) _ _); refine kLoadK _ _ _ hR rfl rfl rfl ?_; go_frame)
    | ((with_reducible change wpList _ _ _ (Oper.mk (some 7) _ _ _ _ _ :: _) _ _); refine kEqlI _ _ _ _ .i64 d.kind 0 false rfl rfl rfl rfl g0 ?_; go_frame)
    | ((with_reducible change wpList _ _ _ (Oper.mk (some 12) _ _ _ _ _ :: _) _ _); refine kEqlI _ _ _ _ .i64 d.kind 1 false rfl rfl rfl rfl g1 ?_; go_frame)
    | ((with_reducible change wpList _ _ _ (Oper.mk (some 21) _ _ _ _ _ :: _) _ _); refine kEqlI _ _ _ _ .i64 d.kind 2 false rfl rfl rfl rfl g2 ?_; go_frame)
    | ((with_reducible change wpList _ _ _ (Oper.mk (some 44) _ _ _ _ _ :: _) _ _); refine kEqlI _ _ _ _ .i64 d.kind 3 false rfl rfl rfl rfl g3 ?_; go_frame))
  go_ret
  exact ⟨rfl, hB⟩
set_option maxRecDepth 100000 in
set_option maxHeartbeats 8000000 in
theorem lbNamed_any (d : Deed) (w : World) : Calls Tryd.prog 11 #[deedV d] w fun e w' => e = .returned (.bool (decide (d.kind = 2 ∨ d.kind = 3))) ∧ Below w.heap.size w w' := by
  rw [show decide (d.kind = 2 ∨ d.kind = 3) = (decide (d.kind = 2) || decide (d.kind = 3)) by simp]
  obtain ⟨b, hb⟩ : ∃ b, decide (d.kind = 2) = b := ⟨_, rfl⟩
  rw [hb]
  cases b
  · rw [Bool.false_or]
    go_enter Tryd.func11, Tryd.ntmps11
    go_wp2_with (first
      | ((with_reducible change wpList _ _ _ (Oper.mk (some 1) _ _ _ _ _ :: _) _ _); refine kBoxD _ _ rfl rfl rfl ?_; intro w1 hR hz hB; clear hz; go_frame)
      | ((with_reducible change wpList _ _ _ (Oper.mk (some 3) _ _ _ _ _ :: _) _ _); refine kDeed0 _ _ rfl rfl rfl ?_; go_frame)
      | ((with_reducible change wpList _ _ _ (Oper.mk (some 4) _ _ _ _ _ :: _) _ _); refine kLoadK _ _ _ hR rfl rfl rfl ?_; go_frame)
      | ((with_reducible change wpList _ _ _ (Oper.mk (some 5) _ _ _ _ _ :: _) _ _); refine kEqlI _ _ _ _ .i64 d.kind 2 _ rfl rfl rfl rfl hb ?_; go_frame)
      | ((with_reducible change wpList _ _ _ (Oper.mk (some 7) _ _ _ _ _ :: _) _ _); refine kDeed0 _ _ rfl rfl rfl ?_; go_frame)
      | ((with_reducible change wpList _ _ _ (Oper.mk (some 8) _ _ _ _ _ :: _) _ _); refine kLoadK _ _ _ hR rfl rfl rfl ?_; go_frame)
      | ((with_reducible change wpList _ _ _ (Oper.mk (some 9) _ _ _ _ _ :: _) _ _); refine kEqlI _ _ _ _ .i64 d.kind 3 (decide (d.kind = 3)) rfl rfl rfl rfl rfl ?_; go_frame))
    go_ret
    exact ⟨rfl, hB⟩
  · rw [Bool.true_or]
    go_enter Tryd.func11, Tryd.ntmps11
    go_wp2_with (first
      | ((with_reducible change wpList _ _ _ (Oper.mk (some 1) _ _ _ _ _ :: _) _ _); refine kBoxD _ _ rfl rfl rfl ?_; intro w1 hR hz hB; clear hz; go_frame)
      | ((with_reducible change wpList _ _ _ (Oper.mk (some 3) _ _ _ _ _ :: _) _ _); refine kDeed0 _ _ rfl rfl rfl ?_; go_frame)
      | ((with_reducible change wpList _ _ _ (Oper.mk (some 4) _ _ _ _ _ :: _) _ _); refine kLoadK _ _ _ hR rfl rfl rfl ?_; go_frame)
      | ((with_reducible change wpList _ _ _ (Oper.mk (some 5) _ _ _ _ _ :: _) _ _); refine kEqlI _ _ _ _ .i64 d.kind 2 _ rfl rfl rfl rfl hb ?_; go_frame)
      | ((with_reducible change wpList _ _ _ (Oper.mk (some 7) _ _ _ _ _ :: _) _ _); refine kDeed0 _ _ rfl rfl rfl ?_; go_frame)
      | ((with_reducible change wpList _ _ _ (Oper.mk (some 8) _ _ _ _ _ :: _) _ _); refine kLoadK _ _ _ hR rfl rfl rfl ?_; go_frame)
      | ((with_reducible change wpList _ _ _ (Oper.mk (some 9) _ _ _ _ _ :: _) _ _); refine kEqlI _ _ _ _ .i64 d.kind 3 (decide (d.kind = 3)) rfl rfl rfl rfl rfl ?_; go_frame))
    go_ret
    exact ⟨rfl, hB⟩
end Go.Proofs.YtnaclalbeocpkaaDoor
