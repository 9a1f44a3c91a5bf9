/-
  Layer 8: the walks of the program's kindOf, isWithin, tells, Right, Named, dropped, and of bytes.HasPrefix and bytes.CutPrefix.
-/
import Derived.Test.YtnaclalbeocpkaaDoorLbCells
namespace Go.Proofs.YtnaclalbeocpkaaDoor
open Go Go.RowKit

theorem B_eqL {c d : UInt8} : decide (B c = B d) = decide (c = d) := by
  by_cases h : c = d
  · subst h; simp
  · have := B_neS h; rw [this]; simp [h]
set_option maxRecDepth 100000 in
set_option maxHeartbeats 8000000 in
theorem lbKindOf_any {l : List UInt8} {v : Value} (w : World) (hv : IsVals w v (l.map VB)) : Calls Tryd.prog 16 #[v] w fun e w' => e = .returned (.int .i64 (kindL l : Int)) ∧ w' = w := by
  obtain ⟨m, hm⟩ : ∃ m, l.length = m := ⟨_, rfl⟩
  cases l with
  | nil =>
    have hm0 : decide ((m : Int) = 0) = true := by simp at hm; simp; omega
    rw [show kindL [] = 0 from rfl]
    go_enter Tryd.func16, Tryd.ntmps16
    go_wp2_with (first
      | ((with_reducible change wpList _ _ _ (Oper.mk (some 4) _ _ _ _ _ :: _) _ _); refine kLenN _ _ _ v _ m rfl rfl rfl hv (by rw [List.length_map, hm]) Tryd.underlying22 ?_; go_frame)
      | ((with_reducible change wpList _ _ _ (Oper.mk (some 5) _ _ _ _ _ :: _) _ _); refine kEqlI _ _ _ _ .i64 (m : Int) 0 true rfl rfl rfl rfl hm0 ?_; go_frame))
    go_ret
    exact ⟨rfl, rfl⟩
  | cons c r =>
    have hm0 : decide ((m : Int) = 0) = false := by simp at hm; simp; omega
    have hk : kindL (c :: r) = if c = 81 then 1 else if c = 82 then 2 else if c = 83 then 3 else 0 := rfl
    by_cases k81 : c = 81
    · have h81 : decide (B c = 81) = true := by subst k81; rfl
      rw [show kindL (c :: r) = 1 by rw [hk]; simp [k81]]
      go_enter Tryd.func16, Tryd.ntmps16
      go_wp2_with (first
        | ((with_reducible change wpList _ _ _ (Oper.mk (some 4) _ _ _ _ _ :: _) _ _); refine kLenN _ _ _ v _ m rfl rfl rfl hv (by rw [List.length_map, hm]) Tryd.underlying22 ?_; go_frame)
        | ((with_reducible change wpList _ _ _ (Oper.mk (some 5) _ _ _ _ _ :: _) _ _); refine kEqlI _ _ _ _ .i64 (m : Int) 0 false rfl rfl rfl rfl hm0 ?_; go_frame)
        | ((with_reducible change wpList _ _ _ (Oper.mk (some 7) _ _ _ _ _ :: _) _ _); refine kIndexAddrV _ _ _ _ .i64 v _ 0 0 (VB c) rfl rfl rfl hv rfl Tryd.underlying22 info_b8P rfl rfl ?_; intro b hb; go_frame)
        | ((with_reducible change wpList _ _ _ (Oper.mk (some 8) _ _ _ _ _ :: _) _ _); refine kLoadCell _ _ b (VB c) _ rfl rfl rfl hb Tryd.underlying5 rfl ?_; clear hb; go_frame)
        | ((with_reducible change wpList _ _ _ (Oper.mk (some 10) _ _ _ _ _ :: _) _ _); refine kEqlI _ _ _ _ .u8 (B c) 81 true rfl rfl rfl rfl h81 ?_; go_frame))
      go_ret
      exact ⟨rfl, rfl⟩
    have h81 : decide (B c = 81) = false := by rw [show (81 : Int) = B 81 from rfl, B_eqL]; simp [k81]
    by_cases k82 : c = 82
    · have h82 : decide (B c = 82) = true := by subst k82; rfl
      rw [show kindL (c :: r) = 2 by rw [hk]; simp [k82]]
      go_enter Tryd.func16, Tryd.ntmps16
      go_wp2_with (first
        | ((with_reducible change wpList _ _ _ (Oper.mk (some 4) _ _ _ _ _ :: _) _ _); refine kLenN _ _ _ v _ m rfl rfl rfl hv (by rw [List.length_map, hm]) Tryd.underlying22 ?_; go_frame)
        | ((with_reducible change wpList _ _ _ (Oper.mk (some 5) _ _ _ _ _ :: _) _ _); refine kEqlI _ _ _ _ .i64 (m : Int) 0 false rfl rfl rfl rfl hm0 ?_; go_frame)
        | ((with_reducible change wpList _ _ _ (Oper.mk (some 7) _ _ _ _ _ :: _) _ _); refine kIndexAddrV _ _ _ _ .i64 v _ 0 0 (VB c) rfl rfl rfl hv rfl Tryd.underlying22 info_b8P rfl rfl ?_; intro b hb; go_frame)
        | ((with_reducible change wpList _ _ _ (Oper.mk (some 8) _ _ _ _ _ :: _) _ _); refine kLoadCell _ _ b (VB c) _ rfl rfl rfl hb Tryd.underlying5 rfl ?_; clear hb; go_frame)
        | ((with_reducible change wpList _ _ _ (Oper.mk (some 10) _ _ _ _ _ :: _) _ _); refine kEqlI _ _ _ _ .u8 (B c) 81 false rfl rfl rfl rfl h81 ?_; go_frame)
        | ((with_reducible change wpList _ _ _ (Oper.mk (some 12) _ _ _ _ _ :: _) _ _); refine kEqlI _ _ _ _ .u8 (B c) 82 true rfl rfl rfl rfl h82 ?_; go_frame))
      go_ret
      exact ⟨rfl, rfl⟩
    have h82 : decide (B c = 82) = false := by rw [show (82 : Int) = B 82 from rfl, B_eqL]; simp [k82]
    by_cases k83 : c = 83
    · have h83 : decide (B c = 83) = true := by subst k83; rfl
      rw [show kindL (c :: r) = 3 by rw [hk]; simp [k83]]
      go_enter Tryd.func16, Tryd.ntmps16
      go_wp2_with (first
        | ((with_reducible change wpList _ _ _ (Oper.mk (some 4) _ _ _ _ _ :: _) _ _); refine kLenN _ _ _ v _ m rfl rfl rfl hv (by rw [List.length_map, hm]) Tryd.underlying22 ?_; go_frame)
        | ((with_reducible change wpList _ _ _ (Oper.mk (some 5) _ _ _ _ _ :: _) _ _); refine kEqlI _ _ _ _ .i64 (m : Int) 0 false rfl rfl rfl rfl hm0 ?_; go_frame)
        | ((with_reducible change wpList _ _ _ (Oper.mk (some 7) _ _ _ _ _ :: _) _ _); refine kIndexAddrV _ _ _ _ .i64 v _ 0 0 (VB c) rfl rfl rfl hv rfl Tryd.underlying22 info_b8P rfl rfl ?_; intro b hb; go_frame)
        | ((with_reducible change wpList _ _ _ (Oper.mk (some 8) _ _ _ _ _ :: _) _ _); refine kLoadCell _ _ b (VB c) _ rfl rfl rfl hb Tryd.underlying5 rfl ?_; clear hb; go_frame)
        | ((with_reducible change wpList _ _ _ (Oper.mk (some 10) _ _ _ _ _ :: _) _ _); refine kEqlI _ _ _ _ .u8 (B c) 81 false rfl rfl rfl rfl h81 ?_; go_frame)
        | ((with_reducible change wpList _ _ _ (Oper.mk (some 12) _ _ _ _ _ :: _) _ _); refine kEqlI _ _ _ _ .u8 (B c) 82 false rfl rfl rfl rfl h82 ?_; go_frame)
        | ((with_reducible change wpList _ _ _ (Oper.mk (some 14) _ _ _ _ _ :: _) _ _); refine kEqlI _ _ _ _ .u8 (B c) 83 true rfl rfl rfl rfl h83 ?_; go_frame))
      go_ret
      exact ⟨rfl, rfl⟩
    have h83 : decide (B c = 83) = false := by rw [show (83 : Int) = B 83 from rfl, B_eqL]; simp [k83]
    rw [show kindL (c :: r) = 0 by rw [hk]; simp [k81, k82, k83]]
    go_enter Tryd.func16, Tryd.ntmps16
    go_wp2_with (first
      | ((with_reducible change wpList _ _ _ (Oper.mk (some 4) _ _ _ _ _ :: _) _ _); refine kLenN _ _ _ v _ m rfl rfl rfl hv (by rw [List.length_map, hm]) Tryd.underlying22 ?_; go_frame)
      | ((with_reducible change wpList _ _ _ (Oper.mk (some 5) _ _ _ _ _ :: _) _ _); refine kEqlI _ _ _ _ .i64 (m : Int) 0 false rfl rfl rfl rfl hm0 ?_; go_frame)
      | ((with_reducible change wpList _ _ _ (Oper.mk (some 7) _ _ _ _ _ :: _) _ _); refine kIndexAddrV _ _ _ _ .i64 v _ 0 0 (VB c) rfl rfl rfl hv rfl Tryd.underlying22 info_b8P rfl rfl ?_; intro b hb; go_frame)
      | ((with_reducible change wpList _ _ _ (Oper.mk (some 8) _ _ _ _ _ :: _) _ _); refine kLoadCell _ _ b (VB c) _ rfl rfl rfl hb Tryd.underlying5 rfl ?_; clear hb; go_frame)
      | ((with_reducible change wpList _ _ _ (Oper.mk (some 10) _ _ _ _ _ :: _) _ _); refine kEqlI _ _ _ _ .u8 (B c) 81 false rfl rfl rfl rfl h81 ?_; go_frame)
      | ((with_reducible change wpList _ _ _ (Oper.mk (some 12) _ _ _ _ _ :: _) _ _); refine kEqlI _ _ _ _ .u8 (B c) 82 false rfl rfl rfl rfl h82 ?_; go_frame)
      | ((with_reducible change wpList _ _ _ (Oper.mk (some 14) _ _ _ _ _ :: _) _ _); refine kEqlI _ _ _ _ .u8 (B c) 83 false rfl rfl rfl rfl h83 ?_; go_frame))
    go_ret
    exact ⟨rfl, rfl⟩
set_option maxRecDepth 100000 in
set_option maxHeartbeats 8000000 in
theorem lbWithin_any (l : List UInt8) (p q : Nat) (w : World) (hl : l.length ≤ 1000000) : Calls Tryd.prog 20 #[textV l, .int .i64 (p : Int), .int .i64 (q : Int)] w fun e w' => e = .returned (.bool (decide (p ≤ l.length ∧ l.length ≤ q))) ∧ w' = w := by
  obtain ⟨n, hn⟩ : ∃ n, l.length = n := ⟨_, rfl⟩
  rw [hn]
  by_cases h1 : p ≤ n
  · have k1 : decide ((n : Int) ≥ (p : Int)) = true := by simp; omega
    obtain ⟨b, hb⟩ : ∃ b, decide (p ≤ n ∧ n ≤ q) = b := ⟨_, rfl⟩
    have k2 : decide ((n : Int) ≤ (q : Int)) = b := by rw [← hb]; simp [h1]
    rw [hb]
    clear hb h1
    go_enter Tryd.func20, Tryd.ntmps20
    go_wp2_with (first
      | ((with_reducible change wpList _ _ _ (Oper.mk (some 8) _ _ _ _ _ :: _) _ _); refine kLenStr _ _ l rfl rfl rfl Tryd.underlying9 ?_; rw [hn]; go_frame)
      | ((with_reducible change wpList _ _ _ (Oper.mk (some 10) _ _ _ _ _ :: _) _ _); refine kGeqI _ _ _ _ .i64 (n : Int) (p : Int) true rfl rfl rfl rfl k1 ?_; go_frame)
      | ((with_reducible change wpList _ _ _ (Oper.mk (some 13) _ _ _ _ _ :: _) _ _); refine kLenStr _ _ l rfl rfl rfl Tryd.underlying9 ?_; rw [hn]; go_frame)
      | ((with_reducible change wpList _ _ _ (Oper.mk (some 15) _ _ _ _ _ :: _) _ _); refine kLeqI _ _ _ _ .i64 (n : Int) (q : Int) b rfl rfl rfl rfl k2 ?_; go_frame))
    go_ret
    exact ⟨rfl, rfl⟩
  · have k1 : decide ((n : Int) ≥ (p : Int)) = false := by simp; omega
    rw [show decide (p ≤ n ∧ n ≤ q) = false by simp [h1]]
    go_enter Tryd.func20, Tryd.ntmps20
    go_wp2_with (first
      | ((with_reducible change wpList _ _ _ (Oper.mk (some 8) _ _ _ _ _ :: _) _ _); refine kLenStr _ _ l rfl rfl rfl Tryd.underlying9 ?_; rw [hn]; go_frame)
      | ((with_reducible change wpList _ _ _ (Oper.mk (some 10) _ _ _ _ _ :: _) _ _); refine kGeqI _ _ _ _ .i64 (n : Int) (p : Int) false rfl rfl rfl rfl k1 ?_; go_frame))
    go_ret
    exact ⟨rfl, rfl⟩
set_option maxRecDepth 100000 in
set_option maxHeartbeats 8000000 in
theorem lbTells_any (d : Deed) (w : World) (hn : d.name.length ≤ 1000000) (hv : d.value.length ≤ 1000000) : Calls Tryd.prog 19 #[deedV d] w fun e w' => e = .returned (.bool (decide ((1 ≤ d.name.length ∧ d.name.length ≤ 64) ∧ d.value.length ≤ 200))) ∧ Below w.heap.size w w' := by
  obtain ⟨b1, hb1⟩ : ∃ b, decide (1 ≤ d.name.length ∧ d.name.length ≤ 64) = b := ⟨_, rfl⟩
  obtain ⟨b2, hb2⟩ : ∃ b, decide (0 ≤ d.value.length ∧ d.value.length ≤ 200) = b := ⟨_, rfl⟩
  have e1 := fun w => lbWithin_any d.name 1 64 w hn
  have e2 := fun w => lbWithin_any d.value 0 200 w hv
  rw [hb1] at e1
  rw [hb2] at e2
  have hr : decide ((1 ≤ d.name.length ∧ d.name.length ≤ 64) ∧ d.value.length ≤ 200) = (b1 && b2) := by
    rw [← hb1, ← hb2]; simp
  rw [hr]
  clear hr hb1 hb2
  cases b1
  · go_enter Tryd.func19, Tryd.ntmps19
    go_wp2_with (first
      | ((with_reducible change wpList _ _ _ (Oper.mk (some 1) _ _ _ _ _ :: _) _ _); refine kBoxD _ _ rfl rfl rfl ?_; intro w1 hR hz hB; clear hz; go_frame)
      | ((with_reducible change wpList _ _ _ (Oper.mk (some 3) _ _ _ _ _ :: _) _ _); refine kDeed1 _ _ rfl rfl rfl ?_; go_frame)
      | ((with_reducible change wpList _ _ _ (Oper.mk (some 4) _ _ _ _ _ :: _) _ _); refine kLoadN1 _ _ _ hR rfl rfl rfl ?_; go_frame)
      | ((with_reducible change wpList _ _ _ (Oper.mk (some 7) _ _ _ _ _ :: _) _ _); refine kDeed2 _ _ rfl rfl rfl ?_; go_frame)
      | ((with_reducible change wpList _ _ _ (Oper.mk (some 8) _ _ _ _ _ :: _) _ _); refine kLoadN2 _ _ _ hR rfl rfl rfl ?_; go_frame)
      | (go_at_call 20; (with_reducible change Calls _ _ #[textV d.name, _, _] _ _); refine (e1 _).mono ?_; rintro e w2 ⟨rfl, rfl⟩; go_frame)
      | (go_at_call 20; (with_reducible change Calls _ _ #[textV d.value, _, _] _ _); refine (e2 _).mono ?_; rintro e w2 ⟨rfl, rfl⟩; go_frame))
    go_ret
    exact ⟨rfl, hB⟩
  · go_enter Tryd.func19, Tryd.ntmps19
    go_wp2_with (first
      | ((with_reducible change wpList _ _ _ (Oper.mk (some 1) _ _ _ _ _ :: _) _ _); refine kBoxD _ _ rfl rfl rfl ?_; intro w1 hR hz hB; clear hz; go_frame)
      | ((with_reducible change wpList _ _ _ (Oper.mk (some 3) _ _ _ _ _ :: _) _ _); refine kDeed1 _ _ rfl rfl rfl ?_; go_frame)
      | ((with_reducible change wpList _ _ _ (Oper.mk (some 4) _ _ _ _ _ :: _) _ _); refine kLoadN1 _ _ _ hR rfl rfl rfl ?_; go_frame)
      | ((with_reducible change wpList _ _ _ (Oper.mk (some 7) _ _ _ _ _ :: _) _ _); refine kDeed2 _ _ rfl rfl rfl ?_; go_frame)
      | ((with_reducible change wpList _ _ _ (Oper.mk (some 8) _ _ _ _ _ :: _) _ _); refine kLoadN2 _ _ _ hR rfl rfl rfl ?_; go_frame)
      | (go_at_call 20; (with_reducible change Calls _ _ #[textV d.name, _, _] _ _); refine (e1 _).mono ?_; rintro e w2 ⟨rfl, rfl⟩; go_frame)
      | (go_at_call 20; (with_reducible change Calls _ _ #[textV d.value, _, _] _ _); refine (e2 _).mono ?_; rintro e w2 ⟨rfl, rfl⟩; go_frame))
    go_ret
    exact ⟨rfl, hB⟩
end Go.Proofs.YtnaclalbeocpkaaDoor
