/-
  Layer 8: the walk of LabelSplits.
-/
import Derived.Test.YtnaclalbeocpkaaDoorLbLaw1
import Derived.Test.YtnaclalbeocpkaaDoorLbRefS
namespace Go.Proofs.YtnaclalbeocpkaaDoor
open Go Go.RowKit

theorem nSplit_any {l : List UInt8} {v : Value} (w : World) (hv : IsVals w v (l.map VB)) (hl : l.length ≤ 1000) : Calls Tryd.prog 15 #[v] w (SplitPost8 w (splitS8 l)) := by
  rw [← nsS_eq]
  by_cases h0 : kindL l = 0
  · have e : nsS l = some (noDeed, l) := by unfold nsS; rw [if_pos h0]
    rw [e]
    exact nSplit_0 w hv (by omega) h0
  · cases l with
    | nil => exact absurd rfl h0
    | cons c r =>
      have hk : kindL (c :: r) = if c = 81 then 1 else if c = 82 then 2 else if c = 83 then 3 else 0 := rfl
      by_cases k1 : c = 81
      · subst k1; exact nSplit_pos w hv hl (.inl rfl) rfl rfl
      by_cases k2 : c = 82
      · subst k2; exact nSplit_pos w hv hl (.inr (.inl rfl)) rfl rfl
      by_cases k3 : c = 83
      · subst k3; exact nSplit_pos w hv hl (.inr (.inr rfl)) rfl rfl
      rw [hk, if_neg k1, if_neg k2, if_neg k3] at h0
      exact absurd rfl h0
theorem kNeqD8 {ops : Array Oper} {Q : Exit → Act → World → Prop} {rest : List Oper} {o : Oper} {a : Act} {w : World} (T2 : TypeId) (u v : Operand) {d e : Deed} (hd : d.Is) (he : e.Is) (b : Bool) (ho : o.op = .binOp .neq 29 u v T2) (hg : Region.wanted o (yielded ops a.tmps) = true) (hx : a.eval u = deedV d) (hy : a.eval v = deedV e) (hb : sameD d e = b)
    (h : wpList Tryd.prog ops Q rest (a.put o.dst (.bool (!b))) w) : wpList Tryd.prog ops Q (o :: rest) a w :=
  kNeqSt T2 u v b eqGuard_Deed (fun w => by rw [← hb]; exact run_equalD hd he w) ho hg hx hy h
theorem split_some {l r : List UInt8} {d : Deed} (h : splitS8 l = some (d, r)) : rightB d = true ∧ d.Is ∧ lockS d r = some l := by
  unfold splitS8 at h
  split at h
  · rename_i hc
    cases h
    obtain ⟨h1, h2, h3⟩ := hc
    obtain ⟨t, ht⟩ := hasP_iff.1 h3
    refine ⟨h2, readS_is l, ?_⟩
    have hdrop : l.drop (wordsL (readS l).1).length = t := by
      conv => lhs; arg 2; rw [ht]
      exact List.drop_left
    rw [hdrop]
    unfold lockS
    rw [if_neg]
    · rw [← ht]
    · rintro (e | ⟨e1, e2⟩)
      · rw [h2] at e; cases e
      · have hdn := deed_0 h2 e1
        rw [hdn] at ht
        have hw : wordsL noDeed = [] := rfl
        rw [hw, List.nil_append] at ht
        subst ht
        have hr : readS l = (deedOfL (kindL l) (((piecesS (cntN (kindL l)) (l.drop 1))).getD []), true) := by
          unfold readS at h1 ⊢
          rw [if_neg e2] at h1 ⊢
          cases hp : piecesS (cntN (kindL l)) (l.drop 1) with
          | none => rw [hp] at h1; cases h1
          | some Ls => rfl
        have hk := deedOfL_kind e2 (kindL_lt l) ((piecesS (cntN (kindL l)) (l.drop 1)).getD [])
        rw [hr] at e1
        dsimp only at e1
        rw [hk] at e1
        omega
  · cases h
set_option maxRecDepth 100000 in
set_option maxHeartbeats 8000000 in
theorem labelSplits_walk {l : List UInt8} {v : Value} (W : World) (hG : Counts W) (hv : IsVals W v (l.map VB)) : Calls Tryd.prog 5 #[v] W fun e W' => e = .returned (.bool true) ∧ Below W.heap.size W W' := by
  obtain ⟨m, hm⟩ : ∃ m, l.length = m := ⟨_, rfl⟩
  obtain ⟨c1, h1⟩ : ∃ c, decide ((m : Int) > 1000) = c := ⟨_, rfl⟩
  cases c1
  case true =>
    go_enter Tryd.func5, Tryd.ntmps5
    go_wp2_with (first
      | (go_at_call 7; refine (labelAlive_any _ hG).mono ?_; rintro e w1 ⟨rfl, hB⟩; have hv1 := hv.below hB; have hG1 := hG.below hB; go_frame)
      | ((with_reducible change wpList _ _ _ (Oper.mk (some 14) _ _ _ _ _ :: _) _ _); refine kLenN _ _ _ v _ m rfl rfl rfl hv1 (by rw [List.length_map, hm]) Tryd.underlying22 ?_; go_frame)
      | ((with_reducible change wpList _ _ _ (Oper.mk (some 15) _ _ _ _ _ :: _) _ _); refine kGtrI _ _ _ _ .i64 (m : Int) 1000 _ rfl rfl rfl rfl h1 ?_; go_frame))
    go_ret
    exact ⟨rfl, hB⟩
  have k1 := of_decide_eq_false h1
  have e1 := fun w (h : Counts w) (h1 : IsVals w v (l.map VB)) => lbSplit_any w h h1 (by omega)
  have e2 := fun w (h1 : IsVals w v (l.map VB)) => nSplit_any w h1 (by omega)
  obtain ⟨R, hR⟩ : ∃ R, splitS8 l = R := ⟨_, rfl⟩
  have hsome := fun d r (h : R = some (d, r)) => split_some (hR.trans h)
  rw [hR] at e1 e2
  obtain ⟨D, hD⟩ : ∃ D, dOf R = D := ⟨_, rfl⟩
  obtain ⟨T, hT⟩ : ∃ T, rOf8 R = T := ⟨_, rfl⟩
  obtain ⟨Z, hZ⟩ : ∃ Z, eOf R = Z := ⟨_, rfl⟩
  have eP : ∀ w, Counts w → IsVals w v (l.map VB) → Calls Tryd.prog 14 #[v] w fun e w' => ∃ x, e = .returned (.tuple #[deedV D, x, .int .i64 Z]) ∧ OwnB w' w.heap.size x T ∧ Below w.heap.size w w' := fun w h h1 => (e1 w h h1).mono (by rintro e w' ⟨x, rfl, hO, hB⟩; rw [hD, hZ, ← hT]; exact ⟨x, rfl, hO, hB⟩)
  have eN : ∀ w, IsVals w v (l.map VB) → Calls Tryd.prog 15 #[v] w fun e w' => ∃ x, e = .returned (.tuple #[deedV D, x, .int .i64 Z]) ∧ OwnB w' w.heap.size x T ∧ Below w.heap.size w w' := fun w h1 => (e2 w h1).mono (by rintro e w' ⟨x, rfl, hO, hB⟩; rw [hD, hZ, ← hT]; exact ⟨x, rfl, hO, hB⟩)
  clear e1 e2
  cases R with
  | none =>
    have hZ1 : Z = 81 := hZ.symm
    have hDi : D.Is := by rw [← hD]; rfl
    subst hZ1
    go_enter Tryd.func5, Tryd.ntmps5
    go_wp2_with (first
      | (go_at_call 7; refine (labelAlive_any _ hG).mono ?_; rintro e w1 ⟨rfl, hB⟩; have hv1 := hv.below hB; have hG1 := hG.below hB; go_frame)
      | ((with_reducible change wpList _ _ _ (Oper.mk (some 14) _ _ _ _ _ :: _) _ _); refine kLenN _ _ _ v _ m rfl rfl rfl hv1 (by rw [List.length_map, hm]) Tryd.underlying22 ?_; go_frame)
      | ((with_reducible change wpList _ _ _ (Oper.mk (some 15) _ _ _ _ _ :: _) _ _); refine kGtrI _ _ _ _ .i64 (m : Int) 1000 _ rfl rfl rfl rfl h1 ?_; go_frame)
      | (go_at_call 14; refine (eP _ hG1 hv1).mono ?_; rintro e w2 ⟨x1, rfl, hX, hB2⟩; have hsz := hB.size; have hB3 := hB.trans (hB2.mono hsz); have hv3 := hv1.below hB2; have hs3 := hB3.size; have hs12 := hB2.size; clear hv1 hG1 hB hB2 hsz; go_frame)
      | ((with_reducible change wpList _ _ _ (Oper.mk (some 3) _ _ _ _ _ :: _) _ _); refine kAllocL _ _ rfl rfl zero_Deed ?_; intro w3 hR3 hz3 hB4; have hX3 := hX.below hB4; have hv4 := hv3.below hB4; have hB5 := hB3.trans (hB4.mono hs3); clear hX hv3 hB3 hB4; go_frame)
      | ((with_reducible change wpList _ _ _ (Oper.mk none (Op.store _ (Operand.tmp 3) (Operand.tmp 19)) _ _ _ _ :: _) _ _); refine kStoreD _ _ _ noDeed _ hR3 rfl rfl rfl rfl ?_; intro w4 hR4 hW4; have hX4 := own_keepW hX3 hW4 hR3; have hB6 := hB5.trans (hW4.below hs3); have hv5 := hv.below hB6; have hs6 := hB6.size; have hl4 := hR4.lt; clear hX3 hv4 hB5 hW4 hR3 hz3; go_frame)
      | (go_at_call 15; refine (eN _ hv5).mono ?_; rintro e w5 ⟨x2, rfl, hY, hB7⟩; have hR5 := hR4.below hB7 hl4; have hX5 := hX4.below hB7; have hB8 := hB6.trans (hB7.mono hs6); have hv6 := hv5.below hB7; have hs8 := hB8.size; have hs45 := hB7.size; clear hR4 hX4 hB6 hB7 hv5 hs6; go_frame)
      | ((with_reducible change wpList _ _ _ (Oper.mk (some 6) _ _ _ _ _ :: _) _ _); refine kAllocL _ _ rfl rfl zero_Deed ?_; intro w6 hR6 hz6 hB9; have hR7 := hR5.below hB9 hR5.lt; have hl5 := hR5.lt; have hX6 := hX5.below hB9; have hY6 := hY.below hB9; have hB10 := hB8.trans (hB9.mono hs8); clear hR5 hX5 hY hB9 hB8; go_frame)
      | ((with_reducible change wpList _ _ _ (Oper.mk none (Op.store _ (Operand.tmp 6) (Operand.tmp 25)) _ _ _ _ :: _) _ _); refine kStoreD _ _ _ noDeed _ hR6 rfl rfl rfl rfl ?_; intro w7 hR8 hW7; have hR9 := hW7.row hR7 (Nat.ne_of_lt hl5); have hX7 := own_keepW hX6 hW7 hR6; have hY7 := own_keepW hY6 hW7 hR6; have hB11 := hB10.trans (hW7.below hs8); have hv7 := hv.below hB11; have hG7 := hG.below hB11; have hs11 := hB11.size; clear hX6 hY6 hB10 hW7 hR6 hz6 hR7 hv6; go_frame)
      | ((with_reducible change wpList _ _ _ (Oper.mk (some 28) _ _ _ _ _ :: _) _ _); refine kLoadD _ _ _ hR9 rfl rfl rfl ?_; go_frame)
      | ((with_reducible change wpList _ _ _ (Oper.mk (some 29) _ _ _ _ _ :: _) _ _); refine kLoadD _ _ _ hR8 rfl rfl rfl ?_; go_frame)
      | ((with_reducible change wpList _ _ _ (Oper.mk (some 30) _ _ _ _ _ :: _) _ _); refine kNeqD8 _ _ _ hDi (by exact hDi) true rfl rfl rfl rfl ((sameD_iff _ _).2 rfl) ?_; go_frame)
      | ((with_reducible change wpList _ _ _ (Oper.mk (some 33) _ _ _ _ _ :: _) _ _); refine kToString _ _ _ _ x1 T rfl rfl rfl hX7.vals Tryd.underlying22 Tryd.underlying5 Tryd.underlying9 ?_; go_frame)
      | ((with_reducible change wpList _ _ _ (Oper.mk (some 35) _ _ _ _ _ :: _) _ _); refine kToString _ _ _ _ x2 T rfl rfl rfl hY7.vals Tryd.underlying22 Tryd.underlying5 Tryd.underlying9 ?_; go_frame)
      | ((with_reducible change wpList _ _ _ (Oper.mk (some 36) _ _ _ _ _ :: _) _ _); refine kNeqStr _ _ _ _ T T false rfl rfl rfl rfl (by simp) ?_; go_frame)
      | ((with_reducible change wpList _ _ _ (Oper.mk (some 41) _ _ _ _ _ :: _) _ _); refine kNeqI _ _ _ _ .i64 Z Z false rfl rfl rfl rfl (by simp) ?_; go_frame))
    go_ret
    exact ⟨rfl, hB11⟩
  | some p =>
    obtain ⟨d, r⟩ := p
    obtain ⟨hr, hDi0, hlk⟩ := hsome d r rfl
    have hZ1 : Z = 0 := hZ.symm
    have hD1 : d = D := hD
    have hT1 : r = T := hT
    subst hZ1 hD1 hT1
    have hDi : d.Is := hDi0
    have hTl : r.length ≤ 1000000 := by
      have e : lockS d r = some l := hlk
      unfold lockS at e
      split at e
      · cases e
      · cases e; simp at hm; omega
    have eL : ∀ w x, Counts w → IsVals w x (r.map VB) → Calls Tryd.prog 6 #[deedV d, x] w fun e w' => ∃ y, e = .returned (.tuple #[y, .int .i64 0]) ∧ OwnB w' w.heap.size y l ∧ Below w.heap.size w w' := fun w x h h1 => (lbLock_any hDi w h h1 hTl).mono (by
      rw [hlk]
      rintro e w' ⟨y, rfl, hO, hB⟩
      exact ⟨y, rfl, hO, hB⟩)
    have eR := fun w => lbRight_any hDi w
    rw [hr] at eR
    go_enter Tryd.func5, Tryd.ntmps5
    go_wp2_with (first
      | (go_at_call 7; refine (labelAlive_any _ hG).mono ?_; rintro e w1 ⟨rfl, hB⟩; have hv1 := hv.below hB; have hG1 := hG.below hB; go_frame)
      | ((with_reducible change wpList _ _ _ (Oper.mk (some 14) _ _ _ _ _ :: _) _ _); refine kLenN _ _ _ v _ m rfl rfl rfl hv1 (by rw [List.length_map, hm]) Tryd.underlying22 ?_; go_frame)
      | ((with_reducible change wpList _ _ _ (Oper.mk (some 15) _ _ _ _ _ :: _) _ _); refine kGtrI _ _ _ _ .i64 (m : Int) 1000 _ rfl rfl rfl rfl h1 ?_; go_frame)
      | (go_at_call 14; refine (eP _ hG1 hv1).mono ?_; rintro e w2 ⟨x1, rfl, hX, hB2⟩; have hsz := hB.size; have hB3 := hB.trans (hB2.mono hsz); have hv3 := hv1.below hB2; have hs3 := hB3.size; have hs12 := hB2.size; clear hv1 hG1 hB hB2 hsz; go_frame)
      | ((with_reducible change wpList _ _ _ (Oper.mk (some 3) _ _ _ _ _ :: _) _ _); refine kAllocL _ _ rfl rfl zero_Deed ?_; intro w3 hR3 hz3 hB4; have hX3 := hX.below hB4; have hv4 := hv3.below hB4; have hB5 := hB3.trans (hB4.mono hs3); clear hX hv3 hB3 hB4; go_frame)
      | ((with_reducible change wpList _ _ _ (Oper.mk none (Op.store _ (Operand.tmp 3) (Operand.tmp 19)) _ _ _ _ :: _) _ _); refine kStoreD _ _ _ noDeed _ hR3 rfl rfl rfl rfl ?_; intro w4 hR4 hW4; have hX4 := own_keepW hX3 hW4 hR3; have hB6 := hB5.trans (hW4.below hs3); have hv5 := hv.below hB6; have hs6 := hB6.size; have hl4 := hR4.lt; clear hX3 hv4 hB5 hW4 hR3 hz3; go_frame)
      | (go_at_call 15; refine (eN _ hv5).mono ?_; rintro e w5 ⟨x2, rfl, hY, hB7⟩; have hR5 := hR4.below hB7 hl4; have hX5 := hX4.below hB7; have hB8 := hB6.trans (hB7.mono hs6); have hv6 := hv5.below hB7; have hs8 := hB8.size; have hs45 := hB7.size; clear hR4 hX4 hB6 hB7 hv5 hs6; go_frame)
      | ((with_reducible change wpList _ _ _ (Oper.mk (some 6) _ _ _ _ _ :: _) _ _); refine kAllocL _ _ rfl rfl zero_Deed ?_; intro w6 hR6 hz6 hB9; have hR7 := hR5.below hB9 hR5.lt; have hl5 := hR5.lt; have hX6 := hX5.below hB9; have hY6 := hY.below hB9; have hB10 := hB8.trans (hB9.mono hs8); clear hR5 hX5 hY hB9 hB8; go_frame)
      | ((with_reducible change wpList _ _ _ (Oper.mk none (Op.store _ (Operand.tmp 6) (Operand.tmp 25)) _ _ _ _ :: _) _ _); refine kStoreD _ _ _ noDeed _ hR6 rfl rfl rfl rfl ?_; intro w7 hR8 hW7; have hR9 := hW7.row hR7 (Nat.ne_of_lt hl5); have hX7 := own_keepW hX6 hW7 hR6; have hY7 := own_keepW hY6 hW7 hR6; have hB11 := hB10.trans (hW7.below hs8); have hv7 := hv.below hB11; have hG7 := hG.below hB11; have hs11 := hB11.size; clear hX6 hY6 hB10 hW7 hR6 hz6 hR7 hv6; go_frame)
      | ((with_reducible change wpList _ _ _ (Oper.mk (some 28) _ _ _ _ _ :: _) _ _); refine kLoadD _ _ _ hR9 rfl rfl rfl ?_; go_frame)
      | ((with_reducible change wpList _ _ _ (Oper.mk (some 29) _ _ _ _ _ :: _) _ _); refine kLoadD _ _ _ hR8 rfl rfl rfl ?_; go_frame)
      | ((with_reducible change wpList _ _ _ (Oper.mk (some 30) _ _ _ _ _ :: _) _ _); refine kNeqD8 _ _ _ hDi (by exact hDi) true rfl rfl rfl rfl ((sameD_iff _ _).2 rfl) ?_; go_frame)
      | ((with_reducible change wpList _ _ _ (Oper.mk (some 33) _ _ _ _ _ :: _) _ _); refine kToString _ _ _ _ x1 r rfl rfl rfl hX7.vals Tryd.underlying22 Tryd.underlying5 Tryd.underlying9 ?_; go_frame)
      | ((with_reducible change wpList _ _ _ (Oper.mk (some 35) _ _ _ _ _ :: _) _ _); refine kToString _ _ _ _ x2 r rfl rfl rfl hY7.vals Tryd.underlying22 Tryd.underlying5 Tryd.underlying9 ?_; go_frame)
      | ((with_reducible change wpList _ _ _ (Oper.mk (some 36) _ _ _ _ _ :: _) _ _); refine kNeqStr _ _ _ _ r r false rfl rfl rfl rfl (by simp) ?_; go_frame)
      | ((with_reducible change wpList _ _ _ (Oper.mk (some 41) _ _ _ _ _ :: _) _ _); refine kNeqI _ _ _ _ .i64 0 0 false rfl rfl rfl rfl (by simp) ?_; go_frame)
      | ((with_reducible change wpList _ _ _ (Oper.mk (some 46) _ _ _ _ _ :: _) _ _); refine kLoadD _ _ _ hR9 rfl rfl rfl ?_; go_frame)
      | (go_at_call 6; refine (eL _ _ hG7 hX7.vals).mono ?_; rintro e w8 ⟨x3, rfl, hA, hB12⟩; have hR10 := hR9.below hB12 hR9.lt; have hv8 := hv7.below hB12; have hB13 := hB11.trans (hB12.mono hs11); have hs13 := hB13.size; have hAv := hA.vals; clear hA hB12 hB11 hR9 hv7 hR8 hX7 hY7; go_frame)
      | ((with_reducible change wpList _ _ _ (Oper.mk (some 55) _ _ _ _ _ :: _) _ _); refine kToString _ _ _ _ x3 l rfl rfl rfl hAv Tryd.underlying22 Tryd.underlying5 Tryd.underlying9 ?_; go_frame)
      | ((with_reducible change wpList _ _ _ (Oper.mk (some 57) _ _ _ _ _ :: _) _ _); refine kToString _ _ _ _ v l rfl rfl rfl hv8 Tryd.underlying22 Tryd.underlying5 Tryd.underlying9 ?_; go_frame)
      | ((with_reducible change wpList _ _ _ (Oper.mk (some 58) _ _ _ _ _ :: _) _ _); refine kEqlStr _ _ _ _ l l true rfl rfl rfl rfl (by simp) ?_; go_frame)
      | ((with_reducible change wpList _ _ _ (Oper.mk (some 61) _ _ _ _ _ :: _) _ _); refine kLoadD _ _ _ hR10 rfl rfl rfl ?_; go_frame)
      | (go_at_call 9; refine (eR _).mono ?_; rintro e w9 ⟨rfl, hB14⟩; have hB15 := hB13.trans (hB14.mono hs13); clear hB13 hB14; go_frame))
    go_ret
    exact ⟨rfl, hB15⟩
end Go.Proofs.YtnaclalbeocpkaaDoor
