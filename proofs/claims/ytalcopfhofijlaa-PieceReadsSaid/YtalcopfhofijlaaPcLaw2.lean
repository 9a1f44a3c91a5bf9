/-
  Layer 6: the walks of PieceAlone and PieceWrites.
-/
import Derived.Test.YtalcopfhofijlaaPcLaw1
namespace Go.Proofs.Ytalcopfhofijlaa
open Go Go.RowKit

theorem count_zero (s : Scn) (m : Nat) : (countS s m).2.err ≠ 0 → (countS s m).1 = 0 := by
  unfold countS
  split
  · exact fun _ => rfl
  · split
    · exact fun _ => rfl
    · rename_i c r he
      generalize (if fSize c = 0 then c.toNat else numL (r.take (fSize c))) = N
      split
      · exact fun _ => rfl
      · split
        · exact fun _ => rfl
        · exact fun h => absurd rfl h
section
variable {ops : Array Oper} {o : Oper} {a : Act} {S : World → Prop}
theorem ySliceTo (x y : Operand) (v : Value) (l : List UInt8) (n : Nat) (ho : o.op = .slice 25 x none (some y) none) (hg : Region.wanted o (yielded ops a.tmps) = true) (hx : a.eval x = v) (hy : a.eval y = .int .i64 (n : Int)) (hv : ∀ w, S w → IsVals w v (l.map VB)) (hn : n ≤ l.length) : YieldsIf Try.prog ops S o (toV v n) a :=
  yOf hg fun w hS => by
    unfold execOp
    simp only [ho, hx, hy, Option.map_some, Option.map_none, Sem.run_bind, run_sliceToV (n := n) Try.underlying25 info_b8P (hv w hS) rfl (by simpa using hn), Result.andThen_ok, Sem.run_pure]
end
theorem vals_to {w : World} {v : Value} {l t : List UInt8} {n : Nat} (hv : IsVals w v (l.map VB)) (hn : n ≤ l.length) (ht : l.take n = t) : IsVals w (toV v n) (t.map VB) := by
  have h := isVals_to (n := n) hv (by simpa using hn)
  rw [← List.map_take, ht] at h; exact h
set_option maxRecDepth 100000 in
set_option maxHeartbeats 8000000 in
theorem PieceAlone_any {l : List UInt8} {v : Value} {most : Nat} (w : World) (hv : IsVals w v (l.map VB)) : Calls Try.prog 7 #[v, .int .u64 (most : Int)] w (SizesPost w) := by
  obtain ⟨m, hm⟩ : ∃ m, l.length = m := ⟨_, rfl⟩
  by_cases hlong : 100 < m
  · have hm1 : decide ((m : Int) > 100) = true := by simp; omega
    clear hlong
    go_enter Try.func7, Try.ntmps7
    go_wp2_with (first
      | (go_at_call 9; refine (pieceAlive_any _).mono ?_; rintro e w1 ⟨rfl, hB1⟩; have hsz1 := hB1.size; have hv1 := hv.below hB1; go_frame)
      | ((with_reducible change wpList _ _ _ (Oper.mk (some 10) _ _ _ _ _ :: _) _ _); refine kLenN _ _ _ v _ m rfl rfl rfl hv1 (by rw [List.length_map, hm]) Try.underlying25 ?_; go_frame)
      | ((with_reducible change wpList _ _ _ (Oper.mk (some 11) _ _ _ _ _ :: _) _ _); refine kGtrI _ _ _ _ .i64 (m : Int) 100 true rfl rfl rfl rfl hm1 ?_; go_frame))
    go_ret
    exact ⟨rfl, hB1⟩
  have hm1 : decide ((m : Int) > 100) = false := by simp; omega
  have hct := fun w g h => rdCount_any (s := ⟨l, 0⟩) (g := g) (most := most) w h
  have hz := count_zero ⟨l, 0⟩ most
  have hrr := count_errRest ⟨l, 0⟩ most
  have hal := fun n s => count_alone (b := l) (most := most) (n := n) (s := s)
  generalize countS ⟨l, 0⟩ most = q at *
  obtain ⟨n, t⟩ := q
  obtain ⟨E, hE⟩ : ∃ E, t.err = E := ⟨_, rfl⟩
  dsimp only at hz hrr
  by_cases he : E ≠ 0
  · obtain rfl : n = 0 := hz (by rw [hE]; exact he)
    have htm : t.rest.length = m := by rw [hrr (by rw [hE]; exact he)]; exact hm
    have hq : (!decide ((E : Int) = 0)) = true := by simp; exact he
    clear he hz hrr hal
    go_enter Try.func7, Try.ntmps7
    go_wp2_with (first
      | (go_at_call 9; refine (pieceAlive_any _).mono ?_; rintro e w1 ⟨rfl, hB1⟩; have hsz1 := hB1.size; have hv1 := hv.below hB1; go_frame)
      | ((with_reducible change wpList _ _ _ (Oper.mk (some 10) _ _ _ _ _ :: _) _ _); refine kLenN _ _ _ v _ m rfl rfl rfl hv1 (by rw [List.length_map, hm]) Try.underlying25 ?_; go_frame)
      | ((with_reducible change wpList _ _ _ (Oper.mk (some 11) _ _ _ _ _ :: _) _ _); refine kGtrI _ _ _ _ .i64 (m : Int) 100 false rfl rfl rfl rfl hm1 ?_; go_frame)
      | (go_at_call 10; refine (pcNew_any _ hv1 (by omega)).mono ?_; rintro e w2 ⟨g, rfl, hg, hR2, hB2⟩; have hge : w.heap.size ≤ g := Nat.le_trans hsz1 hg; have hv2 := hv1.below hB2; have hB3 := hB1.trans (hB2.mono hsz1); have hsz3 := hB3.size; clear hB1 hB2 hv1; go_frame)
      | (go_at_call 11; refine (hct _ _ hR2).mono ?_; rintro e w4 ⟨rfl, hR4, hX4⟩; have hv4 := hX4.vals hR2 hv2; have hB5 := hB3.trans (hX4.below hge hsz3); have hsz5 := hB5.size; clear hB3 hX4 hR2 hv2; go_frame)
      | (go_at_call 13; refine (rdErr_any (n := E) _ hR4 hE).mono ?_; rintro e w6 ⟨rfl, rfl⟩; go_frame)
      | ((with_reducible change wpList _ _ _ (Oper.mk (some 19) _ _ _ _ _ :: _) _ _); refine kNeqI _ _ _ _ .i64 (E : Int) 0 true rfl rfl rfl rfl hq ?_; go_frame)
      | (go_at_call 14; refine (rdLeft_any (n := m) _ hR4 htm).mono ?_; rintro e w7 ⟨rfl, rfl⟩; go_frame)
      | ((with_reducible change wpList _ _ _ (Oper.mk (some 26) _ _ _ _ _ :: _) _ _); refine kLenN _ _ _ v _ m rfl rfl rfl hv4 (by rw [List.length_map, hm]) Try.underlying25 ?_; go_frame)
      | ((with_reducible change wpList _ _ _ (Oper.mk (some 27) _ _ _ _ _ :: _) _ _); refine kEqlI _ _ _ _ .i64 (m : Int) (m : Int) true rfl rfl rfl rfl (by simp) ?_; go_frame))
    go_ret
    exact ⟨rfl, hB5⟩
  · have hq : (!decide ((E : Int) = 0)) = false := by simp; omega
    obtain ⟨h1, h2, h3⟩ := hal n t rfl (by omega)
    obtain ⟨k, hk⟩ : ∃ k, t.rest.length = k := ⟨_, rfl⟩
    have hle : decide ((n : Int) ≤ (most : Int)) = true := by simp; omega
    have hlen : (countL n).length + k = m := by rw [← hk, ← hm, ← h3, List.length_append]
    obtain ⟨p, hp⟩ : ∃ p, (countL n).length = p := ⟨_, rfl⟩
    have hpl : p ≤ l.length := by omega
    have htk : l.take p = countL n := by rw [← h3, ← hp]; exact List.take_left
    clear he hz hrr hal h1 h2 h3
    go_enter Try.func7, Try.ntmps7
    go_wp2_with (first
      | (go_at_call 9; refine (pieceAlive_any _).mono ?_; rintro e w1 ⟨rfl, hB1⟩; have hsz1 := hB1.size; have hv1 := hv.below hB1; go_frame)
      | ((with_reducible change wpList _ _ _ (Oper.mk (some 10) _ _ _ _ _ :: _) _ _); refine kLenN _ _ _ v _ m rfl rfl rfl hv1 (by rw [List.length_map, hm]) Try.underlying25 ?_; go_frame)
      | ((with_reducible change wpList _ _ _ (Oper.mk (some 11) _ _ _ _ _ :: _) _ _); refine kGtrI _ _ _ _ .i64 (m : Int) 100 false rfl rfl rfl rfl hm1 ?_; go_frame)
      | (go_at_call 10; refine (pcNew_any _ hv1 (by omega)).mono ?_; rintro e w2 ⟨g, rfl, hg, hR2, hB2⟩; have hge : w.heap.size ≤ g := Nat.le_trans hsz1 hg; have hv2 := hv1.below hB2; have hB3 := hB1.trans (hB2.mono hsz1); have hsz3 := hB3.size; clear hB1 hB2 hv1; go_frame)
      | (go_at_call 11; refine (hct _ _ hR2).mono ?_; rintro e w4 ⟨rfl, hR4, hX4⟩; have hv4 := hX4.vals hR2 hv2; have hB5 := hB3.trans (hX4.below hge hsz3); have hsz5 := hB5.size; clear hB3 hX4 hR2 hv2; go_frame)
      | (go_at_call 13; refine (rdErr_any (n := E) _ hR4 hE).mono ?_; rintro e w6 ⟨rfl, rfl⟩; go_frame)
      | ((with_reducible change wpList _ _ _ (Oper.mk (some 19) _ _ _ _ _ :: _) _ _); refine kNeqI _ _ _ _ .i64 (E : Int) 0 false rfl rfl rfl rfl hq ?_; go_frame))
    refine region_mixD [(0, true), (1, true), (2, true), (3, true), (4, true), (7, true), (8, true), (9, true), (10, true), (5, false), (6, true), (11, false), (12, true), (13, true), (14, true), (15, true), (16, true), (17, true)] (fun w => IsVals w v (l.map VB)) (by kernel_rfl) (by kernel_rfl) rfl ?_
    intro w8 hBd hsd
    have hv8 := hv4.below hBd
    have hR8 := hR4.below hBd
    have hB8 := hB5.trans (hBd.mono hsz5)
    have hsz8 := hB8.size
    clear hBd hsd hv4 hR4 hB5 hsz5
    simp only [List.map_cons, List.map_nil]
    dsimp only [List.filterMap, List.getElem?_cons_zero, List.getElem?_cons_succ]
    have hS := hv8
    refine dY _ hS (yMove _ (.int .u64 (n : Int)) rfl rfl rfl) ?_; go_frame
    refine dY _ hS (yMove _ (.int .u64 (most : Int)) rfl rfl rfl) ?_; go_frame
    refine dY _ hS (yLeqI _ _ _ _ .u64 (n : Int) (most : Int) true rfl rfl rfl rfl hle) ?_; go_frame
    refine dY _ hS (yMove _ (.bool true) rfl rfl rfl) ?_; go_frame
    refine dY _ hS (yMove _ (.int .u64 (n : Int)) rfl rfl rfl) ?_; go_frame
    refine dY _ hS (yMove _ (v) rfl rfl rfl) ?_; go_frame
    refine dY _ hS (yMove _ (v) rfl rfl rfl) ?_; go_frame
    refine dY _ hS (yLen _ _ _ v _ m rfl rfl rfl (fun _ h => h) (by rw [List.length_map, hm]) Try.underlying25) ?_; go_frame
    refine dY _ hS (yMove _ (.pointer (some ⟨g, 0, none⟩)) rfl rfl rfl) ?_; go_frame
    refine dLoud ?_
    refine kCall2 15 _ _ _ _ _ rfl rfl (by kernel_rfl) rfl rfl ?_
    refine (pcCount_nil n _ rfl _).mono ?_
    rintro e w9 ⟨v9, rfl, hO9, hB9⟩
    have hR9 := hR8.below hB9
    have hB10 := hB8.trans (hB9.mono hsz8)
    have hsz10 := hB10.size
    have hv9 := hv8.below hB9
    clear hR8 hB8 hsz8
    refine ⟨_, rfl, mixOn ⟨(fun w => IsVals w v (l.map VB) ∧ IsVals w v9 ((countL n).map VB)), (fun _ h => h.1), (⟨hv9, hO9.vals⟩ : IsVals w9 v (l.map VB) ∧ IsVals w9 v9 ((countL n).map VB)), ?_⟩⟩
    have hS2 := (⟨hv9, hO9.vals⟩ : IsVals w9 v (l.map VB) ∧ IsVals w9 v9 ((countL n).map VB)); clear hS; have hS := hS2; clear hS2
    go_frame
    refine dY _ hS (yStr _ _ _ _ v9 (countL n) rfl rfl rfl (fun _ h => h.2) Try.underlying25 Try.underlying5 Try.underlying9) ?_; go_frame
    refine dLoud ?_
    refine kCall1 14 _ _ _ rfl rfl (by kernel_rfl) rfl ?_
    refine (rdLeft_any (n := k) _ hR9 hk).mono ?_
    rintro e w11 ⟨rfl, rfl⟩
    refine ⟨_, rfl, mixOn ⟨(fun w => IsVals w v (l.map VB) ∧ IsVals w v9 ((countL n).map VB)), (fun _ h => h), hS, ?_⟩⟩
    have hS2 := hS; clear hS; have hS := hS2; clear hS2
    go_frame
    refine dY _ hS (ySubI _ _ _ _ (m : Int) (k : Int) (p : Int) (by omega) rfl rfl rfl rfl) ?_; go_frame
    refine dY _ hS (ySliceTo _ _ v l p rfl rfl rfl rfl (fun _ h => h.1) (by omega)) ?_; go_frame
    refine dY _ hS (yStr _ _ _ _ (toV v p) (countL n) rfl rfl rfl (fun _ h => vals_to h.1 hpl htk) Try.underlying25 Try.underlying5 Try.underlying9) ?_; go_frame
    refine dY _ hS (yEqlStr _ _ _ _ (countL n) (countL n) true rfl rfl rfl rfl (by simp)) ?_; go_frame
    refine dY _ hS (yPick _ _ _ true (.bool true) rfl rfl rfl rfl) ?_; go_frame
    refine dY _ hS (yAssign _ (.bool true) rfl rfl rfl) ?_; go_frame
    refine dDone ?_
    go_wp2
    go_ret
    exact ⟨rfl, hB10⟩
end Go.Proofs.Ytalcopfhofijlaa
