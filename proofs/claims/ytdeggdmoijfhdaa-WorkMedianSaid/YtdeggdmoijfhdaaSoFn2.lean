/-
  Layer 12: the sort: reverseRange, siftDown, heapSort.
-/
import Derived.Test.YtdeggdmoijfhdaaSoMem
namespace Go.Proofs.Ytdeggdmoijfhdaa
open Go Go.RowKit

set_option maxRecDepth 100000 in
set_option maxHeartbeats 16000000 in
theorem sReverse_any {g n cap a b : Nat} {d : Array Nat} (w : World) (hD : Dat w g n cap d) (hab : a < b) (hb : b ≤ n) (hn : n ≤ 50) : Calls Try.prog 63 #[.slice (some ⟨g, 0, none⟩) n cap, .int .i64 (a : Int), .int .i64 (b : Int)] w (SoPost w g n cap fun d' => PermI a b d d') := by
  have hE := exc_refl g w
  go_enter Try.func63, Try.ntmps63
  go_wp2_with (first
    | ((with_reducible change wpList _ _ _ (Oper.mk (some 10) _ _ _ _ _ :: _) _ _); refine kYw (ySubZ _ _ _ _ (b : Int) 1 ((b - 1 : Nat) : Int) (by omega) rfl rfl rfl rfl) ?_; go_frame))
  go_loopw [6, 7] (fun i j wr => ∃ (k m : Nat) (dk : Array Nat), a ≤ k ∧ m < b ∧ i = .int .i64 (k : Int) ∧ j = .int .i64 (m : Int) ∧ Dat wr g n cap dk ∧ Exc g w wr ∧ PermI a b d dk) (fun i j _ => (intOf j - intOf i).toNat)
  case atStart => exact ⟨a, b - 1, d, Nat.le_refl _, by omega, rfl, rfl, hD, hE, PermI.refl _ _ _⟩
  case round =>
    obtain ⟨k, m, dk, hk, hm, rfl, rfl, hDk, hEk, hP⟩ := hrel
    have hs := hD.size
    clear hD hE
    by_cases hlt : k < m
    · have d13 : decide ((k : Int) < (m : Int)) = true := by simp; omega
      go_wp2_with (first
        | ((with_reducible change wpList _ _ _ (Oper.mk (some 13) _ _ _ _ _ :: _) _ _); refine kYw (yLssK _ _ _ _ .i64 (k : Int) (m : Int) true d13 rfl rfl rfl rfl) ?_; go_frame))
      refine region_tree (.q 0 (.q 1 (.q 2 (.q 3 (.q 4 (.q 5 (.q 6 (.q 8 (.q 9 (.q 10 (.two 7 (.one 11 (.q 12 (.one 13 (.q 14 (.one 15 .fin))))) 11 (.one 7 (.q 12 (.one 13 (.q 14 (.one 15 .fin)))))))))))))))) (fun _ => True) (by kernel_rfl) (by kernel_rfl) ?_
      intro z1 hBd hsd; clear hsd
      have hDz1 := hDk.below hBd
      have hEz1 := hEk.trans (exc_below g hBd)
      clear hBd hDk hEk
      have hS : (fun _ : World => True) z1 := trivial
      refine tY _ hS rfl (yMove _ (.slice (some ⟨g, 0, none⟩) n cap) rfl rfl rfl) ?_; go_frame
      refine tY _ hS rfl (yMove _ (.int .i64 (k : Int)) rfl rfl rfl) ?_; go_frame
      refine tY _ hS rfl (yMove _ (.slice (some ⟨g, 0, none⟩) n cap) rfl rfl rfl) ?_; go_frame
      refine tY _ hS rfl (yMove _ (.int .i64 (m : Int)) rfl rfl rfl) ?_; go_frame
      refine tY _ hS rfl (yMove _ (.slice (some ⟨g, 0, none⟩) n cap) rfl rfl rfl) ?_; go_frame
      refine tY _ hS rfl (yMove _ (.int .i64 (m : Int)) rfl rfl rfl) ?_; go_frame
      refine tY _ hS rfl (yIdxD _ _ g n cap m (by omega) rfl rfl rfl rfl) ?_; go_frame
      refine tY _ hS rfl (yMove _ (.slice (some ⟨g, 0, none⟩) n cap) rfl rfl rfl) ?_; go_frame
      refine tY _ hS rfl (yMove _ (.int .i64 (k : Int)) rfl rfl rfl) ?_; go_frame
      refine tY _ hS rfl (yIdxD _ _ g n cap k (by omega) rfl rfl rfl rfl) ?_; go_frame
      refine tTwoSo (VW (dv dk m)) (VW (dv dk k)) rfl rfl rfl rfl (by decide) (yLoadD _ (fun _ e => by cases e; exact hDz1) (by omega) rfl rfl rfl) (yLoadD _ (fun _ e => by cases e; exact hDz1) (by omega) rfl rfl rfl) (yLoadD _ (fun _ e => by cases e; exact hDz1) (by omega) rfl rfl rfl) (yLoadD _ (fun _ e => by cases e; exact hDz1) (by omega) rfl rfl rfl) ?_; go_frame
      refine tY _ hS rfl (yIdxD _ _ g n cap k (by omega) rfl rfl rfl rfl) ?_; go_frame
      refine tOne rfl ?_
      refine kStoreD _ _ g n cap k (dv dk m) dk hDz1 (by omega) rfl rfl rfl rfl ?_
      intro z1a hDz1a hWn
      have hEz1a := hEz1.trans (exc_wrote hWn)
      clear hWn hDz1 hEz1 hS
      have hS : (fun _ : World => True) z1a := trivial
      refine mixOn ⟨_, (fun _ h => h), hS, ?_⟩
      go_frame
      refine tY _ hS rfl (yIdxD _ _ g n cap m (by omega) rfl rfl rfl rfl) ?_; go_frame
      refine tOne rfl ?_
      refine kStoreD _ _ g n cap m (dv dk k) ((dk.setIfInBounds k (dv dk m))) hDz1a (by omega) rfl rfl rfl rfl ?_
      intro z1b hDz1b hWn
      have hEz1b := hEz1a.trans (exc_wrote hWn)
      clear hWn hDz1a hEz1a hS
      have hS : (fun _ : World => True) z1b := trivial
      refine mixOn ⟨_, (fun _ h => h), hS, ?_⟩
      go_frame
      refine tDone ?_
      clear hS
      have hFz1 : Dat z1b g n cap (Sort.swp dk k m) := hDz1b
      clear hDz1b
      go_wp2_with (first
        | ((with_reducible change wpList _ _ _ (Oper.mk (some 29) _ _ _ _ _ :: _) _ _); refine kYw (yAddZ _ _ _ _ (k : Int) 1 ((k + 1 : Nat) : Int) (by omega) rfl rfl rfl rfl) ?_; go_frame)
        | ((with_reducible change wpList _ _ _ (Oper.mk (some 31) _ _ _ _ _ :: _) _ _); refine kYw (ySubZ _ _ _ _ (m : Int) 1 ((m - 1 : Nat) : Int) (by omega) rfl rfl rfl rfl) ?_; go_frame))
      go_roundw
      case rel => exact ⟨k + 1, m - 1, _, by omega, by omega, rfl, rfl, hFz1, hEz1b, hP.trans (PermI.swp dk ⟨hk, by omega⟩ ⟨by omega, hm⟩ (by rw [hP.size]; omega))⟩
      case measure => first | (simp [intOf]; done) | (simp [intOf]; omega)
    · have d13 : decide ((k : Int) < (m : Int)) = false := by simp; omega
      go_wp2_with (first
        | ((with_reducible change wpList _ _ _ (Oper.mk (some 13) _ _ _ _ _ :: _) _ _); refine kYw (yLssK _ _ _ _ .i64 (k : Int) (m : Int) false d13 rfl rfl rfl rfl) ?_; go_frame))
      go_end0
      exact ⟨rfl, dk, hP, hDk, hEk⟩
theorem sift_stop {hi first root : Nat} {d : Array Nat} (h : hi ≤ 2 * root + 1) : Sort.siftDown ltN hi first root d = d := by
  unfold Sort.siftDown; rw [dif_pos h]
theorem ltN_iff (d : Array Nat) (i j : Nat) : ltN d[i]! d[j]! = decide (dv d i < dv d j) := rfl
theorem sift_go {hi first root e : Nat} {d : Array Nat} (h : 2 * root + 1 < hi) (he : e = if 2 * root + 2 < hi ∧ dv d (first + (2 * root + 1)) < dv d (first + (2 * root + 1) + 1) then 2 * root + 2 else 2 * root + 1) :
    Sort.siftDown ltN hi first root d = if dv d (first + root) < dv d (first + e) then Sort.siftDown ltN hi first e (Sort.swp d (first + root) (first + e)) else d := by
  conv => lhs; unfold Sort.siftDown
  rw [dif_neg (by omega)]
  have q1 : ∀ x y, ltN d[x]! d[y]! = decide (dv d x < dv d y) := fun _ _ => rfl
  by_cases h1 : 2 * root + 2 < hi ∧ dv d (first + (2 * root + 1)) < dv d (first + (2 * root + 1) + 1)
  · rw [if_pos h1] at he
    subst he
    have b1 : (decide (2 * root + 1 + 1 < hi) && ltN d[first + (2 * root + 1)]! d[first + (2 * root + 1) + 1]!) = true := by rw [q1]; simp; exact h1
    rw [if_pos b1]
    by_cases h2 : dv d (first + root) < dv d (first + (2 * root + 2))
    · have b2 : ¬ (!ltN d[first + root]! d[first + (2 * root + 2)]!) = true := by rw [q1]; simpa using h2
      rw [if_neg b2, dif_pos h1.1, if_pos h2]
    · have b2 : (!ltN d[first + root]! d[first + (2 * root + 2)]!) = true := by rw [q1]; simpa using h2
      rw [if_pos b2, if_neg h2]
  · rw [if_neg h1] at he
    subst he
    have b1 : ¬ (decide (2 * root + 1 + 1 < hi) && ltN d[first + (2 * root + 1)]! d[first + (2 * root + 1) + 1]!) = true := by rw [q1]; simp only [Bool.and_eq_true, decide_eq_true_eq]; exact h1
    rw [if_neg b1]
    by_cases h2 : dv d (first + root) < dv d (first + (2 * root + 1))
    · have b2 : ¬ (!ltN d[first + root]! d[first + (2 * root + 1)]!) = true := by rw [q1]; simpa using h2
      rw [if_neg b2, if_pos h2]
    · have b2 : (!ltN d[first + root]! d[first + (2 * root + 1)]!) = true := by rw [q1]; simpa using h2
      rw [if_pos b2, if_neg h2]
theorem ret0W {fn : Func} {R : Ending → World → Prop} {P : Program} {a : Act} {w : World} (h : fn.results = #[]) (hd : a.defers = []) (hR : R (.returned (.tuple #[])) w) : bodyPost P fn R .ret a w :=
  bodyPost_ret (by simp [results, h]) hd hR
set_option maxRecDepth 100000 in
set_option maxHeartbeats 16000000 in
theorem sSift_any {g n cap lo hi first : Nat} {d T : Array Nat} (w : World) (hD : Dat w g n cap d) (hh : first + hi ≤ n) (hn : n ≤ 50) (hlo : lo ≤ 50) (HT : Sort.siftDown ltN hi first lo d = T) : Calls Try.prog 70 #[.slice (some ⟨g, 0, none⟩) n cap, .int .i64 (lo : Int), .int .i64 (hi : Int), .int .i64 (first : Int)] w (SoPost w g n cap fun d' => d' = T) := by
  have hE := exc_refl g w
  replace HT := Lib.hid HT
  go_enter Try.func70, Try.ntmps70
  go_wp2
  go_loopw [8] (fun i wr => ∃ (r : Nat) (dk : Array Nat), r ≤ 50 ∧ i = .int .i64 (r : Int) ∧ Dat wr g n cap dk ∧ Exc g w wr ∧ Hid (Sort.siftDown ltN hi first r dk = T)) (fun i _ => 60 - (intOf i).toNat)
  case atStart => exact ⟨lo, d, hlo, rfl, hD, hE, HT⟩
  case round =>
    obtain ⟨r, dk, hr, rfl, hDk, hEk, Hk⟩ := hrel
    clear hD hE HT
    obtain ⟨c, Hc⟩ : ∃ c, Hid (2 * r + 1 = c) := ⟨_, Lib.hid rfl⟩
    have hc := Hc.out
    by_cases hst : hi ≤ c
    · have d16 : decide ((c : Int) ≥ (hi : Int)) = true := by simp; omega
      have e1 : dk = T := by rw [← Hk.out]; exact (sift_stop (by omega)).symm
      go_wp2_with (first
        | ((with_reducible change wpList _ _ _ (Oper.mk (some 12) _ _ _ _ _ :: _) _ _); refine kYw (yMulZ _ _ _ _ 2 (r : Int) ((2 * r : Nat) : Int) (by have := Hc.out; omega) rfl rfl rfl rfl) ?_; go_frame)
        | ((with_reducible change wpList _ _ _ (Oper.mk (some 13) _ _ _ _ _ :: _) _ _); refine kYw (yAddZ _ _ _ _ ((2 * r : Nat) : Int) 1 (c : Int) (by have := Hc.out; omega) rfl rfl rfl rfl) ?_; go_frame)
        | ((with_reducible change wpList _ _ _ (Oper.mk (some 16) _ _ _ _ _ :: _) _ _); refine kYw (yGeqK _ _ _ _ .i64 (c : Int) (hi : Int) true d16 rfl rfl rfl rfl) ?_; go_frame))
      go_end0
      exact ⟨rfl, T, rfl, e1 ▸ hDk, hEk⟩
    · have d16 : decide ((c : Int) ≥ (hi : Int)) = false := by simp; omega
      have hrb : r < hi := by omega
      by_cases h2 : c + 1 < hi
      · have d20 : decide (((c + 1 : Nat) : Int) < (hi : Int)) = true := by simp; omega
        by_cases hch : dv dk (first + c) < dv dk (first + c + 1)
        · skip
          have he := sift_go (hi := hi) (first := first) (root := r) (e := (c + 1)) (d := dk) (by omega) (by rw [Hc.out, show 2 * r + 2 = c + 1 by omega, if_pos ⟨h2, hch⟩])
          rw [Hk.out] at he
          by_cases hls : dv dk (first + r) < dv dk (first + (c + 1))
          · rw [if_pos hls] at he
            replace he := Lib.hid he
            go_wp2_with (first
              | ((with_reducible change wpList _ _ _ (Oper.mk (some 12) _ _ _ _ _ :: _) _ _); refine kYw (yMulZ _ _ _ _ 2 (r : Int) ((2 * r : Nat) : Int) (by have := Hc.out; omega) rfl rfl rfl rfl) ?_; go_frame)
              | ((with_reducible change wpList _ _ _ (Oper.mk (some 13) _ _ _ _ _ :: _) _ _); refine kYw (yAddZ _ _ _ _ ((2 * r : Nat) : Int) 1 (c : Int) (by have := Hc.out; omega) rfl rfl rfl rfl) ?_; go_frame)
              | ((with_reducible change wpList _ _ _ (Oper.mk (some 16) _ _ _ _ _ :: _) _ _); refine kYw (yGeqK _ _ _ _ .i64 (c : Int) (hi : Int) false d16 rfl rfl rfl rfl) ?_; go_frame))
            refine region_mixD [(0, true), (1, true), (2, true), (3, true), (4, true), (5, true), (6, true), (7, true), (8, true), (9, true), (10, true), (11, true), (12, true), (13, true), (14, true), (15, true), (16, true), (17, true), (18, false), (19, true)] (fun q => Dat q g n cap dk) (by kernel_rfl) (by kernel_rfl) rfl ?_
            intro z1 hBd hsd; clear hsd
            have hDz1 := hDk.below hBd
            have hEz1 := hEk.trans (exc_below g hBd)
            clear hBd hDk hEk
            simp only [List.map_cons, List.map_nil]
            dsimp only [List.filterMap, List.getElem?_cons_zero, List.getElem?_cons_succ]
            refine dY _ hDz1 (yMove _ (.int .i64 (c : Int)) rfl rfl rfl) ?_; go_frame
            refine dY _ hDz1 (yAddZ _ _ _ _ (c : Int) 1 ((c + 1 : Nat) : Int) (by have := Hc.out; omega) rfl rfl rfl rfl) ?_; go_frame
            refine dY _ hDz1 (yMove _ (.int .i64 (hi : Int)) rfl rfl rfl) ?_; go_frame
            refine dY _ hDz1 (yLssK _ _ _ _ .i64 ((c + 1 : Nat) : Int) (hi : Int) true d20 rfl rfl rfl rfl) ?_; go_frame
            refine dY _ hDz1 (yMove _ (.bool true) rfl rfl rfl) ?_; go_frame
            refine dY _ hDz1 (yMove _ (.slice (some ⟨g, 0, none⟩) n cap) rfl rfl rfl) ?_; go_frame
            refine dY _ hDz1 (yMove _ (.int .i64 (first : Int)) rfl rfl rfl) ?_; go_frame
            refine dY _ hDz1 (yMove _ (.int .i64 (c : Int)) rfl rfl rfl) ?_; go_frame
            refine dY _ hDz1 (yAddZ _ _ _ _ (first : Int) (c : Int) ((first + c : Nat) : Int) (by have := Hc.out; omega) rfl rfl rfl rfl) ?_; go_frame
            refine dY _ hDz1 (yIdxD _ _ g n cap (first + c) (by have := Hc.out; omega) rfl rfl rfl rfl) ?_; go_frame
            refine dY _ hDz1 (yLoadD _ (fun _ h => h) (by have := Hc.out; omega) rfl rfl rfl) ?_; go_frame
            refine dY _ hDz1 (yMove _ (.slice (some ⟨g, 0, none⟩) n cap) rfl rfl rfl) ?_; go_frame
            refine dY _ hDz1 (yMove _ (.int .i64 (first : Int)) rfl rfl rfl) ?_; go_frame
            refine dY _ hDz1 (yMove _ (.int .i64 (c : Int)) rfl rfl rfl) ?_; go_frame
            refine dY _ hDz1 (yAddZ _ _ _ _ (first : Int) (c : Int) ((first + c : Nat) : Int) (by have := Hc.out; omega) rfl rfl rfl rfl) ?_; go_frame
            refine dY _ hDz1 (yAddZ _ _ _ _ ((first + c : Nat) : Int) 1 ((first + c + 1 : Nat) : Int) (by have := Hc.out; omega) rfl rfl rfl rfl) ?_; go_frame
            refine dY _ hDz1 (yIdxD _ _ g n cap (first + c + 1) (by have := Hc.out; omega) rfl rfl rfl rfl) ?_; go_frame
            refine dY _ hDz1 (yLoadD _ (fun _ h => h) (by have := Hc.out; omega) rfl rfl rfl) ?_; go_frame
            refine dLoud ?_
            refine kCall2 65 _ _ _ _ _ rfl rfl (by kernel_rfl) rfl rfl ?_
            refine (kLess_as (decide_eq_true hch) _).mono ?_
            rintro e z' ⟨rfl, rfl⟩
            refine ⟨_, rfl, mixOn ⟨_, (fun _ h => h), hDz1, ?_⟩⟩
            go_frame
            refine dY _ hDz1 (yPick _ _ _ true (.bool true) rfl rfl rfl rfl) ?_; go_frame
            refine dDone ?_
            go_wp2_with (first
              | ((with_reducible change wpList _ _ _ (Oper.mk (some 38) _ _ _ _ _ :: _) _ _); refine kYw (yAddZ _ _ _ _ (c : Int) 1 ((c + 1 : Nat) : Int) (by have := Hc.out; omega) rfl rfl rfl rfl) ?_; go_frame))
            refine region_mixD [(0, true), (1, true), (2, true), (3, true), (4, true), (5, true), (6, true), (7, true), (8, true), (9, true), (10, true), (11, true), (12, false), (13, true)] (fun q => Dat q g n cap dk) (by kernel_rfl) (by kernel_rfl) rfl ?_
            intro z2 hBd hsd; clear hsd
            have hDz2 := hDz1.below hBd
            have hEz2 := hEz1.trans (exc_below g hBd)
            clear hBd hDz1 hEz1
            simp only [List.map_cons, List.map_nil]
            dsimp only [List.filterMap, List.getElem?_cons_zero, List.getElem?_cons_succ]
            refine dY _ hDz2 (yMove _ (.slice (some ⟨g, 0, none⟩) n cap) rfl rfl rfl) ?_; go_frame
            refine dY _ hDz2 (yMove _ (.int .i64 (first : Int)) rfl rfl rfl) ?_; go_frame
            refine dY _ hDz2 (yMove _ (.int .i64 (r : Int)) rfl rfl rfl) ?_; go_frame
            refine dY _ hDz2 (yAddZ _ _ _ _ (first : Int) (r : Int) ((first + r : Nat) : Int) (by have := Hc.out; omega) rfl rfl rfl rfl) ?_; go_frame
            refine dY _ hDz2 (yIdxD _ _ g n cap (first + r) (by have := Hc.out; omega) rfl rfl rfl rfl) ?_; go_frame
            refine dY _ hDz2 (yLoadD _ (fun _ h => h) (by have := Hc.out; omega) rfl rfl rfl) ?_; go_frame
            refine dY _ hDz2 (yMove _ (.slice (some ⟨g, 0, none⟩) n cap) rfl rfl rfl) ?_; go_frame
            refine dY _ hDz2 (yMove _ (.int .i64 (first : Int)) rfl rfl rfl) ?_; go_frame
            refine dY _ hDz2 (yMove _ (.int .i64 ((c + 1 : Nat) : Int)) rfl rfl rfl) ?_; go_frame
            refine dY _ hDz2 (yAddZ _ _ _ _ (first : Int) ((c + 1 : Nat) : Int) ((first + (c + 1) : Nat) : Int) (by have := Hc.out; omega) rfl rfl rfl rfl) ?_; go_frame
            refine dY _ hDz2 (yIdxD _ _ g n cap (first + (c + 1)) (by have := Hc.out; omega) rfl rfl rfl rfl) ?_; go_frame
            refine dY _ hDz2 (yLoadD _ (fun _ h => h) (by have := Hc.out; omega) rfl rfl rfl) ?_; go_frame
            refine dLoud ?_
            refine kCall2 65 _ _ _ _ _ rfl rfl (by kernel_rfl) rfl rfl ?_
            refine (kLess_as (decide_eq_true hls) _).mono ?_
            rintro e z' ⟨rfl, rfl⟩
            refine ⟨_, rfl, mixOn ⟨_, (fun _ h => h), hDz2, ?_⟩⟩
            go_frame
            refine dY _ hDz2 (yNotW _ _ true rfl rfl rfl) ?_; go_frame
            refine dDone ?_
            (try go_wp2)
            refine region_tree (.q 0 (.q 1 (.q 2 (.q 3 (.q 4 (.q 5 (.q 6 (.q 7 (.q 8 (.q 9 (.q 10 (.q 11 (.q 12 (.q 14 (.q 15 (.q 16 (.q 17 (.q 18 (.two 13 (.one 19 (.q 20 (.one 21 (.q 22 (.one 23 .fin))))) 19 (.one 13 (.q 20 (.one 21 (.q 22 (.one 23 .fin)))))))))))))))))))))))) (fun _ => True) (by kernel_rfl) (by kernel_rfl) ?_
            intro z3 hBd hsd; clear hsd
            have hDz3 := hDz2.below hBd
            have hEz3 := hEz2.trans (exc_below g hBd)
            clear hBd hDz2 hEz2
            have hS : (fun _ : World => True) z3 := trivial
            refine tY _ hS rfl (yMove _ (.slice (some ⟨g, 0, none⟩) n cap) rfl rfl rfl) ?_; go_frame
            refine tY _ hS rfl (yMove _ (.int .i64 (first : Int)) rfl rfl rfl) ?_; go_frame
            refine tY _ hS rfl (yMove _ (.int .i64 (r : Int)) rfl rfl rfl) ?_; go_frame
            refine tY _ hS rfl (yAddZ _ _ _ _ (first : Int) (r : Int) ((first + r : Nat) : Int) (by have := Hc.out; omega) rfl rfl rfl rfl) ?_; go_frame
            refine tY _ hS rfl (yMove _ (.slice (some ⟨g, 0, none⟩) n cap) rfl rfl rfl) ?_; go_frame
            refine tY _ hS rfl (yMove _ (.int .i64 (first : Int)) rfl rfl rfl) ?_; go_frame
            refine tY _ hS rfl (yMove _ (.int .i64 ((c + 1 : Nat) : Int)) rfl rfl rfl) ?_; go_frame
            refine tY _ hS rfl (yAddZ _ _ _ _ (first : Int) ((c + 1 : Nat) : Int) ((first + (c + 1) : Nat) : Int) (by have := Hc.out; omega) rfl rfl rfl rfl) ?_; go_frame
            refine tY _ hS rfl (yMove _ (.slice (some ⟨g, 0, none⟩) n cap) rfl rfl rfl) ?_; go_frame
            refine tY _ hS rfl (yMove _ (.int .i64 (first : Int)) rfl rfl rfl) ?_; go_frame
            refine tY _ hS rfl (yMove _ (.int .i64 ((c + 1 : Nat) : Int)) rfl rfl rfl) ?_; go_frame
            refine tY _ hS rfl (yAddZ _ _ _ _ (first : Int) ((c + 1 : Nat) : Int) ((first + (c + 1) : Nat) : Int) (by have := Hc.out; omega) rfl rfl rfl rfl) ?_; go_frame
            refine tY _ hS rfl (yIdxD _ _ g n cap (first + (c + 1)) (by have := Hc.out; omega) rfl rfl rfl rfl) ?_; go_frame
            refine tY _ hS rfl (yMove _ (.slice (some ⟨g, 0, none⟩) n cap) rfl rfl rfl) ?_; go_frame
            refine tY _ hS rfl (yMove _ (.int .i64 (first : Int)) rfl rfl rfl) ?_; go_frame
            refine tY _ hS rfl (yMove _ (.int .i64 (r : Int)) rfl rfl rfl) ?_; go_frame
            refine tY _ hS rfl (yAddZ _ _ _ _ (first : Int) (r : Int) ((first + r : Nat) : Int) (by have := Hc.out; omega) rfl rfl rfl rfl) ?_; go_frame
            refine tY _ hS rfl (yIdxD _ _ g n cap (first + r) (by have := Hc.out; omega) rfl rfl rfl rfl) ?_; go_frame
            refine tTwoSo (VW (dv dk (first + (c + 1)))) (VW (dv dk (first + r))) rfl rfl rfl rfl (by decide) (yLoadD _ (fun _ e => by cases e; exact hDz3) (by have := Hc.out; omega) rfl rfl rfl) (yLoadD _ (fun _ e => by cases e; exact hDz3) (by have := Hc.out; omega) rfl rfl rfl) (yLoadD _ (fun _ e => by cases e; exact hDz3) (by have := Hc.out; omega) rfl rfl rfl) (yLoadD _ (fun _ e => by cases e; exact hDz3) (by have := Hc.out; omega) rfl rfl rfl) ?_; go_frame
            refine tY _ hS rfl (yIdxD _ _ g n cap (first + r) (by have := Hc.out; omega) rfl rfl rfl rfl) ?_; go_frame
            refine tOne rfl ?_
            refine kStoreD _ _ g n cap (first + r) (dv dk (first + (c + 1))) dk hDz3 (by have := Hc.out; omega) rfl rfl rfl rfl ?_
            intro z3a hDz3a hWn
            have hEz3a := hEz3.trans (exc_wrote hWn)
            clear hWn hDz3 hEz3 hS
            have hS : (fun _ : World => True) z3a := trivial
            refine mixOn ⟨_, (fun _ h => h), hS, ?_⟩
            go_frame
            refine tY _ hS rfl (yIdxD _ _ g n cap (first + (c + 1)) (by have := Hc.out; omega) rfl rfl rfl rfl) ?_; go_frame
            refine tOne rfl ?_
            refine kStoreD _ _ g n cap (first + (c + 1)) (dv dk (first + r)) ((dk.setIfInBounds (first + r) (dv dk (first + (c + 1))))) hDz3a (by have := Hc.out; omega) rfl rfl rfl rfl ?_
            intro z3b hDz3b hWn
            have hEz3b := hEz3a.trans (exc_wrote hWn)
            clear hWn hDz3a hEz3a hS
            have hS : (fun _ : World => True) z3b := trivial
            refine mixOn ⟨_, (fun _ h => h), hS, ?_⟩
            go_frame
            refine tDone ?_
            clear hS
            have hFz3 : Dat z3b g n cap (Sort.swp dk (first + r) (first + (c + 1))) := hDz3b
            clear hDz3b
            go_wp2
            go_roundw
            case rel => exact ⟨(c + 1), _, by omega, rfl, hFz3, hEz3b, Lib.hid he.out.symm⟩
            case measure => first | (simp [intOf]; done) | (simp [intOf]; omega)
          · rw [if_neg hls] at he
            replace he := Lib.hid he
            go_wp2_with (first
              | ((with_reducible change wpList _ _ _ (Oper.mk (some 12) _ _ _ _ _ :: _) _ _); refine kYw (yMulZ _ _ _ _ 2 (r : Int) ((2 * r : Nat) : Int) (by have := Hc.out; omega) rfl rfl rfl rfl) ?_; go_frame)
              | ((with_reducible change wpList _ _ _ (Oper.mk (some 13) _ _ _ _ _ :: _) _ _); refine kYw (yAddZ _ _ _ _ ((2 * r : Nat) : Int) 1 (c : Int) (by have := Hc.out; omega) rfl rfl rfl rfl) ?_; go_frame)
              | ((with_reducible change wpList _ _ _ (Oper.mk (some 16) _ _ _ _ _ :: _) _ _); refine kYw (yGeqK _ _ _ _ .i64 (c : Int) (hi : Int) false d16 rfl rfl rfl rfl) ?_; go_frame))
            refine region_mixD [(0, true), (1, true), (2, true), (3, true), (4, true), (5, true), (6, true), (7, true), (8, true), (9, true), (10, true), (11, true), (12, true), (13, true), (14, true), (15, true), (16, true), (17, true), (18, false), (19, true)] (fun q => Dat q g n cap dk) (by kernel_rfl) (by kernel_rfl) rfl ?_
            intro z1 hBd hsd; clear hsd
            have hDz1 := hDk.below hBd
            have hEz1 := hEk.trans (exc_below g hBd)
            clear hBd hDk hEk
            simp only [List.map_cons, List.map_nil]
            dsimp only [List.filterMap, List.getElem?_cons_zero, List.getElem?_cons_succ]
            refine dY _ hDz1 (yMove _ (.int .i64 (c : Int)) rfl rfl rfl) ?_; go_frame
            refine dY _ hDz1 (yAddZ _ _ _ _ (c : Int) 1 ((c + 1 : Nat) : Int) (by have := Hc.out; omega) rfl rfl rfl rfl) ?_; go_frame
            refine dY _ hDz1 (yMove _ (.int .i64 (hi : Int)) rfl rfl rfl) ?_; go_frame
            refine dY _ hDz1 (yLssK _ _ _ _ .i64 ((c + 1 : Nat) : Int) (hi : Int) true d20 rfl rfl rfl rfl) ?_; go_frame
            refine dY _ hDz1 (yMove _ (.bool true) rfl rfl rfl) ?_; go_frame
            refine dY _ hDz1 (yMove _ (.slice (some ⟨g, 0, none⟩) n cap) rfl rfl rfl) ?_; go_frame
            refine dY _ hDz1 (yMove _ (.int .i64 (first : Int)) rfl rfl rfl) ?_; go_frame
            refine dY _ hDz1 (yMove _ (.int .i64 (c : Int)) rfl rfl rfl) ?_; go_frame
            refine dY _ hDz1 (yAddZ _ _ _ _ (first : Int) (c : Int) ((first + c : Nat) : Int) (by have := Hc.out; omega) rfl rfl rfl rfl) ?_; go_frame
            refine dY _ hDz1 (yIdxD _ _ g n cap (first + c) (by have := Hc.out; omega) rfl rfl rfl rfl) ?_; go_frame
            refine dY _ hDz1 (yLoadD _ (fun _ h => h) (by have := Hc.out; omega) rfl rfl rfl) ?_; go_frame
            refine dY _ hDz1 (yMove _ (.slice (some ⟨g, 0, none⟩) n cap) rfl rfl rfl) ?_; go_frame
            refine dY _ hDz1 (yMove _ (.int .i64 (first : Int)) rfl rfl rfl) ?_; go_frame
            refine dY _ hDz1 (yMove _ (.int .i64 (c : Int)) rfl rfl rfl) ?_; go_frame
            refine dY _ hDz1 (yAddZ _ _ _ _ (first : Int) (c : Int) ((first + c : Nat) : Int) (by have := Hc.out; omega) rfl rfl rfl rfl) ?_; go_frame
            refine dY _ hDz1 (yAddZ _ _ _ _ ((first + c : Nat) : Int) 1 ((first + c + 1 : Nat) : Int) (by have := Hc.out; omega) rfl rfl rfl rfl) ?_; go_frame
            refine dY _ hDz1 (yIdxD _ _ g n cap (first + c + 1) (by have := Hc.out; omega) rfl rfl rfl rfl) ?_; go_frame
            refine dY _ hDz1 (yLoadD _ (fun _ h => h) (by have := Hc.out; omega) rfl rfl rfl) ?_; go_frame
            refine dLoud ?_
            refine kCall2 65 _ _ _ _ _ rfl rfl (by kernel_rfl) rfl rfl ?_
            refine (kLess_as (decide_eq_true hch) _).mono ?_
            rintro e z' ⟨rfl, rfl⟩
            refine ⟨_, rfl, mixOn ⟨_, (fun _ h => h), hDz1, ?_⟩⟩
            go_frame
            refine dY _ hDz1 (yPick _ _ _ true (.bool true) rfl rfl rfl rfl) ?_; go_frame
            refine dDone ?_
            go_wp2_with (first
              | ((with_reducible change wpList _ _ _ (Oper.mk (some 38) _ _ _ _ _ :: _) _ _); refine kYw (yAddZ _ _ _ _ (c : Int) 1 ((c + 1 : Nat) : Int) (by have := Hc.out; omega) rfl rfl rfl rfl) ?_; go_frame))
            refine region_mixD [(0, true), (1, true), (2, true), (3, true), (4, true), (5, true), (6, true), (7, true), (8, true), (9, true), (10, true), (11, true), (12, false), (13, true)] (fun q => Dat q g n cap dk) (by kernel_rfl) (by kernel_rfl) rfl ?_
            intro z2 hBd hsd; clear hsd
            have hDz2 := hDz1.below hBd
            have hEz2 := hEz1.trans (exc_below g hBd)
            clear hBd hDz1 hEz1
            simp only [List.map_cons, List.map_nil]
            dsimp only [List.filterMap, List.getElem?_cons_zero, List.getElem?_cons_succ]
            refine dY _ hDz2 (yMove _ (.slice (some ⟨g, 0, none⟩) n cap) rfl rfl rfl) ?_; go_frame
            refine dY _ hDz2 (yMove _ (.int .i64 (first : Int)) rfl rfl rfl) ?_; go_frame
            refine dY _ hDz2 (yMove _ (.int .i64 (r : Int)) rfl rfl rfl) ?_; go_frame
            refine dY _ hDz2 (yAddZ _ _ _ _ (first : Int) (r : Int) ((first + r : Nat) : Int) (by have := Hc.out; omega) rfl rfl rfl rfl) ?_; go_frame
            refine dY _ hDz2 (yIdxD _ _ g n cap (first + r) (by have := Hc.out; omega) rfl rfl rfl rfl) ?_; go_frame
            refine dY _ hDz2 (yLoadD _ (fun _ h => h) (by have := Hc.out; omega) rfl rfl rfl) ?_; go_frame
            refine dY _ hDz2 (yMove _ (.slice (some ⟨g, 0, none⟩) n cap) rfl rfl rfl) ?_; go_frame
            refine dY _ hDz2 (yMove _ (.int .i64 (first : Int)) rfl rfl rfl) ?_; go_frame
            refine dY _ hDz2 (yMove _ (.int .i64 ((c + 1 : Nat) : Int)) rfl rfl rfl) ?_; go_frame
            refine dY _ hDz2 (yAddZ _ _ _ _ (first : Int) ((c + 1 : Nat) : Int) ((first + (c + 1) : Nat) : Int) (by have := Hc.out; omega) rfl rfl rfl rfl) ?_; go_frame
            refine dY _ hDz2 (yIdxD _ _ g n cap (first + (c + 1)) (by have := Hc.out; omega) rfl rfl rfl rfl) ?_; go_frame
            refine dY _ hDz2 (yLoadD _ (fun _ h => h) (by have := Hc.out; omega) rfl rfl rfl) ?_; go_frame
            refine dLoud ?_
            refine kCall2 65 _ _ _ _ _ rfl rfl (by kernel_rfl) rfl rfl ?_
            refine (kLess_as (decide_eq_false hls) _).mono ?_
            rintro e z' ⟨rfl, rfl⟩
            refine ⟨_, rfl, mixOn ⟨_, (fun _ h => h), hDz2, ?_⟩⟩
            go_frame
            refine dY _ hDz2 (yNotW _ _ false rfl rfl rfl) ?_; go_frame
            refine dDone ?_
            (try go_wp2)
            (try simp only [Exit.inBlock, Exit.then])
            refine ret0W rfl rfl ?_
            exact ⟨rfl, T, rfl, he.out ▸ hDz2, hEz2⟩
        · skip
          have he := sift_go (hi := hi) (first := first) (root := r) (e := c) (d := dk) (by omega) (by rw [Hc.out, show 2 * r + 2 = c + 1 by omega, if_neg (fun h => hch h.2)])
          rw [Hk.out] at he
          by_cases hls : dv dk (first + r) < dv dk (first + c)
          · rw [if_pos hls] at he
            replace he := Lib.hid he
            go_wp2_with (first
              | ((with_reducible change wpList _ _ _ (Oper.mk (some 12) _ _ _ _ _ :: _) _ _); refine kYw (yMulZ _ _ _ _ 2 (r : Int) ((2 * r : Nat) : Int) (by have := Hc.out; omega) rfl rfl rfl rfl) ?_; go_frame)
              | ((with_reducible change wpList _ _ _ (Oper.mk (some 13) _ _ _ _ _ :: _) _ _); refine kYw (yAddZ _ _ _ _ ((2 * r : Nat) : Int) 1 (c : Int) (by have := Hc.out; omega) rfl rfl rfl rfl) ?_; go_frame)
              | ((with_reducible change wpList _ _ _ (Oper.mk (some 16) _ _ _ _ _ :: _) _ _); refine kYw (yGeqK _ _ _ _ .i64 (c : Int) (hi : Int) false d16 rfl rfl rfl rfl) ?_; go_frame))
            refine region_mixD [(0, true), (1, true), (2, true), (3, true), (4, true), (5, true), (6, true), (7, true), (8, true), (9, true), (10, true), (11, true), (12, true), (13, true), (14, true), (15, true), (16, true), (17, true), (18, false), (19, true)] (fun q => Dat q g n cap dk) (by kernel_rfl) (by kernel_rfl) rfl ?_
            intro z1 hBd hsd; clear hsd
            have hDz1 := hDk.below hBd
            have hEz1 := hEk.trans (exc_below g hBd)
            clear hBd hDk hEk
            simp only [List.map_cons, List.map_nil]
            dsimp only [List.filterMap, List.getElem?_cons_zero, List.getElem?_cons_succ]
            refine dY _ hDz1 (yMove _ (.int .i64 (c : Int)) rfl rfl rfl) ?_; go_frame
            refine dY _ hDz1 (yAddZ _ _ _ _ (c : Int) 1 ((c + 1 : Nat) : Int) (by have := Hc.out; omega) rfl rfl rfl rfl) ?_; go_frame
            refine dY _ hDz1 (yMove _ (.int .i64 (hi : Int)) rfl rfl rfl) ?_; go_frame
            refine dY _ hDz1 (yLssK _ _ _ _ .i64 ((c + 1 : Nat) : Int) (hi : Int) true d20 rfl rfl rfl rfl) ?_; go_frame
            refine dY _ hDz1 (yMove _ (.bool true) rfl rfl rfl) ?_; go_frame
            refine dY _ hDz1 (yMove _ (.slice (some ⟨g, 0, none⟩) n cap) rfl rfl rfl) ?_; go_frame
            refine dY _ hDz1 (yMove _ (.int .i64 (first : Int)) rfl rfl rfl) ?_; go_frame
            refine dY _ hDz1 (yMove _ (.int .i64 (c : Int)) rfl rfl rfl) ?_; go_frame
            refine dY _ hDz1 (yAddZ _ _ _ _ (first : Int) (c : Int) ((first + c : Nat) : Int) (by have := Hc.out; omega) rfl rfl rfl rfl) ?_; go_frame
            refine dY _ hDz1 (yIdxD _ _ g n cap (first + c) (by have := Hc.out; omega) rfl rfl rfl rfl) ?_; go_frame
            refine dY _ hDz1 (yLoadD _ (fun _ h => h) (by have := Hc.out; omega) rfl rfl rfl) ?_; go_frame
            refine dY _ hDz1 (yMove _ (.slice (some ⟨g, 0, none⟩) n cap) rfl rfl rfl) ?_; go_frame
            refine dY _ hDz1 (yMove _ (.int .i64 (first : Int)) rfl rfl rfl) ?_; go_frame
            refine dY _ hDz1 (yMove _ (.int .i64 (c : Int)) rfl rfl rfl) ?_; go_frame
            refine dY _ hDz1 (yAddZ _ _ _ _ (first : Int) (c : Int) ((first + c : Nat) : Int) (by have := Hc.out; omega) rfl rfl rfl rfl) ?_; go_frame
            refine dY _ hDz1 (yAddZ _ _ _ _ ((first + c : Nat) : Int) 1 ((first + c + 1 : Nat) : Int) (by have := Hc.out; omega) rfl rfl rfl rfl) ?_; go_frame
            refine dY _ hDz1 (yIdxD _ _ g n cap (first + c + 1) (by have := Hc.out; omega) rfl rfl rfl rfl) ?_; go_frame
            refine dY _ hDz1 (yLoadD _ (fun _ h => h) (by have := Hc.out; omega) rfl rfl rfl) ?_; go_frame
            refine dLoud ?_
            refine kCall2 65 _ _ _ _ _ rfl rfl (by kernel_rfl) rfl rfl ?_
            refine (kLess_as (decide_eq_false hch) _).mono ?_
            rintro e z' ⟨rfl, rfl⟩
            refine ⟨_, rfl, mixOn ⟨_, (fun _ h => h), hDz1, ?_⟩⟩
            go_frame
            refine dY _ hDz1 (yPick _ _ _ true (.bool false) rfl rfl rfl rfl) ?_; go_frame
            refine dDone ?_
            (try go_wp2)
            refine region_mixD [(0, true), (1, true), (2, true), (3, true), (4, true), (5, true), (6, true), (7, true), (8, true), (9, true), (10, true), (11, true), (12, false), (13, true)] (fun q => Dat q g n cap dk) (by kernel_rfl) (by kernel_rfl) rfl ?_
            intro z2 hBd hsd; clear hsd
            have hDz2 := hDz1.below hBd
            have hEz2 := hEz1.trans (exc_below g hBd)
            clear hBd hDz1 hEz1
            simp only [List.map_cons, List.map_nil]
            dsimp only [List.filterMap, List.getElem?_cons_zero, List.getElem?_cons_succ]
            refine dY _ hDz2 (yMove _ (.slice (some ⟨g, 0, none⟩) n cap) rfl rfl rfl) ?_; go_frame
            refine dY _ hDz2 (yMove _ (.int .i64 (first : Int)) rfl rfl rfl) ?_; go_frame
            refine dY _ hDz2 (yMove _ (.int .i64 (r : Int)) rfl rfl rfl) ?_; go_frame
            refine dY _ hDz2 (yAddZ _ _ _ _ (first : Int) (r : Int) ((first + r : Nat) : Int) (by have := Hc.out; omega) rfl rfl rfl rfl) ?_; go_frame
            refine dY _ hDz2 (yIdxD _ _ g n cap (first + r) (by have := Hc.out; omega) rfl rfl rfl rfl) ?_; go_frame
            refine dY _ hDz2 (yLoadD _ (fun _ h => h) (by have := Hc.out; omega) rfl rfl rfl) ?_; go_frame
            refine dY _ hDz2 (yMove _ (.slice (some ⟨g, 0, none⟩) n cap) rfl rfl rfl) ?_; go_frame
            refine dY _ hDz2 (yMove _ (.int .i64 (first : Int)) rfl rfl rfl) ?_; go_frame
            refine dY _ hDz2 (yMove _ (.int .i64 (c : Int)) rfl rfl rfl) ?_; go_frame
            refine dY _ hDz2 (yAddZ _ _ _ _ (first : Int) (c : Int) ((first + c : Nat) : Int) (by have := Hc.out; omega) rfl rfl rfl rfl) ?_; go_frame
            refine dY _ hDz2 (yIdxD _ _ g n cap (first + c) (by have := Hc.out; omega) rfl rfl rfl rfl) ?_; go_frame
            refine dY _ hDz2 (yLoadD _ (fun _ h => h) (by have := Hc.out; omega) rfl rfl rfl) ?_; go_frame
            refine dLoud ?_
            refine kCall2 65 _ _ _ _ _ rfl rfl (by kernel_rfl) rfl rfl ?_
            refine (kLess_as (decide_eq_true hls) _).mono ?_
            rintro e z' ⟨rfl, rfl⟩
            refine ⟨_, rfl, mixOn ⟨_, (fun _ h => h), hDz2, ?_⟩⟩
            go_frame
            refine dY _ hDz2 (yNotW _ _ true rfl rfl rfl) ?_; go_frame
            refine dDone ?_
            (try go_wp2)
            refine region_tree (.q 0 (.q 1 (.q 2 (.q 3 (.q 4 (.q 5 (.q 6 (.q 7 (.q 8 (.q 9 (.q 10 (.q 11 (.q 12 (.q 14 (.q 15 (.q 16 (.q 17 (.q 18 (.two 13 (.one 19 (.q 20 (.one 21 (.q 22 (.one 23 .fin))))) 19 (.one 13 (.q 20 (.one 21 (.q 22 (.one 23 .fin)))))))))))))))))))))))) (fun _ => True) (by kernel_rfl) (by kernel_rfl) ?_
            intro z3 hBd hsd; clear hsd
            have hDz3 := hDz2.below hBd
            have hEz3 := hEz2.trans (exc_below g hBd)
            clear hBd hDz2 hEz2
            have hS : (fun _ : World => True) z3 := trivial
            refine tY _ hS rfl (yMove _ (.slice (some ⟨g, 0, none⟩) n cap) rfl rfl rfl) ?_; go_frame
            refine tY _ hS rfl (yMove _ (.int .i64 (first : Int)) rfl rfl rfl) ?_; go_frame
            refine tY _ hS rfl (yMove _ (.int .i64 (r : Int)) rfl rfl rfl) ?_; go_frame
            refine tY _ hS rfl (yAddZ _ _ _ _ (first : Int) (r : Int) ((first + r : Nat) : Int) (by have := Hc.out; omega) rfl rfl rfl rfl) ?_; go_frame
            refine tY _ hS rfl (yMove _ (.slice (some ⟨g, 0, none⟩) n cap) rfl rfl rfl) ?_; go_frame
            refine tY _ hS rfl (yMove _ (.int .i64 (first : Int)) rfl rfl rfl) ?_; go_frame
            refine tY _ hS rfl (yMove _ (.int .i64 (c : Int)) rfl rfl rfl) ?_; go_frame
            refine tY _ hS rfl (yAddZ _ _ _ _ (first : Int) (c : Int) ((first + c : Nat) : Int) (by have := Hc.out; omega) rfl rfl rfl rfl) ?_; go_frame
            refine tY _ hS rfl (yMove _ (.slice (some ⟨g, 0, none⟩) n cap) rfl rfl rfl) ?_; go_frame
            refine tY _ hS rfl (yMove _ (.int .i64 (first : Int)) rfl rfl rfl) ?_; go_frame
            refine tY _ hS rfl (yMove _ (.int .i64 (c : Int)) rfl rfl rfl) ?_; go_frame
            refine tY _ hS rfl (yAddZ _ _ _ _ (first : Int) (c : Int) ((first + c : Nat) : Int) (by have := Hc.out; omega) rfl rfl rfl rfl) ?_; go_frame
            refine tY _ hS rfl (yIdxD _ _ g n cap (first + c) (by have := Hc.out; omega) rfl rfl rfl rfl) ?_; go_frame
            refine tY _ hS rfl (yMove _ (.slice (some ⟨g, 0, none⟩) n cap) rfl rfl rfl) ?_; go_frame
            refine tY _ hS rfl (yMove _ (.int .i64 (first : Int)) rfl rfl rfl) ?_; go_frame
            refine tY _ hS rfl (yMove _ (.int .i64 (r : Int)) rfl rfl rfl) ?_; go_frame
            refine tY _ hS rfl (yAddZ _ _ _ _ (first : Int) (r : Int) ((first + r : Nat) : Int) (by have := Hc.out; omega) rfl rfl rfl rfl) ?_; go_frame
            refine tY _ hS rfl (yIdxD _ _ g n cap (first + r) (by have := Hc.out; omega) rfl rfl rfl rfl) ?_; go_frame
            refine tTwoSo (VW (dv dk (first + c))) (VW (dv dk (first + r))) rfl rfl rfl rfl (by decide) (yLoadD _ (fun _ e => by cases e; exact hDz3) (by have := Hc.out; omega) rfl rfl rfl) (yLoadD _ (fun _ e => by cases e; exact hDz3) (by have := Hc.out; omega) rfl rfl rfl) (yLoadD _ (fun _ e => by cases e; exact hDz3) (by have := Hc.out; omega) rfl rfl rfl) (yLoadD _ (fun _ e => by cases e; exact hDz3) (by have := Hc.out; omega) rfl rfl rfl) ?_; go_frame
            refine tY _ hS rfl (yIdxD _ _ g n cap (first + r) (by have := Hc.out; omega) rfl rfl rfl rfl) ?_; go_frame
            refine tOne rfl ?_
            refine kStoreD _ _ g n cap (first + r) (dv dk (first + c)) dk hDz3 (by have := Hc.out; omega) rfl rfl rfl rfl ?_
            intro z3a hDz3a hWn
            have hEz3a := hEz3.trans (exc_wrote hWn)
            clear hWn hDz3 hEz3 hS
            have hS : (fun _ : World => True) z3a := trivial
            refine mixOn ⟨_, (fun _ h => h), hS, ?_⟩
            go_frame
            refine tY _ hS rfl (yIdxD _ _ g n cap (first + c) (by have := Hc.out; omega) rfl rfl rfl rfl) ?_; go_frame
            refine tOne rfl ?_
            refine kStoreD _ _ g n cap (first + c) (dv dk (first + r)) ((dk.setIfInBounds (first + r) (dv dk (first + c)))) hDz3a (by have := Hc.out; omega) rfl rfl rfl rfl ?_
            intro z3b hDz3b hWn
            have hEz3b := hEz3a.trans (exc_wrote hWn)
            clear hWn hDz3a hEz3a hS
            have hS : (fun _ : World => True) z3b := trivial
            refine mixOn ⟨_, (fun _ h => h), hS, ?_⟩
            go_frame
            refine tDone ?_
            clear hS
            have hFz3 : Dat z3b g n cap (Sort.swp dk (first + r) (first + c)) := hDz3b
            clear hDz3b
            go_wp2
            go_roundw
            case rel => exact ⟨c, _, by omega, rfl, hFz3, hEz3b, Lib.hid he.out.symm⟩
            case measure => first | (simp [intOf]; done) | (simp [intOf]; omega)
          · rw [if_neg hls] at he
            replace he := Lib.hid he
            go_wp2_with (first
              | ((with_reducible change wpList _ _ _ (Oper.mk (some 12) _ _ _ _ _ :: _) _ _); refine kYw (yMulZ _ _ _ _ 2 (r : Int) ((2 * r : Nat) : Int) (by have := Hc.out; omega) rfl rfl rfl rfl) ?_; go_frame)
              | ((with_reducible change wpList _ _ _ (Oper.mk (some 13) _ _ _ _ _ :: _) _ _); refine kYw (yAddZ _ _ _ _ ((2 * r : Nat) : Int) 1 (c : Int) (by have := Hc.out; omega) rfl rfl rfl rfl) ?_; go_frame)
              | ((with_reducible change wpList _ _ _ (Oper.mk (some 16) _ _ _ _ _ :: _) _ _); refine kYw (yGeqK _ _ _ _ .i64 (c : Int) (hi : Int) false d16 rfl rfl rfl rfl) ?_; go_frame))
            refine region_mixD [(0, true), (1, true), (2, true), (3, true), (4, true), (5, true), (6, true), (7, true), (8, true), (9, true), (10, true), (11, true), (12, true), (13, true), (14, true), (15, true), (16, true), (17, true), (18, false), (19, true)] (fun q => Dat q g n cap dk) (by kernel_rfl) (by kernel_rfl) rfl ?_
            intro z1 hBd hsd; clear hsd
            have hDz1 := hDk.below hBd
            have hEz1 := hEk.trans (exc_below g hBd)
            clear hBd hDk hEk
            simp only [List.map_cons, List.map_nil]
            dsimp only [List.filterMap, List.getElem?_cons_zero, List.getElem?_cons_succ]
            refine dY _ hDz1 (yMove _ (.int .i64 (c : Int)) rfl rfl rfl) ?_; go_frame
            refine dY _ hDz1 (yAddZ _ _ _ _ (c : Int) 1 ((c + 1 : Nat) : Int) (by have := Hc.out; omega) rfl rfl rfl rfl) ?_; go_frame
            refine dY _ hDz1 (yMove _ (.int .i64 (hi : Int)) rfl rfl rfl) ?_; go_frame
            refine dY _ hDz1 (yLssK _ _ _ _ .i64 ((c + 1 : Nat) : Int) (hi : Int) true d20 rfl rfl rfl rfl) ?_; go_frame
            refine dY _ hDz1 (yMove _ (.bool true) rfl rfl rfl) ?_; go_frame
            refine dY _ hDz1 (yMove _ (.slice (some ⟨g, 0, none⟩) n cap) rfl rfl rfl) ?_; go_frame
            refine dY _ hDz1 (yMove _ (.int .i64 (first : Int)) rfl rfl rfl) ?_; go_frame
            refine dY _ hDz1 (yMove _ (.int .i64 (c : Int)) rfl rfl rfl) ?_; go_frame
            refine dY _ hDz1 (yAddZ _ _ _ _ (first : Int) (c : Int) ((first + c : Nat) : Int) (by have := Hc.out; omega) rfl rfl rfl rfl) ?_; go_frame
            refine dY _ hDz1 (yIdxD _ _ g n cap (first + c) (by have := Hc.out; omega) rfl rfl rfl rfl) ?_; go_frame
            refine dY _ hDz1 (yLoadD _ (fun _ h => h) (by have := Hc.out; omega) rfl rfl rfl) ?_; go_frame
            refine dY _ hDz1 (yMove _ (.slice (some ⟨g, 0, none⟩) n cap) rfl rfl rfl) ?_; go_frame
            refine dY _ hDz1 (yMove _ (.int .i64 (first : Int)) rfl rfl rfl) ?_; go_frame
            refine dY _ hDz1 (yMove _ (.int .i64 (c : Int)) rfl rfl rfl) ?_; go_frame
            refine dY _ hDz1 (yAddZ _ _ _ _ (first : Int) (c : Int) ((first + c : Nat) : Int) (by have := Hc.out; omega) rfl rfl rfl rfl) ?_; go_frame
            refine dY _ hDz1 (yAddZ _ _ _ _ ((first + c : Nat) : Int) 1 ((first + c + 1 : Nat) : Int) (by have := Hc.out; omega) rfl rfl rfl rfl) ?_; go_frame
            refine dY _ hDz1 (yIdxD _ _ g n cap (first + c + 1) (by have := Hc.out; omega) rfl rfl rfl rfl) ?_; go_frame
            refine dY _ hDz1 (yLoadD _ (fun _ h => h) (by have := Hc.out; omega) rfl rfl rfl) ?_; go_frame
            refine dLoud ?_
            refine kCall2 65 _ _ _ _ _ rfl rfl (by kernel_rfl) rfl rfl ?_
            refine (kLess_as (decide_eq_false hch) _).mono ?_
            rintro e z' ⟨rfl, rfl⟩
            refine ⟨_, rfl, mixOn ⟨_, (fun _ h => h), hDz1, ?_⟩⟩
            go_frame
            refine dY _ hDz1 (yPick _ _ _ true (.bool false) rfl rfl rfl rfl) ?_; go_frame
            refine dDone ?_
            (try go_wp2)
            refine region_mixD [(0, true), (1, true), (2, true), (3, true), (4, true), (5, true), (6, true), (7, true), (8, true), (9, true), (10, true), (11, true), (12, false), (13, true)] (fun q => Dat q g n cap dk) (by kernel_rfl) (by kernel_rfl) rfl ?_
            intro z2 hBd hsd; clear hsd
            have hDz2 := hDz1.below hBd
            have hEz2 := hEz1.trans (exc_below g hBd)
            clear hBd hDz1 hEz1
            simp only [List.map_cons, List.map_nil]
            dsimp only [List.filterMap, List.getElem?_cons_zero, List.getElem?_cons_succ]
            refine dY _ hDz2 (yMove _ (.slice (some ⟨g, 0, none⟩) n cap) rfl rfl rfl) ?_; go_frame
            refine dY _ hDz2 (yMove _ (.int .i64 (first : Int)) rfl rfl rfl) ?_; go_frame
            refine dY _ hDz2 (yMove _ (.int .i64 (r : Int)) rfl rfl rfl) ?_; go_frame
            refine dY _ hDz2 (yAddZ _ _ _ _ (first : Int) (r : Int) ((first + r : Nat) : Int) (by have := Hc.out; omega) rfl rfl rfl rfl) ?_; go_frame
            refine dY _ hDz2 (yIdxD _ _ g n cap (first + r) (by have := Hc.out; omega) rfl rfl rfl rfl) ?_; go_frame
            refine dY _ hDz2 (yLoadD _ (fun _ h => h) (by have := Hc.out; omega) rfl rfl rfl) ?_; go_frame
            refine dY _ hDz2 (yMove _ (.slice (some ⟨g, 0, none⟩) n cap) rfl rfl rfl) ?_; go_frame
            refine dY _ hDz2 (yMove _ (.int .i64 (first : Int)) rfl rfl rfl) ?_; go_frame
            refine dY _ hDz2 (yMove _ (.int .i64 (c : Int)) rfl rfl rfl) ?_; go_frame
            refine dY _ hDz2 (yAddZ _ _ _ _ (first : Int) (c : Int) ((first + c : Nat) : Int) (by have := Hc.out; omega) rfl rfl rfl rfl) ?_; go_frame
            refine dY _ hDz2 (yIdxD _ _ g n cap (first + c) (by have := Hc.out; omega) rfl rfl rfl rfl) ?_; go_frame
            refine dY _ hDz2 (yLoadD _ (fun _ h => h) (by have := Hc.out; omega) rfl rfl rfl) ?_; go_frame
            refine dLoud ?_
            refine kCall2 65 _ _ _ _ _ rfl rfl (by kernel_rfl) rfl rfl ?_
            refine (kLess_as (decide_eq_false hls) _).mono ?_
            rintro e z' ⟨rfl, rfl⟩
            refine ⟨_, rfl, mixOn ⟨_, (fun _ h => h), hDz2, ?_⟩⟩
            go_frame
            refine dY _ hDz2 (yNotW _ _ false rfl rfl rfl) ?_; go_frame
            refine dDone ?_
            (try go_wp2)
            (try simp only [Exit.inBlock, Exit.then])
            refine ret0W rfl rfl ?_
            exact ⟨rfl, T, rfl, he.out ▸ hDz2, hEz2⟩
      · have d20 : decide (((c + 1 : Nat) : Int) < (hi : Int)) = false := by simp; omega
        have he := sift_go (hi := hi) (first := first) (root := r) (e := c) (d := dk) (by omega) (by rw [Hc.out, show 2 * r + 2 = c + 1 by omega, if_neg (fun h => h2 h.1)])
        rw [Hk.out] at he
        by_cases hls : dv dk (first + r) < dv dk (first + c)
        · rw [if_pos hls] at he
          replace he := Lib.hid he
          go_wp2_with (first
            | ((with_reducible change wpList _ _ _ (Oper.mk (some 12) _ _ _ _ _ :: _) _ _); refine kYw (yMulZ _ _ _ _ 2 (r : Int) ((2 * r : Nat) : Int) (by have := Hc.out; omega) rfl rfl rfl rfl) ?_; go_frame)
            | ((with_reducible change wpList _ _ _ (Oper.mk (some 13) _ _ _ _ _ :: _) _ _); refine kYw (yAddZ _ _ _ _ ((2 * r : Nat) : Int) 1 (c : Int) (by have := Hc.out; omega) rfl rfl rfl rfl) ?_; go_frame)
            | ((with_reducible change wpList _ _ _ (Oper.mk (some 16) _ _ _ _ _ :: _) _ _); refine kYw (yGeqK _ _ _ _ .i64 (c : Int) (hi : Int) false d16 rfl rfl rfl rfl) ?_; go_frame))
          refine region_mixD [(0, true), (1, true), (2, true), (3, true), (4, true), (5, true), (6, true), (7, true), (8, true), (9, true), (10, true), (11, true), (12, true), (13, true), (14, true), (15, true), (16, true), (17, true), (18, true), (19, true)] (fun q => Dat q g n cap dk) (by kernel_rfl) (by kernel_rfl) rfl ?_
          intro z1 hBd hsd; clear hsd
          have hDz1 := hDk.below hBd
          have hEz1 := hEk.trans (exc_below g hBd)
          clear hBd hDk hEk
          simp only [List.map_cons, List.map_nil]
          dsimp only [List.filterMap, List.getElem?_cons_zero, List.getElem?_cons_succ]
          refine dY _ hDz1 (yMove _ (.int .i64 (c : Int)) rfl rfl rfl) ?_; go_frame
          refine dY _ hDz1 (yAddZ _ _ _ _ (c : Int) 1 ((c + 1 : Nat) : Int) (by have := Hc.out; omega) rfl rfl rfl rfl) ?_; go_frame
          refine dY _ hDz1 (yMove _ (.int .i64 (hi : Int)) rfl rfl rfl) ?_; go_frame
          refine dY _ hDz1 (yLssK _ _ _ _ .i64 ((c + 1 : Nat) : Int) (hi : Int) false d20 rfl rfl rfl rfl) ?_; go_frame
          refine dY _ hDz1 (yMove _ (.bool false) rfl rfl rfl) ?_; go_frame
          refine dY _ hDz1 (ySkip rfl) ?_; go_frame
          refine dY _ hDz1 (ySkip rfl) ?_; go_frame
          refine dY _ hDz1 (ySkip rfl) ?_; go_frame
          refine dY _ hDz1 (ySkip rfl) ?_; go_frame
          refine dY _ hDz1 (ySkip rfl) ?_; go_frame
          refine dY _ hDz1 (ySkip rfl) ?_; go_frame
          refine dY _ hDz1 (ySkip rfl) ?_; go_frame
          refine dY _ hDz1 (ySkip rfl) ?_; go_frame
          refine dY _ hDz1 (ySkip rfl) ?_; go_frame
          refine dY _ hDz1 (ySkip rfl) ?_; go_frame
          refine dY _ hDz1 (ySkip rfl) ?_; go_frame
          refine dY _ hDz1 (ySkip rfl) ?_; go_frame
          refine dY _ hDz1 (ySkip rfl) ?_; go_frame
          refine dY _ hDz1 (ySkip rfl) ?_; go_frame
          refine dY _ hDz1 (yPick _ _ _ false (.bool false) rfl rfl rfl rfl) ?_; go_frame
          refine dDone ?_
          (try go_wp2)
          refine region_mixD [(0, true), (1, true), (2, true), (3, true), (4, true), (5, true), (6, true), (7, true), (8, true), (9, true), (10, true), (11, true), (12, false), (13, true)] (fun q => Dat q g n cap dk) (by kernel_rfl) (by kernel_rfl) rfl ?_
          intro z2 hBd hsd; clear hsd
          have hDz2 := hDz1.below hBd
          have hEz2 := hEz1.trans (exc_below g hBd)
          clear hBd hDz1 hEz1
          simp only [List.map_cons, List.map_nil]
          dsimp only [List.filterMap, List.getElem?_cons_zero, List.getElem?_cons_succ]
          refine dY _ hDz2 (yMove _ (.slice (some ⟨g, 0, none⟩) n cap) rfl rfl rfl) ?_; go_frame
          refine dY _ hDz2 (yMove _ (.int .i64 (first : Int)) rfl rfl rfl) ?_; go_frame
          refine dY _ hDz2 (yMove _ (.int .i64 (r : Int)) rfl rfl rfl) ?_; go_frame
          refine dY _ hDz2 (yAddZ _ _ _ _ (first : Int) (r : Int) ((first + r : Nat) : Int) (by have := Hc.out; omega) rfl rfl rfl rfl) ?_; go_frame
          refine dY _ hDz2 (yIdxD _ _ g n cap (first + r) (by have := Hc.out; omega) rfl rfl rfl rfl) ?_; go_frame
          refine dY _ hDz2 (yLoadD _ (fun _ h => h) (by have := Hc.out; omega) rfl rfl rfl) ?_; go_frame
          refine dY _ hDz2 (yMove _ (.slice (some ⟨g, 0, none⟩) n cap) rfl rfl rfl) ?_; go_frame
          refine dY _ hDz2 (yMove _ (.int .i64 (first : Int)) rfl rfl rfl) ?_; go_frame
          refine dY _ hDz2 (yMove _ (.int .i64 (c : Int)) rfl rfl rfl) ?_; go_frame
          refine dY _ hDz2 (yAddZ _ _ _ _ (first : Int) (c : Int) ((first + c : Nat) : Int) (by have := Hc.out; omega) rfl rfl rfl rfl) ?_; go_frame
          refine dY _ hDz2 (yIdxD _ _ g n cap (first + c) (by have := Hc.out; omega) rfl rfl rfl rfl) ?_; go_frame
          refine dY _ hDz2 (yLoadD _ (fun _ h => h) (by have := Hc.out; omega) rfl rfl rfl) ?_; go_frame
          refine dLoud ?_
          refine kCall2 65 _ _ _ _ _ rfl rfl (by kernel_rfl) rfl rfl ?_
          refine (kLess_as (decide_eq_true hls) _).mono ?_
          rintro e z' ⟨rfl, rfl⟩
          refine ⟨_, rfl, mixOn ⟨_, (fun _ h => h), hDz2, ?_⟩⟩
          go_frame
          refine dY _ hDz2 (yNotW _ _ true rfl rfl rfl) ?_; go_frame
          refine dDone ?_
          (try go_wp2)
          refine region_tree (.q 0 (.q 1 (.q 2 (.q 3 (.q 4 (.q 5 (.q 6 (.q 7 (.q 8 (.q 9 (.q 10 (.q 11 (.q 12 (.q 14 (.q 15 (.q 16 (.q 17 (.q 18 (.two 13 (.one 19 (.q 20 (.one 21 (.q 22 (.one 23 .fin))))) 19 (.one 13 (.q 20 (.one 21 (.q 22 (.one 23 .fin)))))))))))))))))))))))) (fun _ => True) (by kernel_rfl) (by kernel_rfl) ?_
          intro z3 hBd hsd; clear hsd
          have hDz3 := hDz2.below hBd
          have hEz3 := hEz2.trans (exc_below g hBd)
          clear hBd hDz2 hEz2
          have hS : (fun _ : World => True) z3 := trivial
          refine tY _ hS rfl (yMove _ (.slice (some ⟨g, 0, none⟩) n cap) rfl rfl rfl) ?_; go_frame
          refine tY _ hS rfl (yMove _ (.int .i64 (first : Int)) rfl rfl rfl) ?_; go_frame
          refine tY _ hS rfl (yMove _ (.int .i64 (r : Int)) rfl rfl rfl) ?_; go_frame
          refine tY _ hS rfl (yAddZ _ _ _ _ (first : Int) (r : Int) ((first + r : Nat) : Int) (by have := Hc.out; omega) rfl rfl rfl rfl) ?_; go_frame
          refine tY _ hS rfl (yMove _ (.slice (some ⟨g, 0, none⟩) n cap) rfl rfl rfl) ?_; go_frame
          refine tY _ hS rfl (yMove _ (.int .i64 (first : Int)) rfl rfl rfl) ?_; go_frame
          refine tY _ hS rfl (yMove _ (.int .i64 (c : Int)) rfl rfl rfl) ?_; go_frame
          refine tY _ hS rfl (yAddZ _ _ _ _ (first : Int) (c : Int) ((first + c : Nat) : Int) (by have := Hc.out; omega) rfl rfl rfl rfl) ?_; go_frame
          refine tY _ hS rfl (yMove _ (.slice (some ⟨g, 0, none⟩) n cap) rfl rfl rfl) ?_; go_frame
          refine tY _ hS rfl (yMove _ (.int .i64 (first : Int)) rfl rfl rfl) ?_; go_frame
          refine tY _ hS rfl (yMove _ (.int .i64 (c : Int)) rfl rfl rfl) ?_; go_frame
          refine tY _ hS rfl (yAddZ _ _ _ _ (first : Int) (c : Int) ((first + c : Nat) : Int) (by have := Hc.out; omega) rfl rfl rfl rfl) ?_; go_frame
          refine tY _ hS rfl (yIdxD _ _ g n cap (first + c) (by have := Hc.out; omega) rfl rfl rfl rfl) ?_; go_frame
          refine tY _ hS rfl (yMove _ (.slice (some ⟨g, 0, none⟩) n cap) rfl rfl rfl) ?_; go_frame
          refine tY _ hS rfl (yMove _ (.int .i64 (first : Int)) rfl rfl rfl) ?_; go_frame
          refine tY _ hS rfl (yMove _ (.int .i64 (r : Int)) rfl rfl rfl) ?_; go_frame
          refine tY _ hS rfl (yAddZ _ _ _ _ (first : Int) (r : Int) ((first + r : Nat) : Int) (by have := Hc.out; omega) rfl rfl rfl rfl) ?_; go_frame
          refine tY _ hS rfl (yIdxD _ _ g n cap (first + r) (by have := Hc.out; omega) rfl rfl rfl rfl) ?_; go_frame
          refine tTwoSo (VW (dv dk (first + c))) (VW (dv dk (first + r))) rfl rfl rfl rfl (by decide) (yLoadD _ (fun _ e => by cases e; exact hDz3) (by have := Hc.out; omega) rfl rfl rfl) (yLoadD _ (fun _ e => by cases e; exact hDz3) (by have := Hc.out; omega) rfl rfl rfl) (yLoadD _ (fun _ e => by cases e; exact hDz3) (by have := Hc.out; omega) rfl rfl rfl) (yLoadD _ (fun _ e => by cases e; exact hDz3) (by have := Hc.out; omega) rfl rfl rfl) ?_; go_frame
          refine tY _ hS rfl (yIdxD _ _ g n cap (first + r) (by have := Hc.out; omega) rfl rfl rfl rfl) ?_; go_frame
          refine tOne rfl ?_
          refine kStoreD _ _ g n cap (first + r) (dv dk (first + c)) dk hDz3 (by have := Hc.out; omega) rfl rfl rfl rfl ?_
          intro z3a hDz3a hWn
          have hEz3a := hEz3.trans (exc_wrote hWn)
          clear hWn hDz3 hEz3 hS
          have hS : (fun _ : World => True) z3a := trivial
          refine mixOn ⟨_, (fun _ h => h), hS, ?_⟩
          go_frame
          refine tY _ hS rfl (yIdxD _ _ g n cap (first + c) (by have := Hc.out; omega) rfl rfl rfl rfl) ?_; go_frame
          refine tOne rfl ?_
          refine kStoreD _ _ g n cap (first + c) (dv dk (first + r)) ((dk.setIfInBounds (first + r) (dv dk (first + c)))) hDz3a (by have := Hc.out; omega) rfl rfl rfl rfl ?_
          intro z3b hDz3b hWn
          have hEz3b := hEz3a.trans (exc_wrote hWn)
          clear hWn hDz3a hEz3a hS
          have hS : (fun _ : World => True) z3b := trivial
          refine mixOn ⟨_, (fun _ h => h), hS, ?_⟩
          go_frame
          refine tDone ?_
          clear hS
          have hFz3 : Dat z3b g n cap (Sort.swp dk (first + r) (first + c)) := hDz3b
          clear hDz3b
          go_wp2
          go_roundw
          case rel => exact ⟨c, _, by omega, rfl, hFz3, hEz3b, Lib.hid he.out.symm⟩
          case measure => first | (simp [intOf]; done) | (simp [intOf]; omega)
        · rw [if_neg hls] at he
          replace he := Lib.hid he
          go_wp2_with (first
            | ((with_reducible change wpList _ _ _ (Oper.mk (some 12) _ _ _ _ _ :: _) _ _); refine kYw (yMulZ _ _ _ _ 2 (r : Int) ((2 * r : Nat) : Int) (by have := Hc.out; omega) rfl rfl rfl rfl) ?_; go_frame)
            | ((with_reducible change wpList _ _ _ (Oper.mk (some 13) _ _ _ _ _ :: _) _ _); refine kYw (yAddZ _ _ _ _ ((2 * r : Nat) : Int) 1 (c : Int) (by have := Hc.out; omega) rfl rfl rfl rfl) ?_; go_frame)
            | ((with_reducible change wpList _ _ _ (Oper.mk (some 16) _ _ _ _ _ :: _) _ _); refine kYw (yGeqK _ _ _ _ .i64 (c : Int) (hi : Int) false d16 rfl rfl rfl rfl) ?_; go_frame))
          refine region_mixD [(0, true), (1, true), (2, true), (3, true), (4, true), (5, true), (6, true), (7, true), (8, true), (9, true), (10, true), (11, true), (12, true), (13, true), (14, true), (15, true), (16, true), (17, true), (18, true), (19, true)] (fun q => Dat q g n cap dk) (by kernel_rfl) (by kernel_rfl) rfl ?_
          intro z1 hBd hsd; clear hsd
          have hDz1 := hDk.below hBd
          have hEz1 := hEk.trans (exc_below g hBd)
          clear hBd hDk hEk
          simp only [List.map_cons, List.map_nil]
          dsimp only [List.filterMap, List.getElem?_cons_zero, List.getElem?_cons_succ]
          refine dY _ hDz1 (yMove _ (.int .i64 (c : Int)) rfl rfl rfl) ?_; go_frame
          refine dY _ hDz1 (yAddZ _ _ _ _ (c : Int) 1 ((c + 1 : Nat) : Int) (by have := Hc.out; omega) rfl rfl rfl rfl) ?_; go_frame
          refine dY _ hDz1 (yMove _ (.int .i64 (hi : Int)) rfl rfl rfl) ?_; go_frame
          refine dY _ hDz1 (yLssK _ _ _ _ .i64 ((c + 1 : Nat) : Int) (hi : Int) false d20 rfl rfl rfl rfl) ?_; go_frame
          refine dY _ hDz1 (yMove _ (.bool false) rfl rfl rfl) ?_; go_frame
          refine dY _ hDz1 (ySkip rfl) ?_; go_frame
          refine dY _ hDz1 (ySkip rfl) ?_; go_frame
          refine dY _ hDz1 (ySkip rfl) ?_; go_frame
          refine dY _ hDz1 (ySkip rfl) ?_; go_frame
          refine dY _ hDz1 (ySkip rfl) ?_; go_frame
          refine dY _ hDz1 (ySkip rfl) ?_; go_frame
          refine dY _ hDz1 (ySkip rfl) ?_; go_frame
          refine dY _ hDz1 (ySkip rfl) ?_; go_frame
          refine dY _ hDz1 (ySkip rfl) ?_; go_frame
          refine dY _ hDz1 (ySkip rfl) ?_; go_frame
          refine dY _ hDz1 (ySkip rfl) ?_; go_frame
          refine dY _ hDz1 (ySkip rfl) ?_; go_frame
          refine dY _ hDz1 (ySkip rfl) ?_; go_frame
          refine dY _ hDz1 (ySkip rfl) ?_; go_frame
          refine dY _ hDz1 (yPick _ _ _ false (.bool false) rfl rfl rfl rfl) ?_; go_frame
          refine dDone ?_
          (try go_wp2)
          refine region_mixD [(0, true), (1, true), (2, true), (3, true), (4, true), (5, true), (6, true), (7, true), (8, true), (9, true), (10, true), (11, true), (12, false), (13, true)] (fun q => Dat q g n cap dk) (by kernel_rfl) (by kernel_rfl) rfl ?_
          intro z2 hBd hsd; clear hsd
          have hDz2 := hDz1.below hBd
          have hEz2 := hEz1.trans (exc_below g hBd)
          clear hBd hDz1 hEz1
          simp only [List.map_cons, List.map_nil]
          dsimp only [List.filterMap, List.getElem?_cons_zero, List.getElem?_cons_succ]
          refine dY _ hDz2 (yMove _ (.slice (some ⟨g, 0, none⟩) n cap) rfl rfl rfl) ?_; go_frame
          refine dY _ hDz2 (yMove _ (.int .i64 (first : Int)) rfl rfl rfl) ?_; go_frame
          refine dY _ hDz2 (yMove _ (.int .i64 (r : Int)) rfl rfl rfl) ?_; go_frame
          refine dY _ hDz2 (yAddZ _ _ _ _ (first : Int) (r : Int) ((first + r : Nat) : Int) (by have := Hc.out; omega) rfl rfl rfl rfl) ?_; go_frame
          refine dY _ hDz2 (yIdxD _ _ g n cap (first + r) (by have := Hc.out; omega) rfl rfl rfl rfl) ?_; go_frame
          refine dY _ hDz2 (yLoadD _ (fun _ h => h) (by have := Hc.out; omega) rfl rfl rfl) ?_; go_frame
          refine dY _ hDz2 (yMove _ (.slice (some ⟨g, 0, none⟩) n cap) rfl rfl rfl) ?_; go_frame
          refine dY _ hDz2 (yMove _ (.int .i64 (first : Int)) rfl rfl rfl) ?_; go_frame
          refine dY _ hDz2 (yMove _ (.int .i64 (c : Int)) rfl rfl rfl) ?_; go_frame
          refine dY _ hDz2 (yAddZ _ _ _ _ (first : Int) (c : Int) ((first + c : Nat) : Int) (by have := Hc.out; omega) rfl rfl rfl rfl) ?_; go_frame
          refine dY _ hDz2 (yIdxD _ _ g n cap (first + c) (by have := Hc.out; omega) rfl rfl rfl rfl) ?_; go_frame
          refine dY _ hDz2 (yLoadD _ (fun _ h => h) (by have := Hc.out; omega) rfl rfl rfl) ?_; go_frame
          refine dLoud ?_
          refine kCall2 65 _ _ _ _ _ rfl rfl (by kernel_rfl) rfl rfl ?_
          refine (kLess_as (decide_eq_false hls) _).mono ?_
          rintro e z' ⟨rfl, rfl⟩
          refine ⟨_, rfl, mixOn ⟨_, (fun _ h => h), hDz2, ?_⟩⟩
          go_frame
          refine dY _ hDz2 (yNotW _ _ false rfl rfl rfl) ?_; go_frame
          refine dDone ?_
          (try go_wp2)
          (try simp only [Exit.inBlock, Exit.then])
          refine ret0W rfl rfl ?_
          exact ⟨rfl, T, rfl, he.out ▸ hDz2, hEz2⟩
set_option maxRecDepth 100000 in
set_option maxHeartbeats 16000000 in
theorem sHeap_any {g n cap a b : Nat} {d : Array Nat} (w : World) (hD : Dat w g n cap d) (hab : a < b) (hb : b ≤ n) (hn : n ≤ 50) : Calls Try.prog 60 #[.slice (some ⟨g, 0, none⟩) n cap, .int .i64 (a : Int), .int .i64 (b : Int)] w (SoPost w g n cap fun d' => PermI a b d d' ∧ Srt a b d') := by
  obtain ⟨T, HT⟩ : ∃ T, Hid (Sort.heapSort ltN d a b = T) := ⟨_, Lib.hid rfl⟩
  have hT : PermI a b d T ∧ Srt a b T := by
    have := Sort.heapSort_holds (lt := ltN) swoN d a b (Nat.le_of_lt hab) (by rw [hD.size]; exact hb)
    rw [HT.out] at this; exact ⟨this.1, srt_of this.2⟩
  obtain ⟨h, Hh⟩ : ∃ h, Hid (b - a = h) := ⟨_, Lib.hid rfl⟩
  obtain ⟨q, Hq⟩ : ∃ q, Hid ((h - 1) / 2 = q) := ⟨_, Lib.hid rfl⟩
  have HT : Hid (Sort.heapPop ltN a h (Sort.heapBuild ltN h a (q + 1) d) = T) := Lib.hid (by rw [← HT.out, ← Hq.out, ← Hh.out]; rfl)
  have hE := exc_refl g w
  have hh := Hh.out
  have hq := Hq.out
  go_enter Try.func60, Try.ntmps60
  go_wp2_with (first
    | ((with_reducible change wpList _ _ _ (Oper.mk (some 14) _ _ _ _ _ :: _) _ _); refine kYw (ySubZ _ _ _ _ (b : Int) (a : Int) (h : Int) (by have := Hh.out; have := Hq.out; omega) rfl rfl rfl rfl) ?_; go_frame)
    | ((with_reducible change wpList _ _ _ (Oper.mk (some 16) _ _ _ _ _ :: _) _ _); refine kYw (ySubZ _ _ _ _ (h : Int) 1 ((h - 1 : Nat) : Int) (by have := Hh.out; have := Hq.out; omega) rfl rfl rfl rfl) ?_; go_frame)
    | ((with_reducible change wpList _ _ _ (Oper.mk (some 17) _ _ _ _ _ :: _) _ _); refine kYw (yQuoN .i64 _ _ _ _ (h - 1) 2 q ⟨(by have := Hh.out; have := Hq.out; omega), by decide, wrap_i64N (by have := Hh.out; have := Hq.out; omega)⟩ rfl rfl rfl rfl) ?_; go_frame))
  go_loopw [9] (fun i wr => ∃ (k : Nat) (z : Int) (dk : Array Nat), k ≤ q + 1 ∧ Hid (z = (k : Int) - 1) ∧ i = .int .i64 z ∧ Dat wr g n cap dk ∧ Exc g w wr ∧ Hid (Sort.heapPop ltN a h (Sort.heapBuild ltN h a k dk) = T)) (fun i _ => (intOf i + 1).toNat)
  case atStart => exact ⟨q + 1, (q : Int), d, Nat.le_refl _, Lib.hid (by omega), rfl, hD, hE, HT⟩
  case round =>
    obtain ⟨k, z, dk, hk, Hz, rfl, hDk, hEk, Hk⟩ := hrel
    clear hD hE HT
    have hz := Hz.out
    cases k with
    | succ p =>
      obtain rfl : z = (p : Int) := by omega
      have d19 : decide ((p : Int) ≥ 0) = true := by simp
      obtain ⟨D1, HD1⟩ : ∃ D1, Hid (Sort.siftDown ltN h a p dk = D1) := ⟨_, Lib.hid rfl⟩
      have hk1 : Hid (Sort.heapPop ltN a h (Sort.heapBuild ltN h a p D1) = T) := Lib.hid (by rw [← Hk.out, ← HD1.out]; rfl)
      clear hz Hz Hk
      go_wp2_with (first
        | ((with_reducible change wpList _ _ _ (Oper.mk (some 19) _ _ _ _ _ :: _) _ _); refine kYw (yGeqK _ _ _ _ .i64 (p : Int) 0 true d19 rfl rfl rfl rfl) ?_; go_frame)
        | (go_at_call 70; refine (sSift_any _ hDk (by omega) hn (by omega) HD1.out).mono ?_; rintro e xs1 ⟨rfl, D2, rfl, hDs1, hEqs1⟩; have hEs1 := hEk.trans hEqs1; clear hEqs1 hDk hEk; go_frame)
        | ((with_reducible change wpList _ _ _ (Oper.mk (some 21) _ _ _ _ _ :: _) _ _); refine kYw (ySubZ _ _ _ _ (p : Int) 1 ((p : Int) - 1) (by omega) rfl rfl rfl rfl) ?_; go_frame))
      go_roundw
      case rel => exact ⟨p, _, _, by omega, Lib.hid rfl, rfl, hDs1, hEs1, hk1⟩
      case measure => first | (simp [intOf]; done) | (simp [intOf]; omega)
    | zero =>
      have d19 : decide (z ≥ 0) = false := by simp; omega
      have hk1 : Hid (Sort.heapPop ltN a h dk = T) := Hk
      go_wp2_with (first
        | ((with_reducible change wpList _ _ _ (Oper.mk (some 19) _ _ _ _ _ :: _) _ _); refine kYw (yGeqK _ _ _ _ .i64 z 0 false d19 rfl rfl rfl rfl) ?_; go_frame)
        | ((with_reducible change wpList _ _ _ (Oper.mk (some 28) _ _ _ _ _ :: _) _ _); refine kYw (ySubZ _ _ _ _ (h : Int) 1 ((h : Int) - 1) (by omega) rfl rfl rfl rfl) ?_; go_frame))
      obtain ⟨wo, hwo⟩ : ∃ wo : World, wo = wr := ⟨_, rfl⟩
      subst hwo
      go_loopw [10] (fun i wq => ∃ (k : Nat) (y : Int) (dm : Array Nat), k ≤ h ∧ Hid (y = (k : Int) - 1) ∧ i = .int .i64 y ∧ Dat wq g n cap dm ∧ Exc g w wq ∧ Hid (Sort.heapPop ltN a k dm = T)) (fun i _ => (intOf i + 1).toNat)
      case atStart => exact ⟨h, _, dk, Nat.le_refl _, Lib.hid rfl, rfl, hDk, hEk, hk1⟩
      case round =>
        obtain ⟨k, y, dm, hk2, Hy, rfl, hDm, hEm, Hm⟩ := hrel
        clear hDk hEk hk1 Hk
        have hy := Hy.out
        cases k with
        | succ p =>
          obtain rfl : y = (p : Int) := by omega
          have d30 : decide ((p : Int) ≥ 0) = true := by simp
          obtain ⟨D1, HD1⟩ : ∃ D1, Hid (Sort.siftDown ltN p a 0 (Sort.swp dm a (a + p)) = D1) := ⟨_, Lib.hid rfl⟩
          have hk3 : Hid (Sort.heapPop ltN a p D1 = T) := Lib.hid (by rw [← Hm.out, ← HD1.out]; rfl)
          clear hy Hy Hm
          go_wp2_with (first
            | ((with_reducible change wpList _ _ _ (Oper.mk (some 30) _ _ _ _ _ :: _) _ _); refine kYw (yGeqK _ _ _ _ .i64 (p : Int) 0 true d30 rfl rfl rfl rfl) ?_; go_frame))
          refine region_tree (.q 0 (.q 1 (.q 2 (.q 3 (.q 4 (.q 5 (.q 6 (.q 7 (.q 8 (.q 9 (.q 10 (.q 12 (.q 13 (.q 14 (.two 11 (.one 15 (.q 16 (.one 17 (.q 18 (.one 19 .fin))))) 15 (.one 11 (.q 16 (.one 17 (.q 18 (.one 19 .fin)))))))))))))))))))) (fun _ => True) (by kernel_rfl) (by kernel_rfl) ?_
          intro z1 hBd hsd; clear hsd
          have hDz1 := hDm.below hBd
          have hEz1 := hEm.trans (exc_below g hBd)
          clear hBd hDm hEm
          have hS : (fun _ : World => True) z1 := trivial
          refine tY _ hS rfl (yMove _ (.slice (some ⟨g, 0, none⟩) n cap) rfl rfl rfl) ?_; go_frame
          refine tY _ hS rfl (yMove _ (.int .i64 (a : Int)) rfl rfl rfl) ?_; go_frame
          refine tY _ hS rfl (yMove _ (.slice (some ⟨g, 0, none⟩) n cap) rfl rfl rfl) ?_; go_frame
          refine tY _ hS rfl (yMove _ (.int .i64 (a : Int)) rfl rfl rfl) ?_; go_frame
          refine tY _ hS rfl (yMove _ (.int .i64 (p : Int)) rfl rfl rfl) ?_; go_frame
          refine tY _ hS rfl (yAddZ _ _ _ _ (a : Int) (p : Int) ((a + p : Nat) : Int) (by omega) rfl rfl rfl rfl) ?_; go_frame
          refine tY _ hS rfl (yMove _ (.slice (some ⟨g, 0, none⟩) n cap) rfl rfl rfl) ?_; go_frame
          refine tY _ hS rfl (yMove _ (.int .i64 (a : Int)) rfl rfl rfl) ?_; go_frame
          refine tY _ hS rfl (yMove _ (.int .i64 (p : Int)) rfl rfl rfl) ?_; go_frame
          refine tY _ hS rfl (yAddZ _ _ _ _ (a : Int) (p : Int) ((a + p : Nat) : Int) (by omega) rfl rfl rfl rfl) ?_; go_frame
          refine tY _ hS rfl (yIdxD _ _ g n cap (a + p) (by omega) rfl rfl rfl rfl) ?_; go_frame
          refine tY _ hS rfl (yMove _ (.slice (some ⟨g, 0, none⟩) n cap) rfl rfl rfl) ?_; go_frame
          refine tY _ hS rfl (yMove _ (.int .i64 (a : Int)) rfl rfl rfl) ?_; go_frame
          refine tY _ hS rfl (yIdxD _ _ g n cap a (by omega) rfl rfl rfl rfl) ?_; go_frame
          refine tTwoSo (VW (dv dm (a + p))) (VW (dv dm a)) rfl rfl rfl rfl (by decide) (yLoadD _ (fun _ e => by cases e; exact hDz1) (by omega) rfl rfl rfl) (yLoadD _ (fun _ e => by cases e; exact hDz1) (by omega) rfl rfl rfl) (yLoadD _ (fun _ e => by cases e; exact hDz1) (by omega) rfl rfl rfl) (yLoadD _ (fun _ e => by cases e; exact hDz1) (by omega) rfl rfl rfl) ?_; go_frame
          refine tY _ hS rfl (yIdxD _ _ g n cap a (by omega) rfl rfl rfl rfl) ?_; go_frame
          refine tOne rfl ?_
          refine kStoreD _ _ g n cap a (dv dm (a + p)) dm hDz1 (by omega) rfl rfl rfl rfl ?_
          intro z1a hDz1a hWn
          have hEz1a := hEz1.trans (exc_wrote hWn)
          clear hWn hDz1 hEz1 hS
          have hS : (fun _ : World => True) z1a := trivial
          refine mixOn ⟨_, (fun _ h => h), hS, ?_⟩
          go_frame
          refine tY _ hS rfl (yIdxD _ _ g n cap (a + p) (by omega) rfl rfl rfl rfl) ?_; go_frame
          refine tOne rfl ?_
          refine kStoreD _ _ g n cap (a + p) (dv dm a) ((dm.setIfInBounds a (dv dm (a + p)))) hDz1a (by omega) rfl rfl rfl rfl ?_
          intro z1b hDz1b hWn
          have hEz1b := hEz1a.trans (exc_wrote hWn)
          clear hWn hDz1a hEz1a hS
          have hS : (fun _ : World => True) z1b := trivial
          refine mixOn ⟨_, (fun _ h => h), hS, ?_⟩
          go_frame
          refine tDone ?_
          clear hS
          have hFz1 : Dat z1b g n cap (Sort.swp dm a (a + p)) := hDz1b
          clear hDz1b
          go_wp2_with (first
            | (go_at_call 70; refine (sSift_any _ hFz1 (lo := 0) (by omega) hn (by omega) HD1.out).mono ?_; rintro e xs2 ⟨rfl, D2, rfl, hDs2, hEqs2⟩; have hEs2 := hEz1b.trans hEqs2; clear hEqs2 hFz1 hEz1b; go_frame)
            | ((with_reducible change wpList _ _ _ (Oper.mk (some 32) _ _ _ _ _ :: _) _ _); refine kYw (ySubZ _ _ _ _ (p : Int) 1 ((p : Int) - 1) (by omega) rfl rfl rfl rfl) ?_; go_frame))
          go_roundw
          case rel => exact ⟨p, _, _, by omega, Lib.hid rfl, rfl, hDs2, hEs2, hk3⟩
          case measure => first | (simp [intOf]; done) | (simp [intOf]; omega)
        | zero =>
          have d30 : decide (y ≥ 0) = false := by simp; omega
          have hk3 : dm = T := Hm.out
          go_wp2_with (first
            | ((with_reducible change wpList _ _ _ (Oper.mk (some 30) _ _ _ _ _ :: _) _ _); refine kYw (yGeqK _ _ _ _ .i64 y 0 false d30 rfl rfl rfl rfl) ?_; go_frame))
          go_end0
          exact ⟨rfl, T, hT, hk3 ▸ hDm, hEm⟩
end Go.Proofs.Ytdeggdmoijfhdaa
