/-
  Layer 12: the sort: insertionSort, reverseRange.
-/
import Derived.Test.YtdeggdmoijfhdaaSoMem
namespace Go.Proofs.Ytdeggdmoijfhdaa
open Go Go.RowKit

theorem ins_step {a m : Nat} {d : Array Nat} (h : a < m + 1) (hl : dv d (m + 1) < dv d m) : Sort.insInner ltN a (m + 1) d = Sort.insInner ltN a m (Sort.swp d (m + 1) m) := by
  conv => lhs; unfold Sort.insInner
  have : ltN d[m + 1]! d[m]! = true := decide_eq_true hl
  rw [this, if_pos (by simp; omega)]
theorem ins_stop {a m : Nat} {d : Array Nat} (h : ¬ (a < m ∧ dv d m < dv d (m - 1))) : Sort.insInner ltN a m d = d := by
  cases m with
  | zero => rfl
  | succ m =>
    unfold Sort.insInner
    by_cases hm : a < m + 1
    · have : ltN d[m + 1]! d[m]! = false := decide_eq_false (fun hl => h ⟨hm, hl⟩)
      rw [this, if_neg (by simp)]
    · rw [if_neg (by simp; omega)]
set_option maxRecDepth 100000 in
set_option maxHeartbeats 16000000 in
theorem sInsert_any {g n cap a b : Nat} {d : Array Nat} (w : World) (hD : Dat w g n cap d) (hab : a ≤ b) (hb : b ≤ n) (hn : n ≤ 50) : Calls Try.prog 59 #[.slice (some ⟨g, 0, none⟩) n cap, .int .i64 (a : Int), .int .i64 (b : Int)] w (SoPost w g n cap fun d' => PermI a b d d' ∧ Srt a b d') := by
  obtain ⟨T, HT⟩ : ∃ T, Hid (Sort.insertionSort ltN d a b = T) := ⟨_, Lib.hid rfl⟩
  have hT : PermI a b d T ∧ Srt a b T := by
    have := Sort.insertionSort_holds (lt := ltN) swoN d a b hab (by rw [hD.size]; exact hb)
    rw [HT.out] at this; exact ⟨this.1, srt_of this.2⟩
  have hE := exc_refl g w
  go_enter Try.func59, Try.ntmps59
  go_wp2_with (first
    | ((with_reducible change wpList _ _ _ (Oper.mk (some 9) _ _ _ _ _ :: _) _ _); refine kYw (yAddZ _ _ _ _ (a : Int) 1 ((a + 1 : Nat) : Int) (by omega) rfl rfl rfl rfl) ?_; go_frame))
  go_loopw [6] (fun i wr => ∃ (k : Nat) (dk : Array Nat), a + 1 ≤ k ∧ (k ≤ b ∨ k = a + 1) ∧ i = .int .i64 (k : Int) ∧ Dat wr g n cap dk ∧ Exc g w wr ∧ Hid (Sort.insOuter ltN a b k dk = T)) (fun i _ => 60 - (intOf i).toNat)
  case atStart => exact ⟨a + 1, d, Nat.le_refl _, .inr rfl, rfl, hD, hE, HT⟩
  case round =>
    obtain ⟨k, dk, hk1, hk2, rfl, hDk, hEk, Hk⟩ := hrel
    clear hD hE HT
    by_cases hlt : k < b
    · have d12 : decide ((k : Int) < (b : Int)) = true := by simp; omega
      have hko : Sort.insOuter ltN a b (k + 1) (Sort.insInner ltN a k dk) = T := by rw [← Hk.out]; conv => rhs; unfold Sort.insOuter; rw [if_pos hlt]
      replace hko := Lib.hid hko
      go_wp2_with (first
        | ((with_reducible change wpList _ _ _ (Oper.mk (some 12) _ _ _ _ _ :: _) _ _); refine kYw (yLssK _ _ _ _ .i64 (k : Int) (b : Int) true d12 rfl rfl rfl rfl) ?_; go_frame))
      obtain ⟨wo, hwo⟩ : ∃ wo : World, wo = wr := ⟨_, rfl⟩
      subst hwo
      go_loopw [7] (fun j wq => ∃ (m : Nat) (dm : Array Nat), a ≤ m ∧ m ≤ k ∧ j = .int .i64 (m : Int) ∧ Dat wq g n cap dm ∧ Exc g w wq ∧ Hid (Sort.insInner ltN a m dm = Sort.insInner ltN a k dk)) (fun j _ => (intOf j).toNat)
      case atStart => exact ⟨k, dk, by omega, Nat.le_refl _, rfl, hDk, hEk, Lib.hid rfl⟩
      case round =>
        obtain ⟨m, dm, hm1, hm2, rfl, hDm, hEm, Hm⟩ := hrel
        clear hDk hEk
        by_cases hma : a < m
        · have d18 : decide ((m : Int) > (a : Int)) = true := by simp; omega
          by_cases hless : dv dm m < dv dm (m - 1)
          · have e1 : Hid (Sort.insInner ltN a (m - 1) (Sort.swp dm m (m - 1)) = Sort.insInner ltN a k dk) := Lib.hid (by
              obtain ⟨p, rfl⟩ : ∃ p, m = p + 1 := ⟨m - 1, by omega⟩
              rw [← Hm.out, ins_step hma (by simpa using hless), Nat.add_sub_cancel])
            (try go_wp2)
            refine region_mixD [(0, true), (1, true), (2, true), (3, true), (4, true), (5, true), (6, true), (7, true), (8, true), (9, true), (10, true), (11, true), (12, true), (13, false), (14, true)] (fun q => Dat q g n cap dm) (by kernel_rfl) (by kernel_rfl) rfl ?_
            intro z1 hBd hsd; clear hsd
            have hDz1 := hDm.below hBd
            have hEz1 := hEm.trans (exc_below g hBd)
            clear hBd hDm hEm
            simp only [List.map_cons, List.map_nil]
            dsimp only [List.filterMap, List.getElem?_cons_zero, List.getElem?_cons_succ]
            refine dY _ hDz1 (yMove _ (.int .i64 (m : Int)) rfl rfl rfl) ?_; go_frame
            refine dY _ hDz1 (yMove _ (.int .i64 (a : Int)) rfl rfl rfl) ?_; go_frame
            refine dY _ hDz1 (yGtrK _ _ _ _ .i64 (m : Int) (a : Int) true d18 rfl rfl rfl rfl) ?_; go_frame
            refine dY _ hDz1 (yMove _ (.bool true) rfl rfl rfl) ?_; go_frame
            refine dY _ hDz1 (yMove _ (.slice (some ⟨g, 0, none⟩) n cap) rfl rfl rfl) ?_; go_frame
            refine dY _ hDz1 (yMove _ (.int .i64 (m : Int)) rfl rfl rfl) ?_; go_frame
            refine dY _ hDz1 (yIdxD _ _ g n cap m (by omega) rfl rfl rfl rfl) ?_; go_frame
            refine dY _ hDz1 (yLoadD _ (fun _ h => h) (by omega) rfl rfl rfl) ?_; go_frame
            refine dY _ hDz1 (yMove _ (.slice (some ⟨g, 0, none⟩) n cap) rfl rfl rfl) ?_; go_frame
            refine dY _ hDz1 (yMove _ (.int .i64 (m : Int)) rfl rfl rfl) ?_; go_frame
            refine dY _ hDz1 (ySubZ _ _ _ _ (m : Int) 1 ((m - 1 : Nat) : Int) (by omega) rfl rfl rfl rfl) ?_; go_frame
            refine dY _ hDz1 (yIdxD _ _ g n cap (m - 1) (by omega) rfl rfl rfl rfl) ?_; go_frame
            refine dY _ hDz1 (yLoadD _ (fun _ h => h) (by omega) rfl rfl rfl) ?_; go_frame
            refine dLoud ?_
            refine kCall2 65 _ _ _ _ _ rfl rfl (by kernel_rfl) rfl rfl ?_
            refine (kLess_as (decide_eq_true hless) _).mono ?_
            rintro e z' ⟨rfl, rfl⟩
            refine ⟨_, rfl, mixOn ⟨_, (fun _ h => h), hDz1, ?_⟩⟩
            go_frame
            refine dY _ hDz1 (yPick _ _ _ true (.bool true) rfl rfl rfl rfl) ?_; go_frame
            refine dDone ?_
            (try go_wp2)
            refine region_tree (.q 0 (.q 1 (.q 2 (.q 3 (.q 4 (.q 5 (.q 6 (.q 7 (.q 8 (.q 10 (.q 11 (.q 12 (.two 9 (.one 13 (.q 14 (.one 15 (.q 16 (.one 17 .fin))))) 13 (.one 9 (.q 14 (.one 15 (.q 16 (.one 17 .fin)))))))))))))))))) (fun _ => True) (by kernel_rfl) (by kernel_rfl) ?_
            intro z2 hBd hsd; clear hsd
            have hDz2 := hDz1.below hBd
            have hEz2 := hEz1.trans (exc_below g hBd)
            clear hBd hDz1 hEz1
            have hS : (fun _ : World => True) z2 := trivial
            refine tY _ hS rfl (yMove _ (.slice (some ⟨g, 0, none⟩) n cap) rfl rfl rfl) ?_; go_frame
            refine tY _ hS rfl (yMove _ (.int .i64 (m : Int)) rfl rfl rfl) ?_; go_frame
            refine tY _ hS rfl (yMove _ (.slice (some ⟨g, 0, none⟩) n cap) rfl rfl rfl) ?_; go_frame
            refine tY _ hS rfl (yMove _ (.int .i64 (m : Int)) rfl rfl rfl) ?_; go_frame
            refine tY _ hS rfl (ySubZ _ _ _ _ (m : Int) 1 ((m - 1 : Nat) : Int) (by omega) rfl rfl rfl rfl) ?_; go_frame
            refine tY _ hS rfl (yMove _ (.slice (some ⟨g, 0, none⟩) n cap) rfl rfl rfl) ?_; go_frame
            refine tY _ hS rfl (yMove _ (.int .i64 (m : Int)) rfl rfl rfl) ?_; go_frame
            refine tY _ hS rfl (ySubZ _ _ _ _ (m : Int) 1 ((m - 1 : Nat) : Int) (by omega) rfl rfl rfl rfl) ?_; go_frame
            refine tY _ hS rfl (yIdxD _ _ g n cap (m - 1) (by omega) rfl rfl rfl rfl) ?_; go_frame
            refine tY _ hS rfl (yMove _ (.slice (some ⟨g, 0, none⟩) n cap) rfl rfl rfl) ?_; go_frame
            refine tY _ hS rfl (yMove _ (.int .i64 (m : Int)) rfl rfl rfl) ?_; go_frame
            refine tY _ hS rfl (yIdxD _ _ g n cap m (by omega) rfl rfl rfl rfl) ?_; go_frame
            refine tTwoSo (VW (dv dm (m - 1))) (VW (dv dm m)) rfl rfl rfl rfl (by decide) (yLoadD _ (fun _ e => by cases e; exact hDz2) (by omega) rfl rfl rfl) (yLoadD _ (fun _ e => by cases e; exact hDz2) (by omega) rfl rfl rfl) (yLoadD _ (fun _ e => by cases e; exact hDz2) (by omega) rfl rfl rfl) (yLoadD _ (fun _ e => by cases e; exact hDz2) (by omega) rfl rfl rfl) ?_; go_frame
            refine tY _ hS rfl (yIdxD _ _ g n cap m (by omega) rfl rfl rfl rfl) ?_; go_frame
            refine tOne rfl ?_
            refine kStoreD _ _ g n cap m (dv dm (m - 1)) dm hDz2 (by omega) rfl rfl rfl rfl ?_
            intro z2a hDz2a hWn
            have hEz2a := hEz2.trans (exc_wrote hWn)
            clear hWn hDz2 hEz2 hS
            have hS : (fun _ : World => True) z2a := trivial
            refine mixOn ⟨_, (fun _ h => h), hS, ?_⟩
            go_frame
            refine tY _ hS rfl (yIdxD _ _ g n cap (m - 1) (by omega) rfl rfl rfl rfl) ?_; go_frame
            refine tOne rfl ?_
            refine kStoreD _ _ g n cap (m - 1) (dv dm m) ((dm.setIfInBounds m (dv dm (m - 1)))) hDz2a (by omega) rfl rfl rfl rfl ?_
            intro z2b hDz2b hWn
            have hEz2b := hEz2a.trans (exc_wrote hWn)
            clear hWn hDz2a hEz2a hS
            have hS : (fun _ : World => True) z2b := trivial
            refine mixOn ⟨_, (fun _ h => h), hS, ?_⟩
            go_frame
            refine tDone ?_
            clear hS
            have hFz2 : Dat z2b g n cap (Sort.swp dm m (m - 1)) := hDz2b
            clear hDz2b
            go_wp2_with (first
              | ((with_reducible change wpList _ _ _ (Oper.mk (some 32) _ _ _ _ _ :: _) _ _); refine kYw (ySubZ _ _ _ _ (m : Int) 1 ((m - 1 : Nat) : Int) (by omega) rfl rfl rfl rfl) ?_; go_frame))
            go_roundw
            case rel => exact ⟨m - 1, _, by omega, by omega, rfl, hFz2, hEz2b, e1⟩
            case measure => simp [intOf]; omega
          · have e1 : Sort.insInner ltN a k dk = dm := by rw [← Hm.out]; exact ins_stop (by omega)
            (try go_wp2)
            refine region_mixD [(0, true), (1, true), (2, true), (3, true), (4, true), (5, true), (6, true), (7, true), (8, true), (9, true), (10, true), (11, true), (12, true), (13, false), (14, true)] (fun q => Dat q g n cap dm) (by kernel_rfl) (by kernel_rfl) rfl ?_
            intro z1 hBd hsd; clear hsd
            have hDz1 := hDm.below hBd
            have hEz1 := hEm.trans (exc_below g hBd)
            clear hBd hDm hEm
            simp only [List.map_cons, List.map_nil]
            dsimp only [List.filterMap, List.getElem?_cons_zero, List.getElem?_cons_succ]
            refine dY _ hDz1 (yMove _ (.int .i64 (m : Int)) rfl rfl rfl) ?_; go_frame
            refine dY _ hDz1 (yMove _ (.int .i64 (a : Int)) rfl rfl rfl) ?_; go_frame
            refine dY _ hDz1 (yGtrK _ _ _ _ .i64 (m : Int) (a : Int) true d18 rfl rfl rfl rfl) ?_; go_frame
            refine dY _ hDz1 (yMove _ (.bool true) rfl rfl rfl) ?_; go_frame
            refine dY _ hDz1 (yMove _ (.slice (some ⟨g, 0, none⟩) n cap) rfl rfl rfl) ?_; go_frame
            refine dY _ hDz1 (yMove _ (.int .i64 (m : Int)) rfl rfl rfl) ?_; go_frame
            refine dY _ hDz1 (yIdxD _ _ g n cap m (by omega) rfl rfl rfl rfl) ?_; go_frame
            refine dY _ hDz1 (yLoadD _ (fun _ h => h) (by omega) rfl rfl rfl) ?_; go_frame
            refine dY _ hDz1 (yMove _ (.slice (some ⟨g, 0, none⟩) n cap) rfl rfl rfl) ?_; go_frame
            refine dY _ hDz1 (yMove _ (.int .i64 (m : Int)) rfl rfl rfl) ?_; go_frame
            refine dY _ hDz1 (ySubZ _ _ _ _ (m : Int) 1 ((m - 1 : Nat) : Int) (by omega) rfl rfl rfl rfl) ?_; go_frame
            refine dY _ hDz1 (yIdxD _ _ g n cap (m - 1) (by omega) rfl rfl rfl rfl) ?_; go_frame
            refine dY _ hDz1 (yLoadD _ (fun _ h => h) (by omega) rfl rfl rfl) ?_; go_frame
            refine dLoud ?_
            refine kCall2 65 _ _ _ _ _ rfl rfl (by kernel_rfl) rfl rfl ?_
            refine (kLess_as (decide_eq_false hless) _).mono ?_
            rintro e z' ⟨rfl, rfl⟩
            refine ⟨_, rfl, mixOn ⟨_, (fun _ h => h), hDz1, ?_⟩⟩
            go_frame
            refine dY _ hDz1 (yPick _ _ _ true (.bool false) rfl rfl rfl rfl) ?_; go_frame
            refine dDone ?_
            go_wp2_with (first
              | ((with_reducible change wpList _ _ _ (Oper.mk (some 14) _ _ _ _ _ :: _) _ _); refine kYw (yAddZ _ _ _ _ (k : Int) 1 ((k + 1 : Nat) : Int) (by omega) rfl rfl rfl rfl) ?_; go_frame))
            go_roundw
            case rel => exact ⟨k + 1, dm, by omega, .inl (by omega), rfl, hDz1, hEz1, Lib.hid (by rw [← hko.out, e1])⟩
            case measure => simp [intOf]; omega
        · have d18 : decide ((m : Int) > (a : Int)) = false := by simp; omega
          have e1 : Sort.insInner ltN a k dk = dm := by rw [← Hm.out]; exact ins_stop (by omega)
          (try go_wp2)
          refine region_mixD [(0, true), (1, true), (2, true), (3, true), (4, true), (5, true), (6, true), (7, true), (8, true), (9, true), (10, true), (11, true), (12, true), (13, true), (14, true)] (fun q => Dat q g n cap dm) (by kernel_rfl) (by kernel_rfl) rfl ?_
          intro z1 hBd hsd; clear hsd
          have hDz1 := hDm.below hBd
          have hEz1 := hEm.trans (exc_below g hBd)
          clear hBd hDm hEm
          simp only [List.map_cons, List.map_nil]
          dsimp only [List.filterMap, List.getElem?_cons_zero, List.getElem?_cons_succ]
          refine dY _ hDz1 (yMove _ (.int .i64 (m : Int)) rfl rfl rfl) ?_; go_frame
          refine dY _ hDz1 (yMove _ (.int .i64 (a : Int)) rfl rfl rfl) ?_; go_frame
          refine dY _ hDz1 (yGtrK _ _ _ _ .i64 (m : Int) (a : Int) false d18 rfl rfl rfl rfl) ?_; go_frame
          refine dY _ hDz1 (yMove _ (.bool false) rfl rfl rfl) ?_; go_frame
          refine dY _ hDz1 (ySkip rfl) ?_; go_frame
          refine dY _ hDz1 (ySkip rfl) ?_; go_frame
          refine dY _ hDz1 (ySkip rfl) ?_; go_frame
          refine dY _ hDz1 (ySkip rfl) ?_; go_frame
          refine dY _ hDz1 (ySkip rfl) ?_; go_frame
          refine dY _ hDz1 (ySkip rfl) ?_; go_frame
          refine dY _ hDz1 (ySkip rfl) ?_; go_frame
          refine dY _ hDz1 (ySkip rfl) ?_; go_frame
          refine dY _ hDz1 (ySkip rfl) ?_; go_frame
          refine dY _ hDz1 (ySkip rfl) ?_; go_frame
          refine dY _ hDz1 (yPick _ _ _ false (.bool false) rfl rfl rfl rfl) ?_; go_frame
          refine dDone ?_
          go_wp2_with (first
            | ((with_reducible change wpList _ _ _ (Oper.mk (some 14) _ _ _ _ _ :: _) _ _); refine kYw (yAddZ _ _ _ _ (k : Int) 1 ((k + 1 : Nat) : Int) (by omega) rfl rfl rfl rfl) ?_; go_frame))
          go_roundw
          case rel => exact ⟨k + 1, dm, by omega, .inl (by omega), rfl, hDz1, hEz1, Lib.hid (by rw [← hko.out, e1])⟩
          case measure => simp [intOf]; omega
    · have d12 : decide ((k : Int) < (b : Int)) = false := by simp; omega
      have hko : dk = T := by rw [← Hk.out]; conv => rhs; unfold Sort.insOuter; rw [if_neg hlt]
      go_wp2_with (first
        | ((with_reducible change wpList _ _ _ (Oper.mk (some 12) _ _ _ _ _ :: _) _ _); refine kYw (yLssK _ _ _ _ .i64 (k : Int) (b : Int) false d12 rfl rfl rfl rfl) ?_; go_frame))
      go_end0
      exact ⟨rfl, T, hT, hko ▸ hDk, hEk⟩
end Go.Proofs.Ytdeggdmoijfhdaa
