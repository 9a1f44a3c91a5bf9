/-
  Layer 12: the sort: partitionEqual, partition.
-/
import Derived.Test.YtdeggdmoijfhdaaSoFn2
import Derived.Deep.DeepCutAuto
namespace Go.Proofs.Ytdeggdmoijfhdaa
open Go Go.RowKit

theorem part_end {a b m p : Nat} {d dk : Array Nat} (h1 : a ≤ m) (h2 : m < b) (hs : b ≤ dk.size) (hP : PermI a b d dk) (hsd : b ≤ d.size) (hp : dv dk a = p) (hl : Each (· < p) dk (a + 1) (m + 1)) (hr : Each (p ≤ ·) dk (m + 1) b) : Parted a b m p d (Sort.swp dk m a) := by
  have hm : m < dk.size := by omega
  have ha : a < dk.size := by omega
  refine ⟨h1, h2, hP.trans (PermI.swp dk ⟨h1, h2⟩ ⟨Nat.le_refl _, by omega⟩ hs), ?_, fun k k1 k2 => ?_, hr.swp hm ha (by omega) (by omega)⟩
  · rw [dv_swp _ _ hm ha]
    by_cases e : m = a
    · rw [if_pos e, e]; exact hp
    · rw [if_neg e, if_pos rfl]; exact hp
  · show dv _ k < p
    rw [dv_swp _ _ hm ha]
    by_cases e : k = a
    · rw [if_pos e]; exact hl m (by omega) (by omega)
    · rw [if_neg e, if_neg (by omega)]; exact hl k (by omega) (by omega)
def EqPost (w : World) (g n cap a b p : Nat) (d : Array Nat) (e : Ending) (w' : World) : Prop := ∃ (mid : Nat) (d' : Array Nat), e = .returned (.int .i64 (mid : Int)) ∧ (a < mid ∧ mid ≤ b) ∧ PermI a b d d' ∧ Each (· ≤ p) d' a mid ∧ Each (p < ·) d' mid b ∧ Dat w' g n cap d' ∧ Exc g w w'
theorem ret1V {fn : Func} {R : Ending → World → Prop} {P : Program} {a : Act} {w : World} {t : Tmp} (h : fn.results = #[.tmp t]) (hd : a.defers = []) (hR : R (.returned (a.tmps.getD t undef)) w) : bodyPost P fn R .ret a w :=
  bodyPost_ret (by simp [results, h]) hd hR
set_option maxRecDepth 100000 in
set_option maxHeartbeats 16000000 in
theorem sPartEq_any {g n cap a b pv : Nat} {d : Array Nat} (w : World) (hD : Dat w g n cap d) (hap : a ≤ pv) (hpb : pv < b) (hb : b ≤ n) (hn : n ≤ 50) : Calls Try.prog 66 #[.slice (some ⟨g, 0, none⟩) n cap, .int .i64 (a : Int), .int .i64 (b : Int), .int .i64 (pv : Int)] w (EqPost w g n cap a b (dv d pv) d) := by
  have hE := exc_refl g w
  have hs := hD.size
  obtain ⟨p, Hp⟩ : ∃ p, dv d pv = p := ⟨_, rfl⟩
  rw [Hp]
  go_enter Try.func66, Try.ntmps66
  go_wp2
  refine region_tree (.q 0 (.q 1 (.q 2 (.q 3 (.q 4 (.q 5 (.q 6 (.q 8 (.q 9 (.q 10 (.two 7 (.one 11 (.q 12 (.one 13 (.q 14 (.one 15 .fin))))) 11 (.one 7 (.q 12 (.one 13 (.q 14 (.one 15 .fin)))))))))))))))) (fun _ => True) (by kernel_rfl) (by kernel_rfl) ?_
  intro z1 hBd hsd; clear hsd
  have hDz1 := hD.below hBd
  have hEz1 := hE.trans (exc_below g hBd)
  clear hBd hD hE
  have hS : (fun _ : World => True) z1 := trivial
  refine tY _ hS rfl (yMove _ (.slice (some ⟨g, 0, none⟩) n cap) rfl rfl rfl) ?_; go_frame
  refine tY _ hS rfl (yMove _ (.int .i64 (a : Int)) rfl rfl rfl) ?_; go_frame
  refine tY _ hS rfl (yMove _ (.slice (some ⟨g, 0, none⟩) n cap) rfl rfl rfl) ?_; go_frame
  refine tY _ hS rfl (yMove _ (.int .i64 (pv : Int)) rfl rfl rfl) ?_; go_frame
  refine tY _ hS rfl (yMove _ (.slice (some ⟨g, 0, none⟩) n cap) rfl rfl rfl) ?_; go_frame
  refine tY _ hS rfl (yMove _ (.int .i64 (pv : Int)) rfl rfl rfl) ?_; go_frame
  refine tY _ hS rfl (yIdxD _ _ g n cap pv (by omega) rfl rfl rfl rfl) ?_; go_frame
  refine tY _ hS rfl (yMove _ (.slice (some ⟨g, 0, none⟩) n cap) rfl rfl rfl) ?_; go_frame
  refine tY _ hS rfl (yMove _ (.int .i64 (a : Int)) rfl rfl rfl) ?_; go_frame
  refine tY _ hS rfl (yIdxD _ _ g n cap a (by omega) rfl rfl rfl rfl) ?_; go_frame
  refine tTwoSo (VW (dv d pv)) (VW (dv d a)) rfl rfl rfl rfl (by decide) (yLoadD _ (fun _ e => by cases e; exact hDz1) (by omega) rfl rfl rfl) (yLoadD _ (fun _ e => by cases e; exact hDz1) (by omega) rfl rfl rfl) (yLoadD _ (fun _ e => by cases e; exact hDz1) (by omega) rfl rfl rfl) (yLoadD _ (fun _ e => by cases e; exact hDz1) (by omega) rfl rfl rfl) ?_; go_frame
  refine tY _ hS rfl (yIdxD _ _ g n cap a (by omega) rfl rfl rfl rfl) ?_; go_frame
  refine tOne rfl ?_
  refine kStoreD _ _ g n cap a (dv d pv) d hDz1 (by omega) rfl rfl rfl rfl ?_
  intro z1a hDz1a hWn
  have hEz1a := hEz1.trans (exc_wrote hWn)
  clear hWn hDz1 hEz1 hS
  have hS : (fun _ : World => True) z1a := trivial
  refine mixOn ⟨_, (fun _ h => h), hS, ?_⟩
  go_frame
  refine tY _ hS rfl (yIdxD _ _ g n cap pv (by omega) rfl rfl rfl rfl) ?_; go_frame
  refine tOne rfl ?_
  refine kStoreD _ _ g n cap pv (dv d a) ((d.setIfInBounds a (dv d pv))) hDz1a (by omega) rfl rfl rfl rfl ?_
  intro z1b hDz1b hWn
  have hEz1b := hEz1a.trans (exc_wrote hWn)
  clear hWn hDz1a hEz1a hS
  have hS : (fun _ : World => True) z1b := trivial
  refine mixOn ⟨_, (fun _ h => h), hS, ?_⟩
  go_frame
  refine tDone ?_
  clear hS
  have hFz1 : Dat z1b g n cap (Sort.swp d a pv) := hDz1b
  clear hDz1b
  go_wp2_with (first
    | ((with_reducible change wpList _ _ _ (Oper.mk (some 26) _ _ _ _ _ :: _) _ _); refine kYw (yAddZ _ _ _ _ (a : Int) 1 ((a + 1 : Nat) : Int) (by omega) rfl rfl rfl rfl) ?_; go_frame)
    | ((with_reducible change wpList _ _ _ (Oper.mk (some 28) _ _ _ _ _ :: _) _ _); refine kYw (ySubZ _ _ _ _ (b : Int) 1 ((b - 1 : Nat) : Int) (by omega) rfl rfl rfl rfl) ?_; go_frame))
  have hpa : dv (Sort.swp d a pv) a = p := by
    rw [dv_swp d a (by omega) (by omega)]
    by_cases e : a = pv
    · rw [if_pos e, e]; exact Hp
    · rw [if_neg e, if_pos rfl]; exact Hp
  have hP0 : PermI a b d (Sort.swp d a pv) := PermI.swp d ⟨Nat.le_refl _, by omega⟩ ⟨hap, hpb⟩ (by omega)
  clear Hp
  go_loopw [9, 10] (fun x y wr => ∃ (K0 M0 : Nat) (dk : Array Nat), a + 1 ≤ K0 ∧ K0 ≤ M0 + 1 ∧ M0 < b ∧ x = .int .i64 (K0 : Int) ∧ y = .int .i64 (M0 : Int) ∧ Dat wr g n cap dk ∧ Exc g w wr ∧ PermI a b d dk ∧ dv dk a = p ∧ Each (· ≤ p) dk (a + 1) K0 ∧ Each (p < ·) dk (M0 + 1) b) (fun x y _ => (intOf y + 1 - intOf x).toNat)
  case atStart => exact ⟨a + 1, b - 1, _, Nat.le_refl _, by omega, by omega, rfl, rfl, hFz1, hEz1b, hP0, hpa, Each.nil (Nat.le_refl _), Each.nil (by omega)⟩
  case round =>
    obtain ⟨K0, M0, dk, hK1, hK2, hM, rfl, rfl, hDo, hEo, hP, hp, hlK, hlM⟩ := hrel
    clear hFz1 hEz1b
    have hsk := hP.size
    (try go_wp2)
    obtain ⟨wok4, hwok4⟩ : ∃ wo : World, wo = wr := ⟨_, rfl⟩
    subst hwok4
    go_loopw [9] (fun x wq => ∃ k : Nat, K0 ≤ k ∧ k ≤ M0 + 1 ∧ x = .int .i64 (k : Int) ∧ Dat wq g n cap dk ∧ Exc g w wq ∧ Each (· ≤ p) dk (a + 1) k) (fun x _ => 100 - (intOf x).toNat)
    case atStart => exact ⟨K0, by omega, by omega, rfl, hDo, hEo, hlK⟩
    case round =>
      obtain ⟨k, hk1, hk2, rfl, hDk, hEk, hlk⟩ := hrel
      clear hDo hEo
      go_wp2
      go_cut [43] (fun s wq => ∃ c : Bool, s = .bool c ∧ (c = true ↔ (k ≤ M0 ∧ dv dk k ≤ p)) ∧ Dat wq g n cap dk ∧ Exc g w wq)
      case first =>
        by_cases hkm : k ≤ M0
        · have dL : decide ((k : Int) ≤ (M0 : Int)) = true := by simp; omega
          obtain ⟨c, Hc⟩ : ∃ c, Hid (decide (dv dk a < dv dk k) = c) := ⟨_, Lib.hid rfl⟩
          (try go_wp2)
          refine region_mixD [(0, true), (1, true), (2, true), (3, true), (4, true), (5, true), (6, true), (7, true), (8, true), (9, true), (10, true), (11, true), (12, false), (13, true), (14, true)] (fun q => Dat q g n cap dk) (by kernel_rfl) (by kernel_rfl) rfl ?_
          intro z1 hBd hsd; clear hsd
          have hDz1 := hDk.below hBd
          have hEz1 := hEk.trans (exc_below g hBd)
          clear hBd hDk hEk
          simp only [List.map_cons, List.map_nil]
          dsimp only [List.filterMap, List.getElem?_cons_zero, List.getElem?_cons_succ]
          refine dY _ hDz1 (yMove _ (.int .i64 (k : Int)) rfl rfl rfl) ?_; go_frame
          refine dY _ hDz1 (yMove _ (.int .i64 (M0 : Int)) rfl rfl rfl) ?_; go_frame
          refine dY _ hDz1 (yLeqK _ _ _ _ .i64 (k : Int) (M0 : Int) true dL rfl rfl rfl rfl) ?_; go_frame
          refine dY _ hDz1 (yMove _ (.bool true) rfl rfl rfl) ?_; go_frame
          refine dY _ hDz1 (yMove _ (.slice (some ⟨g, 0, none⟩) n cap) rfl rfl rfl) ?_; go_frame
          refine dY _ hDz1 (yMove _ (.int .i64 (a : Int)) rfl rfl rfl) ?_; go_frame
          refine dY _ hDz1 (yIdxD _ _ g n cap a (by omega) rfl rfl rfl rfl) ?_; go_frame
          refine dY _ hDz1 (yLoadD _ (fun _ h => h) (by omega) rfl rfl rfl) ?_; go_frame
          refine dY _ hDz1 (yMove _ (.slice (some ⟨g, 0, none⟩) n cap) rfl rfl rfl) ?_; go_frame
          refine dY _ hDz1 (yMove _ (.int .i64 (k : Int)) rfl rfl rfl) ?_; go_frame
          refine dY _ hDz1 (yIdxD _ _ g n cap k (by omega) rfl rfl rfl rfl) ?_; go_frame
          refine dY _ hDz1 (yLoadD _ (fun _ h => h) (by omega) rfl rfl rfl) ?_; go_frame
          refine dLoud ?_
          refine kCall2 65 _ _ _ _ _ rfl rfl (by kernel_rfl) rfl rfl ?_
          refine (kLess_as (Hc.out) _).mono ?_
          rintro e z' ⟨rfl, rfl⟩
          refine ⟨_, rfl, mixOn ⟨_, (fun _ h => h), hDz1, ?_⟩⟩
          go_frame
          refine dY _ hDz1 (yNotW _ _ c rfl rfl rfl) ?_; go_frame
          refine dY _ hDz1 (yPick _ _ _ true (.bool (!c)) rfl rfl rfl rfl) ?_; go_frame
          refine dDone ?_
          (try go_wp2_with fail)
          go_meet
          case rel => exact ⟨(!c), rfl, (by rw [← Hc.out]; simp; omega), hDz1, hEz1⟩
        · have dL : decide ((k : Int) ≤ (M0 : Int)) = false := by simp; omega
          (try go_wp2)
          refine region_mixD [(0, true), (1, true), (2, true), (3, true), (4, true), (5, true), (6, true), (7, true), (8, true), (9, true), (10, true), (11, true), (12, true), (13, true), (14, true)] (fun q => Dat q g n cap dk) (by kernel_rfl) (by kernel_rfl) rfl ?_
          intro z1 hBd hsd; clear hsd
          have hDz1 := hDk.below hBd
          have hEz1 := hEk.trans (exc_below g hBd)
          clear hBd hDk hEk
          simp only [List.map_cons, List.map_nil]
          dsimp only [List.filterMap, List.getElem?_cons_zero, List.getElem?_cons_succ]
          refine dY _ hDz1 (yMove _ (.int .i64 (k : Int)) rfl rfl rfl) ?_; go_frame
          refine dY _ hDz1 (yMove _ (.int .i64 (M0 : Int)) rfl rfl rfl) ?_; go_frame
          refine dY _ hDz1 (yLeqK _ _ _ _ .i64 (k : Int) (M0 : Int) false dL rfl rfl rfl rfl) ?_; go_frame
          refine dY _ hDz1 (yMove _ (.bool false) rfl rfl rfl) ?_; go_frame
          refine dY _ hDz1 (ySkip rfl) ?_; go_frame
          refine dY _ hDz1 (ySkip rfl) ?_; go_frame
          refine dY _ hDz1 (ySkip rfl) ?_; go_frame
          refine dY _ hDz1 (ySkip rfl) ?_; go_frame
          refine dY _ hDz1 (ySkip rfl) ?_; go_frame
          refine dY _ hDz1 (ySkip rfl) ?_; go_frame
          refine dY _ hDz1 (ySkip rfl) ?_; go_frame
          refine dY _ hDz1 (ySkip rfl) ?_; go_frame
          refine dY _ hDz1 (ySkip rfl) ?_; go_frame
          refine dY _ hDz1 (ySkip rfl) ?_; go_frame
          refine dY _ hDz1 (yPick _ _ _ false (.bool false) rfl rfl rfl rfl) ?_; go_frame
          refine dDone ?_
          (try go_wp2_with fail)
          go_meet
          case rel => exact ⟨false, rfl, ⟨(fun h => absurd h (by decide)), (fun h => absurd h.1 hkm)⟩, hDz1, hEz1⟩
      case rest =>
        obtain ⟨c, rfl, hc, hD2k, hE2k⟩ := hcut
        clear hDk hEk
        cases c with
        | true =>
          obtain ⟨hc1, hc2⟩ := hc.1 rfl
          go_wp2_with (first
            | ((with_reducible change wpList _ _ _ (Oper.mk (some 45) _ _ _ _ _ :: _) _ _); refine kYw (yAddZ _ _ _ _ (k : Int) 1 ((k + 1 : Nat) : Int) (by omega) rfl rfl rfl rfl) ?_; go_frame))
          go_roundw
          case rel => exact ⟨k + 1, by omega, by omega, rfl, hD2k, hE2k, hlk.snoc (by first | exact hc2 | omega)⟩
          case measure => first | (simp [intOf]; done) | (simp [intOf]; omega)
        | false =>
          have hxk : ¬ (k ≤ M0 ∧ dv dk k ≤ p) := fun h => by cases hc.2 h
          clear hc
          (try go_wp2)
          obtain ⟨wom10, hwom10⟩ : ∃ wo : World, wo = wc := ⟨_, rfl⟩
          subst hwom10
          go_loopw [10] (fun x wq => ∃ m : Nat, m ≤ M0 ∧ k ≤ m + 1 ∧ x = .int .i64 (m : Int) ∧ Dat wq g n cap dk ∧ Exc g w wq ∧ Each (p < ·) dk (m + 1) b) (fun x _ => (intOf x).toNat)
          case atStart => exact ⟨M0, by omega, by omega, rfl, hD2k, hE2k, hlM⟩
          case round =>
            obtain ⟨m, hm1, hm2, rfl, hDm, hEm, hlm⟩ := hrel
            clear hD2k hE2k
            go_wp2
            go_cut [59] (fun s wq => ∃ c : Bool, s = .bool c ∧ (c = true ↔ (k ≤ m ∧ p < dv dk m)) ∧ Dat wq g n cap dk ∧ Exc g w wq)
            case first =>
              by_cases hkm : k ≤ m
              · have dL : decide ((k : Int) ≤ (m : Int)) = true := by simp; omega
                obtain ⟨c, Hc⟩ : ∃ c, Hid (decide (dv dk a < dv dk m) = c) := ⟨_, Lib.hid rfl⟩
                (try go_wp2)
                refine region_mixD [(0, true), (1, true), (2, true), (3, true), (4, true), (5, true), (6, true), (7, true), (8, true), (9, true), (10, true), (11, true), (12, false), (13, true)] (fun q => Dat q g n cap dk) (by kernel_rfl) (by kernel_rfl) rfl ?_
                intro z1 hBd hsd; clear hsd
                have hDz1 := hDm.below hBd
                have hEz1 := hEm.trans (exc_below g hBd)
                clear hBd hDm hEm
                simp only [List.map_cons, List.map_nil]
                dsimp only [List.filterMap, List.getElem?_cons_zero, List.getElem?_cons_succ]
                refine dY _ hDz1 (yMove _ (.int .i64 (k : Int)) rfl rfl rfl) ?_; go_frame
                refine dY _ hDz1 (yMove _ (.int .i64 (m : Int)) rfl rfl rfl) ?_; go_frame
                refine dY _ hDz1 (yLeqK _ _ _ _ .i64 (k : Int) (m : Int) true dL rfl rfl rfl rfl) ?_; go_frame
                refine dY _ hDz1 (yMove _ (.bool true) rfl rfl rfl) ?_; go_frame
                refine dY _ hDz1 (yMove _ (.slice (some ⟨g, 0, none⟩) n cap) rfl rfl rfl) ?_; go_frame
                refine dY _ hDz1 (yMove _ (.int .i64 (a : Int)) rfl rfl rfl) ?_; go_frame
                refine dY _ hDz1 (yIdxD _ _ g n cap a (by omega) rfl rfl rfl rfl) ?_; go_frame
                refine dY _ hDz1 (yLoadD _ (fun _ h => h) (by omega) rfl rfl rfl) ?_; go_frame
                refine dY _ hDz1 (yMove _ (.slice (some ⟨g, 0, none⟩) n cap) rfl rfl rfl) ?_; go_frame
                refine dY _ hDz1 (yMove _ (.int .i64 (m : Int)) rfl rfl rfl) ?_; go_frame
                refine dY _ hDz1 (yIdxD _ _ g n cap m (by omega) rfl rfl rfl rfl) ?_; go_frame
                refine dY _ hDz1 (yLoadD _ (fun _ h => h) (by omega) rfl rfl rfl) ?_; go_frame
                refine dLoud ?_
                refine kCall2 65 _ _ _ _ _ rfl rfl (by kernel_rfl) rfl rfl ?_
                refine (kLess_as (Hc.out) _).mono ?_
                rintro e z' ⟨rfl, rfl⟩
                refine ⟨_, rfl, mixOn ⟨_, (fun _ h => h), hDz1, ?_⟩⟩
                go_frame
                refine dY _ hDz1 (yPick _ _ _ true (.bool c) rfl rfl rfl rfl) ?_; go_frame
                refine dDone ?_
                (try go_wp2_with fail)
                go_meet
                case rel => exact ⟨c, rfl, (by rw [← Hc.out]; simp; omega), hDz1, hEz1⟩
              · have dL : decide ((k : Int) ≤ (m : Int)) = false := by simp; omega
                (try go_wp2)
                refine region_mixD [(0, true), (1, true), (2, true), (3, true), (4, true), (5, true), (6, true), (7, true), (8, true), (9, true), (10, true), (11, true), (12, true), (13, true)] (fun q => Dat q g n cap dk) (by kernel_rfl) (by kernel_rfl) rfl ?_
                intro z1 hBd hsd; clear hsd
                have hDz1 := hDm.below hBd
                have hEz1 := hEm.trans (exc_below g hBd)
                clear hBd hDm hEm
                simp only [List.map_cons, List.map_nil]
                dsimp only [List.filterMap, List.getElem?_cons_zero, List.getElem?_cons_succ]
                refine dY _ hDz1 (yMove _ (.int .i64 (k : Int)) rfl rfl rfl) ?_; go_frame
                refine dY _ hDz1 (yMove _ (.int .i64 (m : Int)) rfl rfl rfl) ?_; go_frame
                refine dY _ hDz1 (yLeqK _ _ _ _ .i64 (k : Int) (m : Int) false dL rfl rfl rfl rfl) ?_; go_frame
                refine dY _ hDz1 (yMove _ (.bool false) rfl rfl rfl) ?_; go_frame
                refine dY _ hDz1 (ySkip rfl) ?_; go_frame
                refine dY _ hDz1 (ySkip rfl) ?_; go_frame
                refine dY _ hDz1 (ySkip rfl) ?_; go_frame
                refine dY _ hDz1 (ySkip rfl) ?_; go_frame
                refine dY _ hDz1 (ySkip rfl) ?_; go_frame
                refine dY _ hDz1 (ySkip rfl) ?_; go_frame
                refine dY _ hDz1 (ySkip rfl) ?_; go_frame
                refine dY _ hDz1 (ySkip rfl) ?_; go_frame
                refine dY _ hDz1 (ySkip rfl) ?_; go_frame
                refine dY _ hDz1 (yPick _ _ _ false (.bool false) rfl rfl rfl rfl) ?_; go_frame
                refine dDone ?_
                (try go_wp2_with fail)
                go_meet
                case rel => exact ⟨false, rfl, ⟨(fun h => absurd h (by decide)), (fun h => absurd h.1 hkm)⟩, hDz1, hEz1⟩
            case rest =>
              obtain ⟨c, rfl, hc, hD2m, hE2m⟩ := hcut
              clear hDm hEm
              cases c with
              | true =>
                obtain ⟨hc1, hc2⟩ := hc.1 rfl
                go_wp2_with (first
                  | ((with_reducible change wpList _ _ _ (Oper.mk (some 61) _ _ _ _ _ :: _) _ _); refine kYw (ySubZ _ _ _ _ (m : Int) 1 ((m - 1 : Nat) : Int) (by omega) rfl rfl rfl rfl) ?_; go_frame))
                go_roundw
                case rel => exact ⟨m - 1, by omega, by omega, rfl, hD2m, hE2m, by rw [show m - 1 + 1 = m by omega]; exact hlm.cons (by first | exact hc2 | omega)⟩
                case measure => first | (simp [intOf]; done) | (simp [intOf]; omega)
              | false =>
                have hxm : ¬ (k ≤ m ∧ p < dv dk m) := fun h => by cases hc.2 h
                clear hc
                by_cases hkm : m < k
                · have d7 : decide ((k : Int) > (m : Int)) = true := by simp; omega
                  go_wp2_with (first
                    | ((with_reducible change wpList _ _ _ (Oper.mk (some 64) _ _ _ _ _ :: _) _ _); refine kYw (yGtrK _ _ _ _ .i64 (k : Int) (m : Int) true d7 rfl rfl rfl rfl) ?_; go_frame))
                  (try simp only [Exit.inBlock, Exit.then])
                  refine ret1V rfl rfl ?_
                  have hmk : m + 1 = k := by omega
                  exact ⟨k, dk, rfl, ⟨by omega, by omega⟩, hP, hlk.cons (by show dv dk a ≤ p; omega), hmk ▸ hlm, hD2m, hE2m⟩
                · have d7 : decide ((k : Int) > (m : Int)) = false := by simp; omega
                  have hck : ¬ (dv dk k ≤ p) := fun h => hxk ⟨by omega, h⟩
                  have hcm : ¬ (p < dv dk m) := fun h => hxm ⟨by omega, h⟩
                  have hne : k ≠ m := by rintro rfl; omega
                  go_wp2_with (first
                    | ((with_reducible change wpList _ _ _ (Oper.mk (some 64) _ _ _ _ _ :: _) _ _); refine kYw (yGtrK _ _ _ _ .i64 (k : Int) (m : Int) false d7 rfl rfl rfl rfl) ?_; go_frame))
                  refine region_tree (.q 0 (.q 1 (.q 2 (.q 3 (.q 4 (.q 5 (.q 6 (.q 8 (.q 9 (.q 10 (.two 7 (.one 11 (.q 12 (.one 13 (.q 14 (.one 15 .fin))))) 11 (.one 7 (.q 12 (.one 13 (.q 14 (.one 15 .fin)))))))))))))))) (fun _ => True) (by kernel_rfl) (by kernel_rfl) ?_
                  intro z1 hBd hsd; clear hsd
                  have hDz1 := hD2m.below hBd
                  have hEz1 := hE2m.trans (exc_below g hBd)
                  clear hBd hD2m hE2m
                  have hS : (fun _ : World => True) z1 := trivial
                  refine tY _ hS rfl (yMove _ (.slice (some ⟨g, 0, none⟩) n cap) rfl rfl rfl) ?_; go_frame
                  refine tY _ hS rfl (yMove _ (.int .i64 (k : Int)) rfl rfl rfl) ?_; go_frame
                  refine tY _ hS rfl (yMove _ (.slice (some ⟨g, 0, none⟩) n cap) rfl rfl rfl) ?_; go_frame
                  refine tY _ hS rfl (yMove _ (.int .i64 (m : Int)) rfl rfl rfl) ?_; go_frame
                  refine tY _ hS rfl (yMove _ (.slice (some ⟨g, 0, none⟩) n cap) rfl rfl rfl) ?_; go_frame
                  refine tY _ hS rfl (yMove _ (.int .i64 (m : Int)) rfl rfl rfl) ?_; go_frame
                  refine tY _ hS rfl (yIdxD _ _ g n cap m (by omega) rfl rfl rfl rfl) ?_; go_frame
                  refine tY _ hS rfl (yMove _ (.slice (some ⟨g, 0, none⟩) n cap) rfl rfl rfl) ?_; go_frame
                  refine tY _ hS rfl (yMove _ (.int .i64 (k : Int)) rfl rfl rfl) ?_; go_frame
                  refine tY _ hS rfl (yIdxD _ _ g n cap k (by omega) rfl rfl rfl rfl) ?_; go_frame
                  refine tTwoSo (VW (dv dk m)) (VW (dv dk k)) rfl rfl rfl rfl (by decide) (yLoadD _ (fun _ e => by cases e; exact hDz1) (by omega) rfl rfl rfl) (yLoadD _ (fun _ e => by cases e; exact hDz1) (by omega) rfl rfl rfl) (yLoadD _ (fun _ e => by cases e; exact hDz1) (by omega) rfl rfl rfl) (yLoadD _ (fun _ e => by cases e; exact hDz1) (by omega) rfl rfl rfl) ?_; go_frame
                  refine tY _ hS rfl (yIdxD _ _ g n cap k (by omega) rfl rfl rfl rfl) ?_; go_frame
                  refine tOne rfl ?_
                  refine kStoreD _ _ g n cap k (dv dk m) dk hDz1 (by omega) rfl rfl rfl rfl ?_
                  intro z1a hDz1a hWn
                  have hEz1a := hEz1.trans (exc_wrote hWn)
                  clear hWn hDz1 hEz1 hS
                  have hS : (fun _ : World => True) z1a := trivial
                  refine mixOn ⟨_, (fun _ h => h), hS, ?_⟩
                  go_frame
                  refine tY _ hS rfl (yIdxD _ _ g n cap m (by omega) rfl rfl rfl rfl) ?_; go_frame
                  refine tOne rfl ?_
                  refine kStoreD _ _ g n cap m (dv dk k) ((dk.setIfInBounds k (dv dk m))) hDz1a (by omega) rfl rfl rfl rfl ?_
                  intro z1b hDz1b hWn
                  have hEz1b := hEz1a.trans (exc_wrote hWn)
                  clear hWn hDz1a hEz1a hS
                  have hS : (fun _ : World => True) z1b := trivial
                  refine mixOn ⟨_, (fun _ h => h), hS, ?_⟩
                  go_frame
                  refine tDone ?_
                  clear hS
                  have hFz1 : Dat z1b g n cap (Sort.swp dk k m) := hDz1b
                  clear hDz1b
                  go_wp2_with (first
                    | ((with_reducible change wpList _ _ _ (Oper.mk (some 80) _ _ _ _ _ :: _) _ _); refine kYw (yAddZ _ _ _ _ (k : Int) 1 ((k + 1 : Nat) : Int) (by omega) rfl rfl rfl rfl) ?_; go_frame)
                    | ((with_reducible change wpList _ _ _ (Oper.mk (some 82) _ _ _ _ _ :: _) _ _); refine kYw (ySubZ _ _ _ _ (m : Int) 1 ((m - 1 : Nat) : Int) (by omega) rfl rfl rfl rfl) ?_; go_frame))
                  have ek : dv (Sort.swp dk k m) k = dv dk m := by rw [dv_swp dk k (by omega) (by omega), if_neg hne, if_pos rfl]
                  have em : dv (Sort.swp dk k m) m = dv dk k := by rw [dv_swp dk m (by omega) (by omega), if_pos rfl]
                  have ea : dv (Sort.swp dk k m) a = p := by rw [dv_swp dk a (by omega) (by omega), if_neg (by omega), if_neg (by omega)]; exact hp
                  have l1 := (hlk.swp (i := k) (j := m) (by omega) (by omega) (by omega) (by omega)).snoc (by rw [ek]; first | exact Nat.le_of_not_lt hcm | omega)
                  have l2 := (hlm.swp (i := k) (j := m) (by omega) (by omega) (by omega) (by omega)).cons (by rw [em]; first | exact Nat.lt_of_not_le hck | omega)
                  go_roundw
                  case rel => exact ⟨k + 1, m - 1, _, by omega, by omega, by omega, rfl, rfl, hFz1, hEz1b, hP.trans (PermI.swp dk ⟨by omega, by omega⟩ ⟨by omega, by omega⟩ (by omega)), ea, l1, by rw [show m - 1 + 1 = m by omega]; exact l2⟩
                  case measure => first | (simp [intOf]; done) | (simp [intOf]; omega)
def PartPost (w : World) (g n cap a b : Nat) (d : Array Nat) (e : Ending) (w' : World) : Prop := ∃ (mid p : Nat) (al : Bool) (d' : Array Nat), e = .returned (.tuple #[.int .i64 (mid : Int), .bool al]) ∧ Parted a b mid p d d' ∧ Dat w' g n cap d' ∧ Exc g w w'
theorem ret2V {fn : Func} {R : Ending → World → Prop} {P : Program} {a : Act} {w : World} {t u : Tmp} (h : fn.results = #[.tmp t, .tmp u]) (hd : a.defers = []) (hR : R (.returned (.tuple #[a.tmps.getD t undef, a.tmps.getD u undef])) w) : bodyPost P fn R .ret a w :=
  bodyPost_ret (by simp [results, h]) hd hR
set_option maxRecDepth 100000 in
set_option maxHeartbeats 16000000 in
theorem sPart_any {g n cap a b pv : Nat} {d : Array Nat} (w : World) (hD : Dat w g n cap d) (hap : a ≤ pv) (hpb : pv < b) (hb : b ≤ n) (hn : n ≤ 50) : Calls Try.prog 67 #[.slice (some ⟨g, 0, none⟩) n cap, .int .i64 (a : Int), .int .i64 (b : Int), .int .i64 (pv : Int)] w (PartPost w g n cap a b d) := by
  have hE := exc_refl g w
  have hs := hD.size
  obtain ⟨K0, HK0⟩ : ∃ K0, Hid (a + 1 = K0) := ⟨_, Lib.hid rfl⟩
  obtain ⟨M0, HM0⟩ : ∃ M0, Hid (b - 1 = M0) := ⟨_, Lib.hid rfl⟩
  go_enter Try.func67, Try.ntmps67
  go_wp2
  refine region_tree (.q 0 (.q 1 (.q 2 (.q 3 (.q 4 (.q 5 (.q 6 (.q 8 (.q 9 (.q 10 (.two 7 (.one 11 (.q 12 (.one 13 (.q 14 (.one 15 .fin))))) 11 (.one 7 (.q 12 (.one 13 (.q 14 (.one 15 .fin)))))))))))))))) (fun _ => True) (by kernel_rfl) (by kernel_rfl) ?_
  intro z1 hBd hsd; clear hsd
  have hDz1 := hD.below hBd
  have hEz1 := hE.trans (exc_below g hBd)
  clear hBd hD hE
  have hS : (fun _ : World => True) z1 := trivial
  refine tY _ hS rfl (yMove _ (.slice (some ⟨g, 0, none⟩) n cap) rfl rfl rfl) ?_; go_frame
  refine tY _ hS rfl (yMove _ (.int .i64 (a : Int)) rfl rfl rfl) ?_; go_frame
  refine tY _ hS rfl (yMove _ (.slice (some ⟨g, 0, none⟩) n cap) rfl rfl rfl) ?_; go_frame
  refine tY _ hS rfl (yMove _ (.int .i64 (pv : Int)) rfl rfl rfl) ?_; go_frame
  refine tY _ hS rfl (yMove _ (.slice (some ⟨g, 0, none⟩) n cap) rfl rfl rfl) ?_; go_frame
  refine tY _ hS rfl (yMove _ (.int .i64 (pv : Int)) rfl rfl rfl) ?_; go_frame
  refine tY _ hS rfl (yIdxD _ _ g n cap pv (by have := HK0.out; have := HM0.out; omega) rfl rfl rfl rfl) ?_; go_frame
  refine tY _ hS rfl (yMove _ (.slice (some ⟨g, 0, none⟩) n cap) rfl rfl rfl) ?_; go_frame
  refine tY _ hS rfl (yMove _ (.int .i64 (a : Int)) rfl rfl rfl) ?_; go_frame
  refine tY _ hS rfl (yIdxD _ _ g n cap a (by have := HK0.out; have := HM0.out; omega) rfl rfl rfl rfl) ?_; go_frame
  refine tTwoSo (VW (dv d pv)) (VW (dv d a)) rfl rfl rfl rfl (by decide) (yLoadD _ (fun _ e => by cases e; exact hDz1) (by have := HK0.out; have := HM0.out; omega) rfl rfl rfl) (yLoadD _ (fun _ e => by cases e; exact hDz1) (by have := HK0.out; have := HM0.out; omega) rfl rfl rfl) (yLoadD _ (fun _ e => by cases e; exact hDz1) (by have := HK0.out; have := HM0.out; omega) rfl rfl rfl) (yLoadD _ (fun _ e => by cases e; exact hDz1) (by have := HK0.out; have := HM0.out; omega) rfl rfl rfl) ?_; go_frame
  refine tY _ hS rfl (yIdxD _ _ g n cap a (by have := HK0.out; have := HM0.out; omega) rfl rfl rfl rfl) ?_; go_frame
  refine tOne rfl ?_
  refine kStoreD _ _ g n cap a (dv d pv) d hDz1 (by have := HK0.out; have := HM0.out; omega) rfl rfl rfl rfl ?_
  intro z1a hDz1a hWn
  have hEz1a := hEz1.trans (exc_wrote hWn)
  clear hWn hDz1 hEz1 hS
  have hS : (fun _ : World => True) z1a := trivial
  refine mixOn ⟨_, (fun _ h => h), hS, ?_⟩
  go_frame
  refine tY _ hS rfl (yIdxD _ _ g n cap pv (by have := HK0.out; have := HM0.out; omega) rfl rfl rfl rfl) ?_; go_frame
  refine tOne rfl ?_
  refine kStoreD _ _ g n cap pv (dv d a) ((d.setIfInBounds a (dv d pv))) hDz1a (by have := HK0.out; have := HM0.out; omega) rfl rfl rfl rfl ?_
  intro z1b hDz1b hWn
  have hEz1b := hEz1a.trans (exc_wrote hWn)
  clear hWn hDz1a hEz1a hS
  have hS : (fun _ : World => True) z1b := trivial
  refine mixOn ⟨_, (fun _ h => h), hS, ?_⟩
  go_frame
  refine tDone ?_
  clear hS
  have hFz1 : Dat z1b g n cap (Sort.swp d a pv) := hDz1b
  clear hDz1b
  go_wp2_with (first
    | ((with_reducible change wpList _ _ _ (Oper.mk (some 27) _ _ _ _ _ :: _) _ _); refine kYw (yAddZ _ _ _ _ (a : Int) 1 (K0 : Int) (by have := HK0.out; have := HM0.out; omega) rfl rfl rfl rfl) ?_; go_frame)
    | ((with_reducible change wpList _ _ _ (Oper.mk (some 29) _ _ _ _ _ :: _) _ _); refine kYw (ySubZ _ _ _ _ (b : Int) 1 (M0 : Int) (by have := HK0.out; have := HM0.out; omega) rfl rfl rfl rfl) ?_; go_frame))
  obtain ⟨p, hp⟩ : ∃ p, dv (Sort.swp d a pv) a = p := ⟨_, rfl⟩
  have hP : PermI a b d (Sort.swp d a pv) := PermI.swp d ⟨Nat.le_refl _, by omega⟩ ⟨hap, hpb⟩ (by omega)
  have hK0 := HK0.out
  have hM0 := HM0.out
  obtain ⟨dj, hdj⟩ : ∃ dj, Sort.swp d a pv = dj := ⟨_, rfl⟩
  rw [hdj] at hp hP hFz1
  have hsj := hP.size
  have hl0 : Each (· < p) dj (a + 1) K0 := Each.nil (by omega)
  have hl1 : Each (p ≤ ·) dj (M0 + 1) b := Each.nil (by omega)
  (try go_wp2)
  obtain ⟨wok2, hwok2⟩ : ∃ wo : World, wo = z1b := ⟨_, rfl⟩
  subst hwok2
  go_loopw [10] (fun x wq => ∃ k : Nat, K0 ≤ k ∧ k ≤ M0 + 1 ∧ x = .int .i64 (k : Int) ∧ Dat wq g n cap dj ∧ Exc g w wq ∧ Each (· < p) dj (a + 1) k) (fun x _ => 100 - (intOf x).toNat)
  case atStart => exact ⟨K0, by omega, by omega, rfl, hFz1, hEz1b, hl0⟩
  case round =>
    obtain ⟨k, hk1, hk2, rfl, hDk, hEk, hlk⟩ := hrel
    clear hFz1 hEz1b
    go_wp2
    go_cut [43] (fun s wq => ∃ c : Bool, s = .bool c ∧ (c = true ↔ (k ≤ M0 ∧ dv dj k < p)) ∧ Dat wq g n cap dj ∧ Exc g w wq)
    case first =>
      by_cases hkm : k ≤ M0
      · have dL : decide ((k : Int) ≤ (M0 : Int)) = true := by simp; omega
        obtain ⟨c, Hc⟩ : ∃ c, Hid (decide (dv dj k < dv dj a) = c) := ⟨_, Lib.hid rfl⟩
        (try go_wp2)
        refine region_mixD [(0, true), (1, true), (2, true), (3, true), (4, true), (5, true), (6, true), (7, true), (8, true), (9, true), (10, true), (11, true), (12, false), (13, true)] (fun q => Dat q g n cap dj) (by kernel_rfl) (by kernel_rfl) rfl ?_
        intro z1 hBd hsd; clear hsd
        have hDz1 := hDk.below hBd
        have hEz1 := hEk.trans (exc_below g hBd)
        clear hBd hDk hEk
        simp only [List.map_cons, List.map_nil]
        dsimp only [List.filterMap, List.getElem?_cons_zero, List.getElem?_cons_succ]
        refine dY _ hDz1 (yMove _ (.int .i64 (k : Int)) rfl rfl rfl) ?_; go_frame
        refine dY _ hDz1 (yMove _ (.int .i64 (M0 : Int)) rfl rfl rfl) ?_; go_frame
        refine dY _ hDz1 (yLeqK _ _ _ _ .i64 (k : Int) (M0 : Int) true dL rfl rfl rfl rfl) ?_; go_frame
        refine dY _ hDz1 (yMove _ (.bool true) rfl rfl rfl) ?_; go_frame
        refine dY _ hDz1 (yMove _ (.slice (some ⟨g, 0, none⟩) n cap) rfl rfl rfl) ?_; go_frame
        refine dY _ hDz1 (yMove _ (.int .i64 (k : Int)) rfl rfl rfl) ?_; go_frame
        refine dY _ hDz1 (yIdxD _ _ g n cap k (by omega) rfl rfl rfl rfl) ?_; go_frame
        refine dY _ hDz1 (yLoadD _ (fun _ h => h) (by omega) rfl rfl rfl) ?_; go_frame
        refine dY _ hDz1 (yMove _ (.slice (some ⟨g, 0, none⟩) n cap) rfl rfl rfl) ?_; go_frame
        refine dY _ hDz1 (yMove _ (.int .i64 (a : Int)) rfl rfl rfl) ?_; go_frame
        refine dY _ hDz1 (yIdxD _ _ g n cap a (by omega) rfl rfl rfl rfl) ?_; go_frame
        refine dY _ hDz1 (yLoadD _ (fun _ h => h) (by omega) rfl rfl rfl) ?_; go_frame
        refine dLoud ?_
        refine kCall2 65 _ _ _ _ _ rfl rfl (by kernel_rfl) rfl rfl ?_
        refine (kLess_as (Hc.out) _).mono ?_
        rintro e z' ⟨rfl, rfl⟩
        refine ⟨_, rfl, mixOn ⟨_, (fun _ h => h), hDz1, ?_⟩⟩
        go_frame
        refine dY _ hDz1 (yPick _ _ _ true (.bool c) rfl rfl rfl rfl) ?_; go_frame
        refine dDone ?_
        (try go_wp2_with fail)
        go_meet
        case rel => exact ⟨c, rfl, (by rw [← Hc.out]; simp; omega), hDz1, hEz1⟩
      · have dL : decide ((k : Int) ≤ (M0 : Int)) = false := by simp; omega
        (try go_wp2)
        refine region_mixD [(0, true), (1, true), (2, true), (3, true), (4, true), (5, true), (6, true), (7, true), (8, true), (9, true), (10, true), (11, true), (12, true), (13, true)] (fun q => Dat q g n cap dj) (by kernel_rfl) (by kernel_rfl) rfl ?_
        intro z1 hBd hsd; clear hsd
        have hDz1 := hDk.below hBd
        have hEz1 := hEk.trans (exc_below g hBd)
        clear hBd hDk hEk
        simp only [List.map_cons, List.map_nil]
        dsimp only [List.filterMap, List.getElem?_cons_zero, List.getElem?_cons_succ]
        refine dY _ hDz1 (yMove _ (.int .i64 (k : Int)) rfl rfl rfl) ?_; go_frame
        refine dY _ hDz1 (yMove _ (.int .i64 (M0 : Int)) rfl rfl rfl) ?_; go_frame
        refine dY _ hDz1 (yLeqK _ _ _ _ .i64 (k : Int) (M0 : Int) false dL rfl rfl rfl rfl) ?_; go_frame
        refine dY _ hDz1 (yMove _ (.bool false) rfl rfl rfl) ?_; go_frame
        refine dY _ hDz1 (ySkip rfl) ?_; go_frame
        refine dY _ hDz1 (ySkip rfl) ?_; go_frame
        refine dY _ hDz1 (ySkip rfl) ?_; go_frame
        refine dY _ hDz1 (ySkip rfl) ?_; go_frame
        refine dY _ hDz1 (ySkip rfl) ?_; go_frame
        refine dY _ hDz1 (ySkip rfl) ?_; go_frame
        refine dY _ hDz1 (ySkip rfl) ?_; go_frame
        refine dY _ hDz1 (ySkip rfl) ?_; go_frame
        refine dY _ hDz1 (ySkip rfl) ?_; go_frame
        refine dY _ hDz1 (yPick _ _ _ false (.bool false) rfl rfl rfl rfl) ?_; go_frame
        refine dDone ?_
        (try go_wp2_with fail)
        go_meet
        case rel => exact ⟨false, rfl, ⟨(fun h => absurd h (by decide)), (fun h => absurd h.1 hkm)⟩, hDz1, hEz1⟩
    case rest =>
      obtain ⟨c, rfl, hc, hD2k, hE2k⟩ := hcut
      clear hDk hEk
      cases c with
      | true =>
        obtain ⟨hc1, hc2⟩ := hc.1 rfl
        go_wp2_with (first
          | ((with_reducible change wpList _ _ _ (Oper.mk (some 45) _ _ _ _ _ :: _) _ _); refine kYw (yAddZ _ _ _ _ (k : Int) 1 ((k + 1 : Nat) : Int) (by omega) rfl rfl rfl rfl) ?_; go_frame))
        go_roundw
        case rel => exact ⟨k + 1, by omega, by omega, rfl, hD2k, hE2k, hlk.snoc (by first | exact hc2 | omega)⟩
        case measure => first | (simp [intOf]; done) | (simp [intOf]; omega)
      | false =>
        have hxk : ¬ (k ≤ M0 ∧ dv dj k < p) := fun h => by cases hc.2 h
        clear hc
        (try go_wp2)
        obtain ⟨wom8, hwom8⟩ : ∃ wo : World, wo = wc := ⟨_, rfl⟩
        subst hwom8
        go_loopw [11] (fun x wq => ∃ m : Nat, m ≤ M0 ∧ k ≤ m + 1 ∧ x = .int .i64 (m : Int) ∧ Dat wq g n cap dj ∧ Exc g w wq ∧ Each (p ≤ ·) dj (m + 1) b) (fun x _ => (intOf x).toNat)
        case atStart => exact ⟨M0, by omega, by omega, rfl, hD2k, hE2k, hl1⟩
        case round =>
          obtain ⟨m, hm1, hm2, rfl, hDm, hEm, hlm⟩ := hrel
          clear hD2k hE2k
          go_wp2
          go_cut [60] (fun s wq => ∃ c : Bool, s = .bool c ∧ (c = true ↔ (k ≤ m ∧ p ≤ dv dj m)) ∧ Dat wq g n cap dj ∧ Exc g w wq)
          case first =>
            by_cases hkm : k ≤ m
            · have dL : decide ((k : Int) ≤ (m : Int)) = true := by simp; omega
              obtain ⟨c, Hc⟩ : ∃ c, Hid (decide (dv dj m < dv dj a) = c) := ⟨_, Lib.hid rfl⟩
              (try go_wp2)
              refine region_mixD [(0, true), (1, true), (2, true), (3, true), (4, true), (5, true), (6, true), (7, true), (8, true), (9, true), (10, true), (11, true), (12, false), (13, true), (14, true)] (fun q => Dat q g n cap dj) (by kernel_rfl) (by kernel_rfl) rfl ?_
              intro z1 hBd hsd; clear hsd
              have hDz1 := hDm.below hBd
              have hEz1 := hEm.trans (exc_below g hBd)
              clear hBd hDm hEm
              simp only [List.map_cons, List.map_nil]
              dsimp only [List.filterMap, List.getElem?_cons_zero, List.getElem?_cons_succ]
              refine dY _ hDz1 (yMove _ (.int .i64 (k : Int)) rfl rfl rfl) ?_; go_frame
              refine dY _ hDz1 (yMove _ (.int .i64 (m : Int)) rfl rfl rfl) ?_; go_frame
              refine dY _ hDz1 (yLeqK _ _ _ _ .i64 (k : Int) (m : Int) true dL rfl rfl rfl rfl) ?_; go_frame
              refine dY _ hDz1 (yMove _ (.bool true) rfl rfl rfl) ?_; go_frame
              refine dY _ hDz1 (yMove _ (.slice (some ⟨g, 0, none⟩) n cap) rfl rfl rfl) ?_; go_frame
              refine dY _ hDz1 (yMove _ (.int .i64 (m : Int)) rfl rfl rfl) ?_; go_frame
              refine dY _ hDz1 (yIdxD _ _ g n cap m (by omega) rfl rfl rfl rfl) ?_; go_frame
              refine dY _ hDz1 (yLoadD _ (fun _ h => h) (by omega) rfl rfl rfl) ?_; go_frame
              refine dY _ hDz1 (yMove _ (.slice (some ⟨g, 0, none⟩) n cap) rfl rfl rfl) ?_; go_frame
              refine dY _ hDz1 (yMove _ (.int .i64 (a : Int)) rfl rfl rfl) ?_; go_frame
              refine dY _ hDz1 (yIdxD _ _ g n cap a (by omega) rfl rfl rfl rfl) ?_; go_frame
              refine dY _ hDz1 (yLoadD _ (fun _ h => h) (by omega) rfl rfl rfl) ?_; go_frame
              refine dLoud ?_
              refine kCall2 65 _ _ _ _ _ rfl rfl (by kernel_rfl) rfl rfl ?_
              refine (kLess_as (Hc.out) _).mono ?_
              rintro e z' ⟨rfl, rfl⟩
              refine ⟨_, rfl, mixOn ⟨_, (fun _ h => h), hDz1, ?_⟩⟩
              go_frame
              refine dY _ hDz1 (yNotW _ _ c rfl rfl rfl) ?_; go_frame
              refine dY _ hDz1 (yPick _ _ _ true (.bool (!c)) rfl rfl rfl rfl) ?_; go_frame
              refine dDone ?_
              (try go_wp2_with fail)
              go_meet
              case rel => exact ⟨(!c), rfl, (by rw [← Hc.out]; simp; omega), hDz1, hEz1⟩
            · have dL : decide ((k : Int) ≤ (m : Int)) = false := by simp; omega
              (try go_wp2)
              refine region_mixD [(0, true), (1, true), (2, true), (3, true), (4, true), (5, true), (6, true), (7, true), (8, true), (9, true), (10, true), (11, true), (12, true), (13, true), (14, true)] (fun q => Dat q g n cap dj) (by kernel_rfl) (by kernel_rfl) rfl ?_
              intro z1 hBd hsd; clear hsd
              have hDz1 := hDm.below hBd
              have hEz1 := hEm.trans (exc_below g hBd)
              clear hBd hDm hEm
              simp only [List.map_cons, List.map_nil]
              dsimp only [List.filterMap, List.getElem?_cons_zero, List.getElem?_cons_succ]
              refine dY _ hDz1 (yMove _ (.int .i64 (k : Int)) rfl rfl rfl) ?_; go_frame
              refine dY _ hDz1 (yMove _ (.int .i64 (m : Int)) rfl rfl rfl) ?_; go_frame
              refine dY _ hDz1 (yLeqK _ _ _ _ .i64 (k : Int) (m : Int) false dL rfl rfl rfl rfl) ?_; go_frame
              refine dY _ hDz1 (yMove _ (.bool false) rfl rfl rfl) ?_; go_frame
              refine dY _ hDz1 (ySkip rfl) ?_; go_frame
              refine dY _ hDz1 (ySkip rfl) ?_; go_frame
              refine dY _ hDz1 (ySkip rfl) ?_; go_frame
              refine dY _ hDz1 (ySkip rfl) ?_; go_frame
              refine dY _ hDz1 (ySkip rfl) ?_; go_frame
              refine dY _ hDz1 (ySkip rfl) ?_; go_frame
              refine dY _ hDz1 (ySkip rfl) ?_; go_frame
              refine dY _ hDz1 (ySkip rfl) ?_; go_frame
              refine dY _ hDz1 (ySkip rfl) ?_; go_frame
              refine dY _ hDz1 (ySkip rfl) ?_; go_frame
              refine dY _ hDz1 (yPick _ _ _ false (.bool false) rfl rfl rfl rfl) ?_; go_frame
              refine dDone ?_
              (try go_wp2_with fail)
              go_meet
              case rel => exact ⟨false, rfl, ⟨(fun h => absurd h (by decide)), (fun h => absurd h.1 hkm)⟩, hDz1, hEz1⟩
          case rest =>
            obtain ⟨c, rfl, hc, hD2m, hE2m⟩ := hcut
            clear hDm hEm
            cases c with
            | true =>
              obtain ⟨hc1, hc2⟩ := hc.1 rfl
              go_wp2_with (first
                | ((with_reducible change wpList _ _ _ (Oper.mk (some 62) _ _ _ _ _ :: _) _ _); refine kYw (ySubZ _ _ _ _ (m : Int) 1 ((m - 1 : Nat) : Int) (by omega) rfl rfl rfl rfl) ?_; go_frame))
              go_roundw
              case rel => exact ⟨m - 1, by omega, by omega, rfl, hD2m, hE2m, by rw [show m - 1 + 1 = m by omega]; exact hlm.cons (by first | exact hc2 | omega)⟩
              case measure => first | (simp [intOf]; done) | (simp [intOf]; omega)
            | false =>
              have hxm : ¬ (k ≤ m ∧ p ≤ dv dj m) := fun h => by cases hc.2 h
              clear hc
              by_cases hkm : m < k
              · have d7 : decide ((k : Int) > (m : Int)) = true := by simp; omega
                go_wp2_with (first
                  | ((with_reducible change wpList _ _ _ (Oper.mk (some 65) _ _ _ _ _ :: _) _ _); refine kYw (yGtrK _ _ _ _ .i64 (k : Int) (m : Int) true d7 rfl rfl rfl rfl) ?_; go_frame))
                refine region_tree (.q 0 (.q 1 (.q 2 (.q 3 (.q 4 (.q 5 (.q 6 (.q 8 (.q 9 (.q 10 (.two 7 (.one 11 (.q 12 (.one 13 (.q 14 (.one 15 .fin))))) 11 (.one 7 (.q 12 (.one 13 (.q 14 (.one 15 .fin)))))))))))))))) (fun _ => True) (by kernel_rfl) (by kernel_rfl) ?_
                intro z1 hBd hsd; clear hsd
                have hDz1 := hD2m.below hBd
                have hEz1 := hE2m.trans (exc_below g hBd)
                clear hBd hD2m hE2m
                have hS : (fun _ : World => True) z1 := trivial
                refine tY _ hS rfl (yMove _ (.slice (some ⟨g, 0, none⟩) n cap) rfl rfl rfl) ?_; go_frame
                refine tY _ hS rfl (yMove _ (.int .i64 (m : Int)) rfl rfl rfl) ?_; go_frame
                refine tY _ hS rfl (yMove _ (.slice (some ⟨g, 0, none⟩) n cap) rfl rfl rfl) ?_; go_frame
                refine tY _ hS rfl (yMove _ (.int .i64 (a : Int)) rfl rfl rfl) ?_; go_frame
                refine tY _ hS rfl (yMove _ (.slice (some ⟨g, 0, none⟩) n cap) rfl rfl rfl) ?_; go_frame
                refine tY _ hS rfl (yMove _ (.int .i64 (a : Int)) rfl rfl rfl) ?_; go_frame
                refine tY _ hS rfl (yIdxD _ _ g n cap a (by omega) rfl rfl rfl rfl) ?_; go_frame
                refine tY _ hS rfl (yMove _ (.slice (some ⟨g, 0, none⟩) n cap) rfl rfl rfl) ?_; go_frame
                refine tY _ hS rfl (yMove _ (.int .i64 (m : Int)) rfl rfl rfl) ?_; go_frame
                refine tY _ hS rfl (yIdxD _ _ g n cap m (by omega) rfl rfl rfl rfl) ?_; go_frame
                refine tTwoSo (VW (dv dj a)) (VW (dv dj m)) rfl rfl rfl rfl (by decide) (yLoadD _ (fun _ e => by cases e; exact hDz1) (by omega) rfl rfl rfl) (yLoadD _ (fun _ e => by cases e; exact hDz1) (by omega) rfl rfl rfl) (yLoadD _ (fun _ e => by cases e; exact hDz1) (by omega) rfl rfl rfl) (yLoadD _ (fun _ e => by cases e; exact hDz1) (by omega) rfl rfl rfl) ?_; go_frame
                refine tY _ hS rfl (yIdxD _ _ g n cap m (by omega) rfl rfl rfl rfl) ?_; go_frame
                refine tOne rfl ?_
                refine kStoreD _ _ g n cap m (dv dj a) dj hDz1 (by omega) rfl rfl rfl rfl ?_
                intro z1a hDz1a hWn
                have hEz1a := hEz1.trans (exc_wrote hWn)
                clear hWn hDz1 hEz1 hS
                have hS : (fun _ : World => True) z1a := trivial
                refine mixOn ⟨_, (fun _ h => h), hS, ?_⟩
                go_frame
                refine tY _ hS rfl (yIdxD _ _ g n cap a (by omega) rfl rfl rfl rfl) ?_; go_frame
                refine tOne rfl ?_
                refine kStoreD _ _ g n cap a (dv dj m) ((dj.setIfInBounds m (dv dj a))) hDz1a (by omega) rfl rfl rfl rfl ?_
                intro z1b hDz1b hWn
                have hEz1b := hEz1a.trans (exc_wrote hWn)
                clear hWn hDz1a hEz1a hS
                have hS : (fun _ : World => True) z1b := trivial
                refine mixOn ⟨_, (fun _ h => h), hS, ?_⟩
                go_frame
                refine tDone ?_
                clear hS
                have hFz1 : Dat z1b g n cap (Sort.swp dj m a) := hDz1b
                clear hDz1b
                go_wp2
                (try simp only [Exit.inBlock, Exit.then])
                refine ret2V rfl rfl ?_
                have hmk : m + 1 = k := by omega
                exact ⟨m, p, true, _, rfl, part_end (by omega) (by omega) (by omega) hP (by omega) hp (hmk ▸ hlk) hlm, hFz1, hEz1b⟩
              · have d7 : decide ((k : Int) > (m : Int)) = false := by simp; omega
                have hck : ¬ (dv dj k < p) := fun h => hxk ⟨by omega, h⟩
                have hcm : ¬ (p ≤ dv dj m) := fun h => hxm ⟨by omega, h⟩
                have hne : k ≠ m := by rintro rfl; omega
                go_wp2_with (first
                  | ((with_reducible change wpList _ _ _ (Oper.mk (some 65) _ _ _ _ _ :: _) _ _); refine kYw (yGtrK _ _ _ _ .i64 (k : Int) (m : Int) false d7 rfl rfl rfl rfl) ?_; go_frame))
                refine region_tree (.q 0 (.q 1 (.q 2 (.q 3 (.q 4 (.q 5 (.q 6 (.q 8 (.q 9 (.q 10 (.two 7 (.one 11 (.q 12 (.one 13 (.q 14 (.one 15 .fin))))) 11 (.one 7 (.q 12 (.one 13 (.q 14 (.one 15 .fin)))))))))))))))) (fun _ => True) (by kernel_rfl) (by kernel_rfl) ?_
                intro z1 hBd hsd; clear hsd
                have hDz1 := hD2m.below hBd
                have hEz1 := hE2m.trans (exc_below g hBd)
                clear hBd hD2m hE2m
                have hS : (fun _ : World => True) z1 := trivial
                refine tY _ hS rfl (yMove _ (.slice (some ⟨g, 0, none⟩) n cap) rfl rfl rfl) ?_; go_frame
                refine tY _ hS rfl (yMove _ (.int .i64 (k : Int)) rfl rfl rfl) ?_; go_frame
                refine tY _ hS rfl (yMove _ (.slice (some ⟨g, 0, none⟩) n cap) rfl rfl rfl) ?_; go_frame
                refine tY _ hS rfl (yMove _ (.int .i64 (m : Int)) rfl rfl rfl) ?_; go_frame
                refine tY _ hS rfl (yMove _ (.slice (some ⟨g, 0, none⟩) n cap) rfl rfl rfl) ?_; go_frame
                refine tY _ hS rfl (yMove _ (.int .i64 (m : Int)) rfl rfl rfl) ?_; go_frame
                refine tY _ hS rfl (yIdxD _ _ g n cap m (by omega) rfl rfl rfl rfl) ?_; go_frame
                refine tY _ hS rfl (yMove _ (.slice (some ⟨g, 0, none⟩) n cap) rfl rfl rfl) ?_; go_frame
                refine tY _ hS rfl (yMove _ (.int .i64 (k : Int)) rfl rfl rfl) ?_; go_frame
                refine tY _ hS rfl (yIdxD _ _ g n cap k (by omega) rfl rfl rfl rfl) ?_; go_frame
                refine tTwoSo (VW (dv dj m)) (VW (dv dj k)) rfl rfl rfl rfl (by decide) (yLoadD _ (fun _ e => by cases e; exact hDz1) (by omega) rfl rfl rfl) (yLoadD _ (fun _ e => by cases e; exact hDz1) (by omega) rfl rfl rfl) (yLoadD _ (fun _ e => by cases e; exact hDz1) (by omega) rfl rfl rfl) (yLoadD _ (fun _ e => by cases e; exact hDz1) (by omega) rfl rfl rfl) ?_; go_frame
                refine tY _ hS rfl (yIdxD _ _ g n cap k (by omega) rfl rfl rfl rfl) ?_; go_frame
                refine tOne rfl ?_
                refine kStoreD _ _ g n cap k (dv dj m) dj hDz1 (by omega) rfl rfl rfl rfl ?_
                intro z1a hDz1a hWn
                have hEz1a := hEz1.trans (exc_wrote hWn)
                clear hWn hDz1 hEz1 hS
                have hS : (fun _ : World => True) z1a := trivial
                refine mixOn ⟨_, (fun _ h => h), hS, ?_⟩
                go_frame
                refine tY _ hS rfl (yIdxD _ _ g n cap m (by omega) rfl rfl rfl rfl) ?_; go_frame
                refine tOne rfl ?_
                refine kStoreD _ _ g n cap m (dv dj k) ((dj.setIfInBounds k (dv dj m))) hDz1a (by omega) rfl rfl rfl rfl ?_
                intro z1b hDz1b hWn
                have hEz1b := hEz1a.trans (exc_wrote hWn)
                clear hWn hDz1a hEz1a hS
                have hS : (fun _ : World => True) z1b := trivial
                refine mixOn ⟨_, (fun _ h => h), hS, ?_⟩
                go_frame
                refine tDone ?_
                clear hS
                have hFz1 : Dat z1b g n cap (Sort.swp dj k m) := hDz1b
                clear hDz1b
                go_wp2_with (first
                  | ((with_reducible change wpList _ _ _ (Oper.mk (some 96) _ _ _ _ _ :: _) _ _); refine kYw (yAddZ _ _ _ _ (k : Int) 1 ((k + 1 : Nat) : Int) (by omega) rfl rfl rfl rfl) ?_; go_frame)
                  | ((with_reducible change wpList _ _ _ (Oper.mk (some 98) _ _ _ _ _ :: _) _ _); refine kYw (ySubZ _ _ _ _ (m : Int) 1 ((m - 1 : Nat) : Int) (by omega) rfl rfl rfl rfl) ?_; go_frame))
                have ek : dv (Sort.swp dj k m) k = dv dj m := by rw [dv_swp dj k (by omega) (by omega), if_neg hne, if_pos rfl]
                have em : dv (Sort.swp dj k m) m = dv dj k := by rw [dv_swp dj m (by omega) (by omega), if_pos rfl]
                have ea : dv (Sort.swp dj k m) a = p := by rw [dv_swp dj a (by omega) (by omega), if_neg (by omega), if_neg (by omega)]; exact hp
                have l1 := (hlk.swp (i := k) (j := m) (by omega) (by omega) (by omega) (by omega)).snoc (by rw [ek]; first | exact Nat.lt_of_not_le hcm | omega)
                have l2 := (hlm.swp (i := k) (j := m) (by omega) (by omega) (by omega) (by omega)).cons (by rw [em]; first | exact Nat.le_of_not_lt hck | omega)
                have hP2 := hP.trans (PermI.swp dj (i := k) (j := m) ⟨by omega, by omega⟩ ⟨by omega, by omega⟩ (by omega))
                clear hP hp hlk hlm hxk hxm hck hcm
                obtain ⟨wv, hwv⟩ : ∃ wv : World, wv = z1b := ⟨_, rfl⟩
                subst hwv
                go_loopw [10, 11] (fun x y wr => ∃ (K1 M1 : Nat) (dk : Array Nat), a + 1 ≤ K1 ∧ K1 ≤ M1 + 1 ∧ M1 < b ∧ x = .int .i64 (K1 : Int) ∧ y = .int .i64 (M1 : Int) ∧ Dat wr g n cap dk ∧ Exc g w wr ∧ PermI a b d dk ∧ dv dk a = p ∧ Each (· < p) dk (a + 1) K1 ∧ Each (p ≤ ·) dk (M1 + 1) b) (fun x y _ => (intOf y + 1 - intOf x).toNat)
                case atStart => exact ⟨k + 1, m - 1, _, by omega, by omega, by omega, rfl, rfl, hFz1, hEz1b, hP2, ea, l1, by rw [show m - 1 + 1 = m by omega]; exact l2⟩
                case round =>
                  obtain ⟨K1, M1, dk, hK1, hK2, hM, rfl, rfl, hDo, hEo, hP, hp, hlK, hlM⟩ := hrel
                  clear hFz1 hEz1b hP2 ea l1 l2 ek em hne hkm hk1 hk2 hm1 hm2 d7
                  have hsk := hP.size
                  (try go_wp2)
                  obtain ⟨wok18, hwok18⟩ : ∃ wo : World, wo = wr := ⟨_, rfl⟩
                  subst hwok18
                  go_loopw [10] (fun x wq => ∃ k : Nat, K1 ≤ k ∧ k ≤ M1 + 1 ∧ x = .int .i64 (k : Int) ∧ Dat wq g n cap dk ∧ Exc g w wq ∧ Each (· < p) dk (a + 1) k) (fun x _ => 100 - (intOf x).toNat)
                  case atStart => exact ⟨K1, by omega, by omega, rfl, hDo, hEo, hlK⟩
                  case round =>
                    obtain ⟨k, hk1, hk2, rfl, hDk, hEk, hlk⟩ := hrel
                    clear hDo hEo
                    go_wp2
                    go_cut [112] (fun s wq => ∃ c : Bool, s = .bool c ∧ (c = true ↔ (k ≤ M1 ∧ dv dk k < p)) ∧ Dat wq g n cap dk ∧ Exc g w wq)
                    case first =>
                      by_cases hkm : k ≤ M1
                      · have dL : decide ((k : Int) ≤ (M1 : Int)) = true := by simp; omega
                        obtain ⟨c, Hc⟩ : ∃ c, Hid (decide (dv dk k < dv dk a) = c) := ⟨_, Lib.hid rfl⟩
                        (try go_wp2)
                        refine region_mixD [(0, true), (1, true), (2, true), (3, true), (4, true), (5, true), (6, true), (7, true), (8, true), (9, true), (10, true), (11, true), (12, false), (13, true)] (fun q => Dat q g n cap dk) (by kernel_rfl) (by kernel_rfl) rfl ?_
                        intro z1 hBd hsd; clear hsd
                        have hDz1 := hDk.below hBd
                        have hEz1 := hEk.trans (exc_below g hBd)
                        clear hBd hDk hEk
                        simp only [List.map_cons, List.map_nil]
                        dsimp only [List.filterMap, List.getElem?_cons_zero, List.getElem?_cons_succ]
                        refine dY _ hDz1 (yMove _ (.int .i64 (k : Int)) rfl rfl rfl) ?_; go_frame
                        refine dY _ hDz1 (yMove _ (.int .i64 (M1 : Int)) rfl rfl rfl) ?_; go_frame
                        refine dY _ hDz1 (yLeqK _ _ _ _ .i64 (k : Int) (M1 : Int) true dL rfl rfl rfl rfl) ?_; go_frame
                        refine dY _ hDz1 (yMove _ (.bool true) rfl rfl rfl) ?_; go_frame
                        refine dY _ hDz1 (yMove _ (.slice (some ⟨g, 0, none⟩) n cap) rfl rfl rfl) ?_; go_frame
                        refine dY _ hDz1 (yMove _ (.int .i64 (k : Int)) rfl rfl rfl) ?_; go_frame
                        refine dY _ hDz1 (yIdxD _ _ g n cap k (by omega) rfl rfl rfl rfl) ?_; go_frame
                        refine dY _ hDz1 (yLoadD _ (fun _ h => h) (by omega) rfl rfl rfl) ?_; go_frame
                        refine dY _ hDz1 (yMove _ (.slice (some ⟨g, 0, none⟩) n cap) rfl rfl rfl) ?_; go_frame
                        refine dY _ hDz1 (yMove _ (.int .i64 (a : Int)) rfl rfl rfl) ?_; go_frame
                        refine dY _ hDz1 (yIdxD _ _ g n cap a (by omega) rfl rfl rfl rfl) ?_; go_frame
                        refine dY _ hDz1 (yLoadD _ (fun _ h => h) (by omega) rfl rfl rfl) ?_; go_frame
                        refine dLoud ?_
                        refine kCall2 65 _ _ _ _ _ rfl rfl (by kernel_rfl) rfl rfl ?_
                        refine (kLess_as (Hc.out) _).mono ?_
                        rintro e z' ⟨rfl, rfl⟩
                        refine ⟨_, rfl, mixOn ⟨_, (fun _ h => h), hDz1, ?_⟩⟩
                        go_frame
                        refine dY _ hDz1 (yPick _ _ _ true (.bool c) rfl rfl rfl rfl) ?_; go_frame
                        refine dDone ?_
                        (try go_wp2_with fail)
                        go_meet
                        case rel => exact ⟨c, rfl, (by rw [← Hc.out]; simp; omega), hDz1, hEz1⟩
                      · have dL : decide ((k : Int) ≤ (M1 : Int)) = false := by simp; omega
                        (try go_wp2)
                        refine region_mixD [(0, true), (1, true), (2, true), (3, true), (4, true), (5, true), (6, true), (7, true), (8, true), (9, true), (10, true), (11, true), (12, true), (13, true)] (fun q => Dat q g n cap dk) (by kernel_rfl) (by kernel_rfl) rfl ?_
                        intro z1 hBd hsd; clear hsd
                        have hDz1 := hDk.below hBd
                        have hEz1 := hEk.trans (exc_below g hBd)
                        clear hBd hDk hEk
                        simp only [List.map_cons, List.map_nil]
                        dsimp only [List.filterMap, List.getElem?_cons_zero, List.getElem?_cons_succ]
                        refine dY _ hDz1 (yMove _ (.int .i64 (k : Int)) rfl rfl rfl) ?_; go_frame
                        refine dY _ hDz1 (yMove _ (.int .i64 (M1 : Int)) rfl rfl rfl) ?_; go_frame
                        refine dY _ hDz1 (yLeqK _ _ _ _ .i64 (k : Int) (M1 : Int) false dL rfl rfl rfl rfl) ?_; go_frame
                        refine dY _ hDz1 (yMove _ (.bool false) rfl rfl rfl) ?_; go_frame
                        refine dY _ hDz1 (ySkip rfl) ?_; go_frame
                        refine dY _ hDz1 (ySkip rfl) ?_; go_frame
                        refine dY _ hDz1 (ySkip rfl) ?_; go_frame
                        refine dY _ hDz1 (ySkip rfl) ?_; go_frame
                        refine dY _ hDz1 (ySkip rfl) ?_; go_frame
                        refine dY _ hDz1 (ySkip rfl) ?_; go_frame
                        refine dY _ hDz1 (ySkip rfl) ?_; go_frame
                        refine dY _ hDz1 (ySkip rfl) ?_; go_frame
                        refine dY _ hDz1 (ySkip rfl) ?_; go_frame
                        refine dY _ hDz1 (yPick _ _ _ false (.bool false) rfl rfl rfl rfl) ?_; go_frame
                        refine dDone ?_
                        (try go_wp2_with fail)
                        go_meet
                        case rel => exact ⟨false, rfl, ⟨(fun h => absurd h (by decide)), (fun h => absurd h.1 hkm)⟩, hDz1, hEz1⟩
                    case rest =>
                      obtain ⟨c, rfl, hc, hD2k, hE2k⟩ := hcut
                      clear hDk hEk
                      cases c with
                      | true =>
                        obtain ⟨hc1, hc2⟩ := hc.1 rfl
                        go_wp2_with (first
                          | ((with_reducible change wpList _ _ _ (Oper.mk (some 114) _ _ _ _ _ :: _) _ _); refine kYw (yAddZ _ _ _ _ (k : Int) 1 ((k + 1 : Nat) : Int) (by omega) rfl rfl rfl rfl) ?_; go_frame))
                        go_roundw
                        case rel => exact ⟨k + 1, by omega, by omega, rfl, hD2k, hE2k, hlk.snoc (by first | exact hc2 | omega)⟩
                        case measure => first | (simp [intOf]; done) | (simp [intOf]; omega)
                      | false =>
                        have hxk : ¬ (k ≤ M1 ∧ dv dk k < p) := fun h => by cases hc.2 h
                        clear hc
                        (try go_wp2)
                        obtain ⟨wom24, hwom24⟩ : ∃ wo : World, wo = wc := ⟨_, rfl⟩
                        subst hwom24
                        go_loopw [11] (fun x wq => ∃ m : Nat, m ≤ M1 ∧ k ≤ m + 1 ∧ x = .int .i64 (m : Int) ∧ Dat wq g n cap dk ∧ Exc g w wq ∧ Each (p ≤ ·) dk (m + 1) b) (fun x _ => (intOf x).toNat)
                        case atStart => exact ⟨M1, by omega, by omega, rfl, hD2k, hE2k, hlM⟩
                        case round =>
                          obtain ⟨m, hm1, hm2, rfl, hDm, hEm, hlm⟩ := hrel
                          clear hD2k hE2k
                          go_wp2
                          go_cut [129] (fun s wq => ∃ c : Bool, s = .bool c ∧ (c = true ↔ (k ≤ m ∧ p ≤ dv dk m)) ∧ Dat wq g n cap dk ∧ Exc g w wq)
                          case first =>
                            by_cases hkm : k ≤ m
                            · have dL : decide ((k : Int) ≤ (m : Int)) = true := by simp; omega
                              obtain ⟨c, Hc⟩ : ∃ c, Hid (decide (dv dk m < dv dk a) = c) := ⟨_, Lib.hid rfl⟩
                              (try go_wp2)
                              refine region_mixD [(0, true), (1, true), (2, true), (3, true), (4, true), (5, true), (6, true), (7, true), (8, true), (9, true), (10, true), (11, true), (12, false), (13, true), (14, true)] (fun q => Dat q g n cap dk) (by kernel_rfl) (by kernel_rfl) rfl ?_
                              intro z1 hBd hsd; clear hsd
                              have hDz1 := hDm.below hBd
                              have hEz1 := hEm.trans (exc_below g hBd)
                              clear hBd hDm hEm
                              simp only [List.map_cons, List.map_nil]
                              dsimp only [List.filterMap, List.getElem?_cons_zero, List.getElem?_cons_succ]
                              refine dY _ hDz1 (yMove _ (.int .i64 (k : Int)) rfl rfl rfl) ?_; go_frame
                              refine dY _ hDz1 (yMove _ (.int .i64 (m : Int)) rfl rfl rfl) ?_; go_frame
                              refine dY _ hDz1 (yLeqK _ _ _ _ .i64 (k : Int) (m : Int) true dL rfl rfl rfl rfl) ?_; go_frame
                              refine dY _ hDz1 (yMove _ (.bool true) rfl rfl rfl) ?_; go_frame
                              refine dY _ hDz1 (yMove _ (.slice (some ⟨g, 0, none⟩) n cap) rfl rfl rfl) ?_; go_frame
                              refine dY _ hDz1 (yMove _ (.int .i64 (m : Int)) rfl rfl rfl) ?_; go_frame
                              refine dY _ hDz1 (yIdxD _ _ g n cap m (by omega) rfl rfl rfl rfl) ?_; go_frame
                              refine dY _ hDz1 (yLoadD _ (fun _ h => h) (by omega) rfl rfl rfl) ?_; go_frame
                              refine dY _ hDz1 (yMove _ (.slice (some ⟨g, 0, none⟩) n cap) rfl rfl rfl) ?_; go_frame
                              refine dY _ hDz1 (yMove _ (.int .i64 (a : Int)) rfl rfl rfl) ?_; go_frame
                              refine dY _ hDz1 (yIdxD _ _ g n cap a (by omega) rfl rfl rfl rfl) ?_; go_frame
                              refine dY _ hDz1 (yLoadD _ (fun _ h => h) (by omega) rfl rfl rfl) ?_; go_frame
                              refine dLoud ?_
                              refine kCall2 65 _ _ _ _ _ rfl rfl (by kernel_rfl) rfl rfl ?_
                              refine (kLess_as (Hc.out) _).mono ?_
                              rintro e z' ⟨rfl, rfl⟩
                              refine ⟨_, rfl, mixOn ⟨_, (fun _ h => h), hDz1, ?_⟩⟩
                              go_frame
                              refine dY _ hDz1 (yNotW _ _ c rfl rfl rfl) ?_; go_frame
                              refine dY _ hDz1 (yPick _ _ _ true (.bool (!c)) rfl rfl rfl rfl) ?_; go_frame
                              refine dDone ?_
                              (try go_wp2_with fail)
                              go_meet
                              case rel => exact ⟨(!c), rfl, (by rw [← Hc.out]; simp; omega), hDz1, hEz1⟩
                            · have dL : decide ((k : Int) ≤ (m : Int)) = false := by simp; omega
                              (try go_wp2)
                              refine region_mixD [(0, true), (1, true), (2, true), (3, true), (4, true), (5, true), (6, true), (7, true), (8, true), (9, true), (10, true), (11, true), (12, true), (13, true), (14, true)] (fun q => Dat q g n cap dk) (by kernel_rfl) (by kernel_rfl) rfl ?_
                              intro z1 hBd hsd; clear hsd
                              have hDz1 := hDm.below hBd
                              have hEz1 := hEm.trans (exc_below g hBd)
                              clear hBd hDm hEm
                              simp only [List.map_cons, List.map_nil]
                              dsimp only [List.filterMap, List.getElem?_cons_zero, List.getElem?_cons_succ]
                              refine dY _ hDz1 (yMove _ (.int .i64 (k : Int)) rfl rfl rfl) ?_; go_frame
                              refine dY _ hDz1 (yMove _ (.int .i64 (m : Int)) rfl rfl rfl) ?_; go_frame
                              refine dY _ hDz1 (yLeqK _ _ _ _ .i64 (k : Int) (m : Int) false dL rfl rfl rfl rfl) ?_; go_frame
                              refine dY _ hDz1 (yMove _ (.bool false) rfl rfl rfl) ?_; go_frame
                              refine dY _ hDz1 (ySkip rfl) ?_; go_frame
                              refine dY _ hDz1 (ySkip rfl) ?_; go_frame
                              refine dY _ hDz1 (ySkip rfl) ?_; go_frame
                              refine dY _ hDz1 (ySkip rfl) ?_; go_frame
                              refine dY _ hDz1 (ySkip rfl) ?_; go_frame
                              refine dY _ hDz1 (ySkip rfl) ?_; go_frame
                              refine dY _ hDz1 (ySkip rfl) ?_; go_frame
                              refine dY _ hDz1 (ySkip rfl) ?_; go_frame
                              refine dY _ hDz1 (ySkip rfl) ?_; go_frame
                              refine dY _ hDz1 (ySkip rfl) ?_; go_frame
                              refine dY _ hDz1 (yPick _ _ _ false (.bool false) rfl rfl rfl rfl) ?_; go_frame
                              refine dDone ?_
                              (try go_wp2_with fail)
                              go_meet
                              case rel => exact ⟨false, rfl, ⟨(fun h => absurd h (by decide)), (fun h => absurd h.1 hkm)⟩, hDz1, hEz1⟩
                          case rest =>
                            obtain ⟨c, rfl, hc, hD2m, hE2m⟩ := hcut
                            clear hDm hEm
                            cases c with
                            | true =>
                              obtain ⟨hc1, hc2⟩ := hc.1 rfl
                              go_wp2_with (first
                                | ((with_reducible change wpList _ _ _ (Oper.mk (some 131) _ _ _ _ _ :: _) _ _); refine kYw (ySubZ _ _ _ _ (m : Int) 1 ((m - 1 : Nat) : Int) (by omega) rfl rfl rfl rfl) ?_; go_frame))
                              go_roundw
                              case rel => exact ⟨m - 1, by omega, by omega, rfl, hD2m, hE2m, by rw [show m - 1 + 1 = m by omega]; exact hlm.cons (by first | exact hc2 | omega)⟩
                              case measure => first | (simp [intOf]; done) | (simp [intOf]; omega)
                            | false =>
                              have hxm : ¬ (k ≤ m ∧ p ≤ dv dk m) := fun h => by cases hc.2 h
                              clear hc
                              by_cases hkm : m < k
                              · have d7 : decide ((k : Int) > (m : Int)) = true := by simp; omega
                                go_wp2_with (first
                                  | ((with_reducible change wpList _ _ _ (Oper.mk (some 134) _ _ _ _ _ :: _) _ _); refine kYw (yGtrK _ _ _ _ .i64 (k : Int) (m : Int) true d7 rfl rfl rfl rfl) ?_; go_frame))
                                refine region_tree (.q 0 (.q 1 (.q 2 (.q 3 (.q 4 (.q 5 (.q 6 (.q 8 (.q 9 (.q 10 (.two 7 (.one 11 (.q 12 (.one 13 (.q 14 (.one 15 .fin))))) 11 (.one 7 (.q 12 (.one 13 (.q 14 (.one 15 .fin)))))))))))))))) (fun _ => True) (by kernel_rfl) (by kernel_rfl) ?_
                                intro z1 hBd hsd; clear hsd
                                have hDz1 := hD2m.below hBd
                                have hEz1 := hE2m.trans (exc_below g hBd)
                                clear hBd hD2m hE2m
                                have hS : (fun _ : World => True) z1 := trivial
                                refine tY _ hS rfl (yMove _ (.slice (some ⟨g, 0, none⟩) n cap) rfl rfl rfl) ?_; go_frame
                                refine tY _ hS rfl (yMove _ (.int .i64 (m : Int)) rfl rfl rfl) ?_; go_frame
                                refine tY _ hS rfl (yMove _ (.slice (some ⟨g, 0, none⟩) n cap) rfl rfl rfl) ?_; go_frame
                                refine tY _ hS rfl (yMove _ (.int .i64 (a : Int)) rfl rfl rfl) ?_; go_frame
                                refine tY _ hS rfl (yMove _ (.slice (some ⟨g, 0, none⟩) n cap) rfl rfl rfl) ?_; go_frame
                                refine tY _ hS rfl (yMove _ (.int .i64 (a : Int)) rfl rfl rfl) ?_; go_frame
                                refine tY _ hS rfl (yIdxD _ _ g n cap a (by omega) rfl rfl rfl rfl) ?_; go_frame
                                refine tY _ hS rfl (yMove _ (.slice (some ⟨g, 0, none⟩) n cap) rfl rfl rfl) ?_; go_frame
                                refine tY _ hS rfl (yMove _ (.int .i64 (m : Int)) rfl rfl rfl) ?_; go_frame
                                refine tY _ hS rfl (yIdxD _ _ g n cap m (by omega) rfl rfl rfl rfl) ?_; go_frame
                                refine tTwoSo (VW (dv dk a)) (VW (dv dk m)) rfl rfl rfl rfl (by decide) (yLoadD _ (fun _ e => by cases e; exact hDz1) (by omega) rfl rfl rfl) (yLoadD _ (fun _ e => by cases e; exact hDz1) (by omega) rfl rfl rfl) (yLoadD _ (fun _ e => by cases e; exact hDz1) (by omega) rfl rfl rfl) (yLoadD _ (fun _ e => by cases e; exact hDz1) (by omega) rfl rfl rfl) ?_; go_frame
                                refine tY _ hS rfl (yIdxD _ _ g n cap m (by omega) rfl rfl rfl rfl) ?_; go_frame
                                refine tOne rfl ?_
                                refine kStoreD _ _ g n cap m (dv dk a) dk hDz1 (by omega) rfl rfl rfl rfl ?_
                                intro z1a hDz1a hWn
                                have hEz1a := hEz1.trans (exc_wrote hWn)
                                clear hWn hDz1 hEz1 hS
                                have hS : (fun _ : World => True) z1a := trivial
                                refine mixOn ⟨_, (fun _ h => h), hS, ?_⟩
                                go_frame
                                refine tY _ hS rfl (yIdxD _ _ g n cap a (by omega) rfl rfl rfl rfl) ?_; go_frame
                                refine tOne rfl ?_
                                refine kStoreD _ _ g n cap a (dv dk m) ((dk.setIfInBounds m (dv dk a))) hDz1a (by omega) rfl rfl rfl rfl ?_
                                intro z1b hDz1b hWn
                                have hEz1b := hEz1a.trans (exc_wrote hWn)
                                clear hWn hDz1a hEz1a hS
                                have hS : (fun _ : World => True) z1b := trivial
                                refine mixOn ⟨_, (fun _ h => h), hS, ?_⟩
                                go_frame
                                refine tDone ?_
                                clear hS
                                have hFz1 : Dat z1b g n cap (Sort.swp dk m a) := hDz1b
                                clear hDz1b
                                go_wp2
                                (try simp only [Exit.inBlock, Exit.then])
                                refine ret2V rfl rfl ?_
                                have hmk : m + 1 = k := by omega
                                exact ⟨m, p, false, _, rfl, part_end (by omega) (by omega) (by omega) hP (by omega) hp (hmk ▸ hlk) hlm, hFz1, hEz1b⟩
                              · have d7 : decide ((k : Int) > (m : Int)) = false := by simp; omega
                                have hck : ¬ (dv dk k < p) := fun h => hxk ⟨by omega, h⟩
                                have hcm : ¬ (p ≤ dv dk m) := fun h => hxm ⟨by omega, h⟩
                                have hne : k ≠ m := by rintro rfl; omega
                                go_wp2_with (first
                                  | ((with_reducible change wpList _ _ _ (Oper.mk (some 134) _ _ _ _ _ :: _) _ _); refine kYw (yGtrK _ _ _ _ .i64 (k : Int) (m : Int) false d7 rfl rfl rfl rfl) ?_; go_frame))
                                refine region_tree (.q 0 (.q 1 (.q 2 (.q 3 (.q 4 (.q 5 (.q 6 (.q 8 (.q 9 (.q 10 (.two 7 (.one 11 (.q 12 (.one 13 (.q 14 (.one 15 .fin))))) 11 (.one 7 (.q 12 (.one 13 (.q 14 (.one 15 .fin)))))))))))))))) (fun _ => True) (by kernel_rfl) (by kernel_rfl) ?_
                                intro z1 hBd hsd; clear hsd
                                have hDz1 := hD2m.below hBd
                                have hEz1 := hE2m.trans (exc_below g hBd)
                                clear hBd hD2m hE2m
                                have hS : (fun _ : World => True) z1 := trivial
                                refine tY _ hS rfl (yMove _ (.slice (some ⟨g, 0, none⟩) n cap) rfl rfl rfl) ?_; go_frame
                                refine tY _ hS rfl (yMove _ (.int .i64 (k : Int)) rfl rfl rfl) ?_; go_frame
                                refine tY _ hS rfl (yMove _ (.slice (some ⟨g, 0, none⟩) n cap) rfl rfl rfl) ?_; go_frame
                                refine tY _ hS rfl (yMove _ (.int .i64 (m : Int)) rfl rfl rfl) ?_; go_frame
                                refine tY _ hS rfl (yMove _ (.slice (some ⟨g, 0, none⟩) n cap) rfl rfl rfl) ?_; go_frame
                                refine tY _ hS rfl (yMove _ (.int .i64 (m : Int)) rfl rfl rfl) ?_; go_frame
                                refine tY _ hS rfl (yIdxD _ _ g n cap m (by omega) rfl rfl rfl rfl) ?_; go_frame
                                refine tY _ hS rfl (yMove _ (.slice (some ⟨g, 0, none⟩) n cap) rfl rfl rfl) ?_; go_frame
                                refine tY _ hS rfl (yMove _ (.int .i64 (k : Int)) rfl rfl rfl) ?_; go_frame
                                refine tY _ hS rfl (yIdxD _ _ g n cap k (by omega) rfl rfl rfl rfl) ?_; go_frame
                                refine tTwoSo (VW (dv dk m)) (VW (dv dk k)) rfl rfl rfl rfl (by decide) (yLoadD _ (fun _ e => by cases e; exact hDz1) (by omega) rfl rfl rfl) (yLoadD _ (fun _ e => by cases e; exact hDz1) (by omega) rfl rfl rfl) (yLoadD _ (fun _ e => by cases e; exact hDz1) (by omega) rfl rfl rfl) (yLoadD _ (fun _ e => by cases e; exact hDz1) (by omega) rfl rfl rfl) ?_; go_frame
                                refine tY _ hS rfl (yIdxD _ _ g n cap k (by omega) rfl rfl rfl rfl) ?_; go_frame
                                refine tOne rfl ?_
                                refine kStoreD _ _ g n cap k (dv dk m) dk hDz1 (by omega) rfl rfl rfl rfl ?_
                                intro z1a hDz1a hWn
                                have hEz1a := hEz1.trans (exc_wrote hWn)
                                clear hWn hDz1 hEz1 hS
                                have hS : (fun _ : World => True) z1a := trivial
                                refine mixOn ⟨_, (fun _ h => h), hS, ?_⟩
                                go_frame
                                refine tY _ hS rfl (yIdxD _ _ g n cap m (by omega) rfl rfl rfl rfl) ?_; go_frame
                                refine tOne rfl ?_
                                refine kStoreD _ _ g n cap m (dv dk k) ((dk.setIfInBounds k (dv dk m))) hDz1a (by omega) rfl rfl rfl rfl ?_
                                intro z1b hDz1b hWn
                                have hEz1b := hEz1a.trans (exc_wrote hWn)
                                clear hWn hDz1a hEz1a hS
                                have hS : (fun _ : World => True) z1b := trivial
                                refine mixOn ⟨_, (fun _ h => h), hS, ?_⟩
                                go_frame
                                refine tDone ?_
                                clear hS
                                have hFz1 : Dat z1b g n cap (Sort.swp dk k m) := hDz1b
                                clear hDz1b
                                go_wp2_with (first
                                  | ((with_reducible change wpList _ _ _ (Oper.mk (some 150) _ _ _ _ _ :: _) _ _); refine kYw (yAddZ _ _ _ _ (k : Int) 1 ((k + 1 : Nat) : Int) (by omega) rfl rfl rfl rfl) ?_; go_frame)
                                  | ((with_reducible change wpList _ _ _ (Oper.mk (some 152) _ _ _ _ _ :: _) _ _); refine kYw (ySubZ _ _ _ _ (m : Int) 1 ((m - 1 : Nat) : Int) (by omega) rfl rfl rfl rfl) ?_; go_frame))
                                have ek : dv (Sort.swp dk k m) k = dv dk m := by rw [dv_swp dk k (by omega) (by omega), if_neg hne, if_pos rfl]
                                have em : dv (Sort.swp dk k m) m = dv dk k := by rw [dv_swp dk m (by omega) (by omega), if_pos rfl]
                                have ea : dv (Sort.swp dk k m) a = p := by rw [dv_swp dk a (by omega) (by omega), if_neg (by omega), if_neg (by omega)]; exact hp
                                have l1 := (hlk.swp (i := k) (j := m) (by omega) (by omega) (by omega) (by omega)).snoc (by rw [ek]; first | exact Nat.lt_of_not_le hcm | omega)
                                have l2 := (hlm.swp (i := k) (j := m) (by omega) (by omega) (by omega) (by omega)).cons (by rw [em]; first | exact Nat.le_of_not_lt hck | omega)
                                have hP2 := hP.trans (PermI.swp dk (i := k) (j := m) ⟨by omega, by omega⟩ ⟨by omega, by omega⟩ (by omega))
                                go_roundw
                                case rel => exact ⟨k + 1, m - 1, _, by omega, by omega, by omega, rfl, rfl, hFz1, hEz1b, hP2, ea, l1, by rw [show m - 1 + 1 = m by omega]; exact l2⟩
                                case measure => first | (simp [intOf]; done) | (simp [intOf]; omega)
end Go.Proofs.Ytdeggdmoijfhdaa
