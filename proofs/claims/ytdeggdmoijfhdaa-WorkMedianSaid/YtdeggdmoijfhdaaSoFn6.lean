/-
  Layer 12: the sort: partialInsertionSort.
-/
import Derived.Test.YtdeggdmoijfhdaaSoFn2
import Derived.Deep.DeepCutAuto
namespace Go.Proofs.Ytdeggdmoijfhdaa
open Go Go.RowKit

theorem low_below {a b : Nat} {d : Array Nat} (h : Low a b d) : Sort.Below ltN a b d := by
  rcases h with h | h
  · exact .inl h
  · exact .inr fun i h1 h2 => decide_eq_false (Nat.not_lt.2 (h i h1 h2))
theorem scan_go {b k : Nat} {d : Array Nat} (h : k < b) (hc : ¬ dv d k < dv d (k - 1)) : Sort.scanSorted ltN d b k = Sort.scanSorted ltN d b (k + 1) := by
  conv => lhs; unfold Sort.scanSorted
  have q : ltN d[k]! d[k - 1]! = false := decide_eq_false hc
  rw [q, if_pos (by simp; omega)]
theorem scan_stop {b k : Nat} {d : Array Nat} (h : k < b → dv d k < dv d (k - 1)) : Sort.scanSorted ltN d b k = k := by
  unfold Sort.scanSorted
  by_cases hk : k < b
  · have q : ltN d[k]! d[k - 1]! = true := decide_eq_true (h hk)
    rw [q, if_neg (by simp)]
  · rw [if_neg (by simp; omega)]
theorem down_go {m : Nat} {d : Array Nat} (h : dv d (m + 1) < dv d m) : Sort.shiftDown ltN (m + 1) d = Sort.shiftDown ltN m (Sort.swp d (m + 1) m) := by
  conv => lhs; unfold Sort.shiftDown
  have q : ltN d[m + 1]! d[m]! = true := decide_eq_true h
  rw [q]; rfl
theorem down_stop {m : Nat} {d : Array Nat} (h : ¬ (0 < m ∧ dv d m < dv d (m - 1))) : Sort.shiftDown ltN m d = d := by
  cases m with
  | zero => rfl
  | succ m =>
    unfold Sort.shiftDown
    have q : ltN d[m + 1]! d[m]! = false := decide_eq_false (fun hl => h ⟨by omega, hl⟩)
    rw [q]; rfl
theorem up_go {b m : Nat} {d : Array Nat} (h : m < b) (hl : dv d m < dv d (m - 1)) : Sort.shiftUp ltN b m d = Sort.shiftUp ltN b (m + 1) (Sort.swp d m (m - 1)) := by
  conv => lhs; unfold Sort.shiftUp
  have q : ltN d[m]! d[m - 1]! = true := decide_eq_true hl
  rw [q, if_pos h]; rfl
theorem up_stop {b m : Nat} {d : Array Nat} (h : ¬ (m < b ∧ dv d m < dv d (m - 1))) : Sort.shiftUp ltN b m d = d := by
  unfold Sort.shiftUp
  by_cases hm : m < b
  · have q : ltN d[m]! d[m - 1]! = false := decide_eq_false (fun hl => h ⟨hm, hl⟩)
    rw [q, if_pos hm]; rfl
  · rw [if_neg hm]
/-- a step of it, from where the scan stands still -/
theorem partial_step {a b s i : Nat} {d : Array Nat} {I : Nat} (hI : Sort.scanSorted ltN d b i = I) : Sort.partialIns ltN a b (s + 1) i d = if I = b then (d, true) else if b - a < 50 then (d, false) else
    Sort.partialIns ltN a b s I (if b - I ≥ 2 then Sort.shiftUp ltN b (I + 1) (if I - a ≥ 2 then Sort.shiftDown ltN (I - 1) (Sort.swp d I (I - 1)) else Sort.swp d I (I - 1)) else if I - a ≥ 2 then Sort.shiftDown ltN (I - 1) (Sort.swp d I (I - 1)) else Sort.swp d I (I - 1)) := by
  subst hI; rfl
theorem ret1U {fn : Func} {R : Ending → World → Prop} {P : Program} {a : Act} {w : World} {t : Tmp} (h : fn.results = #[.tmp t]) (hd : a.defers = []) (hR : R (.returned (a.tmps.getD t undef)) w) : bodyPost P fn R .ret a w :=
  bodyPost_ret (by simp [results, h]) hd hR
def ParPost (w : World) (g n cap a b : Nat) (d : Array Nat) (e : Ending) (w' : World) : Prop := ∃ (r : Bool) (d' : Array Nat), e = .returned (.bool r) ∧ PermI a b d d' ∧ (r = true → Srt a b d') ∧ Dat w' g n cap d' ∧ Exc g w w'
set_option maxRecDepth 100000 in
set_option maxHeartbeats 16000000 in
theorem sPartial_any {g n cap a b : Nat} {d : Array Nat} (w : World) (hD : Dat w g n cap d) (hab : a < b) (hb : b ≤ n) (hn : n ≤ 50) (hL : Low a b d) : Calls Try.prog 64 #[.slice (some ⟨g, 0, none⟩) n cap, .int .i64 (a : Int), .int .i64 (b : Int)] w (ParPost w g n cap a b d) := by
  obtain ⟨T, HT⟩ : ∃ T, Hid (Sort.partialInsertionSort ltN d a b = T) := ⟨_, Lib.hid rfl⟩
  have hT : PermI a b d T.1 ∧ (T.2 = true → Srt a b T.1) := by
    have := Sort.partialInsertionSort_holds (lt := ltN) swoN d a b hab (by rw [hD.size]; exact hb) (low_below hL)
    rw [HT.out] at this; exact ⟨this.1, fun h => srt_of (this.2 h)⟩
  have HT : Hid (Sort.partialIns ltN a b 5 (a + 1) d = T) := HT
  have hE := exc_refl g w
  clear hL
  go_enter Try.func64, Try.ntmps64
  go_wp2_with (first
    | ((with_reducible change wpList _ _ _ (Oper.mk (some 12) _ _ _ _ _ :: _) _ _); refine kYw (yAddZ _ _ _ _ (a : Int) 1 ((a + 1 : Nat) : Int) (by omega) rfl rfl rfl rfl) ?_; go_frame))
  go_loopw [8, 7] (fun x y wr => ∃ (j s i : Nat) (dk : Array Nat), j + s = 5 ∧ a + 1 ≤ i ∧ i ≤ b ∧ x = .int .i64 (j : Int) ∧ y = .int .i64 (i : Int) ∧ Dat wr g n cap dk ∧ Exc g w wr ∧ Hid (Sort.partialIns ltN a b s i dk = T)) (fun x _ _ => 6 - (intOf x).toNat)
  case atStart => exact ⟨0, 5, a + 1, d, rfl, Nat.le_refl _, hab, rfl, rfl, hD, hE, HT⟩
  case round =>
    obtain ⟨j, s, i, dk, hjs, hi1, hi2, rfl, rfl, hDk, hEk, Hk⟩ := hrel
    clear hD hE HT
    cases s with
    | zero =>
      have d14 : decide ((j : Int) < 5) = false := by simp; omega
      have hd : T = (dk, false) := Hk.out.symm
      go_wp2_with (first
        | ((with_reducible change wpList _ _ _ (Oper.mk (some 14) _ _ _ _ _ :: _) _ _); refine kYw (yLssK _ _ _ _ .i64 (j : Int) 5 false d14 rfl rfl rfl rfl) ?_; go_frame))
      (try simp only [Exit.inBlock, Exit.then])
      refine ret1U rfl rfl ?_
      rw [hd] at hT
      exact ⟨false, dk, rfl, hT.1, hT.2, hDk, hEk⟩
    | succ s =>
      have d14 : decide ((j : Int) < 5) = true := by simp; omega
      go_wp2_with (first
        | ((with_reducible change wpList _ _ _ (Oper.mk (some 14) _ _ _ _ _ :: _) _ _); refine kYw (yLssK _ _ _ _ .i64 (j : Int) 5 true d14 rfl rfl rfl rfl) ?_; go_frame))
      obtain ⟨wo, hwo⟩ : ∃ wo : World, wo = wr := ⟨_, rfl⟩
      subst hwo
      go_loopw [7] (fun y wq => ∃ k : Nat, i ≤ k ∧ k ≤ b ∧ y = .int .i64 (k : Int) ∧ Dat wq g n cap dk ∧ Exc g w wq ∧ Hid (Sort.scanSorted ltN dk b i = Sort.scanSorted ltN dk b k)) (fun y _ => 60 - (intOf y).toNat)
      case atStart => exact ⟨i, Nat.le_refl _, hi2, rfl, hDk, hEk, Lib.hid rfl⟩
      case round =>
        obtain ⟨k, hk1, hk2, rfl, hDs, hEs, Hs⟩ := hrel
        clear hDk hEk
        by_cases hkb : k < b
        · have d19 : decide ((k : Int) < (b : Int)) = true := by simp; omega
          by_cases hls : dv dk k < dv dk (k - 1)
          · have hst := partial_step (a := a) (s := s) (Hs.out.trans (scan_stop (fun _ => hls)))
            rw [Hk.out, if_neg (by omega)] at hst
            have d37 : decide ((k : Int) = (b : Int)) = false := by simp; omega
            by_cases h50 : b - a < 50
            · rw [if_pos h50] at hst
              have d41 : decide (((b - a : Nat) : Int) < 50) = true := by simp; omega
              (try go_wp2)
              refine region_mixD [(0, true), (1, true), (2, true), (3, true), (4, true), (5, true), (6, true), (7, true), (8, true), (9, true), (10, true), (11, true), (12, true), (13, false), (14, true), (15, true)] (fun q => Dat q g n cap dk) (by kernel_rfl) (by kernel_rfl) rfl ?_
              intro z1 hBd hsd; clear hsd
              have hDz1 := hDs.below hBd
              have hEz1 := hEs.trans (exc_below g hBd)
              clear hBd hDs hEs
              simp only [List.map_cons, List.map_nil]
              dsimp only [List.filterMap, List.getElem?_cons_zero, List.getElem?_cons_succ]
              refine dY _ hDz1 (yMove _ (.int .i64 (k : Int)) rfl rfl rfl) ?_; go_frame
              refine dY _ hDz1 (yMove _ (.int .i64 (b : Int)) rfl rfl rfl) ?_; go_frame
              refine dY _ hDz1 (yLssK _ _ _ _ .i64 (k : Int) (b : Int) true d19 rfl rfl rfl rfl) ?_; go_frame
              refine dY _ hDz1 (yMove _ (.bool true) rfl rfl rfl) ?_; go_frame
              refine dY _ hDz1 (yMove _ (.slice (some ⟨g, 0, none⟩) n cap) rfl rfl rfl) ?_; go_frame
              refine dY _ hDz1 (yMove _ (.int .i64 (k : Int)) rfl rfl rfl) ?_; go_frame
              refine dY _ hDz1 (yIdxD _ _ g n cap k (by omega) rfl rfl rfl rfl) ?_; go_frame
              refine dY _ hDz1 (yLoadD _ (fun _ h => h) (by omega) rfl rfl rfl) ?_; go_frame
              refine dY _ hDz1 (yMove _ (.slice (some ⟨g, 0, none⟩) n cap) rfl rfl rfl) ?_; go_frame
              refine dY _ hDz1 (yMove _ (.int .i64 (k : Int)) rfl rfl rfl) ?_; go_frame
              refine dY _ hDz1 (ySubZ _ _ _ _ (k : Int) 1 ((k - 1 : Nat) : Int) (by omega) rfl rfl rfl rfl) ?_; go_frame
              refine dY _ hDz1 (yIdxD _ _ g n cap (k - 1) (by omega) rfl rfl rfl rfl) ?_; go_frame
              refine dY _ hDz1 (yLoadD _ (fun _ h => h) (by omega) rfl rfl rfl) ?_; go_frame
              refine dLoud ?_
              refine kCall2 65 _ _ _ _ _ rfl rfl (by kernel_rfl) rfl rfl ?_
              refine (kLess_as (decide_eq_true hls) _).mono ?_
              rintro e z' ⟨rfl, rfl⟩
              refine ⟨_, rfl, mixOn ⟨_, (fun _ h => h), hDz1, ?_⟩⟩
              go_frame
              refine dY _ hDz1 (yNotW _ _ true rfl rfl rfl) ?_; go_frame
              refine dY _ hDz1 (yPick _ _ _ true (.bool false) rfl rfl rfl rfl) ?_; go_frame
              refine dDone ?_
              go_wp2_with (first
                | ((with_reducible change wpList _ _ _ (Oper.mk (some 37) _ _ _ _ _ :: _) _ _); refine kYw (yEqlK _ _ _ _ .i64 (k : Int) (b : Int) false d37 rfl rfl rfl rfl) ?_; go_frame)
                | ((with_reducible change wpList _ _ _ (Oper.mk (some 40) _ _ _ _ _ :: _) _ _); refine kYw (ySubZ _ _ _ _ (b : Int) (a : Int) ((b - a : Nat) : Int) (by omega) rfl rfl rfl rfl) ?_; go_frame)
                | ((with_reducible change wpList _ _ _ (Oper.mk (some 41) _ _ _ _ _ :: _) _ _); refine kYw (yLssK _ _ _ _ .i64 ((b - a : Nat) : Int) 50 true d41 rfl rfl rfl rfl) ?_; go_frame))
              (try simp only [Exit.inBlock, Exit.then])
              refine ret1U rfl rfl ?_
              rw [hst] at hT
              exact ⟨false, dk, rfl, hT.1, hT.2, hDz1, hEz1⟩
            · rw [if_neg h50] at hst
              have d41 : decide (((b - a : Nat) : Int) < 50) = false := by simp; omega
              obtain ⟨D1, HD1⟩ : ∃ D1, (if k - a ≥ 2 then Sort.shiftDown ltN (k - 1) (Sort.swp dk k (k - 1)) else Sort.swp dk k (k - 1)) = D1 := ⟨_, rfl⟩
              obtain ⟨D2, HD2⟩ : ∃ D2, (if b - k ≥ 2 then Sort.shiftUp ltN b (k + 1) D1 else D1) = D2 := ⟨_, rfl⟩
              rw [HD1, HD2] at hst
              replace hst := Lib.hid hst
              replace HD1 := Lib.hid HD1
              replace HD2 := Lib.hid HD2
              obtain ⟨c61, Hc61⟩ : ∃ c, Hid (decide (((k - a : Nat) : Int) ≥ 2) = c) := ⟨_, Lib.hid rfl⟩
              obtain ⟨c98, Hc98⟩ : ∃ c, Hid (decide (((b - k : Nat) : Int) ≥ 2) = c) := ⟨_, Lib.hid rfl⟩
              (try go_wp2)
              refine region_mixD [(0, true), (1, true), (2, true), (3, true), (4, true), (5, true), (6, true), (7, true), (8, true), (9, true), (10, true), (11, true), (12, true), (13, false), (14, true), (15, true)] (fun q => Dat q g n cap dk) (by kernel_rfl) (by kernel_rfl) rfl ?_
              intro z1 hBd hsd; clear hsd
              have hDz1 := hDs.below hBd
              have hEz1 := hEs.trans (exc_below g hBd)
              clear hBd hDs hEs
              simp only [List.map_cons, List.map_nil]
              dsimp only [List.filterMap, List.getElem?_cons_zero, List.getElem?_cons_succ]
              refine dY _ hDz1 (yMove _ (.int .i64 (k : Int)) rfl rfl rfl) ?_; go_frame
              refine dY _ hDz1 (yMove _ (.int .i64 (b : Int)) rfl rfl rfl) ?_; go_frame
              refine dY _ hDz1 (yLssK _ _ _ _ .i64 (k : Int) (b : Int) true d19 rfl rfl rfl rfl) ?_; go_frame
              refine dY _ hDz1 (yMove _ (.bool true) rfl rfl rfl) ?_; go_frame
              refine dY _ hDz1 (yMove _ (.slice (some ⟨g, 0, none⟩) n cap) rfl rfl rfl) ?_; go_frame
              refine dY _ hDz1 (yMove _ (.int .i64 (k : Int)) rfl rfl rfl) ?_; go_frame
              refine dY _ hDz1 (yIdxD _ _ g n cap k (by omega) rfl rfl rfl rfl) ?_; go_frame
              refine dY _ hDz1 (yLoadD _ (fun _ h => h) (by omega) rfl rfl rfl) ?_; go_frame
              refine dY _ hDz1 (yMove _ (.slice (some ⟨g, 0, none⟩) n cap) rfl rfl rfl) ?_; go_frame
              refine dY _ hDz1 (yMove _ (.int .i64 (k : Int)) rfl rfl rfl) ?_; go_frame
              refine dY _ hDz1 (ySubZ _ _ _ _ (k : Int) 1 ((k - 1 : Nat) : Int) (by omega) rfl rfl rfl rfl) ?_; go_frame
              refine dY _ hDz1 (yIdxD _ _ g n cap (k - 1) (by omega) rfl rfl rfl rfl) ?_; go_frame
              refine dY _ hDz1 (yLoadD _ (fun _ h => h) (by omega) rfl rfl rfl) ?_; go_frame
              refine dLoud ?_
              refine kCall2 65 _ _ _ _ _ rfl rfl (by kernel_rfl) rfl rfl ?_
              refine (kLess_as (decide_eq_true hls) _).mono ?_
              rintro e z' ⟨rfl, rfl⟩
              refine ⟨_, rfl, mixOn ⟨_, (fun _ h => h), hDz1, ?_⟩⟩
              go_frame
              refine dY _ hDz1 (yNotW _ _ true rfl rfl rfl) ?_; go_frame
              refine dY _ hDz1 (yPick _ _ _ true (.bool false) rfl rfl rfl rfl) ?_; go_frame
              refine dDone ?_
              go_wp2_with (first
                | ((with_reducible change wpList _ _ _ (Oper.mk (some 37) _ _ _ _ _ :: _) _ _); refine kYw (yEqlK _ _ _ _ .i64 (k : Int) (b : Int) false d37 rfl rfl rfl rfl) ?_; go_frame)
                | ((with_reducible change wpList _ _ _ (Oper.mk (some 40) _ _ _ _ _ :: _) _ _); refine kYw (ySubZ _ _ _ _ (b : Int) (a : Int) ((b - a : Nat) : Int) (by omega) rfl rfl rfl rfl) ?_; go_frame)
                | ((with_reducible change wpList _ _ _ (Oper.mk (some 41) _ _ _ _ _ :: _) _ _); refine kYw (yLssK _ _ _ _ .i64 ((b - a : Nat) : Int) 50 false d41 rfl rfl rfl rfl) ?_; go_frame))
              refine region_tree (.q 0 (.q 1 (.q 2 (.q 3 (.q 4 (.q 5 (.q 6 (.q 7 (.q 8 (.q 10 (.q 11 (.q 12 (.two 9 (.one 13 (.q 14 (.one 15 (.q 16 (.one 17 .fin))))) 13 (.one 9 (.q 14 (.one 15 (.q 16 (.one 17 .fin)))))))))))))))))) (fun _ => True) (by kernel_rfl) (by kernel_rfl) ?_
              intro z2 hBd hsd; clear hsd
              have hDz2 := hDz1.below hBd
              have hEz2 := hEz1.trans (exc_below g hBd)
              clear hBd hDz1 hEz1
              have hS : (fun _ : World => True) z2 := trivial
              refine tY _ hS rfl (yMove _ (.slice (some ⟨g, 0, none⟩) n cap) rfl rfl rfl) ?_; go_frame
              refine tY _ hS rfl (yMove _ (.int .i64 (k : Int)) rfl rfl rfl) ?_; go_frame
              refine tY _ hS rfl (yMove _ (.slice (some ⟨g, 0, none⟩) n cap) rfl rfl rfl) ?_; go_frame
              refine tY _ hS rfl (yMove _ (.int .i64 (k : Int)) rfl rfl rfl) ?_; go_frame
              refine tY _ hS rfl (ySubZ _ _ _ _ (k : Int) 1 ((k - 1 : Nat) : Int) (by omega) rfl rfl rfl rfl) ?_; go_frame
              refine tY _ hS rfl (yMove _ (.slice (some ⟨g, 0, none⟩) n cap) rfl rfl rfl) ?_; go_frame
              refine tY _ hS rfl (yMove _ (.int .i64 (k : Int)) rfl rfl rfl) ?_; go_frame
              refine tY _ hS rfl (ySubZ _ _ _ _ (k : Int) 1 ((k - 1 : Nat) : Int) (by omega) rfl rfl rfl rfl) ?_; go_frame
              refine tY _ hS rfl (yIdxD _ _ g n cap (k - 1) (by omega) rfl rfl rfl rfl) ?_; go_frame
              refine tY _ hS rfl (yMove _ (.slice (some ⟨g, 0, none⟩) n cap) rfl rfl rfl) ?_; go_frame
              refine tY _ hS rfl (yMove _ (.int .i64 (k : Int)) rfl rfl rfl) ?_; go_frame
              refine tY _ hS rfl (yIdxD _ _ g n cap k (by omega) rfl rfl rfl rfl) ?_; go_frame
              refine tTwoSo (VW (dv dk (k - 1))) (VW (dv dk k)) rfl rfl rfl rfl (by decide) (yLoadD _ (fun _ e => by cases e; exact hDz2) (by omega) rfl rfl rfl) (yLoadD _ (fun _ e => by cases e; exact hDz2) (by omega) rfl rfl rfl) (yLoadD _ (fun _ e => by cases e; exact hDz2) (by omega) rfl rfl rfl) (yLoadD _ (fun _ e => by cases e; exact hDz2) (by omega) rfl rfl rfl) ?_; go_frame
              refine tY _ hS rfl (yIdxD _ _ g n cap k (by omega) rfl rfl rfl rfl) ?_; go_frame
              refine tOne rfl ?_
              refine kStoreD _ _ g n cap k (dv dk (k - 1)) dk hDz2 (by omega) rfl rfl rfl rfl ?_
              intro z2a hDz2a hWn
              have hEz2a := hEz2.trans (exc_wrote hWn)
              clear hWn hDz2 hEz2 hS
              have hS : (fun _ : World => True) z2a := trivial
              refine mixOn ⟨_, (fun _ h => h), hS, ?_⟩
              go_frame
              refine tY _ hS rfl (yIdxD _ _ g n cap (k - 1) (by omega) rfl rfl rfl rfl) ?_; go_frame
              refine tOne rfl ?_
              refine kStoreD _ _ g n cap (k - 1) (dv dk k) ((dk.setIfInBounds k (dv dk (k - 1)))) hDz2a (by omega) rfl rfl rfl rfl ?_
              intro z2b hDz2b hWn
              have hEz2b := hEz2a.trans (exc_wrote hWn)
              clear hWn hDz2a hEz2a hS
              have hS : (fun _ : World => True) z2b := trivial
              refine mixOn ⟨_, (fun _ h => h), hS, ?_⟩
              go_frame
              refine tDone ?_
              clear hS
              have hFz2 : Dat z2b g n cap (Sort.swp dk k (k - 1)) := hDz2b
              clear hDz2b
              go_upto_if 61 with (first
                | ((with_reducible change wpList _ _ _ (Oper.mk (some 60) _ _ _ _ _ :: _) _ _); refine kYw (ySubZ _ _ _ _ (k : Int) (a : Int) ((k - a : Nat) : Int) (by omega) rfl rfl rfl rfl) ?_; go_frame)
                | ((with_reducible change wpList _ _ _ (Oper.mk (some 61) _ _ _ _ _ :: _) _ _); refine kYw (yGeqK _ _ _ _ .i64 ((k - a : Nat) : Int) 2 c61 Hc61.out rfl rfl rfl rfl) ?_; go_frame))
              go_cut [9] (fun _ wq => Dat wq g n cap D1 ∧ Exc g w wq)
              case first =>
                cases c61 with
                | false =>
                  have e1 : Sort.swp dk k (k - 1) = D1 := by rw [← HD1.out, if_neg (by have := Hc61.out; simp at this; omega)]
                  (try go_wp2_with fail)
                  go_meet
                  case rel => exact ⟨e1 ▸ hFz2, hEz2b⟩
                | true =>
                  have hka : 2 ≤ k - a := by have := Hc61.out; simp at this; omega
                  have e1 : Sort.shiftDown ltN (k - 1) (Sort.swp dk k (k - 1)) = D1 := by rw [← HD1.out, if_pos hka]
                  replace e1 := Lib.hid e1
                  go_wp2_with (first
                    | ((with_reducible change wpList _ _ _ (Oper.mk (some 63) _ _ _ _ _ :: _) _ _); refine kYw (ySubZ _ _ _ _ (k : Int) 1 ((k - 1 : Nat) : Int) (by omega) rfl rfl rfl rfl) ?_; go_frame))
                  go_loopw [9] (fun y wq => ∃ (m : Nat) (dm : Array Nat), m < n ∧ y = .int .i64 (m : Int) ∧ Dat wq g n cap dm ∧ Exc g w wq ∧ Hid (Sort.shiftDown ltN m dm = D1)) (fun y _ => (intOf y).toNat)
                  case atStart => exact ⟨k - 1, _, by omega, rfl, hFz2, hEz2b, e1⟩
                  case round =>
                    obtain ⟨m, dm, hm, rfl, hDm, hEm, Hm⟩ := hrel
                    clear hFz2 hEz2b e1
                    by_cases hm0 : 0 < m
                    · have d65 : decide ((m : Int) ≥ 1) = true := by simp; omega
                      by_cases hlt : dv dm m < dv dm (m - 1)
                      · have e2 : Hid (Sort.shiftDown ltN (m - 1) (Sort.swp dm m (m - 1)) = D1) := Lib.hid (by
                          obtain ⟨q, rfl⟩ : ∃ q, m = q + 1 := ⟨m - 1, by omega⟩
                          rw [← Hm.out, down_go (by simpa using hlt), Nat.add_sub_cancel])
                        go_wp2_with (first
                          | ((with_reducible change wpList _ _ _ (Oper.mk (some 65) _ _ _ _ _ :: _) _ _); refine kYw (yGeqK _ _ _ _ .i64 (m : Int) 1 true d65 rfl rfl rfl rfl) ?_; go_frame))
                        refine region_mixD [(0, true), (1, true), (2, true), (3, true), (4, true), (5, true), (6, true), (7, true), (8, true), (9, false), (10, true)] (fun q => Dat q g n cap dm) (by kernel_rfl) (by kernel_rfl) rfl ?_
                        intro z1 hBd hsd; clear hsd
                        have hDz1 := hDm.below hBd
                        have hEz1 := hEm.trans (exc_below g hBd)
                        clear hBd hDm hEm
                        simp only [List.map_cons, List.map_nil]
                        dsimp only [List.filterMap, List.getElem?_cons_zero, List.getElem?_cons_succ]
                        refine dY _ hDz1 (yMove _ (.slice (some ⟨g, 0, none⟩) n cap) rfl rfl rfl) ?_; go_frame
                        refine dY _ hDz1 (yMove _ (.int .i64 (m : Int)) rfl rfl rfl) ?_; go_frame
                        refine dY _ hDz1 (yIdxD _ _ g n cap m (by omega) rfl rfl rfl rfl) ?_; go_frame
                        refine dY _ hDz1 (yLoadD _ (fun _ h => h) (by omega) rfl rfl rfl) ?_; go_frame
                        refine dY _ hDz1 (yMove _ (.slice (some ⟨g, 0, none⟩) n cap) rfl rfl rfl) ?_; go_frame
                        refine dY _ hDz1 (yMove _ (.int .i64 (m : Int)) rfl rfl rfl) ?_; go_frame
                        refine dY _ hDz1 (ySubZ _ _ _ _ (m : Int) 1 ((m - 1 : Nat) : Int) (by omega) rfl rfl rfl rfl) ?_; go_frame
                        refine dY _ hDz1 (yIdxD _ _ g n cap (m - 1) (by omega) rfl rfl rfl rfl) ?_; go_frame
                        refine dY _ hDz1 (yLoadD _ (fun _ h => h) (by omega) rfl rfl rfl) ?_; go_frame
                        refine dLoud ?_
                        refine kCall2 65 _ _ _ _ _ rfl rfl (by kernel_rfl) rfl rfl ?_
                        refine (kLess_as (decide_eq_true hlt) _).mono ?_
                        rintro e z' ⟨rfl, rfl⟩
                        refine ⟨_, rfl, mixOn ⟨_, (fun _ h => h), hDz1, ?_⟩⟩
                        go_frame
                        refine dY _ hDz1 (yNotW _ _ true rfl rfl rfl) ?_; go_frame
                        refine dDone ?_
                        (try go_wp2)
                        refine region_tree (.q 0 (.q 1 (.q 2 (.q 3 (.q 4 (.q 5 (.q 6 (.q 7 (.q 8 (.q 10 (.q 11 (.q 12 (.two 9 (.one 13 (.q 14 (.one 15 (.q 16 (.one 17 .fin))))) 13 (.one 9 (.q 14 (.one 15 (.q 16 (.one 17 .fin)))))))))))))))))) (fun _ => True) (by kernel_rfl) (by kernel_rfl) ?_
                        intro z2 hBd hsd; clear hsd
                        have hDz2 := hDz1.below hBd
                        have hEz2 := hEz1.trans (exc_below g hBd)
                        clear hBd hDz1 hEz1
                        have hS : (fun _ : World => True) z2 := trivial
                        refine tY _ hS rfl (yMove _ (.slice (some ⟨g, 0, none⟩) n cap) rfl rfl rfl) ?_; go_frame
                        refine tY _ hS rfl (yMove _ (.int .i64 (m : Int)) rfl rfl rfl) ?_; go_frame
                        refine tY _ hS rfl (yMove _ (.slice (some ⟨g, 0, none⟩) n cap) rfl rfl rfl) ?_; go_frame
                        refine tY _ hS rfl (yMove _ (.int .i64 (m : Int)) rfl rfl rfl) ?_; go_frame
                        refine tY _ hS rfl (ySubZ _ _ _ _ (m : Int) 1 ((m - 1 : Nat) : Int) (by omega) rfl rfl rfl rfl) ?_; go_frame
                        refine tY _ hS rfl (yMove _ (.slice (some ⟨g, 0, none⟩) n cap) rfl rfl rfl) ?_; go_frame
                        refine tY _ hS rfl (yMove _ (.int .i64 (m : Int)) rfl rfl rfl) ?_; go_frame
                        refine tY _ hS rfl (ySubZ _ _ _ _ (m : Int) 1 ((m - 1 : Nat) : Int) (by omega) rfl rfl rfl rfl) ?_; go_frame
                        refine tY _ hS rfl (yIdxD _ _ g n cap (m - 1) (by omega) rfl rfl rfl rfl) ?_; go_frame
                        refine tY _ hS rfl (yMove _ (.slice (some ⟨g, 0, none⟩) n cap) rfl rfl rfl) ?_; go_frame
                        refine tY _ hS rfl (yMove _ (.int .i64 (m : Int)) rfl rfl rfl) ?_; go_frame
                        refine tY _ hS rfl (yIdxD _ _ g n cap m (by omega) rfl rfl rfl rfl) ?_; go_frame
                        refine tTwoSo (VW (dv dm (m - 1))) (VW (dv dm m)) rfl rfl rfl rfl (by decide) (yLoadD _ (fun _ e => by cases e; exact hDz2) (by omega) rfl rfl rfl) (yLoadD _ (fun _ e => by cases e; exact hDz2) (by omega) rfl rfl rfl) (yLoadD _ (fun _ e => by cases e; exact hDz2) (by omega) rfl rfl rfl) (yLoadD _ (fun _ e => by cases e; exact hDz2) (by omega) rfl rfl rfl) ?_; go_frame
                        refine tY _ hS rfl (yIdxD _ _ g n cap m (by omega) rfl rfl rfl rfl) ?_; go_frame
                        refine tOne rfl ?_
                        refine kStoreD _ _ g n cap m (dv dm (m - 1)) dm hDz2 (by omega) rfl rfl rfl rfl ?_
                        intro z2a hDz2a hWn
                        have hEz2a := hEz2.trans (exc_wrote hWn)
                        clear hWn hDz2 hEz2 hS
                        have hS : (fun _ : World => True) z2a := trivial
                        refine mixOn ⟨_, (fun _ h => h), hS, ?_⟩
                        go_frame
                        refine tY _ hS rfl (yIdxD _ _ g n cap (m - 1) (by omega) rfl rfl rfl rfl) ?_; go_frame
                        refine tOne rfl ?_
                        refine kStoreD _ _ g n cap (m - 1) (dv dm m) ((dm.setIfInBounds m (dv dm (m - 1)))) hDz2a (by omega) rfl rfl rfl rfl ?_
                        intro z2b hDz2b hWn
                        have hEz2b := hEz2a.trans (exc_wrote hWn)
                        clear hWn hDz2a hEz2a hS
                        have hS : (fun _ : World => True) z2b := trivial
                        refine mixOn ⟨_, (fun _ h => h), hS, ?_⟩
                        go_frame
                        refine tDone ?_
                        clear hS
                        have hFz2 : Dat z2b g n cap (Sort.swp dm m (m - 1)) := hDz2b
                        clear hDz2b
                        go_wp2_with (first
                          | ((with_reducible change wpList _ _ _ (Oper.mk (some 67) _ _ _ _ _ :: _) _ _); refine kYw (ySubZ _ _ _ _ (m : Int) 1 ((m - 1 : Nat) : Int) (by omega) rfl rfl rfl rfl) ?_; go_frame))
                        go_roundw
                        case rel => exact ⟨m - 1, _, by omega, rfl, hFz2, hEz2b, e2⟩
                        case measure => first | (simp [intOf]; done) | (simp [intOf]; omega)
                      · have e2 : dm = D1 := by rw [← Hm.out]; exact (down_stop (fun h => hlt h.2)).symm
                        go_wp2_with (first
                          | ((with_reducible change wpList _ _ _ (Oper.mk (some 65) _ _ _ _ _ :: _) _ _); refine kYw (yGeqK _ _ _ _ .i64 (m : Int) 1 true d65 rfl rfl rfl rfl) ?_; go_frame))
                        refine region_mixD [(0, true), (1, true), (2, true), (3, true), (4, true), (5, true), (6, true), (7, true), (8, true), (9, false), (10, true)] (fun q => Dat q g n cap dm) (by kernel_rfl) (by kernel_rfl) rfl ?_
                        intro z1 hBd hsd; clear hsd
                        have hDz1 := hDm.below hBd
                        have hEz1 := hEm.trans (exc_below g hBd)
                        clear hBd hDm hEm
                        simp only [List.map_cons, List.map_nil]
                        dsimp only [List.filterMap, List.getElem?_cons_zero, List.getElem?_cons_succ]
                        refine dY _ hDz1 (yMove _ (.slice (some ⟨g, 0, none⟩) n cap) rfl rfl rfl) ?_; go_frame
                        refine dY _ hDz1 (yMove _ (.int .i64 (m : Int)) rfl rfl rfl) ?_; go_frame
                        refine dY _ hDz1 (yIdxD _ _ g n cap m (by omega) rfl rfl rfl rfl) ?_; go_frame
                        refine dY _ hDz1 (yLoadD _ (fun _ h => h) (by omega) rfl rfl rfl) ?_; go_frame
                        refine dY _ hDz1 (yMove _ (.slice (some ⟨g, 0, none⟩) n cap) rfl rfl rfl) ?_; go_frame
                        refine dY _ hDz1 (yMove _ (.int .i64 (m : Int)) rfl rfl rfl) ?_; go_frame
                        refine dY _ hDz1 (ySubZ _ _ _ _ (m : Int) 1 ((m - 1 : Nat) : Int) (by omega) rfl rfl rfl rfl) ?_; go_frame
                        refine dY _ hDz1 (yIdxD _ _ g n cap (m - 1) (by omega) rfl rfl rfl rfl) ?_; go_frame
                        refine dY _ hDz1 (yLoadD _ (fun _ h => h) (by omega) rfl rfl rfl) ?_; go_frame
                        refine dLoud ?_
                        refine kCall2 65 _ _ _ _ _ rfl rfl (by kernel_rfl) rfl rfl ?_
                        refine (kLess_as (decide_eq_false hlt) _).mono ?_
                        rintro e z' ⟨rfl, rfl⟩
                        refine ⟨_, rfl, mixOn ⟨_, (fun _ h => h), hDz1, ?_⟩⟩
                        go_frame
                        refine dY _ hDz1 (yNotW _ _ false rfl rfl rfl) ?_; go_frame
                        refine dDone ?_
                        (try go_wp2_with fail)
                        go_meet
                        case rel => exact ⟨e2 ▸ hDz1, hEz1⟩
                    · have d65 : decide ((m : Int) ≥ 1) = false := by simp; omega
                      have e2 : dm = D1 := by rw [← Hm.out]; exact (down_stop (fun h => hm0 h.1)).symm
                      go_wp2_with (first
                        | ((with_reducible change wpList _ _ _ (Oper.mk (some 65) _ _ _ _ _ :: _) _ _); refine kYw (yGeqK _ _ _ _ .i64 (m : Int) 1 false d65 rfl rfl rfl rfl) ?_; go_frame))
                      (try go_wp2_with fail)
                      go_meet
                      case rel => exact ⟨e2 ▸ hDm, hEm⟩
              case rest =>
                obtain ⟨hDc, hEc⟩ := hcut
                clear hFz2 hEz2b
                go_upto_if 98 with (first
                  | ((with_reducible change wpList _ _ _ (Oper.mk (some 97) _ _ _ _ _ :: _) _ _); refine kYw (ySubZ _ _ _ _ (b : Int) (k : Int) ((b - k : Nat) : Int) (by omega) rfl rfl rfl rfl) ?_; go_frame)
                  | ((with_reducible change wpList _ _ _ (Oper.mk (some 98) _ _ _ _ _ :: _) _ _); refine kYw (yGeqK _ _ _ _ .i64 ((b - k : Nat) : Int) 2 c98 Hc98.out rfl rfl rfl rfl) ?_; go_frame))
                cases c98 with
                | false =>
                  have e1 : D1 = D2 := by rw [← HD2.out, if_neg (by have := Hc98.out; simp at this; omega)]
                  rw [e1] at hDc
                  go_wp2_with (first
                    | ((with_reducible change wpList _ _ _ (Oper.mk (some 16) _ _ _ _ _ :: _) _ _); refine kYw (yAddZ _ _ _ _ (j : Int) 1 ((j + 1 : Nat) : Int) (by omega) rfl rfl rfl rfl) ?_; go_frame))
                  go_roundw
                  case rel => exact ⟨j + 1, s, k, D2, by omega, by omega, by omega, rfl, rfl, hDc, hEc, Lib.hid hst.out.symm⟩
                  case measure => first | (simp [intOf]; done) | (simp [intOf]; omega)
                | true =>
                  have hkb2 : 2 ≤ b - k := by have := Hc98.out; simp at this; omega
                  have e1 : Sort.shiftUp ltN b (k + 1) D1 = D2 := by rw [← HD2.out, if_pos hkb2]
                  replace e1 := Lib.hid e1
                  go_wp2_with (first
                    | ((with_reducible change wpList _ _ _ (Oper.mk (some 100) _ _ _ _ _ :: _) _ _); refine kYw (yAddZ _ _ _ _ (k : Int) 1 ((k + 1 : Nat) : Int) (by omega) rfl rfl rfl rfl) ?_; go_frame))
                  obtain ⟨wv, hwv⟩ : ∃ wv : World, wv = wc := ⟨_, rfl⟩
                  subst hwv
                  go_loopw [10] (fun y wq => ∃ (m : Nat) (dm : Array Nat), k + 1 ≤ m ∧ m ≤ b ∧ y = .int .i64 (m : Int) ∧ Dat wq g n cap dm ∧ Exc g w wq ∧ Hid (Sort.shiftUp ltN b m dm = D2)) (fun y _ => 60 - (intOf y).toNat)
                  case atStart => exact ⟨k + 1, D1, Nat.le_refl _, by omega, rfl, hDc, hEc, e1⟩
                  case round =>
                    obtain ⟨m, dm, hm1, hm2, rfl, hDm, hEm, Hm⟩ := hrel
                    clear hDc hEc e1
                    by_cases hm0 : m < b
                    · have d103 : decide ((m : Int) < (b : Int)) = true := by simp; omega
                      by_cases hlt : dv dm m < dv dm (m - 1)
                      · have e2 : Hid (Sort.shiftUp ltN b (m + 1) (Sort.swp dm m (m - 1)) = D2) := Lib.hid (by rw [← Hm.out, up_go hm0 hlt])
                        go_wp2_with (first
                          | ((with_reducible change wpList _ _ _ (Oper.mk (some 103) _ _ _ _ _ :: _) _ _); refine kYw (yLssK _ _ _ _ .i64 (m : Int) (b : Int) true d103 rfl rfl rfl rfl) ?_; go_frame))
                        refine region_mixD [(0, true), (1, true), (2, true), (3, true), (4, true), (5, true), (6, true), (7, true), (8, true), (9, false), (10, true)] (fun q => Dat q g n cap dm) (by kernel_rfl) (by kernel_rfl) rfl ?_
                        intro z1 hBd hsd; clear hsd
                        have hDz1 := hDm.below hBd
                        have hEz1 := hEm.trans (exc_below g hBd)
                        clear hBd hDm hEm
                        simp only [List.map_cons, List.map_nil]
                        dsimp only [List.filterMap, List.getElem?_cons_zero, List.getElem?_cons_succ]
                        refine dY _ hDz1 (yMove _ (.slice (some ⟨g, 0, none⟩) n cap) rfl rfl rfl) ?_; go_frame
                        refine dY _ hDz1 (yMove _ (.int .i64 (m : Int)) rfl rfl rfl) ?_; go_frame
                        refine dY _ hDz1 (yIdxD _ _ g n cap m (by omega) rfl rfl rfl rfl) ?_; go_frame
                        refine dY _ hDz1 (yLoadD _ (fun _ h => h) (by omega) rfl rfl rfl) ?_; go_frame
                        refine dY _ hDz1 (yMove _ (.slice (some ⟨g, 0, none⟩) n cap) rfl rfl rfl) ?_; go_frame
                        refine dY _ hDz1 (yMove _ (.int .i64 (m : Int)) rfl rfl rfl) ?_; go_frame
                        refine dY _ hDz1 (ySubZ _ _ _ _ (m : Int) 1 ((m - 1 : Nat) : Int) (by omega) rfl rfl rfl rfl) ?_; go_frame
                        refine dY _ hDz1 (yIdxD _ _ g n cap (m - 1) (by omega) rfl rfl rfl rfl) ?_; go_frame
                        refine dY _ hDz1 (yLoadD _ (fun _ h => h) (by omega) rfl rfl rfl) ?_; go_frame
                        refine dLoud ?_
                        refine kCall2 65 _ _ _ _ _ rfl rfl (by kernel_rfl) rfl rfl ?_
                        refine (kLess_as (decide_eq_true hlt) _).mono ?_
                        rintro e z' ⟨rfl, rfl⟩
                        refine ⟨_, rfl, mixOn ⟨_, (fun _ h => h), hDz1, ?_⟩⟩
                        go_frame
                        refine dY _ hDz1 (yNotW _ _ true rfl rfl rfl) ?_; go_frame
                        refine dDone ?_
                        (try go_wp2)
                        refine region_tree (.q 0 (.q 1 (.q 2 (.q 3 (.q 4 (.q 5 (.q 6 (.q 7 (.q 8 (.q 10 (.q 11 (.q 12 (.two 9 (.one 13 (.q 14 (.one 15 (.q 16 (.one 17 .fin))))) 13 (.one 9 (.q 14 (.one 15 (.q 16 (.one 17 .fin)))))))))))))))))) (fun _ => True) (by kernel_rfl) (by kernel_rfl) ?_
                        intro z2 hBd hsd; clear hsd
                        have hDz2 := hDz1.below hBd
                        have hEz2 := hEz1.trans (exc_below g hBd)
                        clear hBd hDz1 hEz1
                        have hS : (fun _ : World => True) z2 := trivial
                        refine tY _ hS rfl (yMove _ (.slice (some ⟨g, 0, none⟩) n cap) rfl rfl rfl) ?_; go_frame
                        refine tY _ hS rfl (yMove _ (.int .i64 (m : Int)) rfl rfl rfl) ?_; go_frame
                        refine tY _ hS rfl (yMove _ (.slice (some ⟨g, 0, none⟩) n cap) rfl rfl rfl) ?_; go_frame
                        refine tY _ hS rfl (yMove _ (.int .i64 (m : Int)) rfl rfl rfl) ?_; go_frame
                        refine tY _ hS rfl (ySubZ _ _ _ _ (m : Int) 1 ((m - 1 : Nat) : Int) (by omega) rfl rfl rfl rfl) ?_; go_frame
                        refine tY _ hS rfl (yMove _ (.slice (some ⟨g, 0, none⟩) n cap) rfl rfl rfl) ?_; go_frame
                        refine tY _ hS rfl (yMove _ (.int .i64 (m : Int)) rfl rfl rfl) ?_; go_frame
                        refine tY _ hS rfl (ySubZ _ _ _ _ (m : Int) 1 ((m - 1 : Nat) : Int) (by omega) rfl rfl rfl rfl) ?_; go_frame
                        refine tY _ hS rfl (yIdxD _ _ g n cap (m - 1) (by omega) rfl rfl rfl rfl) ?_; go_frame
                        refine tY _ hS rfl (yMove _ (.slice (some ⟨g, 0, none⟩) n cap) rfl rfl rfl) ?_; go_frame
                        refine tY _ hS rfl (yMove _ (.int .i64 (m : Int)) rfl rfl rfl) ?_; go_frame
                        refine tY _ hS rfl (yIdxD _ _ g n cap m (by omega) rfl rfl rfl rfl) ?_; go_frame
                        refine tTwoSo (VW (dv dm (m - 1))) (VW (dv dm m)) rfl rfl rfl rfl (by decide) (yLoadD _ (fun _ e => by cases e; exact hDz2) (by omega) rfl rfl rfl) (yLoadD _ (fun _ e => by cases e; exact hDz2) (by omega) rfl rfl rfl) (yLoadD _ (fun _ e => by cases e; exact hDz2) (by omega) rfl rfl rfl) (yLoadD _ (fun _ e => by cases e; exact hDz2) (by omega) rfl rfl rfl) ?_; go_frame
                        refine tY _ hS rfl (yIdxD _ _ g n cap m (by omega) rfl rfl rfl rfl) ?_; go_frame
                        refine tOne rfl ?_
                        refine kStoreD _ _ g n cap m (dv dm (m - 1)) dm hDz2 (by omega) rfl rfl rfl rfl ?_
                        intro z2a hDz2a hWn
                        have hEz2a := hEz2.trans (exc_wrote hWn)
                        clear hWn hDz2 hEz2 hS
                        have hS : (fun _ : World => True) z2a := trivial
                        refine mixOn ⟨_, (fun _ h => h), hS, ?_⟩
                        go_frame
                        refine tY _ hS rfl (yIdxD _ _ g n cap (m - 1) (by omega) rfl rfl rfl rfl) ?_; go_frame
                        refine tOne rfl ?_
                        refine kStoreD _ _ g n cap (m - 1) (dv dm m) ((dm.setIfInBounds m (dv dm (m - 1)))) hDz2a (by omega) rfl rfl rfl rfl ?_
                        intro z2b hDz2b hWn
                        have hEz2b := hEz2a.trans (exc_wrote hWn)
                        clear hWn hDz2a hEz2a hS
                        have hS : (fun _ : World => True) z2b := trivial
                        refine mixOn ⟨_, (fun _ h => h), hS, ?_⟩
                        go_frame
                        refine tDone ?_
                        clear hS
                        have hFz2 : Dat z2b g n cap (Sort.swp dm m (m - 1)) := hDz2b
                        clear hDz2b
                        go_wp2_with (first
                          | ((with_reducible change wpList _ _ _ (Oper.mk (some 105) _ _ _ _ _ :: _) _ _); refine kYw (yAddZ _ _ _ _ (m : Int) 1 ((m + 1 : Nat) : Int) (by omega) rfl rfl rfl rfl) ?_; go_frame))
                        go_roundw
                        case rel => exact ⟨m + 1, _, by omega, by omega, rfl, hFz2, hEz2b, e2⟩
                        case measure => first | (simp [intOf]; done) | (simp [intOf]; omega)
                      · have e2 : dm = D2 := by rw [← Hm.out]; exact (up_stop (fun h => hlt h.2)).symm
                        rw [e2] at hDm hlt
                        go_wp2_with (first
                          | ((with_reducible change wpList _ _ _ (Oper.mk (some 103) _ _ _ _ _ :: _) _ _); refine kYw (yLssK _ _ _ _ .i64 (m : Int) (b : Int) true d103 rfl rfl rfl rfl) ?_; go_frame))
                        refine region_mixD [(0, true), (1, true), (2, true), (3, true), (4, true), (5, true), (6, true), (7, true), (8, true), (9, false), (10, true)] (fun q => Dat q g n cap D2) (by kernel_rfl) (by kernel_rfl) rfl ?_
                        intro z1 hBd hsd; clear hsd
                        have hDz1 := hDm.below hBd
                        have hEz1 := hEm.trans (exc_below g hBd)
                        clear hBd hDm hEm
                        simp only [List.map_cons, List.map_nil]
                        dsimp only [List.filterMap, List.getElem?_cons_zero, List.getElem?_cons_succ]
                        refine dY _ hDz1 (yMove _ (.slice (some ⟨g, 0, none⟩) n cap) rfl rfl rfl) ?_; go_frame
                        refine dY _ hDz1 (yMove _ (.int .i64 (m : Int)) rfl rfl rfl) ?_; go_frame
                        refine dY _ hDz1 (yIdxD _ _ g n cap m (by omega) rfl rfl rfl rfl) ?_; go_frame
                        refine dY _ hDz1 (yLoadD _ (fun _ h => h) (by omega) rfl rfl rfl) ?_; go_frame
                        refine dY _ hDz1 (yMove _ (.slice (some ⟨g, 0, none⟩) n cap) rfl rfl rfl) ?_; go_frame
                        refine dY _ hDz1 (yMove _ (.int .i64 (m : Int)) rfl rfl rfl) ?_; go_frame
                        refine dY _ hDz1 (ySubZ _ _ _ _ (m : Int) 1 ((m - 1 : Nat) : Int) (by omega) rfl rfl rfl rfl) ?_; go_frame
                        refine dY _ hDz1 (yIdxD _ _ g n cap (m - 1) (by omega) rfl rfl rfl rfl) ?_; go_frame
                        refine dY _ hDz1 (yLoadD _ (fun _ h => h) (by omega) rfl rfl rfl) ?_; go_frame
                        refine dLoud ?_
                        refine kCall2 65 _ _ _ _ _ rfl rfl (by kernel_rfl) rfl rfl ?_
                        refine (kLess_as (decide_eq_false hlt) _).mono ?_
                        rintro e z' ⟨rfl, rfl⟩
                        refine ⟨_, rfl, mixOn ⟨_, (fun _ h => h), hDz1, ?_⟩⟩
                        go_frame
                        refine dY _ hDz1 (yNotW _ _ false rfl rfl rfl) ?_; go_frame
                        refine dDone ?_
                        go_wp2_with (first
                          | ((with_reducible change wpList _ _ _ (Oper.mk (some 16) _ _ _ _ _ :: _) _ _); refine kYw (yAddZ _ _ _ _ (j : Int) 1 ((j + 1 : Nat) : Int) (by omega) rfl rfl rfl rfl) ?_; go_frame))
                        go_roundw
                        case rel => exact ⟨j + 1, s, k, D2, by omega, by omega, by omega, rfl, rfl, hDz1, hEz1, Lib.hid hst.out.symm⟩
                        case measure => first | (simp [intOf]; done) | (simp [intOf]; omega)
                    · have d103 : decide ((m : Int) < (b : Int)) = false := by simp; omega
                      have e2 : dm = D2 := by rw [← Hm.out]; exact (up_stop (fun h => hm0 h.1)).symm
                      rw [e2] at hDm
                      go_wp2_with (first
                        | ((with_reducible change wpList _ _ _ (Oper.mk (some 103) _ _ _ _ _ :: _) _ _); refine kYw (yLssK _ _ _ _ .i64 (m : Int) (b : Int) false d103 rfl rfl rfl rfl) ?_; go_frame)
                        | ((with_reducible change wpList _ _ _ (Oper.mk (some 16) _ _ _ _ _ :: _) _ _); refine kYw (yAddZ _ _ _ _ (j : Int) 1 ((j + 1 : Nat) : Int) (by omega) rfl rfl rfl rfl) ?_; go_frame))
                      go_roundw
                      case rel => exact ⟨j + 1, s, k, D2, by omega, by omega, by omega, rfl, rfl, hDm, hEm, Lib.hid hst.out.symm⟩
                      case measure => first | (simp [intOf]; done) | (simp [intOf]; omega)
          · have e1 := Lib.hid (Hs.out.trans (scan_go hkb hls))
            (try go_wp2)
            refine region_mixD [(0, true), (1, true), (2, true), (3, true), (4, true), (5, true), (6, true), (7, true), (8, true), (9, true), (10, true), (11, true), (12, true), (13, false), (14, true), (15, true)] (fun q => Dat q g n cap dk) (by kernel_rfl) (by kernel_rfl) rfl ?_
            intro z1 hBd hsd; clear hsd
            have hDz1 := hDs.below hBd
            have hEz1 := hEs.trans (exc_below g hBd)
            clear hBd hDs hEs
            simp only [List.map_cons, List.map_nil]
            dsimp only [List.filterMap, List.getElem?_cons_zero, List.getElem?_cons_succ]
            refine dY _ hDz1 (yMove _ (.int .i64 (k : Int)) rfl rfl rfl) ?_; go_frame
            refine dY _ hDz1 (yMove _ (.int .i64 (b : Int)) rfl rfl rfl) ?_; go_frame
            refine dY _ hDz1 (yLssK _ _ _ _ .i64 (k : Int) (b : Int) true d19 rfl rfl rfl rfl) ?_; go_frame
            refine dY _ hDz1 (yMove _ (.bool true) rfl rfl rfl) ?_; go_frame
            refine dY _ hDz1 (yMove _ (.slice (some ⟨g, 0, none⟩) n cap) rfl rfl rfl) ?_; go_frame
            refine dY _ hDz1 (yMove _ (.int .i64 (k : Int)) rfl rfl rfl) ?_; go_frame
            refine dY _ hDz1 (yIdxD _ _ g n cap k (by omega) rfl rfl rfl rfl) ?_; go_frame
            refine dY _ hDz1 (yLoadD _ (fun _ h => h) (by omega) rfl rfl rfl) ?_; go_frame
            refine dY _ hDz1 (yMove _ (.slice (some ⟨g, 0, none⟩) n cap) rfl rfl rfl) ?_; go_frame
            refine dY _ hDz1 (yMove _ (.int .i64 (k : Int)) rfl rfl rfl) ?_; go_frame
            refine dY _ hDz1 (ySubZ _ _ _ _ (k : Int) 1 ((k - 1 : Nat) : Int) (by omega) rfl rfl rfl rfl) ?_; go_frame
            refine dY _ hDz1 (yIdxD _ _ g n cap (k - 1) (by omega) rfl rfl rfl rfl) ?_; go_frame
            refine dY _ hDz1 (yLoadD _ (fun _ h => h) (by omega) rfl rfl rfl) ?_; go_frame
            refine dLoud ?_
            refine kCall2 65 _ _ _ _ _ rfl rfl (by kernel_rfl) rfl rfl ?_
            refine (kLess_as (decide_eq_false hls) _).mono ?_
            rintro e z' ⟨rfl, rfl⟩
            refine ⟨_, rfl, mixOn ⟨_, (fun _ h => h), hDz1, ?_⟩⟩
            go_frame
            refine dY _ hDz1 (yNotW _ _ false rfl rfl rfl) ?_; go_frame
            refine dY _ hDz1 (yPick _ _ _ true (.bool true) rfl rfl rfl rfl) ?_; go_frame
            refine dDone ?_
            go_wp2_with (first
              | ((with_reducible change wpList _ _ _ (Oper.mk (some 34) _ _ _ _ _ :: _) _ _); refine kYw (yAddZ _ _ _ _ (k : Int) 1 ((k + 1 : Nat) : Int) (by omega) rfl rfl rfl rfl) ?_; go_frame))
            go_roundw
            case rel => exact ⟨k + 1, by omega, by omega, rfl, hDz1, hEz1, e1⟩
            case measure => first | (simp [intOf]; done) | (simp [intOf]; omega)
        · have d19 : decide ((k : Int) < (b : Int)) = false := by simp; omega
          have hkb2 : k = b := by omega
          have d37 : decide ((k : Int) = (b : Int)) = true := by simp; omega
          have hst := partial_step (a := a) (s := s) (Hs.out.trans (scan_stop (fun h => absurd h hkb)))
          rw [Hk.out, if_pos hkb2] at hst
          (try go_wp2)
          refine region_mixD [(0, true), (1, true), (2, true), (3, true), (4, true), (5, true), (6, true), (7, true), (8, true), (9, true), (10, true), (11, true), (12, true), (13, true), (14, true), (15, true)] (fun q => Dat q g n cap dk) (by kernel_rfl) (by kernel_rfl) rfl ?_
          intro z1 hBd hsd; clear hsd
          have hDz1 := hDs.below hBd
          have hEz1 := hEs.trans (exc_below g hBd)
          clear hBd hDs hEs
          simp only [List.map_cons, List.map_nil]
          dsimp only [List.filterMap, List.getElem?_cons_zero, List.getElem?_cons_succ]
          refine dY _ hDz1 (yMove _ (.int .i64 (k : Int)) rfl rfl rfl) ?_; go_frame
          refine dY _ hDz1 (yMove _ (.int .i64 (b : Int)) rfl rfl rfl) ?_; go_frame
          refine dY _ hDz1 (yLssK _ _ _ _ .i64 (k : Int) (b : Int) false d19 rfl rfl rfl rfl) ?_; go_frame
          refine dY _ hDz1 (yMove _ (.bool false) rfl rfl rfl) ?_; go_frame
          refine dY _ hDz1 (ySkip rfl) ?_; go_frame
          refine dY _ hDz1 (ySkip rfl) ?_; go_frame
          refine dY _ hDz1 (ySkip rfl) ?_; go_frame
          refine dY _ hDz1 (ySkip rfl) ?_; go_frame
          refine dY _ hDz1 (ySkip rfl) ?_; go_frame
          refine dY _ hDz1 (ySkip rfl) ?_; go_frame
          refine dY _ hDz1 (ySkip rfl) ?_; go_frame
          refine dY _ hDz1 (ySkip rfl) ?_; go_frame
          refine dY _ hDz1 (ySkip rfl) ?_; go_frame
          refine dY _ hDz1 (ySkip rfl) ?_; go_frame
          refine dY _ hDz1 (ySkip rfl) ?_; go_frame
          refine dY _ hDz1 (yPick _ _ _ false (.bool false) rfl rfl rfl rfl) ?_; go_frame
          refine dDone ?_
          go_wp2_with (first
            | ((with_reducible change wpList _ _ _ (Oper.mk (some 37) _ _ _ _ _ :: _) _ _); refine kYw (yEqlK _ _ _ _ .i64 (k : Int) (b : Int) true d37 rfl rfl rfl rfl) ?_; go_frame))
          (try simp only [Exit.inBlock, Exit.then])
          refine ret1U rfl rfl ?_
          rw [hst] at hT
          exact ⟨true, dk, rfl, hT.1, hT.2, hDz1, hEz1⟩
end Go.Proofs.Ytdeggdmoijfhdaa
