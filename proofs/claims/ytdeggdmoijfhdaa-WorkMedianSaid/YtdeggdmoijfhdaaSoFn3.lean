/-
  Layer 12: the sort: order2, median, medianAdjacent, choosePivot: which places they answer.
-/
import Derived.Test.YtdeggdmoijfhdaaSoFn2
namespace Go.Proofs.Ytdeggdmoijfhdaa
open Go Go.RowKit

theorem info_intW : (Try.prog.info? 3).map (·.size) = some 1 := by kernel_rfl
theorem zero_intW : ((Try.prog.info? 3).bind (·.zero)).map Value.cells = some #[.int .i64 0] := by kernel_rfl
theorem ret1W {fn : Func} {R : Ending → World → Prop} {P : Program} {a : Act} {w : World} {t : Tmp} (h : fn.results = #[.tmp t]) (hd : a.defers = []) (hR : R (.returned (a.tmps.getD t undef)) w) : bodyPost P fn R .ret a w :=
  bodyPost_ret (by simp [results, h]) hd hR
/-- a counter in a row of its own -/
def Cnt (w : World) (s c : Nat) : Prop := Row w s 3 #[.int .i64 (c : Int)]
theorem Cnt.lt {w : World} {s c : Nat} (h : Cnt w s c) : s < w.heap.size := Row.lt h
theorem Cnt.below {B : Nat} {w w' : World} {s c : Nat} (h : Cnt w s c) (hb : Below B w w') (hs : s < B) : Cnt w' s c := Row.below h hb hs
def Ord2Post (w : World) (a b s c : Nat) (e : Ending) (w' : World) : Prop := ∃ x y c' : Nat, e = .returned (.tuple #[.int .i64 (x : Int), .int .i64 (y : Int)]) ∧ ((x = a ∧ y = b) ∨ (x = b ∧ y = a)) ∧ c' ≤ c + 1 ∧ Cnt w' s c' ∧ Exc s w w'
def MedPost (w : World) (s c : Nat) (p : Nat → Prop) (e : Ending) (w' : World) : Prop := ∃ x c' : Nat, e = .returned (.int .i64 (x : Int)) ∧ p x ∧ c' ≤ c + 3 ∧ Cnt w' s c' ∧ Exc s w w'
def PivPost (w : World) (a b : Nat) (e : Ending) (w' : World) : Prop := ∃ x t : Nat, e = .returned (.tuple #[.int .i64 (x : Int), .int .i64 (t : Int)]) ∧ (a ≤ x ∧ x < b) ∧ t ≤ 2 ∧ Below w.heap.size w w'
set_option maxRecDepth 100000 in
set_option maxHeartbeats 16000000 in
theorem sOrder2_any {g n cap a b s c : Nat} {d : Array Nat} (w : World) (hD : Dat w g n cap d) (hs : Cnt w s c) (ha : a < n) (hb : b < n) (hn : n ≤ 50) (hc : c ≤ 100) (hne : g ≠ s) : Calls Try.prog 76 #[.slice (some ⟨g, 0, none⟩) n cap, .int .i64 (a : Int), .int .i64 (b : Int), .pointer (some ⟨s, 0, none⟩)] w (Ord2Post w a b s c) := by
  have hE := exc_refl s w
  by_cases hl : dv d b < dv d a
  · go_enter Try.func76, Try.ntmps76
    (try go_wp2)
    refine region_mixD [(0, true), (1, true), (2, true), (3, true), (4, true), (5, true), (6, true), (7, true), (8, false)] (fun q => Dat q g n cap d) (by kernel_rfl) (by kernel_rfl) rfl ?_
    intro z1 hBd hsd; clear hsd
    have hDz1 := hD.below hBd
    have hEz1 := hE.trans (exc_below s hBd)
    have hs_z1 := hs.below hBd hs.lt
    clear hBd hD hE hs
    simp only [List.map_cons, List.map_nil]
    dsimp only [List.filterMap, List.getElem?_cons_zero, List.getElem?_cons_succ]
    refine dY _ hDz1 (yMove _ (.slice (some ⟨g, 0, none⟩) n cap) rfl rfl rfl) ?_; go_frame
    refine dY _ hDz1 (yMove _ (.int .i64 (b : Int)) rfl rfl rfl) ?_; go_frame
    refine dY _ hDz1 (yIdxD _ _ g n cap b (by omega) rfl rfl rfl rfl) ?_; go_frame
    refine dY _ hDz1 (yLoadD _ (fun _ h => h) (by omega) rfl rfl rfl) ?_; go_frame
    refine dY _ hDz1 (yMove _ (.slice (some ⟨g, 0, none⟩) n cap) rfl rfl rfl) ?_; go_frame
    refine dY _ hDz1 (yMove _ (.int .i64 (a : Int)) rfl rfl rfl) ?_; go_frame
    refine dY _ hDz1 (yIdxD _ _ g n cap a (by omega) rfl rfl rfl rfl) ?_; go_frame
    refine dY _ hDz1 (yLoadD _ (fun _ h => h) (by omega) rfl rfl rfl) ?_; go_frame
    refine dLoud ?_
    refine kCall2 65 _ _ _ _ _ rfl rfl (by kernel_rfl) rfl rfl ?_
    refine (kLess_as (decide_eq_true hl) _).mono ?_
    rintro e z' ⟨rfl, rfl⟩
    refine ⟨_, rfl, mixOn ⟨_, (fun _ h => h), hDz1, ?_⟩⟩
    go_frame
    refine dDone ?_
    go_wp2_with (first
      | ((with_reducible change wpList _ _ _ (Oper.mk (some 20) _ _ _ _ _ :: _) _ _); refine kNilCheck _ ⟨s, 0, none⟩ rfl rfl rfl ?_; go_frame)
      | ((with_reducible change wpList _ _ _ (Oper.mk (some 21) _ _ _ _ _ :: _) _ _); refine kLoad1 _ _ _ s 0 _ (.int .i64 (c : Int)) _ rfl rfl rfl hs_z1 Try.underlying3 rfl rfl ?_; go_frame)
      | ((with_reducible change wpList _ _ _ (Oper.mk (some 22) _ _ _ _ _ :: _) _ _); refine kYw (yAddZ _ _ _ _ (c : Int) 1 ((c + 1 : Nat) : Int) (by omega) rfl rfl rfl rfl) ?_; go_frame)
      | ((with_reducible change wpList _ _ _ (Oper.mk (some 23) _ _ _ _ _ :: _) _ _); refine kNilCheck _ ⟨s, 0, none⟩ rfl rfl rfl ?_; go_frame)
      | ((with_reducible change wpList _ _ _ (Oper.mk none (Op.store _ _ _) _ _ _ _ :: _) _ _); refine kStore1 _ _ _ _ s 0 _ (.int .i64 ((c + 1 : Nat) : Int)) rfl rfl rfl rfl hs_z1 info_intW Nat.zero_lt_one rfl ?_; intro q1 hs1 hWn; have hE1 := hEz1.trans (exc_wrote hWn); clear hWn hEz1; go_frame))
    (try simp only [Exit.inBlock, Exit.then])
    refine ret2W rfl rfl ?_
    exact ⟨b, a, c + 1, rfl, .inr ⟨rfl, rfl⟩, Nat.le_refl _, hs1, hE1⟩
  · go_enter Try.func76, Try.ntmps76
    (try go_wp2)
    refine region_mixD [(0, true), (1, true), (2, true), (3, true), (4, true), (5, true), (6, true), (7, true), (8, false)] (fun q => Dat q g n cap d) (by kernel_rfl) (by kernel_rfl) rfl ?_
    intro z1 hBd hsd; clear hsd
    have hDz1 := hD.below hBd
    have hEz1 := hE.trans (exc_below s hBd)
    have hs_z1 := hs.below hBd hs.lt
    clear hBd hD hE hs
    simp only [List.map_cons, List.map_nil]
    dsimp only [List.filterMap, List.getElem?_cons_zero, List.getElem?_cons_succ]
    refine dY _ hDz1 (yMove _ (.slice (some ⟨g, 0, none⟩) n cap) rfl rfl rfl) ?_; go_frame
    refine dY _ hDz1 (yMove _ (.int .i64 (b : Int)) rfl rfl rfl) ?_; go_frame
    refine dY _ hDz1 (yIdxD _ _ g n cap b (by omega) rfl rfl rfl rfl) ?_; go_frame
    refine dY _ hDz1 (yLoadD _ (fun _ h => h) (by omega) rfl rfl rfl) ?_; go_frame
    refine dY _ hDz1 (yMove _ (.slice (some ⟨g, 0, none⟩) n cap) rfl rfl rfl) ?_; go_frame
    refine dY _ hDz1 (yMove _ (.int .i64 (a : Int)) rfl rfl rfl) ?_; go_frame
    refine dY _ hDz1 (yIdxD _ _ g n cap a (by omega) rfl rfl rfl rfl) ?_; go_frame
    refine dY _ hDz1 (yLoadD _ (fun _ h => h) (by omega) rfl rfl rfl) ?_; go_frame
    refine dLoud ?_
    refine kCall2 65 _ _ _ _ _ rfl rfl (by kernel_rfl) rfl rfl ?_
    refine (kLess_as (decide_eq_false hl) _).mono ?_
    rintro e z' ⟨rfl, rfl⟩
    refine ⟨_, rfl, mixOn ⟨_, (fun _ h => h), hDz1, ?_⟩⟩
    go_frame
    refine dDone ?_
    go_wp2
    (try simp only [Exit.inBlock, Exit.then])
    refine ret2W rfl rfl ?_
    exact ⟨a, b, c, rfl, .inl ⟨rfl, rfl⟩, by omega, hs_z1, hEz1⟩
set_option maxRecDepth 100000 in
set_option maxHeartbeats 16000000 in
theorem sMedian_any {g n cap a b u s c : Nat} {d : Array Nat} (w : World) (hD : Dat w g n cap d) (hs : Cnt w s c) (ha : a < n) (hb : b < n) (hu : u < n) (hn : n ≤ 50) (hc : c ≤ 50) (hne : g ≠ s) : Calls Try.prog 74 #[.slice (some ⟨g, 0, none⟩) n cap, .int .i64 (a : Int), .int .i64 (b : Int), .int .i64 (u : Int), .pointer (some ⟨s, 0, none⟩)] w (MedPost w s c fun x => x = a ∨ x = b ∨ x = u) := by
  have hE := exc_refl s w
  go_enter Try.func74, Try.ntmps74
  go_wp2_with (first
    | (go_at_call 76; (with_reducible change Calls _ _ #[Value.slice (some ⟨g, 0, none⟩) n cap, Value.int .i64 (a : Int), Value.int .i64 (b : Int), Value.pointer (some ⟨s, 0, none⟩)] _ _); refine (sOrder2_any _ hD hs ha hb hn (by omega) hne).mono ?_; rintro er q1 ⟨x1, y1, c1, rfl, hxy1, hc1, hs1, hEq1⟩; have hE1 := hE.trans hEq1; have hD1 := hD.other hEq1 hne; have hx1 : x1 < n := (by omega); have hy1 : y1 < n := (by omega); clear hEq1; go_frame)
    | (go_at_call 76; (with_reducible change Calls _ _ #[Value.slice (some ⟨g, 0, none⟩) n cap, Value.int .i64 (y1 : Int), Value.int .i64 (u : Int), Value.pointer (some ⟨s, 0, none⟩)] _ _); refine (sOrder2_any _ hD1 hs1 hy1 hu hn (by omega) hne).mono ?_; rintro er q2 ⟨x2, y2, c2, rfl, hxy2, hc2, hs2, hEq2⟩; have hE2 := hE1.trans hEq2; have hD2 := hD1.other hEq2 hne; have hx2 : x2 < n := (by omega); have hy2 : y2 < n := (by omega); clear hEq2; go_frame)
    | (go_at_call 76; (with_reducible change Calls _ _ #[Value.slice (some ⟨g, 0, none⟩) n cap, Value.int .i64 (x1 : Int), Value.int .i64 (x2 : Int), Value.pointer (some ⟨s, 0, none⟩)] _ _); refine (sOrder2_any _ hD2 hs2 hx1 hx2 hn (by omega) hne).mono ?_; rintro er q3 ⟨x3, y3, c3, rfl, hxy3, hc3, hs3, hEq3⟩; have hE3 := hE2.trans hEq3; have hD3 := hD2.other hEq3 hne; have hx3 : x3 < n := (by omega); have hy3 : y3 < n := (by omega); clear hEq3; go_frame))
  (try simp only [Exit.inBlock, Exit.then])
  refine ret1W rfl rfl ?_
  exact ⟨y3, c3, rfl, by omega, by omega, hs3, hE3⟩
set_option maxRecDepth 100000 in
set_option maxHeartbeats 16000000 in
theorem sMedAdj_any {g n cap a s c : Nat} {d : Array Nat} (w : World) (hD : Dat w g n cap d) (hs : Cnt w s c) (h1 : 0 < a) (ha : a + 1 < n) (hn : n ≤ 50) (hc : c ≤ 50) (hne : g ≠ s) : Calls Try.prog 73 #[.slice (some ⟨g, 0, none⟩) n cap, .int .i64 (a : Int), .pointer (some ⟨s, 0, none⟩)] w (MedPost w s c fun x => a - 1 ≤ x ∧ x ≤ a + 1) := by
  go_enter Try.func73, Try.ntmps73
  go_wp2_with (first
    | ((with_reducible change wpList _ _ _ (Oper.mk (some 9) _ _ _ _ _ :: _) _ _); refine kYw (ySubZ _ _ _ _ (a : Int) 1 ((a - 1 : Nat) : Int) (by omega) rfl rfl rfl rfl) ?_; go_frame)
    | ((with_reducible change wpList _ _ _ (Oper.mk (some 12) _ _ _ _ _ :: _) _ _); refine kYw (yAddZ _ _ _ _ (a : Int) 1 ((a + 1 : Nat) : Int) (by omega) rfl rfl rfl rfl) ?_; go_frame)
    | (go_at_call 74; refine (sMedian_any _ hD hs (by omega) (by omega) (by omega) hn hc hne).mono ?_; rintro r q1 ⟨x, c1, rfl, hx, hc1, hs1, hE1⟩; go_frame))
  (try simp only [Exit.inBlock, Exit.then])
  refine ret1W rfl rfl ?_
  exact ⟨x, c1, rfl, by omega, hc1, hs1, hE1⟩
set_option maxRecDepth 100000 in
set_option maxHeartbeats 16000000 in
theorem sChoose_any {g n cap a b : Nat} {d : Array Nat} (w : World) (hD : Dat w g n cap d) (hab : a + 12 < b) (hb : b ≤ n) (hn : n ≤ 50) : Calls Try.prog 62 #[.slice (some ⟨g, 0, none⟩) n cap, .int .i64 (a : Int), .int .i64 (b : Int)] w (PivPost w a b) := by
  obtain ⟨l, Hl⟩ : ∃ l, Hid (b - a = l) := ⟨_, Lib.hid rfl⟩
  obtain ⟨q, Hq⟩ : ∃ q, Hid (l / 4 = q) := ⟨_, Lib.hid rfl⟩
  obtain ⟨i, Hi⟩ : ∃ i, Hid (a + q = i) := ⟨_, Lib.hid rfl⟩
  obtain ⟨j, Hj⟩ : ∃ j, Hid (a + q * 2 = j) := ⟨_, Lib.hid rfl⟩
  obtain ⟨k, Hk⟩ : ∃ k, Hid (a + q * 3 = k) := ⟨_, Lib.hid rfl⟩
  have hl := Hl.out
  have hq := Hq.out
  have hi := Hi.out
  have hj := Hj.out
  have hk := Hk.out
  have hne : g ≠ w.heap.size := Nat.ne_of_lt hD.lt
  have d32 : decide ((l : Int) ≥ 8) = true := by simp; omega
  replace hl := Lib.hid hl
  replace hq := Lib.hid hq
  replace hi := Lib.hid hi
  replace hj := Lib.hid hj
  replace hk := Lib.hid hk
  by_cases hbig : 50 ≤ l
  · have d34 : decide ((l : Int) ≥ 50) = true := by simp; omega
    go_enter Try.func62, Try.ntmps62
    go_wp2_with (first
      | ((with_reducible change wpList _ _ _ (Oper.mk (some 15) _ _ _ _ _ :: _) _ _); refine kYw (ySubZ _ _ _ _ (b : Int) (a : Int) (l : Int) (by have := hl.out; have := hq.out; have := hi.out; have := hj.out; have := hk.out; omega) rfl rfl rfl rfl) ?_; go_frame)
      | ((with_reducible change wpList _ _ _ (Oper.mk (some 9) _ _ _ _ _ :: _) _ _); refine kAllocL _ _ rfl rfl zero_intW ?_; intro q0 hs0 hzq hBq; clear hzq; have hC0 : Cnt q0 w.heap.size 0 := hs0; have hD0 := hD.below hBq; have hE0 := exc_below w.heap.size hBq; clear hs0 hBq; go_frame)
      | ((with_reducible change wpList _ _ _ (Oper.mk (some 18) _ _ _ _ _ :: _) _ _); refine kYw (yQuoN .i64 _ _ _ _ l 4 q ⟨(by have := hl.out; have := hq.out; have := hi.out; have := hj.out; have := hk.out; omega), by decide, wrap_i64N (by have := hl.out; have := hq.out; have := hi.out; have := hj.out; have := hk.out; omega)⟩ rfl rfl rfl rfl) ?_; go_frame)
      | ((with_reducible change wpList _ _ _ (Oper.mk (some 19) _ _ _ _ _ :: _) _ _); refine kYw (yMulZ _ _ _ _ (q : Int) 1 (q : Int) (by have := hl.out; have := hq.out; have := hi.out; have := hj.out; have := hk.out; omega) rfl rfl rfl rfl) ?_; go_frame)
      | ((with_reducible change wpList _ _ _ (Oper.mk (some 20) _ _ _ _ _ :: _) _ _); refine kYw (yAddZ _ _ _ _ (a : Int) (q : Int) (i : Int) (by have := hl.out; have := hq.out; have := hi.out; have := hj.out; have := hk.out; omega) rfl rfl rfl rfl) ?_; go_frame)
      | ((with_reducible change wpList _ _ _ (Oper.mk (some 23) _ _ _ _ _ :: _) _ _); refine kYw (yQuoN .i64 _ _ _ _ l 4 q ⟨(by have := hl.out; have := hq.out; have := hi.out; have := hj.out; have := hk.out; omega), by decide, wrap_i64N (by have := hl.out; have := hq.out; have := hi.out; have := hj.out; have := hk.out; omega)⟩ rfl rfl rfl rfl) ?_; go_frame)
      | ((with_reducible change wpList _ _ _ (Oper.mk (some 24) _ _ _ _ _ :: _) _ _); refine kYw (yMulZ _ _ _ _ (q : Int) 2 ((q * 2 : Nat) : Int) (by have := hl.out; have := hq.out; have := hi.out; have := hj.out; have := hk.out; omega) rfl rfl rfl rfl) ?_; go_frame)
      | ((with_reducible change wpList _ _ _ (Oper.mk (some 25) _ _ _ _ _ :: _) _ _); refine kYw (yAddZ _ _ _ _ (a : Int) ((q * 2 : Nat) : Int) (j : Int) (by have := hl.out; have := hq.out; have := hi.out; have := hj.out; have := hk.out; omega) rfl rfl rfl rfl) ?_; go_frame)
      | ((with_reducible change wpList _ _ _ (Oper.mk (some 28) _ _ _ _ _ :: _) _ _); refine kYw (yQuoN .i64 _ _ _ _ l 4 q ⟨(by have := hl.out; have := hq.out; have := hi.out; have := hj.out; have := hk.out; omega), by decide, wrap_i64N (by have := hl.out; have := hq.out; have := hi.out; have := hj.out; have := hk.out; omega)⟩ rfl rfl rfl rfl) ?_; go_frame)
      | ((with_reducible change wpList _ _ _ (Oper.mk (some 29) _ _ _ _ _ :: _) _ _); refine kYw (yMulZ _ _ _ _ (q : Int) 3 ((q * 3 : Nat) : Int) (by have := hl.out; have := hq.out; have := hi.out; have := hj.out; have := hk.out; omega) rfl rfl rfl rfl) ?_; go_frame)
      | ((with_reducible change wpList _ _ _ (Oper.mk (some 30) _ _ _ _ _ :: _) _ _); refine kYw (yAddZ _ _ _ _ (a : Int) ((q * 3 : Nat) : Int) (k : Int) (by have := hl.out; have := hq.out; have := hi.out; have := hj.out; have := hk.out; omega) rfl rfl rfl rfl) ?_; go_frame)
      | ((with_reducible change wpList _ _ _ (Oper.mk (some 32) _ _ _ _ _ :: _) _ _); refine kYw (yGeqK _ _ _ _ .i64 (l : Int) 8 true d32 rfl rfl rfl rfl) ?_; go_frame)
      | ((with_reducible change wpList _ _ _ (Oper.mk (some 34) _ _ _ _ _ :: _) _ _); refine kYw (yGeqK _ _ _ _ .i64 (l : Int) 50 true d34 rfl rfl rfl rfl) ?_; go_frame)
      | (go_at_call 73; (with_reducible change Calls _ _ #[Value.slice (some ⟨g, 0, none⟩) n cap, Value.int .i64 (i : Int), Value.pointer (some ⟨w.heap.size, 0, none⟩)] _ _); refine (sMedAdj_any (a := i) _ hD0 hC0 (by have := hl.out; have := hq.out; have := hi.out; have := hj.out; have := hk.out; omega) (by have := hl.out; have := hq.out; have := hi.out; have := hj.out; have := hk.out; omega) hn (by omega) hne).mono ?_; rintro r q1 ⟨x1, c1, rfl, hx1, hc1, hC1, hEq1⟩; have hE1 := hE0.trans hEq1; have hD1 := hD0.other hEq1 hne; clear hEq1; go_frame)
      | (go_at_call 73; (with_reducible change Calls _ _ #[Value.slice (some ⟨g, 0, none⟩) n cap, Value.int .i64 (j : Int), Value.pointer (some ⟨w.heap.size, 0, none⟩)] _ _); refine (sMedAdj_any (a := j) _ hD1 hC1 (by have := hl.out; have := hq.out; have := hi.out; have := hj.out; have := hk.out; omega) (by have := hl.out; have := hq.out; have := hi.out; have := hj.out; have := hk.out; omega) hn (by omega) hne).mono ?_; rintro r q2 ⟨x2, c2, rfl, hx2, hc2, hC2, hEq2⟩; have hE2 := hE1.trans hEq2; have hD2 := hD1.other hEq2 hne; clear hEq2; go_frame)
      | (go_at_call 73; (with_reducible change Calls _ _ #[Value.slice (some ⟨g, 0, none⟩) n cap, Value.int .i64 (k : Int), Value.pointer (some ⟨w.heap.size, 0, none⟩)] _ _); refine (sMedAdj_any (a := k) _ hD2 hC2 (by have := hl.out; have := hq.out; have := hi.out; have := hj.out; have := hk.out; omega) (by have := hl.out; have := hq.out; have := hi.out; have := hj.out; have := hk.out; omega) hn (by omega) hne).mono ?_; rintro r q3 ⟨x3, c3, rfl, hx3, hc3, hC3, hEq3⟩; have hE3 := hE2.trans hEq3; have hD3 := hD2.other hEq3 hne; clear hEq3; go_frame)
      | (go_at_call 74; (with_reducible change Calls _ _ #[Value.slice (some ⟨g, 0, none⟩) n cap, Value.int .i64 (x1 : Int), Value.int .i64 (x2 : Int), Value.int .i64 (x3 : Int), Value.pointer (some ⟨w.heap.size, 0, none⟩)] _ _); refine (sMedian_any (a := x1) (b := x2) (u := x3) _ hD3 hC3 (by have := hl.out; have := hq.out; have := hi.out; have := hj.out; have := hk.out; omega) (by have := hl.out; have := hq.out; have := hi.out; have := hj.out; have := hk.out; omega) (by have := hl.out; have := hq.out; have := hi.out; have := hj.out; have := hk.out; omega) hn (by omega) hne).mono ?_; rintro r q4 ⟨x4, c4, rfl, hx4, hc4, hC4, hEq4⟩; have hE4 := hE3.trans hEq4; clear hEq4; go_frame)
      | ((with_reducible change wpList _ _ _ (Oper.mk (some 49) _ _ _ _ _ :: _) _ _); refine kLoad1 _ _ _ w.heap.size 0 _ (.int .i64 (c4 : Int)) _ rfl rfl rfl hC4 Try.underlying3 rfl rfl ?_; have hxb : a ≤ x4 ∧ x4 < b := (by have := hl.out; have := hq.out; have := hi.out; have := hj.out; have := hk.out; omega); have hBel : Below w.heap.size w q4 := hE4.below (Nat.le_refl _) (Nat.le_refl _); go_frame))
    all_goals (try simp only [Exit.inBlock, Exit.then])
    all_goals refine ret2W rfl rfl ?_
    all_goals first | exact ⟨x4, 1, rfl, hxb, by decide, hBel⟩ | exact ⟨x4, 2, rfl, hxb, by decide, hBel⟩ | exact ⟨x4, 0, rfl, hxb, by decide, hBel⟩
  · have d34 : decide ((l : Int) ≥ 50) = false := by simp; omega
    go_enter Try.func62, Try.ntmps62
    go_wp2_with (first
      | ((with_reducible change wpList _ _ _ (Oper.mk (some 15) _ _ _ _ _ :: _) _ _); refine kYw (ySubZ _ _ _ _ (b : Int) (a : Int) (l : Int) (by have := hl.out; have := hq.out; have := hi.out; have := hj.out; have := hk.out; omega) rfl rfl rfl rfl) ?_; go_frame)
      | ((with_reducible change wpList _ _ _ (Oper.mk (some 9) _ _ _ _ _ :: _) _ _); refine kAllocL _ _ rfl rfl zero_intW ?_; intro q0 hs0 hzq hBq; clear hzq; have hC0 : Cnt q0 w.heap.size 0 := hs0; have hD0 := hD.below hBq; have hE0 := exc_below w.heap.size hBq; clear hs0 hBq; go_frame)
      | ((with_reducible change wpList _ _ _ (Oper.mk (some 18) _ _ _ _ _ :: _) _ _); refine kYw (yQuoN .i64 _ _ _ _ l 4 q ⟨(by have := hl.out; have := hq.out; have := hi.out; have := hj.out; have := hk.out; omega), by decide, wrap_i64N (by have := hl.out; have := hq.out; have := hi.out; have := hj.out; have := hk.out; omega)⟩ rfl rfl rfl rfl) ?_; go_frame)
      | ((with_reducible change wpList _ _ _ (Oper.mk (some 19) _ _ _ _ _ :: _) _ _); refine kYw (yMulZ _ _ _ _ (q : Int) 1 (q : Int) (by have := hl.out; have := hq.out; have := hi.out; have := hj.out; have := hk.out; omega) rfl rfl rfl rfl) ?_; go_frame)
      | ((with_reducible change wpList _ _ _ (Oper.mk (some 20) _ _ _ _ _ :: _) _ _); refine kYw (yAddZ _ _ _ _ (a : Int) (q : Int) (i : Int) (by have := hl.out; have := hq.out; have := hi.out; have := hj.out; have := hk.out; omega) rfl rfl rfl rfl) ?_; go_frame)
      | ((with_reducible change wpList _ _ _ (Oper.mk (some 23) _ _ _ _ _ :: _) _ _); refine kYw (yQuoN .i64 _ _ _ _ l 4 q ⟨(by have := hl.out; have := hq.out; have := hi.out; have := hj.out; have := hk.out; omega), by decide, wrap_i64N (by have := hl.out; have := hq.out; have := hi.out; have := hj.out; have := hk.out; omega)⟩ rfl rfl rfl rfl) ?_; go_frame)
      | ((with_reducible change wpList _ _ _ (Oper.mk (some 24) _ _ _ _ _ :: _) _ _); refine kYw (yMulZ _ _ _ _ (q : Int) 2 ((q * 2 : Nat) : Int) (by have := hl.out; have := hq.out; have := hi.out; have := hj.out; have := hk.out; omega) rfl rfl rfl rfl) ?_; go_frame)
      | ((with_reducible change wpList _ _ _ (Oper.mk (some 25) _ _ _ _ _ :: _) _ _); refine kYw (yAddZ _ _ _ _ (a : Int) ((q * 2 : Nat) : Int) (j : Int) (by have := hl.out; have := hq.out; have := hi.out; have := hj.out; have := hk.out; omega) rfl rfl rfl rfl) ?_; go_frame)
      | ((with_reducible change wpList _ _ _ (Oper.mk (some 28) _ _ _ _ _ :: _) _ _); refine kYw (yQuoN .i64 _ _ _ _ l 4 q ⟨(by have := hl.out; have := hq.out; have := hi.out; have := hj.out; have := hk.out; omega), by decide, wrap_i64N (by have := hl.out; have := hq.out; have := hi.out; have := hj.out; have := hk.out; omega)⟩ rfl rfl rfl rfl) ?_; go_frame)
      | ((with_reducible change wpList _ _ _ (Oper.mk (some 29) _ _ _ _ _ :: _) _ _); refine kYw (yMulZ _ _ _ _ (q : Int) 3 ((q * 3 : Nat) : Int) (by have := hl.out; have := hq.out; have := hi.out; have := hj.out; have := hk.out; omega) rfl rfl rfl rfl) ?_; go_frame)
      | ((with_reducible change wpList _ _ _ (Oper.mk (some 30) _ _ _ _ _ :: _) _ _); refine kYw (yAddZ _ _ _ _ (a : Int) ((q * 3 : Nat) : Int) (k : Int) (by have := hl.out; have := hq.out; have := hi.out; have := hj.out; have := hk.out; omega) rfl rfl rfl rfl) ?_; go_frame)
      | ((with_reducible change wpList _ _ _ (Oper.mk (some 32) _ _ _ _ _ :: _) _ _); refine kYw (yGeqK _ _ _ _ .i64 (l : Int) 8 true d32 rfl rfl rfl rfl) ?_; go_frame)
      | ((with_reducible change wpList _ _ _ (Oper.mk (some 34) _ _ _ _ _ :: _) _ _); refine kYw (yGeqK _ _ _ _ .i64 (l : Int) 50 false d34 rfl rfl rfl rfl) ?_; go_frame)
      | (go_at_call 74; (with_reducible change Calls _ _ #[Value.slice (some ⟨g, 0, none⟩) n cap, Value.int .i64 (i : Int), Value.int .i64 (j : Int), Value.int .i64 (k : Int), Value.pointer (some ⟨w.heap.size, 0, none⟩)] _ _); refine (sMedian_any (a := i) (b := j) (u := k) _ hD0 hC0 (by have := hl.out; have := hq.out; have := hi.out; have := hj.out; have := hk.out; omega) (by have := hl.out; have := hq.out; have := hi.out; have := hj.out; have := hk.out; omega) (by have := hl.out; have := hq.out; have := hi.out; have := hj.out; have := hk.out; omega) hn (by omega) hne).mono ?_; rintro r q4 ⟨x4, c4, rfl, hx4, hc4, hC4, hEq4⟩; have hE4 := hE0.trans hEq4; clear hEq4; go_frame)
      | ((with_reducible change wpList _ _ _ (Oper.mk (some 49) _ _ _ _ _ :: _) _ _); refine kLoad1 _ _ _ w.heap.size 0 _ (.int .i64 (c4 : Int)) _ rfl rfl rfl hC4 Try.underlying3 rfl rfl ?_; have hxb : a ≤ x4 ∧ x4 < b := (by have := hl.out; have := hq.out; have := hi.out; have := hj.out; have := hk.out; omega); have hBel : Below w.heap.size w q4 := hE4.below (Nat.le_refl _) (Nat.le_refl _); go_frame))
    all_goals (try simp only [Exit.inBlock, Exit.then])
    all_goals refine ret2W rfl rfl ?_
    all_goals first | exact ⟨x4, 1, rfl, hxb, by decide, hBel⟩ | exact ⟨x4, 2, rfl, hxb, by decide, hBel⟩ | exact ⟨x4, 0, rfl, hxb, by decide, hBel⟩
end Go.Proofs.Ytdeggdmoijfhdaa
