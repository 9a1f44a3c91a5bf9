/-
  Package curve: Parse.
-/
import Derived.Test.YtecibidncelebaaDoorCvBytes0
namespace Go.Proofs.YtecibidncelebaaDoor
open Go Go.RowKit

open Cv
def BytesAt (w : World) (ad : Addr) (f : Nat → Nat) : Prop := ∀ j, j < 32 → w.cell? (ad.add j) = some (.int .u8 (f j : Int))
theorem BytesAt.below {w w' : World} {ad : Addr} {f : Nat → Nat} (h : BytesAt w ad f) (hb : Below w.heap.size w w') : BytesAt w' ad f := fun j hj => by
  have := h j hj
  rw [hb.cell (block_lt_of_cell this)]; exact this
theorem add_add (a : Addr) (i j : Nat) (hi : 0 < i) : (a.add i).add j = a.add (i + j) := by
  unfold Addr.add
  rw [if_neg (show i ≠ 0 by omega), if_neg (show i + j ≠ 0 by omega)]
  by_cases hj : j = 0
  · subst hj; rw [if_pos rfl]; rfl
  · rw [if_neg hj]; simp [Nat.add_assoc]
/-- what is behind the first byte -/
theorem from_one {w : World} {v : Value} {c : UInt8} {r : List UInt8} (hv : IsVals w v ((c :: r).map VB)) (hr : r.length = 32) : ∃ ad cap, fromV v 1 = .slice (some ad) 32 cap ∧ BytesAt w ad fun j => (r.getD j 0).toNat := by
  obtain ⟨ao, cap, rfl, hc, hn, hj⟩ := hv
  obtain ⟨a, rfl, _⟩ := hj 0 (VB c) rfl
  refine ⟨a.add 1, cap - 1, ?_, fun j hj32 => ?_⟩
  · have hc' : 33 ≤ cap := by simpa [hr] using hc
    show Value.slice _ _ _ = _
    simp [hr]
    omega
  · obtain ⟨b, e, h⟩ := hj (j + 1) (VB (r.getD j 0)) (by
      rw [List.getElem?_map, List.getElem?_cons_succ, List.getElem?_eq_getElem (by omega), List.getD_eq_getElem?_getD, List.getElem?_eq_getElem (by omega)]; rfl)
    obtain rfl := Option.some.inj e
    rw [add_add a 1 j (by decide), Nat.add_comm]; exact h
section
variable {ops : Array Oper} {Q : Exit → Act → World → Prop} {rest : List Oper} {o : Oper} {a : Act} {w : World}
theorem kSlice1 (x y : Operand) (v u : Value) (l : List Value) (ho : o.op = .slice 48 x (some y) none none) (hg : Region.wanted o (yielded ops a.tmps) = true) (hx : a.eval x = v) (hy : a.eval y = .int .i64 1) (hv : IsVals w v l) (hn : 1 ≤ l.length) (hu : fromV v 1 = u)
    (h : wpList Tryd.prog ops Q rest (a.put o.dst u) w) : wpList Tryd.prog ops Q (o :: rest) a w :=
  kSliceFromV _ _ x y v l .i64 1 1 ho hg hx hy Tryd.underlying48 info_b8 hv rfl hn (by rw [hu]; exact h)
theorem kArrPtr (x : Operand) (ad : Addr) (cap : Nat) (ho : o.op = .sliceToArrayPointer 57 x) (hg : Region.wanted o (yielded ops a.tmps) = true) (hx : a.eval x = .slice (some ad) 32 cap)
    (h : wpList Tryd.prog ops Q rest (a.put o.dst (.pointer (some ad))) w) : wpList Tryd.prog ops Q (o :: rest) a w :=
  kPure _ hg (by unfold execOp; simp only [ho, hx, Sem.run_bind, run_arrayAt (P := Tryd.prog) w 57 5 32 (some ad) 32 cap Tryd.underlying57 (Nat.le_refl _), Result.andThen_ok, Sem.run_pure]) h
theorem kLoad32 (x : Operand) (ad : Addr) (f : Nat → Nat) (ho : o.op = .load 57 x) (hg : Region.wanted o (yielded ops a.tmps) = true) (hx : a.eval x = .pointer (some ad)) (hb : BytesAt w ad f)
    (h : wpList Tryd.prog ops Q rest (a.put o.dst (.agg (bcells f))) w) : wpList Tryd.prog ops Q (o :: rest) a w := by
  have hl : (loadCells ad (bcells f).toList.length).run Tryd.prog w = .ok (bcells f).toList.toArray w :=
    run_loadCells_list (P := Tryd.prog) w ad (bcells f).toList (fun j v hv => by
      have hv' : (bcells f)[j]? = some v := by rw [← Array.getElem?_toList]; exact hv
      have hj : j < 32 := by
        rcases Nat.lt_or_ge j 32 with h | h
        · exact h
        · rw [Array.getElem?_eq_none (by rw [bcells_size]; exact h)] at hv'; cases hv'
      unfold bcells at hv'
      rw [tab_get 32 _ j hj] at hv'
      rw [hb j hj]; exact hv')
  have hi := info_arr32
  cases hq : Tryd.prog.info? 57 with
  | none => rw [hq] at hi; cases hi
  | some i =>
    have hs : i.size = 32 := by simpa [hq] using hi
    rw [Array.length_toList, bcells_size, Array.toArray_toList] at hl
    have hr : (loadVar 57 ad).run Tryd.prog w = .ok (.agg (bcells f)) w := by
      simp [loadVar, Sem.run_bind, run_isAgg Tryd.underlying57, aggDesc, sizeOf, typeInfo, hq, hs, hl]
    exact kPure _ hg (by unfold execOp; simp only [ho, hx, Instr.loadAt, Instr.sureAddr, Sem.run_bind, Sem.run_pure, Result.andThen_ok, hr]) h
end
theorem wFrom_as {r : List UInt8} {x : Nat} {fb : Nat → Nat} (hfb : fb = fun j => (r.getD j 0).toNat) (h : numOf r = x) (w : World) : Calls Tryd.prog 31 #[.agg (bcells fb)] w fun e w' => e = .returned (WV x) ∧ Below w.heap.size w w' := by
  subst hfb
  have := wFrom_any (fun j => (r.getD j 0).toNat) (fun i => byte_lt r i) w
  rw [show bnum (fun i => (r.getD (31 - i) 0).toNat) 32 = x from h] at this; exact this
theorem B_eq {c : UInt8} {k : Nat} (hk : k < 256) {b : Bool} (h : decide (c = UInt8.ofNat k) = b) : decide (B c = (k : Int)) = b := by
  rw [← h]
  refine decide_eq_decide.2 ⟨fun e => ?_, fun e => ?_⟩
  · have e2 : c.toNat = k := by unfold B at e; omega
    rw [← e2, UInt8.ofNat_toNat]
  · rw [e]; unfold B; rw [ofNat_toNat hk]
theorem B_ne {c : UInt8} {k : Nat} (hk : k < 256) {b : Bool} (h : decide (c = UInt8.ofNat k) = !b) : (!decide (B c = (k : Int))) = b := by
  rw [B_eq hk h]; simp
set_option maxRecDepth 100000 in
set_option maxHeartbeats 8000000 in
theorem parse_none {l : List UInt8} {v : Value} (hl : l = [0]) (w : World) (hO : GlobP 0 0 0 true w) (hv : IsVals w v (l.map VB)) :
    Calls Tryd.prog 12 #[v] w fun e w' => e = .returned (.tuple #[.agg (pcells 0 0 true), .int .i64 0]) ∧ Below w.heap.size w w' := by
  obtain ⟨L, HL⟩ : ∃ n, Hid ((l.map VB).length = n) := ⟨_, Lib.hid rfl⟩
  have hL : L = l.length := by rw [← HL.out, List.length_map]
  obtain ⟨c0, h0⟩ : ∃ c : UInt8, c = UInt8.ofNat 0 := ⟨_, rfl⟩
  have Hc0 := Lib.hid (show (l.map VB)[0]? = some (VB c0) by rw [hl, h0]; rfl)
  have hL1 : L = 1 := by rw [hL, hl]; rfl
  have F11 := Lib.hid (show decide ((L : Int) = 1) = true by rw [decide_eq_true (show (L : Int) = 1 by omega)]; try rfl)
  have HcZ := Lib.hid (show decide (c0 = UInt8.ofNat 0) = true from decide_eq_true h0)
  clear hl h0 hL
  have hM0 := mm_nil w
  (try unfold WV)
  go_enter Tryd.func12, Tryd.ntmps12
  go_wp2_with (first
    | ((with_reducible change wpList _ _ _ (Oper.mk (some 2) _ _ _ _ _ :: _) _ _); refine mmAlloc hM0 _ _ rfl rfl zero_Point ?_; intro w1 hM1; clear hM0; go_frame)
    | ((with_reducible change wpList _ _ _ (Oper.mk (some 10) _ _ _ _ _ :: _) _ _); refine kLenN _ _ _ _ _ L rfl rfl rfl ((hv.below hM1.below)) HL.out Tryd.underlying48 ?_; go_frame)
    | ((with_reducible change wpList _ _ _ (Oper.mk (some 11) _ _ _ _ _ :: _) _ _); refine kEqlI _ _ _ _ .i64 ((L : Int)) (1) true rfl rfl rfl rfl (F11.out) ?_; go_frame)
    | ((with_reducible change wpList _ _ _ (Oper.mk (some 14) _ _ _ _ _ :: _) _ _); refine kIndexAddrV _ _ _ _ _ _ _ _ 0 (VB c0) rfl rfl rfl ((hv.below hM1.below)) rfl Tryd.underlying48 info_b8 rfl Hc0.out ?_; intro b14 hb14; go_frame)
    | ((with_reducible change wpList _ _ _ (Oper.mk (some 15) _ _ _ _ _ :: _) _ _); refine kLoadCell _ _ _ (VB c0) _ rfl rfl rfl hb14 Tryd.underlying5 rfl ?_; go_frame)
    | ((with_reducible change wpList _ _ _ (Oper.mk (some 16) _ _ _ _ _ :: _) _ _); refine kEqlI _ _ _ _ .u8 (B c0) (0) true rfl rfl rfl rfl (B_eq (k := 0) (by decide) HcZ.out) ?_; go_frame)
    | ((with_reducible change wpList _ _ _ (Oper.mk (some 18) _ _ _ _ _ :: _) _ _); refine kLoadGP _ _ _ _ _ rfl rfl rfl (hO.below hM1.below) ?_; go_frame)
    | ((with_reducible change wpList _ _ _ (Oper.mk none (Op.store _ (Operand.tmp 2) (Operand.tmp 18)) _ _ _ _ :: _) _ _); refine mmStoreAt hM1 0 _ _ _ _ _ _ (pcells 0 0 true) rfl rfl rfl rfl rfl (info_PointC _ _ _) (by simp only [pcells_size]) (pcells_one _ _ _) ?_; intro w2 hM2; dsimp only [List.set] at hM2; clear hM1; go_frame))
  exact result_row_tmp Tryd.results12 rfl rfl (hM2.get 0 rfl) Tryd.underlying30 rfl (info_PointC _ _ _) rfl ⟨rfl, hM2.below⟩
set_option maxRecDepth 100000 in
set_option maxHeartbeats 8000000 in
theorem parse_one {l : List UInt8} {v : Value} {c0 : UInt8} (hl : l = [c0]) (h0 : c0 ≠ 0) (w : World) (hv : IsVals w v (l.map VB)) :
    Calls Tryd.prog 12 #[v] w fun e w' => e = .returned (.tuple #[.agg (pcells 0 0 false), .int .i64 41]) ∧ Below w.heap.size w w' := by
  obtain ⟨L, HL⟩ : ∃ n, Hid ((l.map VB).length = n) := ⟨_, Lib.hid rfl⟩
  have hL : L = l.length := by rw [← HL.out, List.length_map]
  have Hc0 := Lib.hid (show (l.map VB)[0]? = some (VB c0) by rw [hl]; rfl)
  have hL1 : L = 1 := by rw [hL, hl]; rfl
  have F11 := Lib.hid (show decide ((L : Int) = 1) = true by rw [decide_eq_true (show (L : Int) = 1 by omega)]; try rfl)
  have F21 := Lib.hid (show (!decide ((L : Int) = 33)) = true by rw [decide_eq_false (show ¬((L : Int) = 33) by omega)]; try rfl)
  have HcZ := Lib.hid (show decide (c0 = UInt8.ofNat 0) = false from decide_eq_false h0)
  clear hl h0 hL
  have hM0 := mm_nil w
  (try unfold WV)
  go_enter Tryd.func12, Tryd.ntmps12
  go_wp2_with (first
    | ((with_reducible change wpList _ _ _ (Oper.mk (some 2) _ _ _ _ _ :: _) _ _); refine mmAlloc hM0 _ _ rfl rfl zero_Point ?_; intro w1 hM1; clear hM0; go_frame)
    | ((with_reducible change wpList _ _ _ (Oper.mk (some 10) _ _ _ _ _ :: _) _ _); refine kLenN _ _ _ _ _ L rfl rfl rfl ((hv.below hM1.below)) HL.out Tryd.underlying48 ?_; go_frame)
    | ((with_reducible change wpList _ _ _ (Oper.mk (some 11) _ _ _ _ _ :: _) _ _); refine kEqlI _ _ _ _ .i64 ((L : Int)) (1) true rfl rfl rfl rfl (F11.out) ?_; go_frame)
    | ((with_reducible change wpList _ _ _ (Oper.mk (some 14) _ _ _ _ _ :: _) _ _); refine kIndexAddrV _ _ _ _ _ _ _ _ 0 (VB c0) rfl rfl rfl ((hv.below hM1.below)) rfl Tryd.underlying48 info_b8 rfl Hc0.out ?_; intro b14 hb14; go_frame)
    | ((with_reducible change wpList _ _ _ (Oper.mk (some 15) _ _ _ _ _ :: _) _ _); refine kLoadCell _ _ _ (VB c0) _ rfl rfl rfl hb14 Tryd.underlying5 rfl ?_; go_frame)
    | ((with_reducible change wpList _ _ _ (Oper.mk (some 16) _ _ _ _ _ :: _) _ _); refine kEqlI _ _ _ _ .u8 (B c0) (0) false rfl rfl rfl rfl (B_eq (k := 0) (by decide) HcZ.out) ?_; go_frame)
    | ((with_reducible change wpList _ _ _ (Oper.mk (some 20) _ _ _ _ _ :: _) _ _); refine kLenN _ _ _ _ _ L rfl rfl rfl ((hv.below hM1.below)) HL.out Tryd.underlying48 ?_; go_frame)
    | ((with_reducible change wpList _ _ _ (Oper.mk (some 21) _ _ _ _ _ :: _) _ _); refine kNeqI _ _ _ _ .i64 ((L : Int)) (33) true rfl rfl rfl rfl (F21.out) ?_; go_frame)
    | ((with_reducible change wpList _ _ _ (Oper.mk (some 34) _ _ _ _ _ :: _) _ _); refine kBuildPoint0 rfl rfl ?_; go_frame)
    | ((with_reducible change wpList _ _ _ (Oper.mk none (Op.store _ (Operand.tmp 2) (Operand.tmp 34)) _ _ _ _ :: _) _ _); refine mmStoreAt hM1 0 _ _ _ _ _ _ (pcells 0 0 false) rfl rfl rfl rfl rfl (info_PointC _ _ _) (by simp only [pcells_size]) (pcells_one _ _ _) ?_; intro w2 hM2; dsimp only [List.set] at hM2; clear hM1; go_frame))
  exact result_row_tmp Tryd.results12 rfl rfl (hM2.get 0 rfl) Tryd.underlying30 rfl (info_PointC _ _ _) rfl ⟨rfl, hM2.below⟩
set_option maxRecDepth 100000 in
set_option maxHeartbeats 8000000 in
theorem parse_len {l : List UInt8} {v : Value} (h1 : l.length ≠ 1) (h33 : l.length ≠ 33) (w : World) (hv : IsVals w v (l.map VB)) :
    Calls Tryd.prog 12 #[v] w fun e w' => e = .returned (.tuple #[.agg (pcells 0 0 false), .int .i64 41]) ∧ Below w.heap.size w w' := by
  obtain ⟨L, HL⟩ : ∃ n, Hid ((l.map VB).length = n) := ⟨_, Lib.hid rfl⟩
  have hL : L = l.length := by rw [← HL.out, List.length_map]
  have F11 := Lib.hid (show decide ((L : Int) = 1) = false by rw [decide_eq_false (show ¬((L : Int) = 1) by omega)]; try rfl)
  have F21 := Lib.hid (show (!decide ((L : Int) = 33)) = true by rw [decide_eq_false (show ¬((L : Int) = 33) by omega)]; try rfl)
  clear h1 h33 hL
  have hM0 := mm_nil w
  (try unfold WV)
  go_enter Tryd.func12, Tryd.ntmps12
  go_wp2_with (first
    | ((with_reducible change wpList _ _ _ (Oper.mk (some 2) _ _ _ _ _ :: _) _ _); refine mmAlloc hM0 _ _ rfl rfl zero_Point ?_; intro w1 hM1; clear hM0; go_frame)
    | ((with_reducible change wpList _ _ _ (Oper.mk (some 10) _ _ _ _ _ :: _) _ _); refine kLenN _ _ _ _ _ L rfl rfl rfl ((hv.below hM1.below)) HL.out Tryd.underlying48 ?_; go_frame)
    | ((with_reducible change wpList _ _ _ (Oper.mk (some 11) _ _ _ _ _ :: _) _ _); refine kEqlI _ _ _ _ .i64 ((L : Int)) (1) false rfl rfl rfl rfl (F11.out) ?_; go_frame)
    | ((with_reducible change wpList _ _ _ (Oper.mk (some 20) _ _ _ _ _ :: _) _ _); refine kLenN _ _ _ _ _ L rfl rfl rfl ((hv.below hM1.below)) HL.out Tryd.underlying48 ?_; go_frame)
    | ((with_reducible change wpList _ _ _ (Oper.mk (some 21) _ _ _ _ _ :: _) _ _); refine kNeqI _ _ _ _ .i64 ((L : Int)) (33) true rfl rfl rfl rfl (F21.out) ?_; go_frame)
    | ((with_reducible change wpList _ _ _ (Oper.mk (some 34) _ _ _ _ _ :: _) _ _); refine kBuildPoint0 rfl rfl ?_; go_frame)
    | ((with_reducible change wpList _ _ _ (Oper.mk none (Op.store _ (Operand.tmp 2) (Operand.tmp 34)) _ _ _ _ :: _) _ _); refine mmStoreAt hM1 0 _ _ _ _ _ _ (pcells 0 0 false) rfl rfl rfl rfl rfl (info_PointC _ _ _) (by simp only [pcells_size]) (pcells_one _ _ _) ?_; intro w2 hM2; dsimp only [List.set] at hM2; clear hM1; go_frame))
  exact result_row_tmp Tryd.results12 rfl rfl (hM2.get 0 rfl) Tryd.underlying30 rfl (info_PointC _ _ _) rfl ⟨rfl, hM2.below⟩
set_option maxRecDepth 100000 in
set_option maxHeartbeats 8000000 in
theorem parse_first {l : List UInt8} {v : Value} {c0 : UInt8} {r : List UInt8} (hl : l = c0 :: r) (hr : r.length = 32) (h2 : c0 ≠ 2) (h3 : c0 ≠ 3) (w : World) (hv : IsVals w v (l.map VB)) :
    Calls Tryd.prog 12 #[v] w fun e w' => e = .returned (.tuple #[.agg (pcells 0 0 false), .int .i64 41]) ∧ Below w.heap.size w w' := by
  obtain ⟨L, HL⟩ : ∃ n, Hid ((l.map VB).length = n) := ⟨_, Lib.hid rfl⟩
  have hL : L = l.length := by rw [← HL.out, List.length_map]
  have Hc0 := Lib.hid (show (l.map VB)[0]? = some (VB c0) by rw [hl]; rfl)
  have hL1 : L = 33 := by rw [hL, hl]; simp [hr]
  have F11 := Lib.hid (show decide ((L : Int) = 1) = false by rw [decide_eq_false (show ¬((L : Int) = 1) by omega)]; try rfl)
  have F21 := Lib.hid (show (!decide ((L : Int) = 33)) = false by rw [decide_eq_true (show (L : Int) = 33 by omega)]; try rfl)
  have Hc2 := Lib.hid (show decide (c0 = UInt8.ofNat 2) = !true from decide_eq_false h2)
  have Hc3 := Lib.hid (show decide (c0 = UInt8.ofNat 3) = !true from decide_eq_false h3)
  clear hl hr h2 h3 hL
  have hM0 := mm_nil w
  (try unfold WV)
  go_enter Tryd.func12, Tryd.ntmps12
  go_wp2_with (first
    | ((with_reducible change wpList _ _ _ (Oper.mk (some 2) _ _ _ _ _ :: _) _ _); refine mmAlloc hM0 _ _ rfl rfl zero_Point ?_; intro w1 hM1; clear hM0; go_frame)
    | ((with_reducible change wpList _ _ _ (Oper.mk (some 10) _ _ _ _ _ :: _) _ _); refine kLenN _ _ _ _ _ L rfl rfl rfl ((hv.below hM1.below)) HL.out Tryd.underlying48 ?_; go_frame)
    | ((with_reducible change wpList _ _ _ (Oper.mk (some 11) _ _ _ _ _ :: _) _ _); refine kEqlI _ _ _ _ .i64 ((L : Int)) (1) false rfl rfl rfl rfl (F11.out) ?_; go_frame)
    | ((with_reducible change wpList _ _ _ (Oper.mk (some 20) _ _ _ _ _ :: _) _ _); refine kLenN _ _ _ _ _ L rfl rfl rfl ((hv.below hM1.below)) HL.out Tryd.underlying48 ?_; go_frame)
    | ((with_reducible change wpList _ _ _ (Oper.mk (some 21) _ _ _ _ _ :: _) _ _); refine kNeqI _ _ _ _ .i64 ((L : Int)) (33) false rfl rfl rfl rfl (F21.out) ?_; go_frame)
    | ((with_reducible change wpList _ _ _ (Oper.mk (some 24) _ _ _ _ _ :: _) _ _); refine kIndexAddrV _ _ _ _ _ _ _ _ 0 (VB c0) rfl rfl rfl ((hv.below hM1.below)) rfl Tryd.underlying48 info_b8 rfl Hc0.out ?_; intro b24 hb24; go_frame)
    | ((with_reducible change wpList _ _ _ (Oper.mk (some 25) _ _ _ _ _ :: _) _ _); refine kLoadCell _ _ _ (VB c0) _ rfl rfl rfl hb24 Tryd.underlying5 rfl ?_; go_frame)
    | ((with_reducible change wpList _ _ _ (Oper.mk (some 26) _ _ _ _ _ :: _) _ _); refine kNeqI _ _ _ _ .u8 (B c0) (2) true rfl rfl rfl rfl (B_ne (k := 2) (by decide) Hc2.out) ?_; go_frame)
    | ((with_reducible change wpList _ _ _ (Oper.mk (some 29) _ _ _ _ _ :: _) _ _); refine kIndexAddrV _ _ _ _ _ _ _ _ 0 (VB c0) rfl rfl rfl ((hv.below hM1.below)) rfl Tryd.underlying48 info_b8 rfl Hc0.out ?_; intro b29 hb29; go_frame)
    | ((with_reducible change wpList _ _ _ (Oper.mk (some 30) _ _ _ _ _ :: _) _ _); refine kLoadCell _ _ _ (VB c0) _ rfl rfl rfl hb29 Tryd.underlying5 rfl ?_; go_frame)
    | ((with_reducible change wpList _ _ _ (Oper.mk (some 31) _ _ _ _ _ :: _) _ _); refine kNeqI _ _ _ _ .u8 (B c0) (3) true rfl rfl rfl rfl (B_ne (k := 3) (by decide) Hc3.out) ?_; go_frame)
    | ((with_reducible change wpList _ _ _ (Oper.mk (some 34) _ _ _ _ _ :: _) _ _); refine kBuildPoint0 rfl rfl ?_; go_frame)
    | ((with_reducible change wpList _ _ _ (Oper.mk none (Op.store _ (Operand.tmp 2) (Operand.tmp 34)) _ _ _ _ :: _) _ _); refine mmStoreAt hM1 0 _ _ _ _ _ _ (pcells 0 0 false) rfl rfl rfl rfl rfl (info_PointC _ _ _) (by simp only [pcells_size]) (pcells_one _ _ _) ?_; intro w2 hM2; dsimp only [List.set] at hM2; clear hM1; go_frame))
  exact result_row_tmp Tryd.results12 rfl rfl (hM2.get 0 rfl) Tryd.underlying30 rfl (info_PointC _ _ _) rfl ⟨rfl, hM2.below⟩
set_option maxRecDepth 100000 in
set_option maxHeartbeats 8000000 in
theorem parse_noroot2 {l : List UInt8} {v : Value} {c0 : UInt8} {r : List UInt8} (hl : l = c0 :: r) (hr : r.length = 32) (hc : c0 = 2) (hq0 : ¬ HasRoot PP (sqAt (numOf r))) (w : World) (hG : Glob 2 PP w) (hv : IsVals w v (l.map VB)) :
    Calls Tryd.prog 12 #[v] w fun e w' => e = .returned (.tuple #[.agg (pcells 0 0 false), .int .i64 41]) ∧ Below w.heap.size w w' := by
  obtain ⟨L, HL⟩ : ∃ n, Hid ((l.map VB).length = n) := ⟨_, Lib.hid rfl⟩
  have hL : L = l.length := by rw [← HL.out, List.length_map]
  have Hc0 := Lib.hid (show (l.map VB)[0]? = some (VB c0) by rw [hl]; rfl)
  have hL1 : L = 33 := by rw [hL, hl]; simp [hr]
  have F11 := Lib.hid (show decide ((L : Int) = 1) = false by rw [decide_eq_false (show ¬((L : Int) = 1) by omega)]; try rfl)
  have F21 := Lib.hid (show (!decide ((L : Int) = 33)) = false by rw [decide_eq_true (show (L : Int) = 33 by omega)]; try rfl)
  have Hc2 := Lib.hid (show decide (c0 = UInt8.ofNat 2) = !false by rw [hc]; rfl)
  obtain ⟨m, Hm⟩ : ∃ m, Hid (m = PP) := ⟨_, Lib.hid rfl⟩
  have hm : Modu m := by rw [Hm.out]; exact modu_P
  rw [← Hm.out] at hG
  have hm1 := Lib.hid (show m + 1 < M256 by rw [Hm.out]; decide)
  obtain ⟨x, Hx⟩ : ∃ x, Hid (numOf r = x) := ⟨_, Lib.hid rfl⟩
  have mx : x < M256 := by rw [← Hx.out]; exact numOf_lt r
  obtain ⟨ad, cap, hfrom, hat⟩ := from_one (hl ▸ hv) hr
  have Hfrom := Lib.hid hfrom
  clear hfrom
  obtain ⟨fb, Hfb⟩ : ∃ f, Hid (f = fun j => (r.getD j 0).toNat) := ⟨_, Lib.hid rfl⟩
  rw [← Hfb.out] at hat
  obtain ⟨v44, Hv44⟩ : ∃ n, Hid ((x * x % m * x % m + 7) % m = n) := ⟨_, Lib.hid rfl⟩
  have mv44 : v44 < M256 := by rw [← Hv44.out]; exact hm.mod _
  have hS : v44 = sqAt (numOf r) := by rw [← Hv44.out, Hx.out, Hm.out]; rfl
  have hq := Lib.hid (show ¬ HasRoot m v44 by rw [Hm.out, hS]; exact hq0)
  clear hS hq0 hl hr hc hL
  have hM0 := mm_nil w
  (try unfold WV)
  go_enter Tryd.func12, Tryd.ntmps12
  go_wp2_with (first
    | ((with_reducible change wpList _ _ _ (Oper.mk (some 2) _ _ _ _ _ :: _) _ _); refine mmAlloc hM0 _ _ rfl rfl zero_Point ?_; intro w1 hM1; clear hM0; go_frame)
    | ((with_reducible change wpList _ _ _ (Oper.mk (some 10) _ _ _ _ _ :: _) _ _); refine kLenN _ _ _ _ _ L rfl rfl rfl ((hv.below hM1.below)) HL.out Tryd.underlying48 ?_; go_frame)
    | ((with_reducible change wpList _ _ _ (Oper.mk (some 11) _ _ _ _ _ :: _) _ _); refine kEqlI _ _ _ _ .i64 ((L : Int)) (1) false rfl rfl rfl rfl (F11.out) ?_; go_frame)
    | ((with_reducible change wpList _ _ _ (Oper.mk (some 20) _ _ _ _ _ :: _) _ _); refine kLenN _ _ _ _ _ L rfl rfl rfl ((hv.below hM1.below)) HL.out Tryd.underlying48 ?_; go_frame)
    | ((with_reducible change wpList _ _ _ (Oper.mk (some 21) _ _ _ _ _ :: _) _ _); refine kNeqI _ _ _ _ .i64 ((L : Int)) (33) false rfl rfl rfl rfl (F21.out) ?_; go_frame)
    | ((with_reducible change wpList _ _ _ (Oper.mk (some 24) _ _ _ _ _ :: _) _ _); refine kIndexAddrV _ _ _ _ _ _ _ _ 0 (VB c0) rfl rfl rfl ((hv.below hM1.below)) rfl Tryd.underlying48 info_b8 rfl Hc0.out ?_; intro b24 hb24; go_frame)
    | ((with_reducible change wpList _ _ _ (Oper.mk (some 25) _ _ _ _ _ :: _) _ _); refine kLoadCell _ _ _ (VB c0) _ rfl rfl rfl hb24 Tryd.underlying5 rfl ?_; go_frame)
    | ((with_reducible change wpList _ _ _ (Oper.mk (some 26) _ _ _ _ _ :: _) _ _); refine kNeqI _ _ _ _ .u8 (B c0) (2) false rfl rfl rfl rfl (B_ne (k := 2) (by decide) Hc2.out) ?_; go_frame)
    | ((with_reducible change wpList _ _ _ (Oper.mk (some 36) _ _ _ _ _ :: _) _ _); refine kSlice1 _ _ _ _ _ rfl rfl rfl rfl ((hv.below hM1.below)) (by rw [HL.out]; omega) Hfrom.out ?_; go_frame)
    | ((with_reducible change wpList _ _ _ (Oper.mk (some 37) _ _ _ _ _ :: _) _ _); refine kArrPtr _ _ _ rfl rfl rfl ?_; go_frame)
    | ((with_reducible change wpList _ _ _ (Oper.mk (some 38) _ _ _ _ _ :: _) _ _); refine kLoad32 _ _ _ rfl rfl rfl ((hat.below hM1.below)) ?_; go_frame)
    | (go_at_call 31; (with_reducible change Calls _ _ #[Value.agg (bcells fb)] _ _); refine (wFrom_as Hfb.out Hx.out _).mono ?_; rintro e w2 ⟨rfl, hB2⟩; have hM2 := hM1.on hB2; clear hB2 hM1; (try unfold WV); go_frame)
    | ((with_reducible change wpList _ _ _ (Oper.mk (some 4) _ _ _ _ _ :: _) _ _); refine mmAlloc hM2 _ _ rfl rfl zero_Wide ?_; intro w3 hM3; clear hM2; go_frame)
    | ((with_reducible change wpList _ _ _ (Oper.mk none (Op.store _ (Operand.tmp 4) (Operand.tmp 39)) _ _ _ _ :: _) _ _); refine mmStoreAt hM3 0 _ _ _ _ _ _ (wcells x) rfl rfl rfl rfl rfl (info_WideC _) (by simp only [wcells_size]) (wcells_one _) ?_; intro w4 hM4; dsimp only [List.set] at hM4; clear hM3; go_frame)
    | (go_at_call 32; refine (fP_any m _ (hG.below hM4.below)).mono ?_; rintro e w5 ⟨rfl, hR5, hB5⟩; have hM5 := hM4.new hR5 hB5; clear hB5 hR5 hM4; go_frame)
    | ((with_reducible change wpList _ _ _ (Oper.mk (some 43) _ _ _ _ _ :: _) _ _); refine kLoadRow _ _ _ _ _ _ rfl rfl rfl (hM5.get 1 rfl) Tryd.underlying24 rfl (info_WideC _) ?_; go_frame)
    | (go_at_call 34; (with_reducible change Calls _ _ #[Value.agg (wcells x)] _ _); refine (squareAt_as hm mx Hv44.out _ (hG.below hM5.below)).mono ?_; rintro e w6 ⟨rfl, hB6⟩; have hM6 := hM5.on hB6; clear hB6 hM5; (try unfold WV); go_frame)
    | (go_at_call 33; (with_reducible change Calls _ _ #[Value.pointer (some ⟨w4.heap.size, 0, none⟩), Value.agg (wcells v44)] _ _); refine (fRoot_no hm (w4.heap.size) mv44 hq.out hm1.out _ (hM6.get 0 rfl) (hG.below hM6.below)).mono ?_; rintro e w7 ⟨rfl, hB7⟩; have hM7 := hM6.on hB7; clear hB7 hM6; (try unfold WV); go_frame)
    | ((with_reducible change wpList _ _ _ (Oper.mk (some 6) _ _ _ _ _ :: _) _ _); refine mmAlloc hM7 _ _ rfl rfl zero_Wide ?_; intro w8 hM8; clear hM7; go_frame)
    | ((with_reducible change wpList _ _ _ (Oper.mk none (Op.store _ (Operand.tmp 6) (Operand.tmp 46)) _ _ _ _ :: _) _ _); refine mmStoreAt hM8 0 _ _ _ _ _ _ (wcells 0) rfl rfl rfl rfl rfl (info_WideC _) (by simp only [wcells_size]) (wcells_one _) ?_; intro w9 hM9; dsimp only [List.set] at hM9; clear hM8; go_frame)
    | ((with_reducible change wpList _ _ _ (Oper.mk (some 49) _ _ _ _ _ :: _) _ _); refine kNeqI _ _ _ _ .i64 (31) (0) true rfl rfl rfl rfl (by decide) ?_; go_frame)
    | ((with_reducible change wpList _ _ _ (Oper.mk (some 56) _ _ _ _ _ :: _) _ _); refine kBuildPoint0 rfl rfl ?_; go_frame)
    | ((with_reducible change wpList _ _ _ (Oper.mk none (Op.store _ (Operand.tmp 2) (Operand.tmp 56)) _ _ _ _ :: _) _ _); refine mmStoreAt hM9 3 _ _ _ _ _ _ (pcells 0 0 false) rfl rfl rfl rfl rfl (info_PointC _ _ _) (by simp only [pcells_size]) (pcells_one _ _ _) ?_; intro w10 hM10; dsimp only [List.set] at hM10; clear hM9; go_frame))
  exact result_row_tmp Tryd.results12 rfl rfl (hM10.get 3 rfl) Tryd.underlying30 rfl (info_PointC _ _ _) rfl ⟨rfl, hM10.below⟩
set_option maxRecDepth 100000 in
set_option maxHeartbeats 8000000 in
theorem parse_above2 {l : List UInt8} {v : Value} {c0 : UInt8} {r : List UInt8} (hl : l = c0 :: r) (hr : r.length = 32) (hc : c0 = 2) (hq0 : HasRoot PP (sqAt (numOf r))) (hx0 : ¬ numOf r < PP) (w : World) (hG : Glob 2 PP w) (hv : IsVals w v (l.map VB)) :
    Calls Tryd.prog 12 #[v] w fun e w' => e = .returned (.tuple #[.agg (pcells 0 0 false), .int .i64 41]) ∧ Below w.heap.size w w' := by
  obtain ⟨L, HL⟩ : ∃ n, Hid ((l.map VB).length = n) := ⟨_, Lib.hid rfl⟩
  have hL : L = l.length := by rw [← HL.out, List.length_map]
  have Hc0 := Lib.hid (show (l.map VB)[0]? = some (VB c0) by rw [hl]; rfl)
  have hL1 : L = 33 := by rw [hL, hl]; simp [hr]
  have F11 := Lib.hid (show decide ((L : Int) = 1) = false by rw [decide_eq_false (show ¬((L : Int) = 1) by omega)]; try rfl)
  have F21 := Lib.hid (show (!decide ((L : Int) = 33)) = false by rw [decide_eq_true (show (L : Int) = 33 by omega)]; try rfl)
  have Hc2 := Lib.hid (show decide (c0 = UInt8.ofNat 2) = !false by rw [hc]; rfl)
  obtain ⟨m, Hm⟩ : ∃ m, Hid (m = PP) := ⟨_, Lib.hid rfl⟩
  have hm : Modu m := by rw [Hm.out]; exact modu_P
  rw [← Hm.out] at hG
  have hm1 := Lib.hid (show m + 1 < M256 by rw [Hm.out]; decide)
  obtain ⟨x, Hx⟩ : ∃ x, Hid (numOf r = x) := ⟨_, Lib.hid rfl⟩
  have mx : x < M256 := by rw [← Hx.out]; exact numOf_lt r
  obtain ⟨ad, cap, hfrom, hat⟩ := from_one (hl ▸ hv) hr
  have Hfrom := Lib.hid hfrom
  clear hfrom
  obtain ⟨fb, Hfb⟩ : ∃ f, Hid (f = fun j => (r.getD j 0).toNat) := ⟨_, Lib.hid rfl⟩
  rw [← Hfb.out] at hat
  obtain ⟨v44, Hv44⟩ : ∃ n, Hid ((x * x % m * x % m + 7) % m = n) := ⟨_, Lib.hid rfl⟩
  have mv44 : v44 < M256 := by rw [← Hv44.out]; exact hm.mod _
  obtain ⟨v45, Hv45⟩ : ∃ n, Hid (evenRoot m v44 = n) := ⟨_, Lib.hid rfl⟩
  have mv45 : v45 < M256 := by rw [← Hv45.out]; exact Nat.lt_trans (evenRoot_lt hm.pos) hm.lt
  have hS : v44 = sqAt (numOf r) := by rw [← Hv44.out, Hx.out, Hm.out]; rfl
  have hq := Lib.hid (show HasRoot m v44 by rw [Hm.out, hS]; exact hq0)
  have F53 := Lib.hid (show decide (x < m) = false by rw [Hm.out, ← Hx.out]; exact decide_eq_false hx0)
  clear hS hq0 hl hr hc hL hx0
  have hM0 := mm_nil w
  (try unfold WV)
  go_enter Tryd.func12, Tryd.ntmps12
  go_wp2_with (first
    | ((with_reducible change wpList _ _ _ (Oper.mk (some 2) _ _ _ _ _ :: _) _ _); refine mmAlloc hM0 _ _ rfl rfl zero_Point ?_; intro w1 hM1; clear hM0; go_frame)
    | ((with_reducible change wpList _ _ _ (Oper.mk (some 10) _ _ _ _ _ :: _) _ _); refine kLenN _ _ _ _ _ L rfl rfl rfl ((hv.below hM1.below)) HL.out Tryd.underlying48 ?_; go_frame)
    | ((with_reducible change wpList _ _ _ (Oper.mk (some 11) _ _ _ _ _ :: _) _ _); refine kEqlI _ _ _ _ .i64 ((L : Int)) (1) false rfl rfl rfl rfl (F11.out) ?_; go_frame)
    | ((with_reducible change wpList _ _ _ (Oper.mk (some 20) _ _ _ _ _ :: _) _ _); refine kLenN _ _ _ _ _ L rfl rfl rfl ((hv.below hM1.below)) HL.out Tryd.underlying48 ?_; go_frame)
    | ((with_reducible change wpList _ _ _ (Oper.mk (some 21) _ _ _ _ _ :: _) _ _); refine kNeqI _ _ _ _ .i64 ((L : Int)) (33) false rfl rfl rfl rfl (F21.out) ?_; go_frame)
    | ((with_reducible change wpList _ _ _ (Oper.mk (some 24) _ _ _ _ _ :: _) _ _); refine kIndexAddrV _ _ _ _ _ _ _ _ 0 (VB c0) rfl rfl rfl ((hv.below hM1.below)) rfl Tryd.underlying48 info_b8 rfl Hc0.out ?_; intro b24 hb24; go_frame)
    | ((with_reducible change wpList _ _ _ (Oper.mk (some 25) _ _ _ _ _ :: _) _ _); refine kLoadCell _ _ _ (VB c0) _ rfl rfl rfl hb24 Tryd.underlying5 rfl ?_; go_frame)
    | ((with_reducible change wpList _ _ _ (Oper.mk (some 26) _ _ _ _ _ :: _) _ _); refine kNeqI _ _ _ _ .u8 (B c0) (2) false rfl rfl rfl rfl (B_ne (k := 2) (by decide) Hc2.out) ?_; go_frame)
    | ((with_reducible change wpList _ _ _ (Oper.mk (some 36) _ _ _ _ _ :: _) _ _); refine kSlice1 _ _ _ _ _ rfl rfl rfl rfl ((hv.below hM1.below)) (by rw [HL.out]; omega) Hfrom.out ?_; go_frame)
    | ((with_reducible change wpList _ _ _ (Oper.mk (some 37) _ _ _ _ _ :: _) _ _); refine kArrPtr _ _ _ rfl rfl rfl ?_; go_frame)
    | ((with_reducible change wpList _ _ _ (Oper.mk (some 38) _ _ _ _ _ :: _) _ _); refine kLoad32 _ _ _ rfl rfl rfl ((hat.below hM1.below)) ?_; go_frame)
    | (go_at_call 31; (with_reducible change Calls _ _ #[Value.agg (bcells fb)] _ _); refine (wFrom_as Hfb.out Hx.out _).mono ?_; rintro e w2 ⟨rfl, hB2⟩; have hM2 := hM1.on hB2; clear hB2 hM1; (try unfold WV); go_frame)
    | ((with_reducible change wpList _ _ _ (Oper.mk (some 4) _ _ _ _ _ :: _) _ _); refine mmAlloc hM2 _ _ rfl rfl zero_Wide ?_; intro w3 hM3; clear hM2; go_frame)
    | ((with_reducible change wpList _ _ _ (Oper.mk none (Op.store _ (Operand.tmp 4) (Operand.tmp 39)) _ _ _ _ :: _) _ _); refine mmStoreAt hM3 0 _ _ _ _ _ _ (wcells x) rfl rfl rfl rfl rfl (info_WideC _) (by simp only [wcells_size]) (wcells_one _) ?_; intro w4 hM4; dsimp only [List.set] at hM4; clear hM3; go_frame)
    | (go_at_call 32; refine (fP_any m _ (hG.below hM4.below)).mono ?_; rintro e w5 ⟨rfl, hR5, hB5⟩; have hM5 := hM4.new hR5 hB5; clear hB5 hR5 hM4; go_frame)
    | ((with_reducible change wpList _ _ _ (Oper.mk (some 43) _ _ _ _ _ :: _) _ _); refine kLoadRow _ _ _ _ _ _ rfl rfl rfl (hM5.get 1 rfl) Tryd.underlying24 rfl (info_WideC _) ?_; go_frame)
    | (go_at_call 34; (with_reducible change Calls _ _ #[Value.agg (wcells x)] _ _); refine (squareAt_as hm mx Hv44.out _ (hG.below hM5.below)).mono ?_; rintro e w6 ⟨rfl, hB6⟩; have hM6 := hM5.on hB6; clear hB6 hM5; (try unfold WV); go_frame)
    | (go_at_call 33; (with_reducible change Calls _ _ #[Value.pointer (some ⟨w4.heap.size, 0, none⟩), Value.agg (wcells v44)] _ _); refine (fRoot_some hm (w4.heap.size) mv44 hq.out Hv45.out hm1.out _ (hM6.get 0 rfl) (hG.below hM6.below)).mono ?_; rintro e w7 ⟨rfl, hB7⟩; have hM7 := hM6.on hB7; clear hB7 hM6; (try unfold WV); go_frame)
    | ((with_reducible change wpList _ _ _ (Oper.mk (some 6) _ _ _ _ _ :: _) _ _); refine mmAlloc hM7 _ _ rfl rfl zero_Wide ?_; intro w8 hM8; clear hM7; go_frame)
    | ((with_reducible change wpList _ _ _ (Oper.mk none (Op.store _ (Operand.tmp 6) (Operand.tmp 46)) _ _ _ _ :: _) _ _); refine mmStoreAt hM8 0 _ _ _ _ _ _ (wcells v45) rfl rfl rfl rfl rfl (info_WideC _) (by simp only [wcells_size]) (wcells_one _) ?_; intro w9 hM9; dsimp only [List.set] at hM9; clear hM8; go_frame)
    | ((with_reducible change wpList _ _ _ (Oper.mk (some 49) _ _ _ _ _ :: _) _ _); refine kNeqI _ _ _ _ .i64 (0) (0) false rfl rfl rfl rfl (by decide) ?_; go_frame)
    | ((with_reducible change wpList _ _ _ (Oper.mk (some 52) _ _ _ _ _ :: _) _ _); refine kLoadRow _ _ _ _ _ _ rfl rfl rfl (hM9.get 2 rfl) Tryd.underlying24 rfl (info_WideC _) ?_; go_frame)
    | (go_at_call 35; (with_reducible change Calls _ _ #[Value.pointer (some ⟨w4.heap.size, 0, none⟩), Value.agg (wcells x)] _ _); refine (fIn_as hm (w4.heap.size) mx F53.out _ (hM9.get 1 rfl)).mono ?_; rintro e w10 ⟨rfl, hB10⟩; have hM10 := hM9.on hB10; clear hB10 hM9; (try unfold WV); go_frame)
    | ((with_reducible change wpList _ _ _ (Oper.mk (some 56) _ _ _ _ _ :: _) _ _); refine kBuildPoint0 rfl rfl ?_; go_frame)
    | ((with_reducible change wpList _ _ _ (Oper.mk none (Op.store _ (Operand.tmp 2) (Operand.tmp 56)) _ _ _ _ :: _) _ _); refine mmStoreAt hM10 3 _ _ _ _ _ _ (pcells 0 0 false) rfl rfl rfl rfl rfl (info_PointC _ _ _) (by simp only [pcells_size]) (pcells_one _ _ _) ?_; intro w11 hM11; dsimp only [List.set] at hM11; clear hM10; go_frame))
  exact result_row_tmp Tryd.results12 rfl rfl (hM11.get 3 rfl) Tryd.underlying30 rfl (info_PointC _ _ _) rfl ⟨rfl, hM11.below⟩
set_option maxRecDepth 100000 in
set_option maxHeartbeats 8000000 in
theorem parse_point2 {l : List UInt8} {v : Value} {c0 : UInt8} {r : List UInt8} (hl : l = c0 :: r) (hr : r.length = 32) (hc : c0 = 2) (hq0 : HasRoot PP (sqAt (numOf r))) (hx0 : numOf r < PP) (w : World) (hG : Glob 2 PP w) (hv : IsVals w v (l.map VB)) :
    Calls Tryd.prog 12 #[v] w fun e w' => e = .returned (.tuple #[.agg (ptc (liftPt (numOf r))), .int .i64 0]) ∧ Below w.heap.size w w' := by
  obtain ⟨L, HL⟩ : ∃ n, Hid ((l.map VB).length = n) := ⟨_, Lib.hid rfl⟩
  have hL : L = l.length := by rw [← HL.out, List.length_map]
  have Hc0 := Lib.hid (show (l.map VB)[0]? = some (VB c0) by rw [hl]; rfl)
  have hL1 : L = 33 := by rw [hL, hl]; simp [hr]
  have F11 := Lib.hid (show decide ((L : Int) = 1) = false by rw [decide_eq_false (show ¬((L : Int) = 1) by omega)]; try rfl)
  have F21 := Lib.hid (show (!decide ((L : Int) = 33)) = false by rw [decide_eq_true (show (L : Int) = 33 by omega)]; try rfl)
  have Hc2 := Lib.hid (show decide (c0 = UInt8.ofNat 2) = !false by rw [hc]; rfl)
  obtain ⟨m, Hm⟩ : ∃ m, Hid (m = PP) := ⟨_, Lib.hid rfl⟩
  have hm : Modu m := by rw [Hm.out]; exact modu_P
  rw [← Hm.out] at hG
  have hm1 := Lib.hid (show m + 1 < M256 by rw [Hm.out]; decide)
  obtain ⟨x, Hx⟩ : ∃ x, Hid (numOf r = x) := ⟨_, Lib.hid rfl⟩
  have mx : x < M256 := by rw [← Hx.out]; exact numOf_lt r
  obtain ⟨ad, cap, hfrom, hat⟩ := from_one (hl ▸ hv) hr
  have Hfrom := Lib.hid hfrom
  clear hfrom
  obtain ⟨fb, Hfb⟩ : ∃ f, Hid (f = fun j => (r.getD j 0).toNat) := ⟨_, Lib.hid rfl⟩
  rw [← Hfb.out] at hat
  have Hd3 := Lib.hid (show decide (c0 = UInt8.ofNat 3) = false by rw [hc]; rfl)
  obtain ⟨v44, Hv44⟩ : ∃ n, Hid ((x * x % m * x % m + 7) % m = n) := ⟨_, Lib.hid rfl⟩
  have mv44 : v44 < M256 := by rw [← Hv44.out]; exact hm.mod _
  obtain ⟨v45, Hv45⟩ : ∃ n, Hid (evenRoot m v44 = n) := ⟨_, Lib.hid rfl⟩
  have mv45 : v45 < M256 := by rw [← Hv45.out]; exact Nat.lt_trans (evenRoot_lt hm.pos) hm.lt
  have hS : v44 = sqAt (numOf r) := by rw [← Hv44.out, Hx.out, Hm.out]; rfl
  have hq := Lib.hid (show HasRoot m v44 by rw [Hm.out, hS]; exact hq0)
  have F53 := Lib.hid (show decide (x < m) = true by rw [Hm.out, ← Hx.out]; exact decide_eq_true hx0)
  have hrt : v45 = rootAt (numOf r) := by rw [← Hv45.out, hS, Hm.out]; rfl
  have hxv : (FP (numOf r)).val = x := by rw [← Hx.out]; exact Nat.mod_eq_of_lt hx0
  have hyv : (FP (rootAt (numOf r))).val = v45 := by rw [hrt]; exact Nat.mod_eq_of_lt (rootAt_lt _)
  have R := Lib.hid (show Value.agg (ptc (liftPt (numOf r))) = .agg (pcells x v45 false) by show Value.agg (pcells (FP (numOf r)).val (FP (rootAt (numOf r))).val false) = _; rw [hxv, hyv])
  clear hrt hxv hyv
  clear hS hq0 hl hr hc hL hx0
  have hM0 := mm_nil w
  (try unfold WV)
  go_enter Tryd.func12, Tryd.ntmps12
  go_wp2_with (first
    | ((with_reducible change wpList _ _ _ (Oper.mk (some 2) _ _ _ _ _ :: _) _ _); refine mmAlloc hM0 _ _ rfl rfl zero_Point ?_; intro w1 hM1; clear hM0; go_frame)
    | ((with_reducible change wpList _ _ _ (Oper.mk (some 10) _ _ _ _ _ :: _) _ _); refine kLenN _ _ _ _ _ L rfl rfl rfl ((hv.below hM1.below)) HL.out Tryd.underlying48 ?_; go_frame)
    | ((with_reducible change wpList _ _ _ (Oper.mk (some 11) _ _ _ _ _ :: _) _ _); refine kEqlI _ _ _ _ .i64 ((L : Int)) (1) false rfl rfl rfl rfl (F11.out) ?_; go_frame)
    | ((with_reducible change wpList _ _ _ (Oper.mk (some 20) _ _ _ _ _ :: _) _ _); refine kLenN _ _ _ _ _ L rfl rfl rfl ((hv.below hM1.below)) HL.out Tryd.underlying48 ?_; go_frame)
    | ((with_reducible change wpList _ _ _ (Oper.mk (some 21) _ _ _ _ _ :: _) _ _); refine kNeqI _ _ _ _ .i64 ((L : Int)) (33) false rfl rfl rfl rfl (F21.out) ?_; go_frame)
    | ((with_reducible change wpList _ _ _ (Oper.mk (some 24) _ _ _ _ _ :: _) _ _); refine kIndexAddrV _ _ _ _ _ _ _ _ 0 (VB c0) rfl rfl rfl ((hv.below hM1.below)) rfl Tryd.underlying48 info_b8 rfl Hc0.out ?_; intro b24 hb24; go_frame)
    | ((with_reducible change wpList _ _ _ (Oper.mk (some 25) _ _ _ _ _ :: _) _ _); refine kLoadCell _ _ _ (VB c0) _ rfl rfl rfl hb24 Tryd.underlying5 rfl ?_; go_frame)
    | ((with_reducible change wpList _ _ _ (Oper.mk (some 26) _ _ _ _ _ :: _) _ _); refine kNeqI _ _ _ _ .u8 (B c0) (2) false rfl rfl rfl rfl (B_ne (k := 2) (by decide) Hc2.out) ?_; go_frame)
    | ((with_reducible change wpList _ _ _ (Oper.mk (some 36) _ _ _ _ _ :: _) _ _); refine kSlice1 _ _ _ _ _ rfl rfl rfl rfl ((hv.below hM1.below)) (by rw [HL.out]; omega) Hfrom.out ?_; go_frame)
    | ((with_reducible change wpList _ _ _ (Oper.mk (some 37) _ _ _ _ _ :: _) _ _); refine kArrPtr _ _ _ rfl rfl rfl ?_; go_frame)
    | ((with_reducible change wpList _ _ _ (Oper.mk (some 38) _ _ _ _ _ :: _) _ _); refine kLoad32 _ _ _ rfl rfl rfl ((hat.below hM1.below)) ?_; go_frame)
    | (go_at_call 31; (with_reducible change Calls _ _ #[Value.agg (bcells fb)] _ _); refine (wFrom_as Hfb.out Hx.out _).mono ?_; rintro e w2 ⟨rfl, hB2⟩; have hM2 := hM1.on hB2; clear hB2 hM1; (try unfold WV); go_frame)
    | ((with_reducible change wpList _ _ _ (Oper.mk (some 4) _ _ _ _ _ :: _) _ _); refine mmAlloc hM2 _ _ rfl rfl zero_Wide ?_; intro w3 hM3; clear hM2; go_frame)
    | ((with_reducible change wpList _ _ _ (Oper.mk none (Op.store _ (Operand.tmp 4) (Operand.tmp 39)) _ _ _ _ :: _) _ _); refine mmStoreAt hM3 0 _ _ _ _ _ _ (wcells x) rfl rfl rfl rfl rfl (info_WideC _) (by simp only [wcells_size]) (wcells_one _) ?_; intro w4 hM4; dsimp only [List.set] at hM4; clear hM3; go_frame)
    | (go_at_call 32; refine (fP_any m _ (hG.below hM4.below)).mono ?_; rintro e w5 ⟨rfl, hR5, hB5⟩; have hM5 := hM4.new hR5 hB5; clear hB5 hR5 hM4; go_frame)
    | ((with_reducible change wpList _ _ _ (Oper.mk (some 43) _ _ _ _ _ :: _) _ _); refine kLoadRow _ _ _ _ _ _ rfl rfl rfl (hM5.get 1 rfl) Tryd.underlying24 rfl (info_WideC _) ?_; go_frame)
    | (go_at_call 34; (with_reducible change Calls _ _ #[Value.agg (wcells x)] _ _); refine (squareAt_as hm mx Hv44.out _ (hG.below hM5.below)).mono ?_; rintro e w6 ⟨rfl, hB6⟩; have hM6 := hM5.on hB6; clear hB6 hM5; (try unfold WV); go_frame)
    | (go_at_call 33; (with_reducible change Calls _ _ #[Value.pointer (some ⟨w4.heap.size, 0, none⟩), Value.agg (wcells v44)] _ _); refine (fRoot_some hm (w4.heap.size) mv44 hq.out Hv45.out hm1.out _ (hM6.get 0 rfl) (hG.below hM6.below)).mono ?_; rintro e w7 ⟨rfl, hB7⟩; have hM7 := hM6.on hB7; clear hB7 hM6; (try unfold WV); go_frame)
    | ((with_reducible change wpList _ _ _ (Oper.mk (some 6) _ _ _ _ _ :: _) _ _); refine mmAlloc hM7 _ _ rfl rfl zero_Wide ?_; intro w8 hM8; clear hM7; go_frame)
    | ((with_reducible change wpList _ _ _ (Oper.mk none (Op.store _ (Operand.tmp 6) (Operand.tmp 46)) _ _ _ _ :: _) _ _); refine mmStoreAt hM8 0 _ _ _ _ _ _ (wcells v45) rfl rfl rfl rfl rfl (info_WideC _) (by simp only [wcells_size]) (wcells_one _) ?_; intro w9 hM9; dsimp only [List.set] at hM9; clear hM8; go_frame)
    | ((with_reducible change wpList _ _ _ (Oper.mk (some 49) _ _ _ _ _ :: _) _ _); refine kNeqI _ _ _ _ .i64 (0) (0) false rfl rfl rfl rfl (by decide) ?_; go_frame)
    | ((with_reducible change wpList _ _ _ (Oper.mk (some 52) _ _ _ _ _ :: _) _ _); refine kLoadRow _ _ _ _ _ _ rfl rfl rfl (hM9.get 2 rfl) Tryd.underlying24 rfl (info_WideC _) ?_; go_frame)
    | (go_at_call 35; (with_reducible change Calls _ _ #[Value.pointer (some ⟨w4.heap.size, 0, none⟩), Value.agg (wcells x)] _ _); refine (fIn_as hm (w4.heap.size) mx F53.out _ (hM9.get 1 rfl)).mono ?_; rintro e w10 ⟨rfl, hB10⟩; have hM10 := hM9.on hB10; clear hB10 hM9; (try unfold WV); go_frame)
    | ((with_reducible change wpList _ _ _ (Oper.mk (some 57) _ _ _ _ _ :: _) _ _); refine kLoadRow _ _ _ _ _ _ rfl rfl rfl (hM10.get 2 rfl) Tryd.underlying24 rfl (info_WideC _) ?_; go_frame)
    | ((with_reducible change wpList _ _ _ (Oper.mk (some 58) _ _ _ _ _ :: _) _ _); refine kLoadRow _ _ _ _ _ _ rfl rfl rfl (hM10.get 0 rfl) Tryd.underlying24 rfl (info_WideC _) ?_; go_frame)
    | ((with_reducible change wpList _ _ _ (Oper.mk (some 59) _ _ _ _ _ :: _) _ _); refine kBuildPoint2 _ _ x v45 rfl rfl rfl rfl ?_; go_frame)
    | ((with_reducible change wpList _ _ _ (Oper.mk (some 8) _ _ _ _ _ :: _) _ _); refine mmAlloc hM10 _ _ rfl rfl zero_Point ?_; intro w11 hM11; clear hM10; go_frame)
    | ((with_reducible change wpList _ _ _ (Oper.mk none (Op.store _ (Operand.tmp 8) (Operand.tmp 59)) _ _ _ _ :: _) _ _); refine mmStoreAt hM11 0 _ _ _ _ _ _ (pcells x v45 false) rfl rfl rfl rfl rfl (info_PointC _ _ _) (by simp only [pcells_size]) (pcells_one _ _ _) ?_; intro w12 hM12; dsimp only [List.set] at hM12; clear hM11; go_frame)
    | ((with_reducible change wpList _ _ _ (Oper.mk (some 61) _ _ _ _ _ :: _) _ _); refine kIndexAddrV _ _ _ _ _ _ _ _ 0 (VB c0) rfl rfl rfl ((hv.below hM12.below)) rfl Tryd.underlying48 info_b8 rfl Hc0.out ?_; intro b61 hb61; go_frame)
    | ((with_reducible change wpList _ _ _ (Oper.mk (some 62) _ _ _ _ _ :: _) _ _); refine kLoadCell _ _ _ (VB c0) _ rfl rfl rfl hb61 Tryd.underlying5 rfl ?_; go_frame)
    | ((with_reducible change wpList _ _ _ (Oper.mk (some 63) _ _ _ _ _ :: _) _ _); refine kEqlI _ _ _ _ .u8 (B c0) (3) false rfl rfl rfl rfl (B_eq (k := 3) (by decide) Hd3.out) ?_; go_frame)
    | ((with_reducible change wpList _ _ _ (Oper.mk (some 66) _ _ _ _ _ :: _) _ _); refine kLoadRow _ _ _ _ _ _ rfl rfl rfl (hM12.get 0 rfl) Tryd.underlying30 rfl (info_PointC _ _ _) ?_; go_frame)
    | ((with_reducible change wpList _ _ _ (Oper.mk none (Op.store _ (Operand.tmp 2) (Operand.tmp 66)) _ _ _ _ :: _) _ _); refine mmStoreAt hM12 4 _ _ _ _ _ _ (pcells x v45 false) rfl rfl rfl rfl rfl (info_PointC _ _ _) (by simp only [pcells_size]) (pcells_one _ _ _) ?_; intro w13 hM13; dsimp only [List.set] at hM13; clear hM12; go_frame))
  exact result_row_tmp Tryd.results12 rfl rfl (hM13.get 4 rfl) Tryd.underlying30 rfl (info_PointC _ _ _) rfl ⟨by rw [R.out] <;> rfl, hM13.below⟩
set_option maxRecDepth 100000 in
set_option maxHeartbeats 8000000 in
theorem parse_noroot3 {l : List UInt8} {v : Value} {c0 : UInt8} {r : List UInt8} (hl : l = c0 :: r) (hr : r.length = 32) (hc : c0 = 3) (hq0 : ¬ HasRoot PP (sqAt (numOf r))) (w : World) (hG : Glob 2 PP w) (hv : IsVals w v (l.map VB)) :
    Calls Tryd.prog 12 #[v] w fun e w' => e = .returned (.tuple #[.agg (pcells 0 0 false), .int .i64 41]) ∧ Below w.heap.size w w' := by
  obtain ⟨L, HL⟩ : ∃ n, Hid ((l.map VB).length = n) := ⟨_, Lib.hid rfl⟩
  have hL : L = l.length := by rw [← HL.out, List.length_map]
  have Hc0 := Lib.hid (show (l.map VB)[0]? = some (VB c0) by rw [hl]; rfl)
  have hL1 : L = 33 := by rw [hL, hl]; simp [hr]
  have F11 := Lib.hid (show decide ((L : Int) = 1) = false by rw [decide_eq_false (show ¬((L : Int) = 1) by omega)]; try rfl)
  have F21 := Lib.hid (show (!decide ((L : Int) = 33)) = false by rw [decide_eq_true (show (L : Int) = 33 by omega)]; try rfl)
  have Hc2 := Lib.hid (show decide (c0 = UInt8.ofNat 2) = !true by rw [hc]; rfl)
  have Hc3 := Lib.hid (show decide (c0 = UInt8.ofNat 3) = !false by rw [hc]; rfl)
  obtain ⟨m, Hm⟩ : ∃ m, Hid (m = PP) := ⟨_, Lib.hid rfl⟩
  have hm : Modu m := by rw [Hm.out]; exact modu_P
  rw [← Hm.out] at hG
  have hm1 := Lib.hid (show m + 1 < M256 by rw [Hm.out]; decide)
  obtain ⟨x, Hx⟩ : ∃ x, Hid (numOf r = x) := ⟨_, Lib.hid rfl⟩
  have mx : x < M256 := by rw [← Hx.out]; exact numOf_lt r
  obtain ⟨ad, cap, hfrom, hat⟩ := from_one (hl ▸ hv) hr
  have Hfrom := Lib.hid hfrom
  clear hfrom
  obtain ⟨fb, Hfb⟩ : ∃ f, Hid (f = fun j => (r.getD j 0).toNat) := ⟨_, Lib.hid rfl⟩
  rw [← Hfb.out] at hat
  obtain ⟨v44, Hv44⟩ : ∃ n, Hid ((x * x % m * x % m + 7) % m = n) := ⟨_, Lib.hid rfl⟩
  have mv44 : v44 < M256 := by rw [← Hv44.out]; exact hm.mod _
  have hS : v44 = sqAt (numOf r) := by rw [← Hv44.out, Hx.out, Hm.out]; rfl
  have hq := Lib.hid (show ¬ HasRoot m v44 by rw [Hm.out, hS]; exact hq0)
  clear hS hq0 hl hr hc hL
  have hM0 := mm_nil w
  (try unfold WV)
  go_enter Tryd.func12, Tryd.ntmps12
  go_wp2_with (first
    | ((with_reducible change wpList _ _ _ (Oper.mk (some 2) _ _ _ _ _ :: _) _ _); refine mmAlloc hM0 _ _ rfl rfl zero_Point ?_; intro w1 hM1; clear hM0; go_frame)
    | ((with_reducible change wpList _ _ _ (Oper.mk (some 10) _ _ _ _ _ :: _) _ _); refine kLenN _ _ _ _ _ L rfl rfl rfl ((hv.below hM1.below)) HL.out Tryd.underlying48 ?_; go_frame)
    | ((with_reducible change wpList _ _ _ (Oper.mk (some 11) _ _ _ _ _ :: _) _ _); refine kEqlI _ _ _ _ .i64 ((L : Int)) (1) false rfl rfl rfl rfl (F11.out) ?_; go_frame)
    | ((with_reducible change wpList _ _ _ (Oper.mk (some 20) _ _ _ _ _ :: _) _ _); refine kLenN _ _ _ _ _ L rfl rfl rfl ((hv.below hM1.below)) HL.out Tryd.underlying48 ?_; go_frame)
    | ((with_reducible change wpList _ _ _ (Oper.mk (some 21) _ _ _ _ _ :: _) _ _); refine kNeqI _ _ _ _ .i64 ((L : Int)) (33) false rfl rfl rfl rfl (F21.out) ?_; go_frame)
    | ((with_reducible change wpList _ _ _ (Oper.mk (some 24) _ _ _ _ _ :: _) _ _); refine kIndexAddrV _ _ _ _ _ _ _ _ 0 (VB c0) rfl rfl rfl ((hv.below hM1.below)) rfl Tryd.underlying48 info_b8 rfl Hc0.out ?_; intro b24 hb24; go_frame)
    | ((with_reducible change wpList _ _ _ (Oper.mk (some 25) _ _ _ _ _ :: _) _ _); refine kLoadCell _ _ _ (VB c0) _ rfl rfl rfl hb24 Tryd.underlying5 rfl ?_; go_frame)
    | ((with_reducible change wpList _ _ _ (Oper.mk (some 26) _ _ _ _ _ :: _) _ _); refine kNeqI _ _ _ _ .u8 (B c0) (2) true rfl rfl rfl rfl (B_ne (k := 2) (by decide) Hc2.out) ?_; go_frame)
    | ((with_reducible change wpList _ _ _ (Oper.mk (some 29) _ _ _ _ _ :: _) _ _); refine kIndexAddrV _ _ _ _ _ _ _ _ 0 (VB c0) rfl rfl rfl ((hv.below hM1.below)) rfl Tryd.underlying48 info_b8 rfl Hc0.out ?_; intro b29 hb29; go_frame)
    | ((with_reducible change wpList _ _ _ (Oper.mk (some 30) _ _ _ _ _ :: _) _ _); refine kLoadCell _ _ _ (VB c0) _ rfl rfl rfl hb29 Tryd.underlying5 rfl ?_; go_frame)
    | ((with_reducible change wpList _ _ _ (Oper.mk (some 31) _ _ _ _ _ :: _) _ _); refine kNeqI _ _ _ _ .u8 (B c0) (3) false rfl rfl rfl rfl (B_ne (k := 3) (by decide) Hc3.out) ?_; go_frame)
    | ((with_reducible change wpList _ _ _ (Oper.mk (some 36) _ _ _ _ _ :: _) _ _); refine kSlice1 _ _ _ _ _ rfl rfl rfl rfl ((hv.below hM1.below)) (by rw [HL.out]; omega) Hfrom.out ?_; go_frame)
    | ((with_reducible change wpList _ _ _ (Oper.mk (some 37) _ _ _ _ _ :: _) _ _); refine kArrPtr _ _ _ rfl rfl rfl ?_; go_frame)
    | ((with_reducible change wpList _ _ _ (Oper.mk (some 38) _ _ _ _ _ :: _) _ _); refine kLoad32 _ _ _ rfl rfl rfl ((hat.below hM1.below)) ?_; go_frame)
    | (go_at_call 31; (with_reducible change Calls _ _ #[Value.agg (bcells fb)] _ _); refine (wFrom_as Hfb.out Hx.out _).mono ?_; rintro e w2 ⟨rfl, hB2⟩; have hM2 := hM1.on hB2; clear hB2 hM1; (try unfold WV); go_frame)
    | ((with_reducible change wpList _ _ _ (Oper.mk (some 4) _ _ _ _ _ :: _) _ _); refine mmAlloc hM2 _ _ rfl rfl zero_Wide ?_; intro w3 hM3; clear hM2; go_frame)
    | ((with_reducible change wpList _ _ _ (Oper.mk none (Op.store _ (Operand.tmp 4) (Operand.tmp 39)) _ _ _ _ :: _) _ _); refine mmStoreAt hM3 0 _ _ _ _ _ _ (wcells x) rfl rfl rfl rfl rfl (info_WideC _) (by simp only [wcells_size]) (wcells_one _) ?_; intro w4 hM4; dsimp only [List.set] at hM4; clear hM3; go_frame)
    | (go_at_call 32; refine (fP_any m _ (hG.below hM4.below)).mono ?_; rintro e w5 ⟨rfl, hR5, hB5⟩; have hM5 := hM4.new hR5 hB5; clear hB5 hR5 hM4; go_frame)
    | ((with_reducible change wpList _ _ _ (Oper.mk (some 43) _ _ _ _ _ :: _) _ _); refine kLoadRow _ _ _ _ _ _ rfl rfl rfl (hM5.get 1 rfl) Tryd.underlying24 rfl (info_WideC _) ?_; go_frame)
    | (go_at_call 34; (with_reducible change Calls _ _ #[Value.agg (wcells x)] _ _); refine (squareAt_as hm mx Hv44.out _ (hG.below hM5.below)).mono ?_; rintro e w6 ⟨rfl, hB6⟩; have hM6 := hM5.on hB6; clear hB6 hM5; (try unfold WV); go_frame)
    | (go_at_call 33; (with_reducible change Calls _ _ #[Value.pointer (some ⟨w4.heap.size, 0, none⟩), Value.agg (wcells v44)] _ _); refine (fRoot_no hm (w4.heap.size) mv44 hq.out hm1.out _ (hM6.get 0 rfl) (hG.below hM6.below)).mono ?_; rintro e w7 ⟨rfl, hB7⟩; have hM7 := hM6.on hB7; clear hB7 hM6; (try unfold WV); go_frame)
    | ((with_reducible change wpList _ _ _ (Oper.mk (some 6) _ _ _ _ _ :: _) _ _); refine mmAlloc hM7 _ _ rfl rfl zero_Wide ?_; intro w8 hM8; clear hM7; go_frame)
    | ((with_reducible change wpList _ _ _ (Oper.mk none (Op.store _ (Operand.tmp 6) (Operand.tmp 46)) _ _ _ _ :: _) _ _); refine mmStoreAt hM8 0 _ _ _ _ _ _ (wcells 0) rfl rfl rfl rfl rfl (info_WideC _) (by simp only [wcells_size]) (wcells_one _) ?_; intro w9 hM9; dsimp only [List.set] at hM9; clear hM8; go_frame)
    | ((with_reducible change wpList _ _ _ (Oper.mk (some 49) _ _ _ _ _ :: _) _ _); refine kNeqI _ _ _ _ .i64 (31) (0) true rfl rfl rfl rfl (by decide) ?_; go_frame)
    | ((with_reducible change wpList _ _ _ (Oper.mk (some 56) _ _ _ _ _ :: _) _ _); refine kBuildPoint0 rfl rfl ?_; go_frame)
    | ((with_reducible change wpList _ _ _ (Oper.mk none (Op.store _ (Operand.tmp 2) (Operand.tmp 56)) _ _ _ _ :: _) _ _); refine mmStoreAt hM9 3 _ _ _ _ _ _ (pcells 0 0 false) rfl rfl rfl rfl rfl (info_PointC _ _ _) (by simp only [pcells_size]) (pcells_one _ _ _) ?_; intro w10 hM10; dsimp only [List.set] at hM10; clear hM9; go_frame))
  exact result_row_tmp Tryd.results12 rfl rfl (hM10.get 3 rfl) Tryd.underlying30 rfl (info_PointC _ _ _) rfl ⟨rfl, hM10.below⟩
set_option maxRecDepth 100000 in
set_option maxHeartbeats 8000000 in
theorem parse_above3 {l : List UInt8} {v : Value} {c0 : UInt8} {r : List UInt8} (hl : l = c0 :: r) (hr : r.length = 32) (hc : c0 = 3) (hq0 : HasRoot PP (sqAt (numOf r))) (hx0 : ¬ numOf r < PP) (w : World) (hG : Glob 2 PP w) (hv : IsVals w v (l.map VB)) :
    Calls Tryd.prog 12 #[v] w fun e w' => e = .returned (.tuple #[.agg (pcells 0 0 false), .int .i64 41]) ∧ Below w.heap.size w w' := by
  obtain ⟨L, HL⟩ : ∃ n, Hid ((l.map VB).length = n) := ⟨_, Lib.hid rfl⟩
  have hL : L = l.length := by rw [← HL.out, List.length_map]
  have Hc0 := Lib.hid (show (l.map VB)[0]? = some (VB c0) by rw [hl]; rfl)
  have hL1 : L = 33 := by rw [hL, hl]; simp [hr]
  have F11 := Lib.hid (show decide ((L : Int) = 1) = false by rw [decide_eq_false (show ¬((L : Int) = 1) by omega)]; try rfl)
  have F21 := Lib.hid (show (!decide ((L : Int) = 33)) = false by rw [decide_eq_true (show (L : Int) = 33 by omega)]; try rfl)
  have Hc2 := Lib.hid (show decide (c0 = UInt8.ofNat 2) = !true by rw [hc]; rfl)
  have Hc3 := Lib.hid (show decide (c0 = UInt8.ofNat 3) = !false by rw [hc]; rfl)
  obtain ⟨m, Hm⟩ : ∃ m, Hid (m = PP) := ⟨_, Lib.hid rfl⟩
  have hm : Modu m := by rw [Hm.out]; exact modu_P
  rw [← Hm.out] at hG
  have hm1 := Lib.hid (show m + 1 < M256 by rw [Hm.out]; decide)
  obtain ⟨x, Hx⟩ : ∃ x, Hid (numOf r = x) := ⟨_, Lib.hid rfl⟩
  have mx : x < M256 := by rw [← Hx.out]; exact numOf_lt r
  obtain ⟨ad, cap, hfrom, hat⟩ := from_one (hl ▸ hv) hr
  have Hfrom := Lib.hid hfrom
  clear hfrom
  obtain ⟨fb, Hfb⟩ : ∃ f, Hid (f = fun j => (r.getD j 0).toNat) := ⟨_, Lib.hid rfl⟩
  rw [← Hfb.out] at hat
  obtain ⟨v44, Hv44⟩ : ∃ n, Hid ((x * x % m * x % m + 7) % m = n) := ⟨_, Lib.hid rfl⟩
  have mv44 : v44 < M256 := by rw [← Hv44.out]; exact hm.mod _
  obtain ⟨v45, Hv45⟩ : ∃ n, Hid (evenRoot m v44 = n) := ⟨_, Lib.hid rfl⟩
  have mv45 : v45 < M256 := by rw [← Hv45.out]; exact Nat.lt_trans (evenRoot_lt hm.pos) hm.lt
  have hS : v44 = sqAt (numOf r) := by rw [← Hv44.out, Hx.out, Hm.out]; rfl
  have hq := Lib.hid (show HasRoot m v44 by rw [Hm.out, hS]; exact hq0)
  have F53 := Lib.hid (show decide (x < m) = false by rw [Hm.out, ← Hx.out]; exact decide_eq_false hx0)
  clear hS hq0 hl hr hc hL hx0
  have hM0 := mm_nil w
  (try unfold WV)
  go_enter Tryd.func12, Tryd.ntmps12
  go_wp2_with (first
    | ((with_reducible change wpList _ _ _ (Oper.mk (some 2) _ _ _ _ _ :: _) _ _); refine mmAlloc hM0 _ _ rfl rfl zero_Point ?_; intro w1 hM1; clear hM0; go_frame)
    | ((with_reducible change wpList _ _ _ (Oper.mk (some 10) _ _ _ _ _ :: _) _ _); refine kLenN _ _ _ _ _ L rfl rfl rfl ((hv.below hM1.below)) HL.out Tryd.underlying48 ?_; go_frame)
    | ((with_reducible change wpList _ _ _ (Oper.mk (some 11) _ _ _ _ _ :: _) _ _); refine kEqlI _ _ _ _ .i64 ((L : Int)) (1) false rfl rfl rfl rfl (F11.out) ?_; go_frame)
    | ((with_reducible change wpList _ _ _ (Oper.mk (some 20) _ _ _ _ _ :: _) _ _); refine kLenN _ _ _ _ _ L rfl rfl rfl ((hv.below hM1.below)) HL.out Tryd.underlying48 ?_; go_frame)
    | ((with_reducible change wpList _ _ _ (Oper.mk (some 21) _ _ _ _ _ :: _) _ _); refine kNeqI _ _ _ _ .i64 ((L : Int)) (33) false rfl rfl rfl rfl (F21.out) ?_; go_frame)
    | ((with_reducible change wpList _ _ _ (Oper.mk (some 24) _ _ _ _ _ :: _) _ _); refine kIndexAddrV _ _ _ _ _ _ _ _ 0 (VB c0) rfl rfl rfl ((hv.below hM1.below)) rfl Tryd.underlying48 info_b8 rfl Hc0.out ?_; intro b24 hb24; go_frame)
    | ((with_reducible change wpList _ _ _ (Oper.mk (some 25) _ _ _ _ _ :: _) _ _); refine kLoadCell _ _ _ (VB c0) _ rfl rfl rfl hb24 Tryd.underlying5 rfl ?_; go_frame)
    | ((with_reducible change wpList _ _ _ (Oper.mk (some 26) _ _ _ _ _ :: _) _ _); refine kNeqI _ _ _ _ .u8 (B c0) (2) true rfl rfl rfl rfl (B_ne (k := 2) (by decide) Hc2.out) ?_; go_frame)
    | ((with_reducible change wpList _ _ _ (Oper.mk (some 29) _ _ _ _ _ :: _) _ _); refine kIndexAddrV _ _ _ _ _ _ _ _ 0 (VB c0) rfl rfl rfl ((hv.below hM1.below)) rfl Tryd.underlying48 info_b8 rfl Hc0.out ?_; intro b29 hb29; go_frame)
    | ((with_reducible change wpList _ _ _ (Oper.mk (some 30) _ _ _ _ _ :: _) _ _); refine kLoadCell _ _ _ (VB c0) _ rfl rfl rfl hb29 Tryd.underlying5 rfl ?_; go_frame)
    | ((with_reducible change wpList _ _ _ (Oper.mk (some 31) _ _ _ _ _ :: _) _ _); refine kNeqI _ _ _ _ .u8 (B c0) (3) false rfl rfl rfl rfl (B_ne (k := 3) (by decide) Hc3.out) ?_; go_frame)
    | ((with_reducible change wpList _ _ _ (Oper.mk (some 36) _ _ _ _ _ :: _) _ _); refine kSlice1 _ _ _ _ _ rfl rfl rfl rfl ((hv.below hM1.below)) (by rw [HL.out]; omega) Hfrom.out ?_; go_frame)
    | ((with_reducible change wpList _ _ _ (Oper.mk (some 37) _ _ _ _ _ :: _) _ _); refine kArrPtr _ _ _ rfl rfl rfl ?_; go_frame)
    | ((with_reducible change wpList _ _ _ (Oper.mk (some 38) _ _ _ _ _ :: _) _ _); refine kLoad32 _ _ _ rfl rfl rfl ((hat.below hM1.below)) ?_; go_frame)
    | (go_at_call 31; (with_reducible change Calls _ _ #[Value.agg (bcells fb)] _ _); refine (wFrom_as Hfb.out Hx.out _).mono ?_; rintro e w2 ⟨rfl, hB2⟩; have hM2 := hM1.on hB2; clear hB2 hM1; (try unfold WV); go_frame)
    | ((with_reducible change wpList _ _ _ (Oper.mk (some 4) _ _ _ _ _ :: _) _ _); refine mmAlloc hM2 _ _ rfl rfl zero_Wide ?_; intro w3 hM3; clear hM2; go_frame)
    | ((with_reducible change wpList _ _ _ (Oper.mk none (Op.store _ (Operand.tmp 4) (Operand.tmp 39)) _ _ _ _ :: _) _ _); refine mmStoreAt hM3 0 _ _ _ _ _ _ (wcells x) rfl rfl rfl rfl rfl (info_WideC _) (by simp only [wcells_size]) (wcells_one _) ?_; intro w4 hM4; dsimp only [List.set] at hM4; clear hM3; go_frame)
    | (go_at_call 32; refine (fP_any m _ (hG.below hM4.below)).mono ?_; rintro e w5 ⟨rfl, hR5, hB5⟩; have hM5 := hM4.new hR5 hB5; clear hB5 hR5 hM4; go_frame)
    | ((with_reducible change wpList _ _ _ (Oper.mk (some 43) _ _ _ _ _ :: _) _ _); refine kLoadRow _ _ _ _ _ _ rfl rfl rfl (hM5.get 1 rfl) Tryd.underlying24 rfl (info_WideC _) ?_; go_frame)
    | (go_at_call 34; (with_reducible change Calls _ _ #[Value.agg (wcells x)] _ _); refine (squareAt_as hm mx Hv44.out _ (hG.below hM5.below)).mono ?_; rintro e w6 ⟨rfl, hB6⟩; have hM6 := hM5.on hB6; clear hB6 hM5; (try unfold WV); go_frame)
    | (go_at_call 33; (with_reducible change Calls _ _ #[Value.pointer (some ⟨w4.heap.size, 0, none⟩), Value.agg (wcells v44)] _ _); refine (fRoot_some hm (w4.heap.size) mv44 hq.out Hv45.out hm1.out _ (hM6.get 0 rfl) (hG.below hM6.below)).mono ?_; rintro e w7 ⟨rfl, hB7⟩; have hM7 := hM6.on hB7; clear hB7 hM6; (try unfold WV); go_frame)
    | ((with_reducible change wpList _ _ _ (Oper.mk (some 6) _ _ _ _ _ :: _) _ _); refine mmAlloc hM7 _ _ rfl rfl zero_Wide ?_; intro w8 hM8; clear hM7; go_frame)
    | ((with_reducible change wpList _ _ _ (Oper.mk none (Op.store _ (Operand.tmp 6) (Operand.tmp 46)) _ _ _ _ :: _) _ _); refine mmStoreAt hM8 0 _ _ _ _ _ _ (wcells v45) rfl rfl rfl rfl rfl (info_WideC _) (by simp only [wcells_size]) (wcells_one _) ?_; intro w9 hM9; dsimp only [List.set] at hM9; clear hM8; go_frame)
    | ((with_reducible change wpList _ _ _ (Oper.mk (some 49) _ _ _ _ _ :: _) _ _); refine kNeqI _ _ _ _ .i64 (0) (0) false rfl rfl rfl rfl (by decide) ?_; go_frame)
    | ((with_reducible change wpList _ _ _ (Oper.mk (some 52) _ _ _ _ _ :: _) _ _); refine kLoadRow _ _ _ _ _ _ rfl rfl rfl (hM9.get 2 rfl) Tryd.underlying24 rfl (info_WideC _) ?_; go_frame)
    | (go_at_call 35; (with_reducible change Calls _ _ #[Value.pointer (some ⟨w4.heap.size, 0, none⟩), Value.agg (wcells x)] _ _); refine (fIn_as hm (w4.heap.size) mx F53.out _ (hM9.get 1 rfl)).mono ?_; rintro e w10 ⟨rfl, hB10⟩; have hM10 := hM9.on hB10; clear hB10 hM9; (try unfold WV); go_frame)
    | ((with_reducible change wpList _ _ _ (Oper.mk (some 56) _ _ _ _ _ :: _) _ _); refine kBuildPoint0 rfl rfl ?_; go_frame)
    | ((with_reducible change wpList _ _ _ (Oper.mk none (Op.store _ (Operand.tmp 2) (Operand.tmp 56)) _ _ _ _ :: _) _ _); refine mmStoreAt hM10 3 _ _ _ _ _ _ (pcells 0 0 false) rfl rfl rfl rfl rfl (info_PointC _ _ _) (by simp only [pcells_size]) (pcells_one _ _ _) ?_; intro w11 hM11; dsimp only [List.set] at hM11; clear hM10; go_frame))
  exact result_row_tmp Tryd.results12 rfl rfl (hM11.get 3 rfl) Tryd.underlying30 rfl (info_PointC _ _ _) rfl ⟨rfl, hM11.below⟩
set_option maxRecDepth 100000 in
set_option maxHeartbeats 8000000 in
theorem parse_point3 {l : List UInt8} {v : Value} {c0 : UInt8} {r : List UInt8} (hl : l = c0 :: r) (hr : r.length = 32) (hc : c0 = 3) (hq0 : HasRoot PP (sqAt (numOf r))) (hx0 : numOf r < PP) (w : World) (hG : Glob 2 PP w) (hv : IsVals w v (l.map VB)) :
    Calls Tryd.prog 12 #[v] w fun e w' => e = .returned (.tuple #[.agg (ptc (liftPt (numOf r)).neg), .int .i64 0]) ∧ Below w.heap.size w w' := by
  obtain ⟨L, HL⟩ : ∃ n, Hid ((l.map VB).length = n) := ⟨_, Lib.hid rfl⟩
  have hL : L = l.length := by rw [← HL.out, List.length_map]
  have Hc0 := Lib.hid (show (l.map VB)[0]? = some (VB c0) by rw [hl]; rfl)
  have hL1 : L = 33 := by rw [hL, hl]; simp [hr]
  have F11 := Lib.hid (show decide ((L : Int) = 1) = false by rw [decide_eq_false (show ¬((L : Int) = 1) by omega)]; try rfl)
  have F21 := Lib.hid (show (!decide ((L : Int) = 33)) = false by rw [decide_eq_true (show (L : Int) = 33 by omega)]; try rfl)
  have Hc2 := Lib.hid (show decide (c0 = UInt8.ofNat 2) = !true by rw [hc]; rfl)
  have Hc3 := Lib.hid (show decide (c0 = UInt8.ofNat 3) = !false by rw [hc]; rfl)
  obtain ⟨m, Hm⟩ : ∃ m, Hid (m = PP) := ⟨_, Lib.hid rfl⟩
  have hm : Modu m := by rw [Hm.out]; exact modu_P
  rw [← Hm.out] at hG
  have hm1 := Lib.hid (show m + 1 < M256 by rw [Hm.out]; decide)
  obtain ⟨x, Hx⟩ : ∃ x, Hid (numOf r = x) := ⟨_, Lib.hid rfl⟩
  have mx : x < M256 := by rw [← Hx.out]; exact numOf_lt r
  obtain ⟨ad, cap, hfrom, hat⟩ := from_one (hl ▸ hv) hr
  have Hfrom := Lib.hid hfrom
  clear hfrom
  obtain ⟨fb, Hfb⟩ : ∃ f, Hid (f = fun j => (r.getD j 0).toNat) := ⟨_, Lib.hid rfl⟩
  rw [← Hfb.out] at hat
  have Hd3 := Lib.hid (show decide (c0 = UInt8.ofNat 3) = true by rw [hc]; rfl)
  obtain ⟨v44, Hv44⟩ : ∃ n, Hid ((x * x % m * x % m + 7) % m = n) := ⟨_, Lib.hid rfl⟩
  have mv44 : v44 < M256 := by rw [← Hv44.out]; exact hm.mod _
  obtain ⟨v45, Hv45⟩ : ∃ n, Hid (evenRoot m v44 = n) := ⟨_, Lib.hid rfl⟩
  have mv45 : v45 < M256 := by rw [← Hv45.out]; exact Nat.lt_trans (evenRoot_lt hm.pos) hm.lt
  obtain ⟨v65, Hv65⟩ : ∃ n, Hid ((0 % m + m - v45 % m) % m = n) := ⟨_, Lib.hid rfl⟩
  have mv65 : v65 < M256 := by rw [← Hv65.out]; exact hm.mod _
  have hS : v44 = sqAt (numOf r) := by rw [← Hv44.out, Hx.out, Hm.out]; rfl
  have hq := Lib.hid (show HasRoot m v44 by rw [Hm.out, hS]; exact hq0)
  have F53 := Lib.hid (show decide (x < m) = true by rw [Hm.out, ← Hx.out]; exact decide_eq_true hx0)
  have hrt : v45 = rootAt (numOf r) := by rw [← Hv45.out, hS, Hm.out]; rfl
  have hxv : (FP (numOf r)).val = x := by rw [← Hx.out]; exact Nat.mod_eq_of_lt hx0
  have hyv : (FP (rootAt (numOf r))).val = v45 := by rw [hrt]; exact Nat.mod_eq_of_lt (rootAt_lt _)
  have hnv : (0 - FP (rootAt (numOf r)) : Fin PP).val = v65 := by rw [← hrt]; exact (val_of (FPm_lt Hm.out Hv65.out) (FPm_sub Hm.out Hv65.out)).symm
  have R := Lib.hid (show Value.agg (ptc (liftPt (numOf r)).neg) = .agg (pcells x v65 false) by show Value.agg (pcells (FP (numOf r)).val (0 - FP (rootAt (numOf r)) : Fin PP).val false) = _; rw [hxv, hnv])
  clear hnv
  clear hrt hxv hyv
  clear hS hq0 hl hr hc hL hx0
  have hM0 := mm_nil w
  (try unfold WV)
  go_enter Tryd.func12, Tryd.ntmps12
  go_wp2_with (first
    | ((with_reducible change wpList _ _ _ (Oper.mk (some 2) _ _ _ _ _ :: _) _ _); refine mmAlloc hM0 _ _ rfl rfl zero_Point ?_; intro w1 hM1; clear hM0; go_frame)
    | ((with_reducible change wpList _ _ _ (Oper.mk (some 10) _ _ _ _ _ :: _) _ _); refine kLenN _ _ _ _ _ L rfl rfl rfl ((hv.below hM1.below)) HL.out Tryd.underlying48 ?_; go_frame)
    | ((with_reducible change wpList _ _ _ (Oper.mk (some 11) _ _ _ _ _ :: _) _ _); refine kEqlI _ _ _ _ .i64 ((L : Int)) (1) false rfl rfl rfl rfl (F11.out) ?_; go_frame)
    | ((with_reducible change wpList _ _ _ (Oper.mk (some 20) _ _ _ _ _ :: _) _ _); refine kLenN _ _ _ _ _ L rfl rfl rfl ((hv.below hM1.below)) HL.out Tryd.underlying48 ?_; go_frame)
    | ((with_reducible change wpList _ _ _ (Oper.mk (some 21) _ _ _ _ _ :: _) _ _); refine kNeqI _ _ _ _ .i64 ((L : Int)) (33) false rfl rfl rfl rfl (F21.out) ?_; go_frame)
    | ((with_reducible change wpList _ _ _ (Oper.mk (some 24) _ _ _ _ _ :: _) _ _); refine kIndexAddrV _ _ _ _ _ _ _ _ 0 (VB c0) rfl rfl rfl ((hv.below hM1.below)) rfl Tryd.underlying48 info_b8 rfl Hc0.out ?_; intro b24 hb24; go_frame)
    | ((with_reducible change wpList _ _ _ (Oper.mk (some 25) _ _ _ _ _ :: _) _ _); refine kLoadCell _ _ _ (VB c0) _ rfl rfl rfl hb24 Tryd.underlying5 rfl ?_; go_frame)
    | ((with_reducible change wpList _ _ _ (Oper.mk (some 26) _ _ _ _ _ :: _) _ _); refine kNeqI _ _ _ _ .u8 (B c0) (2) true rfl rfl rfl rfl (B_ne (k := 2) (by decide) Hc2.out) ?_; go_frame)
    | ((with_reducible change wpList _ _ _ (Oper.mk (some 29) _ _ _ _ _ :: _) _ _); refine kIndexAddrV _ _ _ _ _ _ _ _ 0 (VB c0) rfl rfl rfl ((hv.below hM1.below)) rfl Tryd.underlying48 info_b8 rfl Hc0.out ?_; intro b29 hb29; go_frame)
    | ((with_reducible change wpList _ _ _ (Oper.mk (some 30) _ _ _ _ _ :: _) _ _); refine kLoadCell _ _ _ (VB c0) _ rfl rfl rfl hb29 Tryd.underlying5 rfl ?_; go_frame)
    | ((with_reducible change wpList _ _ _ (Oper.mk (some 31) _ _ _ _ _ :: _) _ _); refine kNeqI _ _ _ _ .u8 (B c0) (3) false rfl rfl rfl rfl (B_ne (k := 3) (by decide) Hc3.out) ?_; go_frame)
    | ((with_reducible change wpList _ _ _ (Oper.mk (some 36) _ _ _ _ _ :: _) _ _); refine kSlice1 _ _ _ _ _ rfl rfl rfl rfl ((hv.below hM1.below)) (by rw [HL.out]; omega) Hfrom.out ?_; go_frame)
    | ((with_reducible change wpList _ _ _ (Oper.mk (some 37) _ _ _ _ _ :: _) _ _); refine kArrPtr _ _ _ rfl rfl rfl ?_; go_frame)
    | ((with_reducible change wpList _ _ _ (Oper.mk (some 38) _ _ _ _ _ :: _) _ _); refine kLoad32 _ _ _ rfl rfl rfl ((hat.below hM1.below)) ?_; go_frame)
    | (go_at_call 31; (with_reducible change Calls _ _ #[Value.agg (bcells fb)] _ _); refine (wFrom_as Hfb.out Hx.out _).mono ?_; rintro e w2 ⟨rfl, hB2⟩; have hM2 := hM1.on hB2; clear hB2 hM1; (try unfold WV); go_frame)
    | ((with_reducible change wpList _ _ _ (Oper.mk (some 4) _ _ _ _ _ :: _) _ _); refine mmAlloc hM2 _ _ rfl rfl zero_Wide ?_; intro w3 hM3; clear hM2; go_frame)
    | ((with_reducible change wpList _ _ _ (Oper.mk none (Op.store _ (Operand.tmp 4) (Operand.tmp 39)) _ _ _ _ :: _) _ _); refine mmStoreAt hM3 0 _ _ _ _ _ _ (wcells x) rfl rfl rfl rfl rfl (info_WideC _) (by simp only [wcells_size]) (wcells_one _) ?_; intro w4 hM4; dsimp only [List.set] at hM4; clear hM3; go_frame)
    | (go_at_call 32; refine (fP_any m _ (hG.below hM4.below)).mono ?_; rintro e w5 ⟨rfl, hR5, hB5⟩; have hM5 := hM4.new hR5 hB5; clear hB5 hR5 hM4; go_frame)
    | ((with_reducible change wpList _ _ _ (Oper.mk (some 43) _ _ _ _ _ :: _) _ _); refine kLoadRow _ _ _ _ _ _ rfl rfl rfl (hM5.get 1 rfl) Tryd.underlying24 rfl (info_WideC _) ?_; go_frame)
    | (go_at_call 34; (with_reducible change Calls _ _ #[Value.agg (wcells x)] _ _); refine (squareAt_as hm mx Hv44.out _ (hG.below hM5.below)).mono ?_; rintro e w6 ⟨rfl, hB6⟩; have hM6 := hM5.on hB6; clear hB6 hM5; (try unfold WV); go_frame)
    | (go_at_call 33; (with_reducible change Calls _ _ #[Value.pointer (some ⟨w4.heap.size, 0, none⟩), Value.agg (wcells v44)] _ _); refine (fRoot_some hm (w4.heap.size) mv44 hq.out Hv45.out hm1.out _ (hM6.get 0 rfl) (hG.below hM6.below)).mono ?_; rintro e w7 ⟨rfl, hB7⟩; have hM7 := hM6.on hB7; clear hB7 hM6; (try unfold WV); go_frame)
    | ((with_reducible change wpList _ _ _ (Oper.mk (some 6) _ _ _ _ _ :: _) _ _); refine mmAlloc hM7 _ _ rfl rfl zero_Wide ?_; intro w8 hM8; clear hM7; go_frame)
    | ((with_reducible change wpList _ _ _ (Oper.mk none (Op.store _ (Operand.tmp 6) (Operand.tmp 46)) _ _ _ _ :: _) _ _); refine mmStoreAt hM8 0 _ _ _ _ _ _ (wcells v45) rfl rfl rfl rfl rfl (info_WideC _) (by simp only [wcells_size]) (wcells_one _) ?_; intro w9 hM9; dsimp only [List.set] at hM9; clear hM8; go_frame)
    | ((with_reducible change wpList _ _ _ (Oper.mk (some 49) _ _ _ _ _ :: _) _ _); refine kNeqI _ _ _ _ .i64 (0) (0) false rfl rfl rfl rfl (by decide) ?_; go_frame)
    | ((with_reducible change wpList _ _ _ (Oper.mk (some 52) _ _ _ _ _ :: _) _ _); refine kLoadRow _ _ _ _ _ _ rfl rfl rfl (hM9.get 2 rfl) Tryd.underlying24 rfl (info_WideC _) ?_; go_frame)
    | (go_at_call 35; (with_reducible change Calls _ _ #[Value.pointer (some ⟨w4.heap.size, 0, none⟩), Value.agg (wcells x)] _ _); refine (fIn_as hm (w4.heap.size) mx F53.out _ (hM9.get 1 rfl)).mono ?_; rintro e w10 ⟨rfl, hB10⟩; have hM10 := hM9.on hB10; clear hB10 hM9; (try unfold WV); go_frame)
    | ((with_reducible change wpList _ _ _ (Oper.mk (some 57) _ _ _ _ _ :: _) _ _); refine kLoadRow _ _ _ _ _ _ rfl rfl rfl (hM10.get 2 rfl) Tryd.underlying24 rfl (info_WideC _) ?_; go_frame)
    | ((with_reducible change wpList _ _ _ (Oper.mk (some 58) _ _ _ _ _ :: _) _ _); refine kLoadRow _ _ _ _ _ _ rfl rfl rfl (hM10.get 0 rfl) Tryd.underlying24 rfl (info_WideC _) ?_; go_frame)
    | ((with_reducible change wpList _ _ _ (Oper.mk (some 59) _ _ _ _ _ :: _) _ _); refine kBuildPoint2 _ _ x v45 rfl rfl rfl rfl ?_; go_frame)
    | ((with_reducible change wpList _ _ _ (Oper.mk (some 8) _ _ _ _ _ :: _) _ _); refine mmAlloc hM10 _ _ rfl rfl zero_Point ?_; intro w11 hM11; clear hM10; go_frame)
    | ((with_reducible change wpList _ _ _ (Oper.mk none (Op.store _ (Operand.tmp 8) (Operand.tmp 59)) _ _ _ _ :: _) _ _); refine mmStoreAt hM11 0 _ _ _ _ _ _ (pcells x v45 false) rfl rfl rfl rfl rfl (info_PointC _ _ _) (by simp only [pcells_size]) (pcells_one _ _ _) ?_; intro w12 hM12; dsimp only [List.set] at hM12; clear hM11; go_frame)
    | ((with_reducible change wpList _ _ _ (Oper.mk (some 61) _ _ _ _ _ :: _) _ _); refine kIndexAddrV _ _ _ _ _ _ _ _ 0 (VB c0) rfl rfl rfl ((hv.below hM12.below)) rfl Tryd.underlying48 info_b8 rfl Hc0.out ?_; intro b61 hb61; go_frame)
    | ((with_reducible change wpList _ _ _ (Oper.mk (some 62) _ _ _ _ _ :: _) _ _); refine kLoadCell _ _ _ (VB c0) _ rfl rfl rfl hb61 Tryd.underlying5 rfl ?_; go_frame)
    | ((with_reducible change wpList _ _ _ (Oper.mk (some 63) _ _ _ _ _ :: _) _ _); refine kEqlI _ _ _ _ .u8 (B c0) (3) true rfl rfl rfl rfl (B_eq (k := 3) (by decide) Hd3.out) ?_; go_frame)
    | ((with_reducible change wpList _ _ _ (Oper.mk (some 64) _ _ _ _ _ :: _) _ _); refine kLoadRow _ _ _ _ _ _ rfl rfl rfl (hM12.get 0 rfl) Tryd.underlying30 rfl (info_PointC _ _ _) ?_; go_frame)
    | (go_at_call 22; (with_reducible change Calls _ _ #[Value.agg (pcells x v45 false)] _ _); refine (cNeg_as hm false mv45 Hv65.out _ (hG.below hM12.below)).mono ?_; rintro e w13 ⟨rfl, hB13⟩; have hM13 := hM12.on hB13; clear hB13 hM12; (try unfold WV); go_frame)
    | ((with_reducible change wpList _ _ _ (Oper.mk none (Op.store _ (Operand.tmp 8) (Operand.tmp 65)) _ _ _ _ :: _) _ _); refine mmStoreAt hM13 0 _ _ _ _ _ _ (pcells x v65 false) rfl rfl rfl rfl rfl (info_PointC _ _ _) (by simp only [pcells_size]) (pcells_one _ _ _) ?_; intro w14 hM14; dsimp only [List.set] at hM14; clear hM13; go_frame)
    | ((with_reducible change wpList _ _ _ (Oper.mk (some 66) _ _ _ _ _ :: _) _ _); refine kLoadRow _ _ _ _ _ _ rfl rfl rfl (hM14.get 0 rfl) Tryd.underlying30 rfl (info_PointC _ _ _) ?_; go_frame)
    | ((with_reducible change wpList _ _ _ (Oper.mk none (Op.store _ (Operand.tmp 2) (Operand.tmp 66)) _ _ _ _ :: _) _ _); refine mmStoreAt hM14 4 _ _ _ _ _ _ (pcells x v65 false) rfl rfl rfl rfl rfl (info_PointC _ _ _) (by simp only [pcells_size]) (pcells_one _ _ _) ?_; intro w15 hM15; dsimp only [List.set] at hM15; clear hM14; go_frame))
  exact result_row_tmp Tryd.results12 rfl rfl (hM15.get 4 rfl) Tryd.underlying30 rfl (info_PointC _ _ _) rfl ⟨by rw [R.out] <;> rfl, hM15.below⟩
/-- PARSE -/
def parseV (l : List UInt8) : Value := match parseL l with
  | some p => .tuple #[.agg (ptc p), .int .i64 0]
  | none => .tuple #[.agg (pcells 0 0 false), .int .i64 41]
theorem cParse_any {l : List UInt8} {v : Value} (w : World) (hG : Glob 2 PP w) (hO : GlobP 0 0 0 true w) (hv : IsVals w v (l.map VB)) :
    Calls Tryd.prog 12 #[v] w fun e w' => e = .returned (parseV l) ∧ Below w.heap.size w w' := by
  unfold parseV
  cases l with
  | nil => exact parse_len (by simp) (by simp) w hv
  | cons c r =>
    by_cases h1 : r = []
    · subst h1
      by_cases h0 : c = 0
      · subst h0; exact parse_none rfl w hO hv
      · have e : parseL [c] = none := by rw [parseL_cons, if_neg (fun h => h0 h.1), if_neg (fun h => by simp at h)]
        rw [e]; exact parse_one rfl h0 w hv
    · have hn : ¬(c = 0 ∧ r = []) := fun h => h1 h.2
      by_cases h32 : r.length = 32
      · by_cases hc : c = 2 ∨ c = 3
        · have hif : r.length = 32 ∧ (c = 2 ∨ c = 3) := ⟨h32, hc⟩
          by_cases hq : HasRoot PP (sqAt (numOf r))
          · by_cases hx : numOf r < PP
            · rcases hc with rfl | rfl
              · have e : parseL (2 :: r) = some (liftPt (numOf r)) := by rw [parseL_cons, if_neg hn, if_pos hif, if_pos ⟨hq, hx⟩, if_pos rfl]
                rw [e]; exact parse_point2 rfl h32 rfl hq hx w hG hv
              · have e : parseL (3 :: r) = some (liftPt (numOf r)).neg := by rw [parseL_cons, if_neg hn, if_pos hif, if_pos ⟨hq, hx⟩, if_neg (by decide)]
                rw [e]; exact parse_point3 rfl h32 rfl hq hx w hG hv
            · have e : parseL (c :: r) = none := by rw [parseL_cons, if_neg hn, if_pos hif, if_neg (fun h => hx h.2)]
              rw [e]
              rcases hc with rfl | rfl
              · exact parse_above2 rfl h32 rfl hq hx w hG hv
              · exact parse_above3 rfl h32 rfl hq hx w hG hv
          · have e : parseL (c :: r) = none := by rw [parseL_cons, if_neg hn, if_pos hif, if_neg (fun h => hq h.1)]
            rw [e]
            rcases hc with rfl | rfl
            · exact parse_noroot2 rfl h32 rfl hq w hG hv
            · exact parse_noroot3 rfl h32 rfl hq w hG hv
        · have e : parseL (c :: r) = none := by rw [parseL_cons, if_neg hn, if_neg (fun h => hc h.2)]
          rw [e]; exact parse_first rfl h32 (fun h => hc (.inl h)) (fun h => hc (.inr h)) w hv
      · have e : parseL (c :: r) = none := by rw [parseL_cons, if_neg hn, if_neg (fun h => h32 h.1)]
        rw [e]
        refine parse_len ?_ ?_ w hv
        · simp only [List.length_cons]; have : r.length ≠ 0 := fun h => h1 (List.length_eq_zero_iff.1 h)
          omega
        · simp only [List.length_cons]; omega
end Go.Proofs.YtecibidncelebaaDoor
