/-
  Layer 10: Parse of the reference; names; transactions held against each other; what makes something.
-/
import Derived.Test.YtaoaecbdjdcpdaaDoorTxRead2
import Derived.Test.YtaoaecbdjdcpdaaDoorCoKit2
import Derived.Test.YtaoaecbdjdcpdaaDoorCoSame
import Derived.Test.YtaoaecbdjdcpdaaDoorTwice
namespace Go.Proofs.YtaoaecbdjdcpdaaDoor
open Go Go.RowKit

variable {Lm : Nat}
section
variable {ops : Array Oper} {o : Oper} {a : Act} {S : World → Prop}
theorem yBuildAny {P : Program} (T : TypeId) (parts : Array (Nat × Operand)) (vs : Array (Nat × Value)) (cs : Array Value) (ho : o.op = .build T parts) (hg : Region.wanted o (yielded ops a.tmps) = true) (hp : (parts.map fun (i, x) => (i, a.eval x)) = vs) (hb : P.built T vs.toList = some cs) : YieldsIf P ops S o (.agg cs) a :=
  yOf hg fun w _ => by
    unfold execOp
    simp only [ho, Sem.run_bind, hp]
    have := run_build w T vs cs hb
    simp [this]
theorem yBuildTx0 (ho : o.op = .build 26 #[]) (hg : Region.wanted o (yielded ops a.tmps) = true) : YieldsIf Tryd.prog ops S o (.agg (txC 0 (.slice none 0 0) (.slice none 0 0) 0)) a :=
  yBuildAny _ #[] #[] _ ho hg (by simp) built_Tx0
end
theorem retBT {fn : Func} {R : Ending → World → Prop} {P : Program} {a : Act} {w : World} {t : Tmp} (h : fn.results = #[.tmp t]) (hd : a.defers = []) (hR : R (.returned (a.tmps.getD t undef)) w) : bodyPost P fn R .ret a w :=
  bodyPost_ret (by simp [results, h]) hd hR
set_option maxRecDepth 100000 in
set_option maxHeartbeats 8000000 in
theorem yParse_any {l : List UInt8} {v : Value} (W0 : World) (hv : IsVals W0 v (l.map VB)) (hl : l.length ≤ 1000000) : Calls Tryd.prog 25 #[v] W0 (TxParse W0 (parseT l)) := by
  obtain ⟨R, hR⟩ : ∃ R, parseT l = R := ⟨_, rfl⟩
  rw [hR]
  unfold parseT at hR
  obtain ⟨p, hp⟩ : ∃ p, readS ⟨l, 0⟩ = p := ⟨_, rfl⟩
  rw [hp] at hR
  obtain ⟨E, hE⟩ : ∃ E, p.2.err = E := ⟨_, rfl⟩
  obtain ⟨n, hn⟩ : ∃ n, p.2.rest.length = n := ⟨_, rfl⟩
  rw [hE, hn] at hR
  by_cases e0 : E ≠ 0
  · rw [if_pos e0] at hR
    subst hR
    have he : (!decide ((E : Int) = 0)) = true := by simp; exact e0
    clear e0
    go_enter Tryd.func25, Tryd.ntmps25
    go_wp2_with (first
      | ((with_reducible change wpList _ _ _ (Oper.mk (some 2) _ _ _ _ _ :: _) _ _); refine kAllocL _ _ rfl rfl zero_TxC ?_; intro w1 hRA hz1 hB1; have hv1 := hv.below hB1; go_frame)
      | ((with_reducible change wpList _ _ _ (Oper.mk (some 7) _ _ _ _ _ :: _) _ _); refine kBuildScanC _ v hv1 rfl rfl rfl ?_; go_frame)
      | ((with_reducible change wpList _ _ _ (Oper.mk (some 8) _ _ _ _ _ :: _) _ _); refine kBoxL _ _ _ rfl rfl rfl ?_; intro w2 hRS hz2 hB2; have h2 : Rd w1.heap.size 55 w2 w1.heap.size ⟨l, 0⟩ := ⟨v, hRS, hv1.below hB2, limR_vals hv1⟩; have hRA2 := hRA.below hB2 hRA.lt; have hgA : W0.heap.size ≠ w1.heap.size := (Nat.ne_of_lt hz1); have hge : Hid (W0.heap.size ≤ w1.heap.size) := (Nat.le_of_lt hz1); have hB3 := hB1.trans (hB2.mono hB1.size); have hz2h : Hid (W0.heap.size < w2.heap.size) := Nat.lt_trans hz1 hz2; have hl2 : Hid (w1.heap.size ≤ w2.heap.size) := Nat.le_of_lt hz2; clear hRA hRS hB1 hB2 hv1 hz1 hz2; go_frame)
      | (go_at_call 28; refine (yRead_any _ h2 hl hl2.out).mono ?_; rintro e w3 ⟨a, b, rfl, hI, hO, h3, hX3⟩; rw [hp] at h3 hI hO ⊢; have hRA3 := hX3.row hRA2 hgA; have hB4 := hB3.trans (hX3.below hge.out hB3.size); clear hRA2 hB3 hX3 h2; go_frame)
      | ((with_reducible change wpList _ _ _ (Oper.mk (some 5) _ _ _ _ _ :: _) _ _); refine kAllocL _ _ rfl rfl zero_TxC ?_; intro w5 hRB hz5 hB5; have hRA5 := hRA3.below hB5 hRA3.lt; have hAB : Hid (W0.heap.size ≠ w3.heap.size) := Nat.ne_of_lt hRA3.lt; clear hz5; go_frame)
      | ((with_reducible change wpList _ _ _ (Oper.mk none _ _ _ _ _ :: _) _ _); refine kStoreTx _ _ w3.heap.size p.1.version p.1.end' a b _ hRB rfl hI.of.sl.one hO.of.sl.one rfl rfl rfl rfl ?_; intro w7 hRB7 hW7; have hB7 := hB5.trans (hW7.below (Nat.le_refl _)); have hI7 := hI.below hB7; have hO7 := hO.below hB7; have h7 := h3.below hB7; have hRA7 := hW7.row hRA5 hAB.out; have hB8 := hB4.trans (hB7.mono hB4.size); obtain ⟨vS, hRS, hVS, hLS⟩ := id h7; rw [hE] at hRS; clear hRB hB5 hW7 hB7 hI hO h3 hRA3 hRA5 hB4; go_frame)
      | ((with_reducible change wpList _ _ _ (Oper.mk (some 13) _ _ _ _ _ :: _) _ _); refine kS1 _ w1.heap.size rfl rfl rfl ?_; go_frame)
      | ((with_reducible change wpList _ _ _ (Oper.mk (some 14) _ _ _ _ _ :: _) _ _); refine kLoad1 _ _ _ w1.heap.size 1 _ (.int .i64 (E : Int)) _ rfl rfl rfl hRS Tryd.underlying3 rfl rfl ?_; go_frame)
      | ((with_reducible change wpList _ _ _ (Oper.mk (some 15) _ _ _ _ _ :: _) _ _); refine kNeqI _ _ _ _ .i64 (E : Int) 0 true rfl rfl rfl rfl he ?_; go_frame))
    refine region_mixD [(0, true), (1, true), (2, true), (3, true), (4, true), (5, false), (6, true)] (fun w => Row w w1.heap.size 55 #[vS, .int .i64 (E : Int)]) (by kernel_rfl) (by kernel_rfl) rfl ?_
    intro b0 hBd hsd
    have hRA8 := hRA7.below hBd hRA7.lt
    have hRS8 := hRS.below hBd hRS.lt
    have hB8b := hB8.trans (hBd.mono hB8.size)
    clear hRA7 hRS hB8 hBd hsd
    simp only [List.map_cons, List.map_nil]
    dsimp only [List.filterMap, List.getElem?_cons_zero, List.getElem?_cons_succ]
    refine dY _ hRS8 (yBuildTx0 rfl rfl) ?_; go_frame
    refine dY _ hRS8 (yMove _ (.pointer (some ⟨w1.heap.size, 0, none⟩)) rfl rfl rfl) ?_; go_frame
    refine dY _ hRS8 (yNil _ ⟨w1.heap.size, 0, none⟩ rfl rfl rfl) ?_; go_frame
    refine dY _ hRS8 (yFld scanF1 _ _ 0 1 rfl rfl rfl rfl) ?_; go_frame
    refine dY _ hRS8 (yLoad1 _ _ _ _ 1 _ (.int .i64 (E : Int)) _ rfl rfl rfl (fun _ h => h) Tryd.underlying3 rfl rfl) ?_; go_frame
    refine dLoud ?_
    refine kStoreTx _ _ W0.heap.size 0 0 (.slice none 0 0) (.slice none 0 0) _ hRA8 rfl rfl rfl rfl rfl rfl rfl ?_
    intro w9 hRA9 hW9
    have hB9 := hB8b.trans (hW9.below (Nat.le_refl _))
    have hRS9 := hW9.row hRS8 (Ne.symm hgA)
    refine mixOn ⟨fun w => Row w w1.heap.size 55 #[vS, .int .i64 (E : Int)], fun _ h => h, hRS9, ?_⟩
    go_frame
    refine dY _ hRS9 (yAssign _ (.int .i64 (E : Int)) rfl rfl rfl) ?_; go_frame
    refine dDone ?_
    go_wp2
    (try simp only [Exit.inBlock, Exit.then])
    exact result_row_tmp rfl rfl rfl hRA9 Tryd.underlying26 rfl info_TxC rfl ⟨_, _, rfl, ownIns_nil _ _, ownOuts_nil _ _, hB9⟩
  rw [if_neg e0] at hR
  have he : (!decide ((E : Int) = 0)) = false := by simp; omega
  clear e0
  by_cases n0 : 0 < n
  · rw [if_pos n0] at hR
    subst hR
    have hn0 : decide ((n : Int) > 0) = true := by simp; omega
    clear n0
    go_enter Tryd.func25, Tryd.ntmps25
    go_wp2_with (first
      | ((with_reducible change wpList _ _ _ (Oper.mk (some 2) _ _ _ _ _ :: _) _ _); refine kAllocL _ _ rfl rfl zero_TxC ?_; intro w1 hRA hz1 hB1; have hv1 := hv.below hB1; go_frame)
      | ((with_reducible change wpList _ _ _ (Oper.mk (some 7) _ _ _ _ _ :: _) _ _); refine kBuildScanC _ v hv1 rfl rfl rfl ?_; go_frame)
      | ((with_reducible change wpList _ _ _ (Oper.mk (some 8) _ _ _ _ _ :: _) _ _); refine kBoxL _ _ _ rfl rfl rfl ?_; intro w2 hRS hz2 hB2; have h2 : Rd w1.heap.size 55 w2 w1.heap.size ⟨l, 0⟩ := ⟨v, hRS, hv1.below hB2, limR_vals hv1⟩; have hRA2 := hRA.below hB2 hRA.lt; have hgA : W0.heap.size ≠ w1.heap.size := (Nat.ne_of_lt hz1); have hge : Hid (W0.heap.size ≤ w1.heap.size) := (Nat.le_of_lt hz1); have hB3 := hB1.trans (hB2.mono hB1.size); have hz2h : Hid (W0.heap.size < w2.heap.size) := Nat.lt_trans hz1 hz2; have hl2 : Hid (w1.heap.size ≤ w2.heap.size) := Nat.le_of_lt hz2; clear hRA hRS hB1 hB2 hv1 hz1 hz2; go_frame)
      | (go_at_call 28; refine (yRead_any _ h2 hl hl2.out).mono ?_; rintro e w3 ⟨a, b, rfl, hI, hO, h3, hX3⟩; rw [hp] at h3 hI hO ⊢; have hRA3 := hX3.row hRA2 hgA; have hB4 := hB3.trans (hX3.below hge.out hB3.size); clear hRA2 hB3 hX3 h2; go_frame)
      | ((with_reducible change wpList _ _ _ (Oper.mk (some 5) _ _ _ _ _ :: _) _ _); refine kAllocL _ _ rfl rfl zero_TxC ?_; intro w5 hRB hz5 hB5; have hRA5 := hRA3.below hB5 hRA3.lt; have hAB : Hid (W0.heap.size ≠ w3.heap.size) := Nat.ne_of_lt hRA3.lt; clear hz5; go_frame)
      | ((with_reducible change wpList _ _ _ (Oper.mk none _ _ _ _ _ :: _) _ _); refine kStoreTx _ _ w3.heap.size p.1.version p.1.end' a b _ hRB rfl hI.of.sl.one hO.of.sl.one rfl rfl rfl rfl ?_; intro w7 hRB7 hW7; have hB7 := hB5.trans (hW7.below (Nat.le_refl _)); have hI7 := hI.below hB7; have hO7 := hO.below hB7; have h7 := h3.below hB7; have hRA7 := hW7.row hRA5 hAB.out; have hB8 := hB4.trans (hB7.mono hB4.size); obtain ⟨vS, hRS, hVS, hLS⟩ := id h7; rw [hE] at hRS; clear hRB hB5 hW7 hB7 hI hO h3 hRA3 hRA5 hB4; go_frame)
      | ((with_reducible change wpList _ _ _ (Oper.mk (some 13) _ _ _ _ _ :: _) _ _); refine kS1 _ w1.heap.size rfl rfl rfl ?_; go_frame)
      | ((with_reducible change wpList _ _ _ (Oper.mk (some 14) _ _ _ _ _ :: _) _ _); refine kLoad1 _ _ _ w1.heap.size 1 _ (.int .i64 (E : Int)) _ rfl rfl rfl hRS Tryd.underlying3 rfl rfl ?_; go_frame)
      | ((with_reducible change wpList _ _ _ (Oper.mk (some 15) _ _ _ _ _ :: _) _ _); refine kNeqI _ _ _ _ .i64 (E : Int) 0 false rfl rfl rfl rfl he ?_; go_frame)
      | ((with_reducible change wpList _ _ _ (Oper.mk (some 23) _ _ _ _ _ :: _) _ _); refine kS0 _ w1.heap.size rfl rfl rfl ?_; go_frame)
      | ((with_reducible change wpList _ _ _ (Oper.mk (some 24) _ _ _ _ _ :: _) _ _); refine kLoad1 _ _ _ w1.heap.size 0 _ vS _ rfl rfl rfl hRS Tryd.underlying28 rfl rfl ?_; go_frame)
      | ((with_reducible change wpList _ _ _ (Oper.mk (some 25) _ _ _ _ _ :: _) _ _); refine kLenN _ _ _ vS _ n rfl rfl rfl hVS (by rw [List.length_map, hn]) Tryd.underlying28 ?_; go_frame)
      | ((with_reducible change wpList _ _ _ (Oper.mk (some 26) _ _ _ _ _ :: _) _ _); refine kGtrI _ _ _ _ .i64 (n : Int) 0 true rfl rfl rfl rfl hn0 ?_; go_frame)
      | ((with_reducible change wpList _ _ _ (Oper.mk (some 27) _ _ _ _ _ :: _) _ _); refine kBuildTx0 rfl rfl ?_; go_frame)
      | ((with_reducible change wpList _ _ _ (Oper.mk none (Op.store 26 _ _) _ _ _ _ :: _) _ _); refine kStoreTx _ _ W0.heap.size 0 0 (.slice none 0 0) (.slice none 0 0) _ hRA7 rfl rfl rfl rfl rfl rfl rfl ?_; intro w9 hRA9 hW9; have hB9 := hB8.trans (hW9.below (Nat.le_refl _)); go_frame))
    (try simp only [Exit.inBlock, Exit.then])
    exact result_row_tmp rfl rfl rfl hRA9 Tryd.underlying26 rfl info_TxC rfl ⟨_, _, rfl, ownIns_nil _ _, ownOuts_nil _ _, hB9⟩
  · rw [if_neg n0] at hR
    subst hR
    have hn0 : decide ((n : Int) > 0) = false := by simp; omega
    clear n0
    go_enter Tryd.func25, Tryd.ntmps25
    go_wp2_with (first
      | ((with_reducible change wpList _ _ _ (Oper.mk (some 2) _ _ _ _ _ :: _) _ _); refine kAllocL _ _ rfl rfl zero_TxC ?_; intro w1 hRA hz1 hB1; have hv1 := hv.below hB1; go_frame)
      | ((with_reducible change wpList _ _ _ (Oper.mk (some 7) _ _ _ _ _ :: _) _ _); refine kBuildScanC _ v hv1 rfl rfl rfl ?_; go_frame)
      | ((with_reducible change wpList _ _ _ (Oper.mk (some 8) _ _ _ _ _ :: _) _ _); refine kBoxL _ _ _ rfl rfl rfl ?_; intro w2 hRS hz2 hB2; have h2 : Rd w1.heap.size 55 w2 w1.heap.size ⟨l, 0⟩ := ⟨v, hRS, hv1.below hB2, limR_vals hv1⟩; have hRA2 := hRA.below hB2 hRA.lt; have hgA : W0.heap.size ≠ w1.heap.size := (Nat.ne_of_lt hz1); have hge : Hid (W0.heap.size ≤ w1.heap.size) := (Nat.le_of_lt hz1); have hB3 := hB1.trans (hB2.mono hB1.size); have hz2h : Hid (W0.heap.size < w2.heap.size) := Nat.lt_trans hz1 hz2; have hl2 : Hid (w1.heap.size ≤ w2.heap.size) := Nat.le_of_lt hz2; clear hRA hRS hB1 hB2 hv1 hz1 hz2; go_frame)
      | (go_at_call 28; refine (yRead_any _ h2 hl hl2.out).mono ?_; rintro e w3 ⟨a, b, rfl, hI, hO, h3, hX3⟩; rw [hp] at h3 hI hO ⊢; have hRA3 := hX3.row hRA2 hgA; have hB4 := hB3.trans (hX3.below hge.out hB3.size); clear hRA2 hB3 hX3 h2; go_frame)
      | ((with_reducible change wpList _ _ _ (Oper.mk (some 5) _ _ _ _ _ :: _) _ _); refine kAllocL _ _ rfl rfl zero_TxC ?_; intro w5 hRB hz5 hB5; have hRA5 := hRA3.below hB5 hRA3.lt; have hAB : Hid (W0.heap.size ≠ w3.heap.size) := Nat.ne_of_lt hRA3.lt; clear hz5; go_frame)
      | ((with_reducible change wpList _ _ _ (Oper.mk none _ _ _ _ _ :: _) _ _); refine kStoreTx _ _ w3.heap.size p.1.version p.1.end' a b _ hRB rfl hI.of.sl.one hO.of.sl.one rfl rfl rfl rfl ?_; intro w7 hRB7 hW7; have hB7 := hB5.trans (hW7.below (Nat.le_refl _)); have hI7 := hI.below hB7; have hO7 := hO.below hB7; have h7 := h3.below hB7; have hRA7 := hW7.row hRA5 hAB.out; have hB8 := hB4.trans (hB7.mono hB4.size); obtain ⟨vS, hRS, hVS, hLS⟩ := id h7; rw [hE] at hRS; clear hRB hB5 hW7 hB7 hI hO h3 hRA3 hRA5 hB4; go_frame)
      | ((with_reducible change wpList _ _ _ (Oper.mk (some 13) _ _ _ _ _ :: _) _ _); refine kS1 _ w1.heap.size rfl rfl rfl ?_; go_frame)
      | ((with_reducible change wpList _ _ _ (Oper.mk (some 14) _ _ _ _ _ :: _) _ _); refine kLoad1 _ _ _ w1.heap.size 1 _ (.int .i64 (E : Int)) _ rfl rfl rfl hRS Tryd.underlying3 rfl rfl ?_; go_frame)
      | ((with_reducible change wpList _ _ _ (Oper.mk (some 15) _ _ _ _ _ :: _) _ _); refine kNeqI _ _ _ _ .i64 (E : Int) 0 false rfl rfl rfl rfl he ?_; go_frame)
      | ((with_reducible change wpList _ _ _ (Oper.mk (some 23) _ _ _ _ _ :: _) _ _); refine kS0 _ w1.heap.size rfl rfl rfl ?_; go_frame)
      | ((with_reducible change wpList _ _ _ (Oper.mk (some 24) _ _ _ _ _ :: _) _ _); refine kLoad1 _ _ _ w1.heap.size 0 _ vS _ rfl rfl rfl hRS Tryd.underlying28 rfl rfl ?_; go_frame)
      | ((with_reducible change wpList _ _ _ (Oper.mk (some 25) _ _ _ _ _ :: _) _ _); refine kLenN _ _ _ vS _ n rfl rfl rfl hVS (by rw [List.length_map, hn]) Tryd.underlying28 ?_; go_frame)
      | ((with_reducible change wpList _ _ _ (Oper.mk (some 26) _ _ _ _ _ :: _) _ _); refine kGtrI _ _ _ _ .i64 (n : Int) 0 false rfl rfl rfl rfl hn0 ?_; go_frame)
      | ((with_reducible change wpList _ _ _ (Oper.mk (some 28) _ _ _ _ _ :: _) _ _); refine kLoadTx _ _ p.1.version p.1.end' a b hRB7 rfl rfl rfl ?_; go_frame)
      | ((with_reducible change wpList _ _ _ (Oper.mk none (Op.store 26 _ _) _ _ _ _ :: _) _ _); refine kStoreTx _ _ W0.heap.size p.1.version p.1.end' a b _ hRA7 rfl hI7.of.sl.one hO7.of.sl.one rfl rfl rfl rfl ?_; intro w9 hRA9 hW9; have hB9 := hB8.trans (hW9.below (Nat.le_refl _)); have hI9 := (hI7.over (over_wrote hW9 hz2h.out)).less (Nat.le_of_lt hz2h.out); have hO9 := (hO7.over (over_wrote hW9 hz2h.out)).less (Nat.le_of_lt hz2h.out); go_frame))
    (try simp only [Exit.inBlock, Exit.then])
    exact result_row_tmp rfl rfl rfl hRA9 Tryd.underlying26 rfl info_TxC rfl ⟨_, _, rfl, hI9, hO9, hB9⟩
def HV (l : List UInt8) : Value := .agg (tab 32 fun p => VB (at8 l p))
def idL (t : TxP) : List UInt8 := sha (sha (txL t))
theorem idL_len (t : TxP) : (idL t).length = 32 := sha_len _
def HashPost (w : World) (l : List UInt8) (e : Ending) (w' : World) : Prop := e = .returned (HV l) ∧ Below w.heap.size w w'
def BoolPost (w : World) (b : Bool) (e : Ending) (w' : World) : Prop := e = .returned (.bool b) ∧ Below w.heap.size w w'
theorem txL_len {t : TxP} (h : t.Is) (hf : t.Fits) : (txL t).length ≤ 900000 := by
  rw [txL_split]
  have h1 := countL_le t.ins.length
  have h2 := countL_le t.outs.length
  have hi : ∀ l : List InP, (∀ i ∈ l, i.Is) → (∀ i ∈ l, i.unlock.length ≤ 2000) → (insL l).length ≤ l.length * 2060 := by
    intro l
    induction l with
    | nil => intro _ _; simp [insL]
    | cons x l ih =>
      intro g1 g2
      have a1 := ih (fun i hi => g1 i (by simp [hi])) (fun i hi => g2 i (by simp [hi]))
      have a2 := inL_le (g2 x (by simp)) (g1 x (by simp)).1
      have e : insL (x :: l) = inL x ++ insL l := by unfold insL; rw [List.map_cons, List.flatten_cons]
      rw [e, List.length_append, List.length_cons, Nat.add_mul]; omega
  have ho : ∀ l : List (Int × List UInt8), (∀ i ∈ l, i.2.length ≤ 2000) → (outsL l).length ≤ l.length * 2060 := by
    intro l
    induction l with
    | nil => intro _; simp [outsL]
    | cons x l ih =>
      intro g2
      have a1 := ih (fun i hi => g2 i (by simp [hi]))
      have a2 : (outPL x).length ≤ 2017 := outL_le (g2 x (by simp))
      have e : outsL (x :: l) = outPL x ++ outsL l := by unfold outsL; rw [List.map_cons, List.flatten_cons]
      rw [e, List.length_append, List.length_cons, Nat.add_mul]; omega
  have b1 := hi t.ins h.2.2.1 hf.2.2.1
  have b2 := ho t.outs hf.2.2.2
  have b3 := Nat.mul_le_mul_right 2060 hf.1
  have b4 := Nat.mul_le_mul_right 2060 hf.2.1
  simp only [List.length_append, fixedL_len]
  omega
set_option maxRecDepth 100000 in
set_option maxHeartbeats 8000000 in
theorem tId_any {t : TxP} {a b : Value} (W0 : World) (ht : t.Is) (hf : t.Fits) (ha : InsOf W0 a t.ins) (hb : OutsOf W0 b t.outs) (hK : Keys W0) : Calls Tryd.prog 19 #[.agg (txC t.version a b t.end')] W0 (HashPost W0 (idL t)) := by
  obtain ⟨iy, hiy, hzy, hsy⟩ := bysInfoC
  have hlen := txL_len ht hf
  go_enter Tryd.func19, Tryd.ntmps19
  go_wp2_with (first
    | ((with_reducible change wpList _ _ _ (Oper.mk (some 1) _ _ _ _ _ :: _) _ _); refine kBoxL _ _ _ rfl rfl rfl ?_; intro w1 hR hz1 hB1; have ha1 := ha.below hB1; have hb1 := hb.below hB1; clear hz1; go_frame)
    | ((with_reducible change wpList _ _ _ (Oper.mk (some 2) _ _ _ _ _ :: _) _ _); refine kAllocL _ _ rfl rfl zero_Hash ?_; intro w2 hRH hz2 hB2; have hR2 := hR.below hB2 hR.lt; have ha2 := ha1.below hB2; have hb2 := hb1.below hB2; have hB3 := hB1.trans (hB2.mono hB1.size); have hs1 : Hid (W0.heap.size ≤ w1.heap.size) := hB1.size; clear hR ha1 hb1 hB1 hB2 hz2; go_frame)
    | ((with_reducible change wpList _ _ _ (Oper.mk (some 3) _ _ _ _ _ :: _) _ _); refine kLoadTx _ _ t.version t.end' a b hR2 rfl rfl rfl ?_; go_frame)
    | (go_at_call 11; refine (tBytes_any _ ht hf ha2 hb2).mono ?_; rintro e w3 ⟨v, rfl, hO, hBq⟩; have hRH3 := hRH.below hBq hRH.lt; have hB4 := hB3.trans (hBq.mono hB3.size); clear hRH hB3 hBq ha2 hb2 hR2; go_frame)
    | ((with_reducible change wpList _ _ _ (Oper.mk (some 5) _ _ _ _ _ :: _) _ _); refine kBuildSlice1 _ _ _ v rfl rfl Tryd.underlying104 iy _ hiy hzy hsy rfl hO.vals.sl.one ?_; intro w4 hR4 hz4 hBq; have hAl := areLists_one hR4 (hO.vals.below hBq); have hRH4 := hRH3.below hBq hRH3.lt; have hB5 := hB4.trans (hBq.mono hB4.size); have hK5 := hK.below hB5; clear hR4 hz4 hBq hO hRH3 hB4; go_frame)
    | (go_at_call 48; refine (Twice_any [txL t] _ _ hK5 hAl (by simp) (by simp; omega)).mono ?_; rintro e w5 ⟨rfl, hBq⟩; have hRH5 := hRH4.below hBq hRH4.lt; have hB6 := hB5.trans (hBq.mono hB5.size); clear hBq hRH4 hB5 hAl hK5; rw [show [txL t].flatten = txL t by simp]; go_frame)
    | ((with_reducible change wpList _ _ _ (Oper.mk none (Op.store 30 _ _) _ _ _ _ :: _) _ _); refine kStoreRow _ _ _ _ _ _ _ rfl rfl rfl rfl hRH5 (by rw [tab_size]; exact info_Hash) (by simp only [tab_size]) (tab_one _ _ fun _ _ => rfl) ?_; intro w6 hRH6 hW6; have hB7 := hB6.trans (hW6.below hs1.out); go_frame))
  (try simp only [Exit.inBlock, Exit.then])
  exact result_row rfl rfl hRH6 Tryd.underlying30 rfl (by rw [tab_size]; exact info_Hash) rfl ⟨rfl, hB7⟩
set_option maxRecDepth 100000 in
set_option maxHeartbeats 8000000 in
theorem yId_any {t : TxP} {a b : Value} (W0 : World) (ht : t.Is) (hf : t.Fits) (ha : InsOf W0 a t.ins) (hb : OutsOf W0 b t.outs) : Calls Tryd.prog 20 #[.agg (txC t.version a b t.end')] W0 (HashPost W0 (idL t)) := by
  have hlen := txL_len ht hf
  go_enter Tryd.func20, Tryd.ntmps20
  go_wp2_with (first
    | ((with_reducible change wpList _ _ _ (Oper.mk (some 1) _ _ _ _ _ :: _) _ _); refine kBoxL _ _ _ rfl rfl rfl ?_; intro w1 hR hz1 hB1; have ha1 := ha.below hB1; have hb1 := hb.below hB1; clear hz1; go_frame)
    | ((with_reducible change wpList _ _ _ (Oper.mk (some 2) _ _ _ _ _ :: _) _ _); refine kAllocL _ _ rfl rfl zero_Hash ?_; intro w2 hRH hz2 hB2; have hR2 := hR.below hB2 hR.lt; have ha2 := ha1.below hB2; have hb2 := hb1.below hB2; have hB3 := hB1.trans (hB2.mono hB1.size); have hs1 : Hid (W0.heap.size ≤ w1.heap.size) := hB1.size; clear hR ha1 hb1 hB1 hB2 hz2; go_frame)
    | ((with_reducible change wpList _ _ _ (Oper.mk (some 3) _ _ _ _ _ :: _) _ _); refine kLoadTx _ _ t.version t.end' a b hR2 rfl rfl rfl ?_; go_frame)
    | (go_at_call 16; refine (yBytes_any _ ht hf ha2 hb2).mono ?_; rintro e w3 ⟨v, rfl, hO, hBq⟩; have hRH3 := hRH.below hBq hRH.lt; have hB4 := hB3.trans (hBq.mono hB3.size); clear hRH hB3 hBq ha2 hb2 hR2; go_frame)
    | (go_at_call 49; refine (rTwice_any (txL t) _ _ hO.vals (by omega)).mono ?_; rintro e w5 ⟨rfl, hBq⟩; have hRH5 := hRH3.below hBq hRH3.lt; have hB6 := hB4.trans (hBq.mono hB4.size); clear hBq hRH3 hB4; go_frame)
    | ((with_reducible change wpList _ _ _ (Oper.mk none (Op.store 30 _ _) _ _ _ _ :: _) _ _); refine kStoreRow _ _ _ _ _ _ _ rfl rfl rfl rfl hRH5 (by rw [tab_size]; exact info_Hash) (by simp only [tab_size]) (tab_one _ _ fun _ _ => rfl) ?_; intro w6 hRH6 hW6; have hB7 := hB6.trans (hW6.below hs1.out); go_frame))
  (try simp only [Exit.inBlock, Exit.then])
  exact result_row rfl rfl hRH6 Tryd.underlying30 rfl (by rw [tab_size]; exact info_Hash) rfl ⟨rfl, hB7⟩
end Go.Proofs.YtaoaecbdjdcpdaaDoor
