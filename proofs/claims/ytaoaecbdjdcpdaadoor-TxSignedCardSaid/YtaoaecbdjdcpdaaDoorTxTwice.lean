/-
  Layer 10: what is spent twice; which inputs are NULL; where a transaction comes from.
-/
import Derived.Test.YtaoaecbdjdcpdaaDoorSameAll
namespace Go.Proofs.YtaoaecbdjdcpdaaDoor
open Go Go.RowKit

open Go.ChangeMaps (setBlock)
section
variable {P : Program} {ops : Array Oper} {Q : Exit → Act → World → Prop} {rest : List Oper} {o : Oper} {a : Act} {w : World} {S : World → Prop}
theorem yLookup (T : TypeId) (x y : Operand) (m k v : Value) (ho : o.op = .lookup T x y false) (hg : Region.wanted o (yielded ops a.tmps) = true) (hx : a.eval x = m) (hy : a.eval y = k) (hr : ∀ w, S w → (Instr.lookup T m k false).run P w = .ok v w) : YieldsIf P ops S o v a :=
  yOf hg fun w hS => by unfold execOp; simp only [ho, hx, hy, Sem.run_bind, hr w hS, Result.andThen_ok, Sem.run_pure]
theorem kLookup (T : TypeId) (x y : Operand) (m k v : Value) (ho : o.op = .lookup T x y false) (hg : Region.wanted o (yielded ops a.tmps) = true) (hx : a.eval x = m) (hy : a.eval y = k) (hr : (Instr.lookup T m k false).run P w = .ok v w) (h : wpList P ops Q rest (a.put o.dst v) w) : wpList P ops Q (o :: rest) a w :=
  kPure v hg (by unfold execOp; simp only [ho, hx, hy, Sem.run_bind, hr, Result.andThen_ok, Sem.run_pure]) h
theorem yAddI (T T2 : TypeId) (x y : Operand) (m n z : Int) (hz : m + n = z ∧ 0 ≤ z ∧ z < 9223372036854775808) (ho : o.op = .binOp .add T x y T2) (hg : Region.wanted o (yielded ops a.tmps) = true) (hx : a.eval x = .int .i64 m) (hy : a.eval y = .int .i64 n) : YieldsIf P ops S o (.int .i64 z) a :=
  yOf hg fun w _ => by
    obtain ⟨rfl, h1, h2⟩ := hz
    have e : IntKind.i64.wrap (m + n) = m + n := by rw [IntKind.wrap_i64]; omega
    unfold execOp; simp only [ho, hx, hy]; simp [eqGuard, binOp, Op.intArith, e]
theorem yExtract (x : Operand) (i : Nat) (vs : Array Value) (v : Value) (ho : o.op = .extract x i) (hg : Region.wanted o (yielded ops a.tmps) = true) (hx : a.eval x = .tuple vs) (hv : vs[i]? = some v) : YieldsIf P ops S o v a :=
  yOf hg fun w _ => by unfold execOp; simp [ho, hx, Instr.extract, hv]
theorem kMapEntry (T : TypeId) (x y : Operand) (m k v : Value) (w1 : World) (ho : o.op = .mapEntry T x y) (hg : Region.wanted o (yielded ops a.tmps) = true) (hx : a.eval x = m) (hy : a.eval y = k) (hr : (Instr.mapEntry T m k).run P w = .ok v w1) (h : wpList P ops Q rest (a.put o.dst v) w1) : wpList P ops Q (o :: rest) a w := by
  refine BigFrame.wpList_want hg fun K hK => ?_
  unfold Oper.wp execOp
  simp only [ho, hx, hy, Sem.run_bind, hr, Result.andThen_ok, Sem.run_pure]
  exact hK _ _ h
theorem kEntryStore (T : TypeId) (x y z : Operand) (m k v : Value) (w1 : World) (ho : o.op = .entryStore T x y z) (hg : Region.wanted o (yielded ops a.tmps) = true) (hx : a.eval x = m) (hy : a.eval y = k) (hz : a.eval z = v) (hr : (Instr.entryStore T m k v).run P w = .ok () w1) (h : wpList P ops Q rest (a.put o.dst undef) w1) : wpList P ops Q (o :: rest) a w := by
  refine BigFrame.wpList_want hg fun K hK => ?_
  unfold Oper.wp execOp
  simp only [ho, hx, hy, hz, Sem.run_bind, hr, Result.andThen_ok, Sem.run_pure]
  exact hK _ _ h
theorem kMakeMap (T : TypeId) (ho : o.op = .makeMap T none) (hg : Region.wanted o (yielded ops a.tmps) = true) (h : ∀ w1 : World, w1.heap[w.heap.size]? = some (.map #[] 0) → w.heap.size < w1.heap.size → Below w.heap.size w w1 → wpList P ops Q rest (a.put o.dst (.map (some w.heap.size))) w1) : wpList P ops Q (o :: rest) a w := by
  refine BigFrame.wpList_want hg fun K hK => ?_
  unfold Oper.wp execOp
  simp only [ho, Option.map_none, Sem.run_bind, run_makeMap, Result.andThen_ok, Sem.run_pure]
  exact hK _ _ (h _ (heap_alloc_new w _) (by simp) ((Below.refl _ _).alloc (Nat.le_refl _) _))
end
def refsOf (is : List InP) : List (List UInt8 × Nat) := is.map fun i => (i.id, i.at')
def dupB (is : List InP) : Bool := decide ¬ (refsOf is).Nodup
theorem refs_at {is : List InP} {k : Nat} {i : InP} (h : is[k]? = some i) : (refsOf is)[k]? = some (i.id, i.at') := by unfold refsOf; rw [List.getElem?_map, h]; rfl
theorem refs_succ {R : List (List UInt8 × Nat)} {k : Nat} {r : List UInt8 × Nat} (h : R[k]? = some r) : R.take (k + 1) = R.take k ++ [r] := by
  obtain ⟨hk, rfl⟩ := List.getElem?_eq_some_iff.1 h
  rw [List.take_succ_eq_append_getElem hk]
theorem nodup_step {R : List (List UInt8 × Nat)} {k : Nat} {r : List UInt8 × Nat} (h : R[k]? = some r) (hn : (R.take k).Nodup) (hr : r ∉ R.take k) : (R.take (k + 1)).Nodup := by
  rw [refs_succ h, List.nodup_append]
  refine ⟨hn, by simp, fun a ha b hb => ?_⟩
  simp at hb; subst hb
  exact fun e => hr (e ▸ ha)
theorem dup_of {is : List InP} {k : Nat} {r : List UInt8 × Nat} (h : (refsOf is)[k]? = some r) (hr : r ∈ (refsOf is).take k) : dupB is = true := by
  unfold dupB
  rw [decide_eq_true_eq]
  intro hn
  have h1 : ((refsOf is).take (k + 1)).Nodup := hn.sublist (List.take_sublist _ _)
  rw [refs_succ h, List.nodup_append] at h1
  exact h1.2.2 r hr r (by simp) rfl
theorem dup_not {is : List InP} (h : (refsOf is).Nodup) : dupB is = false := by unfold dupB; simp [h]
/-- each as often as once -/
def ones (R : List (List UInt8 × Nat)) : List ((List UInt8 × Nat) × Int) := R.map fun r => (r, 1)
theorem ones_at (R : List (List UInt8 × Nat)) (q : Nat) : (ones R)[q]? = (R[q]?).map fun r => (r, (1 : Int)) := by unfold ones; rw [List.getElem?_map]
theorem ones_len (R : List (List UInt8 × Nat)) : (ones R).length = R.length := by simp [ones]
theorem ones32 {R : List (List UInt8 × Nat)} (h : ∀ r ∈ R, r.1.length = 32) : Len32 (ones R) := by
  intro e he
  unfold ones at he
  obtain ⟨r, hr, rfl⟩ := List.mem_map.1 he
  exact h r hr
theorem ones_not {R : List (List UInt8 × Nat)} {r : List UInt8 × Nat} (h : r ∉ R) : ∀ e ∈ ones R, e.1 ≠ r := by
  intro e he
  unfold ones at he
  obtain ⟨x, hx, rfl⟩ := List.mem_map.1 he
  rintro rfl; exact h hx
theorem ones_first {R : List (List UInt8 × Nat)} {r : List UInt8 × Nat} (hn : R.Nodup) {q : Nat} (hq : R[q]? = some r) : ∀ p, p < q → ∀ e, (ones R)[p]? = some e → e.1 ≠ r := by
  intro p hp e he
  rw [ones_at] at he
  cases hx : R[p]? with
  | none => rw [hx] at he; cases he
  | some x =>
    rw [hx] at he
    simp only [Option.map_some, Option.some.injEq] at he
    subst he
    rintro rfl
    have h1 := (List.getElem?_eq_some_iff.1 hx)
    have h2 := (List.getElem?_eq_some_iff.1 hq)
    obtain ⟨a1, b1⟩ := h1
    obtain ⟨a2, b2⟩ := h2
    exact (List.pairwise_iff_getElem.1 hn p q a1 a2 hp) (by rw [b1, b2])
set_option maxRecDepth 100000 in
set_option maxHeartbeats 8000000 in
theorem tTwice_any {is : List InP} {a : Value} (W0 : World) (ha : InsOf W0 a is) (hid : ∀ i ∈ is, i.id.length = 32) (hlen : is.length ≤ 1000) : Calls Tryd.prog 36 #[a] W0 (BoolPost W0 (dupB is)) := by
  obtain ⟨zs, es, ha⟩ := ha
  obtain ⟨N, hN⟩ : ∃ N, zs.length = N := ⟨_, rfl⟩
  have hiN : is.length = N := by rw [← fst_len es, hN]
  obtain ⟨R, hR⟩ : ∃ R, dupB is = R := ⟨_, rfl⟩
  rw [hR]
  have h32 : ∀ k, ∀ r ∈ (refsOf is).take k, r.1.length = 32 := by
    intro k r hr
    have := List.mem_of_mem_take hr
    unfold refsOf at this
    obtain ⟨i, hi, rfl⟩ := List.mem_map.1 this
    exact hid i hi
  go_enter Tryd.func36, Tryd.ntmps36
  go_wp2_with (first
    | ((with_reducible change wpList _ _ _ (Oper.mk (some 6) _ _ _ _ _ :: _) _ _); refine kMakeMap _ rfl rfl ?_; intro w1 hm1 hz1 hB1; have hM1 : MapRow w1 W0.heap.size (ones ((refsOf is).take 0)) := hm1; have ha1 := ha.below hB1; clear hm1 hz1; go_frame)
    | ((with_reducible change wpList _ _ _ (Oper.mk (some 8) _ _ _ _ _ :: _) _ _); refine kLenIns _ a zs N ha1 hN rfl rfl rfl ?_; go_frame))
  go_loopw [9] (fun x wr => ∃ k : Nat, k ≤ N ∧ x = .int .i64 (k : Int) ∧ MapRow wr W0.heap.size (ones ((refsOf is).take k)) ∧ ((refsOf is).take k).Nodup ∧ Below W0.heap.size W0 wr) (fun x _ => N - (intOf x).toNat)
  case atStart => exact ⟨0, by omega, rfl, hM1, by simp, hB1⟩
  case round =>
    clear hM1 ha1 hB1
    obtain ⟨k, hk, rfl, hM, hnd, hB⟩ := hrel
    have hsz := hB.size
    by_cases hlt : k < N
    · have hd : decide ((k : Int) < (N : Int)) = true := by simp; omega
      obtain ⟨⟨i, u⟩, hz⟩ : ∃ z, zs[k]? = some z := ⟨_, List.getElem?_eq_getElem (by omega)⟩
      have hik := fst_at es hz
      have hi32 := hid i (List.mem_of_getElem? hik)
      have hrk := refs_at hik
      have hu0 : IsVals W0 u (i.unlock.map VB) := ha.2 _ (List.mem_of_getElem? hz)
      have har := ha.below hB
      have hE := ones32 (h32 k)
      by_cases hin : (i.id, i.at') ∈ (refsOf is).take k
      · have hR2 : true = R := by rw [← hR, dup_of hrk hin]
        subst hR2
        clear hR
        obtain ⟨q, hq⟩ := List.mem_iff_getElem?.1 hin
        have hf := ones_first hnd hq
        have hq1 : (ones ((refsOf is).take k))[q]? = some ((i.id, i.at'), 1) := by rw [ones_at, hq]; rfl
        have hqk : q < (ones ((refsOf is).take k)).length := (List.getElem?_eq_some_iff.1 hq1).1
        obtain ⟨E, hEE⟩ : ∃ E, ones ((refsOf is).take k) = E := ⟨_, rfl⟩
        rw [hEE] at hM hE hf hq1 hqk
        clear hEE hin hq hnd h32
        go_wp2_with (first
          | ((with_reducible change wpList _ _ _ (Oper.mk (some 10) _ _ _ _ _ :: _) _ _); refine kLssI _ _ _ _ .i64 (k : Int) (N : Int) true rfl rfl rfl rfl hd ?_; go_frame)
          | ((with_reducible change wpList _ _ _ (Oper.mk (some 11) _ _ _ _ _ :: _) _ _); refine kIndexIn _ _ a zs k (i, u) har hz rfl rfl rfl rfl ?_; intro bb hbb; go_frame)
          | ((with_reducible change wpList _ _ _ (Oper.mk (some 12) _ _ _ _ _ :: _) _ _); refine kLoadInAt _ bb i u hbb rfl rfl rfl ?_; clear hbb har; go_frame)
          | ((with_reducible change wpList _ _ _ (Oper.mk (some 5) _ _ _ _ _ :: _) _ _); refine kAllocL _ _ rfl rfl zero_InC ?_; intro w5 hR5 hz5 hBq; have hB5 := hB.trans (hBq.mono hsz); have hM5 := hM.below hBq; have hne : Hid (W0.heap.size ≠ wr.heap.size) := Nat.ne_of_lt hM.lt; clear hB hM hBq hz5; go_frame)
          | ((with_reducible change wpList _ _ _ (Oper.mk none _ _ _ _ _ :: _) _ _); refine kStoreIn _ _ _ i u _ hR5 (inC_size _ _) hu0.sl.one rfl rfl rfl rfl ?_; intro w6 hR6 hW6; have hB6 := hB5.trans (hW6.below hsz); have hM6 := hM5.wrote hW6 hne.out; clear hB5 hM5 hW6 hR5; go_frame))
        refine region_mixE [(0, true), (1, true), (2, true), (3, true), (4, true), (5, false), (6, true)] 7 _ (fun w => Row w wr.heap.size 34 (inC i u) ∧ MapRow w W0.heap.size E) (by kernel_rfl) (by kernel_rfl) rfl rfl ?_
        intro b0 hBd hsd
        have hR7 := hR6.below hBd hR6.lt
        have hM7 := hM6.below hBd
        have hB7 := hB6.trans (hBd.mono hB6.size)
        clear hR6 hM6 hB6 hBd hsd
        simp only [List.map_cons, List.map_nil]
        dsimp only [List.filterMap, List.getElem?_cons_zero, List.getElem?_cons_succ]
        have hS : (fun w => Row w wr.heap.size 34 (inC i u) ∧ MapRow w W0.heap.size E) b0 := ⟨hR7, hM7⟩
        refine dY _ hS (yMove _ (.map (some W0.heap.size)) rfl rfl rfl) ?_; go_frame
        refine dY _ hS (yFld inCF0 _ _ 0 0 rfl rfl rfl rfl) ?_; go_frame
        refine dY _ hS (yLoadPartC Tryd.underlying32 rfl _ wr.heap.size 0 33 (inC i u) (refC i.id i.at') info_RefC (by rw [inC_size]; decide) (inC_ref i u) (fun _ h => h.1) rfl rfl rfl) ?_; go_frame
        refine dY _ hS (yLookup _ _ _ _ _ (.int .i64 1) rfl rfl rfl rfl (fun w h => run_lookup_some hi32 i.at' q 1 h.2 hE hq1 hf)) ?_; go_frame
        refine dY _ hS (yAddI _ _ _ _ 1 1 2 (by decide) rfl rfl rfl rfl) ?_; go_frame
        refine dLoud ?_
        refine kMapEntry _ _ _ _ _ _ _ rfl rfl rfl rfl (run_mapEntry_some hi32 i.at' q 1 hM7 hE hq1 hf) ?_
        obtain ⟨b1, hb1⟩ : ∃ b1, setBlock b0 W0.heap.size (.map (mEnts 0 E).toArray E.length) = b1 := ⟨_, rfl⟩
        have hW1 : Wrote W0.heap.size b0 b1 := by rw [← hb1]; exact wrote_setBlock _ _ _
        have hM8 : MapRow b1 W0.heap.size E := by rw [← hb1]; unfold MapRow; rw [setBlock_at _ hM7.lt]
        rw [hb1]
        have hR8 := hW1.row hR7 (Ne.symm hne.out)
        have hB8 := hB7.trans (hW1.below (Nat.le_refl _))
        clear hS hb1 hR7 hM7 hB7 hW1
        have hS : (fun w => Row w wr.heap.size 34 (inC i u) ∧ MapRow w W0.heap.size E) b1 := ⟨hR8, hM8⟩
        refine mixOn ⟨fun w => Row w wr.heap.size 34 (inC i u) ∧ MapRow w W0.heap.size E, fun _ h => h, hS, ?_⟩
        go_frame
        refine dY _ hS (yExtract _ 1 _ (.int .i64 (q : Int)) rfl rfl rfl rfl) ?_; go_frame
        refine dDone ?_
        refine kEntryStore _ _ _ _ _ _ _ _ rfl rfl rfl rfl rfl (run_entryStore _ q 2 1 (i.id, i.at') hM8 hq1) ?_
        obtain ⟨b2, hb2⟩ : ∃ b2, setBlock b1 W0.heap.size (.map (mEnts 0 (E.set q ((i.id, i.at'), 2))).toArray E.length) = b2 := ⟨_, rfl⟩
        have hW2 : Wrote W0.heap.size b1 b2 := by rw [← hb2]; exact wrote_setBlock _ _ _
        have hM9 : MapRow b2 W0.heap.size (E.set q ((i.id, i.at'), 2)) := by rw [← hb2]; unfold MapRow; rw [setBlock_at _ hM8.lt, List.length_set]
        rw [hb2]
        have hR9 := hW2.row hR8 (Ne.symm hne.out)
        have hB9 := hB8.trans (hW2.below (Nat.le_refl _))
        clear hS hb2 hR8 hM8 hB8 hW2
        refine mixOn ?_
        go_frame
        have hE9 : Len32 (E.set q ((i.id, i.at'), 2)) := fun e he => by
          rcases List.mem_or_eq_of_mem_set he with h | rfl
          · exact hE e h
          · exact hi32
        have hq9 : (E.set q ((i.id, i.at'), 2))[q]? = some ((i.id, i.at'), 2) := by rw [List.getElem?_set]; simp [hqk]
        have hf9 : ∀ p, p < q → ∀ e, (E.set q ((i.id, i.at'), 2))[p]? = some e → e.1 ≠ (i.id, i.at') := fun p hp e he => by
          rw [List.getElem?_set, if_neg (by omega)] at he; exact hf p hp e he
        go_wp2_with (first
          | ((with_reducible change wpList _ _ _ (Oper.mk (some 21) _ _ _ _ _ :: _) _ _); refine kFld inCF0 _ _ 0 0 rfl rfl rfl rfl ?_; go_frame)
          | ((with_reducible change wpList _ _ _ (Oper.mk (some 22) _ _ _ _ _ :: _) _ _); refine kLoadInRef _ _ i u hR9 rfl rfl rfl ?_; go_frame)
          | ((with_reducible change wpList _ _ _ (Oper.mk (some 23) _ _ _ _ _ :: _) _ _); refine kLookup _ _ _ _ _ (.int .i64 2) rfl rfl rfl rfl (run_lookup_some hi32 i.at' q 2 hM9 hE9 hq9 hf9) ?_; go_frame)
          | ((with_reducible change wpList _ _ _ (Oper.mk (some 24) _ _ _ _ _ :: _) _ _); refine kGtrI _ _ _ _ .i64 2 1 true rfl rfl rfl rfl (by decide) ?_; go_frame))
        (try simp only [Exit.inBlock, Exit.then])
        refine retBT rfl rfl ?_
        exact ⟨rfl, hB9⟩
      · have hno := ones_not hin
        have hnd2 := nodup_step hrk hnd hin
        have hsucc : ones ((refsOf is).take (k + 1)) = ones ((refsOf is).take k) ++ [((i.id, i.at'), 1)] := by rw [refs_succ hrk]; simp [ones]
        obtain ⟨E, hEE⟩ : ∃ E, ones ((refsOf is).take k) = E := ⟨_, rfl⟩
        rw [hEE] at hM hE hno hsucc
        have hE2 : Len32 (E ++ [((i.id, i.at'), 0)]) := fun e he => by
          rcases List.mem_append.1 he with h | h
          · exact hE e h
          · simp at h; subst h; exact hi32
        have hq2 : (E ++ [((i.id, i.at'), (0 : Int))])[E.length]? = some ((i.id, i.at'), 0) := by simp
        have hf2 : ∀ p, p < E.length → ∀ e, (E ++ [((i.id, i.at'), (0 : Int))])[p]? = some e → e.1 ≠ (i.id, i.at') := fun p hp e he => by
          rw [List.getElem?_append_left hp] at he; exact hno e (List.mem_of_getElem? he)
        have hset : (E ++ [((i.id, i.at'), (0 : Int))]).set E.length ((i.id, i.at'), 1) = E ++ [((i.id, i.at'), 1)] := by simp
        have hE9 : Len32 (E ++ [((i.id, i.at'), 1)]) := fun e he => by
          rcases List.mem_append.1 he with h | h
          · exact hE e h
          · simp at h; subst h; exact hi32
        have hq9 : (E ++ [((i.id, i.at'), (1 : Int))])[E.length]? = some ((i.id, i.at'), 1) := by simp
        have hf9 : ∀ p, p < E.length → ∀ e, (E ++ [((i.id, i.at'), (1 : Int))])[p]? = some e → e.1 ≠ (i.id, i.at') := fun p hp e he => by
          rw [List.getElem?_append_left hp] at he; exact hno e (List.mem_of_getElem? he)
        clear hEE hin hnd
        go_wp2_with (first
          | ((with_reducible change wpList _ _ _ (Oper.mk (some 10) _ _ _ _ _ :: _) _ _); refine kLssI _ _ _ _ .i64 (k : Int) (N : Int) true rfl rfl rfl rfl hd ?_; go_frame)
          | ((with_reducible change wpList _ _ _ (Oper.mk (some 11) _ _ _ _ _ :: _) _ _); refine kIndexIn _ _ a zs k (i, u) har hz rfl rfl rfl rfl ?_; intro bb hbb; go_frame)
          | ((with_reducible change wpList _ _ _ (Oper.mk (some 12) _ _ _ _ _ :: _) _ _); refine kLoadInAt _ bb i u hbb rfl rfl rfl ?_; clear hbb har; go_frame)
          | ((with_reducible change wpList _ _ _ (Oper.mk (some 5) _ _ _ _ _ :: _) _ _); refine kAllocL _ _ rfl rfl zero_InC ?_; intro w5 hR5 hz5 hBq; have hB5 := hB.trans (hBq.mono hsz); have hM5 := hM.below hBq; have hne : Hid (W0.heap.size ≠ wr.heap.size) := Nat.ne_of_lt hM.lt; clear hB hM hBq hz5; go_frame)
          | ((with_reducible change wpList _ _ _ (Oper.mk none _ _ _ _ _ :: _) _ _); refine kStoreIn _ _ _ i u _ hR5 (inC_size _ _) hu0.sl.one rfl rfl rfl rfl ?_; intro w6 hR6 hW6; have hB6 := hB5.trans (hW6.below hsz); have hM6 := hM5.wrote hW6 hne.out; clear hB5 hM5 hW6 hR5; go_frame))
        refine region_mixE [(0, true), (1, true), (2, true), (3, true), (4, true), (5, false), (6, true)] 7 _ (fun w => Row w wr.heap.size 34 (inC i u) ∧ (MapRow w W0.heap.size E ∨ MapRow w W0.heap.size (E ++ [((i.id, i.at'), 0)]))) (by kernel_rfl) (by kernel_rfl) rfl rfl ?_
        intro b0 hBd hsd
        have hR7 := hR6.below hBd hR6.lt
        have hM7 := hM6.below hBd
        have hB7 := hB6.trans (hBd.mono hB6.size)
        clear hR6 hM6 hB6 hBd hsd
        simp only [List.map_cons, List.map_nil]
        dsimp only [List.filterMap, List.getElem?_cons_zero, List.getElem?_cons_succ]
        have hS : (fun w => Row w wr.heap.size 34 (inC i u) ∧ (MapRow w W0.heap.size E ∨ MapRow w W0.heap.size (E ++ [((i.id, i.at'), 0)]))) b0 := ⟨hR7, .inl hM7⟩
        refine dY _ hS (yMove _ (.map (some W0.heap.size)) rfl rfl rfl) ?_; go_frame
        refine dY _ hS (yFld inCF0 _ _ 0 0 rfl rfl rfl rfl) ?_; go_frame
        refine dY _ hS (yLoadPartC Tryd.underlying32 rfl _ wr.heap.size 0 33 (inC i u) (refC i.id i.at') info_RefC (by rw [inC_size]; decide) (inC_ref i u) (fun _ h => h.1) rfl rfl rfl) ?_; go_frame
        refine dY _ hS (yLookup _ _ _ _ _ (.int .i64 0) rfl rfl rfl rfl (fun w h => h.2.elim (fun hm => run_lookup_none hi32 i.at' hm hE hno) (fun hm => run_lookup_some hi32 i.at' E.length 0 hm hE2 hq2 hf2))) ?_; go_frame
        refine dY _ hS (yAddI _ _ _ _ 0 1 1 (by decide) rfl rfl rfl rfl) ?_; go_frame
        refine dLoud ?_
        refine kMapEntry _ _ _ _ _ _ _ rfl rfl rfl rfl (run_mapEntry_none hi32 i.at' hM7 hE hno) ?_
        obtain ⟨b1, hb1⟩ : ∃ b1, setBlock b0 W0.heap.size (.map (mEnts 0 (E ++ [((i.id, i.at'), 0)])).toArray (E.length + 1)) = b1 := ⟨_, rfl⟩
        have hW1 : Wrote W0.heap.size b0 b1 := by rw [← hb1]; exact wrote_setBlock _ _ _
        have hM8 : MapRow b1 W0.heap.size (E ++ [((i.id, i.at'), 0)]) := by rw [← hb1]; unfold MapRow; rw [setBlock_at _ hM7.lt]; simp
        rw [hb1]
        have hR8 := hW1.row hR7 (Ne.symm hne.out)
        have hB8 := hB7.trans (hW1.below (Nat.le_refl _))
        clear hS hb1 hR7 hM7 hB7 hW1
        have hS : (fun w => Row w wr.heap.size 34 (inC i u) ∧ (MapRow w W0.heap.size E ∨ MapRow w W0.heap.size (E ++ [((i.id, i.at'), 0)]))) b1 := ⟨hR8, .inr hM8⟩
        refine mixOn ⟨fun w => Row w wr.heap.size 34 (inC i u) ∧ (MapRow w W0.heap.size E ∨ MapRow w W0.heap.size (E ++ [((i.id, i.at'), 0)])), fun _ h => h, hS, ?_⟩
        go_frame
        refine dY _ hS (yExtract _ 1 _ (.int .i64 (E.length : Int)) rfl rfl rfl rfl) ?_; go_frame
        refine dDone ?_
        refine kEntryStore _ _ _ _ _ _ _ _ rfl rfl rfl rfl rfl (run_entryStore _ E.length 1 0 (i.id, i.at') hM8 hq2) ?_
        obtain ⟨b2, hb2⟩ : ∃ b2, setBlock b1 W0.heap.size (.map (mEnts 0 ((E ++ [((i.id, i.at'), 0)]).set E.length ((i.id, i.at'), 1))).toArray (E ++ [((i.id, i.at'), 0)]).length) = b2 := ⟨_, rfl⟩
        have hW2 : Wrote W0.heap.size b1 b2 := by rw [← hb2]; exact wrote_setBlock _ _ _
        have hM9 : MapRow b2 W0.heap.size ((E ++ [((i.id, i.at'), 0)]).set E.length ((i.id, i.at'), 1)) := by rw [← hb2]; unfold MapRow; rw [setBlock_at _ hM8.lt, List.length_set]
        rw [hb2]
        have hR9 := hW2.row hR8 (Ne.symm hne.out)
        have hB9 := hB8.trans (hW2.below (Nat.le_refl _))
        clear hS hb2 hR8 hM8 hB8 hW2
        refine mixOn ?_
        go_frame
        rw [hset] at hM9
        go_wp2_with (first
          | ((with_reducible change wpList _ _ _ (Oper.mk (some 21) _ _ _ _ _ :: _) _ _); refine kFld inCF0 _ _ 0 0 rfl rfl rfl rfl ?_; go_frame)
          | ((with_reducible change wpList _ _ _ (Oper.mk (some 22) _ _ _ _ _ :: _) _ _); refine kLoadInRef _ _ i u hR9 rfl rfl rfl ?_; go_frame)
          | ((with_reducible change wpList _ _ _ (Oper.mk (some 23) _ _ _ _ _ :: _) _ _); refine kLookup _ _ _ _ _ (.int .i64 1) rfl rfl rfl rfl (run_lookup_some hi32 i.at' E.length 1 hM9 hE9 hq9 hf9) ?_; go_frame)
          | ((with_reducible change wpList _ _ _ (Oper.mk (some 24) _ _ _ _ _ :: _) _ _); refine kGtrI _ _ _ _ .i64 1 1 false rfl rfl rfl rfl (by decide) ?_; go_frame)
          | ((with_reducible change wpList _ _ _ (Oper.mk (some 25) _ _ _ _ _ :: _) _ _); refine kAddI _ _ _ _ (k : Int) 1 ((k + 1 : Nat) : Int) (by omega) rfl rfl rfl rfl ?_; go_frame))
        go_roundw
        case rel => exact ⟨k + 1, by omega, rfl, by rw [hsucc]; exact hM9, hnd2, hB9⟩
        case measure => simp [intOf]; omega
    · have hd : decide ((k : Int) < (N : Int)) = false := by simp; omega
      rw [List.take_of_length_le (by unfold refsOf; rw [List.length_map]; omega)] at hnd
      have hR2 : false = R := by rw [← hR, dup_not hnd]
      subst hR2
      clear hR
      go_wp2_with (first
        | ((with_reducible change wpList _ _ _ (Oper.mk (some 10) _ _ _ _ _ :: _) _ _); refine kLssI _ _ _ _ .i64 (k : Int) (N : Int) false rfl rfl rfl rfl hd ?_; go_frame))
      go_ret
      exact ⟨rfl, hB⟩
end Go.Proofs.YtaoaecbdjdcpdaaDoor
