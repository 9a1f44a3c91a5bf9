/-
  Joined: TxTwice, TxCheck, TxCheck2.
-/
import Derived.Test.YtmfjgehlkbndjaaGreatDoorSameAll
/-
  Layer 10: what is spent twice; which inputs are NULL; where a transaction comes from.
-/
namespace Go.Proofs.YtmfjgehlkbndjaaGreatDoor
open Go Go.RowKit

open Go.ChangeMaps (setBlock)
section
variable {P : Program} {ops : Array Oper} {Q : Exit → Act → World → Prop} {rest : List Oper} {o : Oper} {a : Act} {w : World} {S : World → Prop}
theorem yLookup (T : TypeId) (x y : Operand) (m k v : Value) (ho : o.op = .lookup T x y false) (hg : Region.wanted o (yielded ops a.tmps) = true) (hx : a.eval x = m) (hy : a.eval y = k) (hr : ∀ w, S w → (Instr.lookup T m k false).run P w = .ok v w) : YieldsIf P ops S o v a :=
  yOf hg fun w hS => by unfold execOp; simp only [ho, hx, hy, Sem.run_bind, hr w hS, Result.andThen_ok, Sem.run_pure]
theorem kLookup (T : TypeId) (x y : Operand) (m k v : Value) (ho : o.op = .lookup T x y false) (hg : Region.wanted o (yielded ops a.tmps) = true) (hx : a.eval x = m) (hy : a.eval y = k) (hr : (Instr.lookup T m k false).run P w = .ok v w) (h : wpList P ops Q rest (a.put o.dst v) w) : wpList P ops Q (o :: rest) a w :=
  kPure v hg (by unfold execOp; simp only [ho, hx, hy, Sem.run_bind, hr, Result.andThen_ok, Sem.run_pure]) h
theorem yAddI (T T2 : TypeId) (x y : Operand) (m n z : Int) (hz : m + n = z ∧ 0 ≤ z ∧ z < 9223372036854775808) (ho : o.op = .binOp .add T x y T2) (hg : Region.wanted o (yielded ops a.tmps) = true) (hx : a.eval x = .int .i64 m) (hy : a.eval y = .int .i64 n) : YieldsIf P ops S o (.int .i64 z) a :=
  yOf hg fun w _ => by
    obtain ⟨rfl, h1, h2⟩ := hz
    have e : IntKind.i64.wrap (m + n) = m + n := by rw [IntKind.wrap_i64]; omega
    unfold execOp; simp only [ho, hx, hy]; simp [eqGuard, binOp, Op.intArith, e]
theorem yExtract (x : Operand) (i : Nat) (vs : Array Value) (v : Value) (ho : o.op = .extract x i) (hg : Region.wanted o (yielded ops a.tmps) = true) (hx : a.eval x = .tuple vs) (hv : vs[i]? = some v) : YieldsIf P ops S o v a :=
  yOf hg fun w _ => by unfold execOp; simp [ho, hx, Instr.extract, hv]
theorem kMapEntry (T : TypeId) (x y : Operand) (m k v : Value) (w1 : World) (ho : o.op = .mapEntry T x y) (hg : Region.wanted o (yielded ops a.tmps) = true) (hx : a.eval x = m) (hy : a.eval y = k) (hr : (Instr.mapEntry T m k).run P w = .ok v w1) (h : wpList P ops Q rest (a.put o.dst v) w1) : wpList P ops Q (o :: rest) a w := by
  refine BigFrame.wpList_want hg fun K hK => ?_
  unfold Oper.wp execOp
  simp only [ho, hx, hy, Sem.run_bind, hr, Result.andThen_ok, Sem.run_pure]
  exact hK _ _ h
theorem kEntryStore (T : TypeId) (x y z : Operand) (m k v : Value) (w1 : World) (ho : o.op = .entryStore T x y z) (hg : Region.wanted o (yielded ops a.tmps) = true) (hx : a.eval x = m) (hy : a.eval y = k) (hz : a.eval z = v) (hr : (Instr.entryStore T m k v).run P w = .ok () w1) (h : wpList P ops Q rest (a.put o.dst undef) w1) : wpList P ops Q (o :: rest) a w := by
  refine BigFrame.wpList_want hg fun K hK => ?_
  unfold Oper.wp execOp
  simp only [ho, hx, hy, hz, Sem.run_bind, hr, Result.andThen_ok, Sem.run_pure]
  exact hK _ _ h
theorem kMakeMap (T : TypeId) (ho : o.op = .makeMap T none) (hg : Region.wanted o (yielded ops a.tmps) = true) (h : ∀ w1 : World, w1.heap[w.heap.size]? = some (.map #[] 0) → w.heap.size < w1.heap.size → Below w.heap.size w w1 → wpList P ops Q rest (a.put o.dst (.map (some w.heap.size))) w1) : wpList P ops Q (o :: rest) a w := by
  refine BigFrame.wpList_want hg fun K hK => ?_
  unfold Oper.wp execOp
  simp only [ho, Option.map_none, Sem.run_bind, run_makeMap, Result.andThen_ok, Sem.run_pure]
  exact hK _ _ (h _ (heap_alloc_new w _) (by simp) ((Below.refl _ _).alloc (Nat.le_refl _) _))
end
def refsOf (is : List InP) : List (List UInt8 × Nat) := is.map fun i => (i.id, i.at')
def dupB (is : List InP) : Bool := decide ¬ (refsOf is).Nodup
theorem refs_at {is : List InP} {k : Nat} {i : InP} (h : is[k]? = some i) : (refsOf is)[k]? = some (i.id, i.at') := by unfold refsOf; rw [List.getElem?_map, h]; rfl
theorem refs_succ {R : List (List UInt8 × Nat)} {k : Nat} {r : List UInt8 × Nat} (h : R[k]? = some r) : R.take (k + 1) = R.take k ++ [r] := by
  obtain ⟨hk, rfl⟩ := List.getElem?_eq_some_iff.1 h
  rw [List.take_succ_eq_append_getElem hk]
theorem nodup_step {R : List (List UInt8 × Nat)} {k : Nat} {r : List UInt8 × Nat} (h : R[k]? = some r) (hn : (R.take k).Nodup) (hr : r ∉ R.take k) : (R.take (k + 1)).Nodup := by
  rw [refs_succ h, List.nodup_append]
  refine ⟨hn, by simp, fun a ha b hb => ?_⟩
  simp at hb; subst hb
  exact fun e => hr (e ▸ ha)
theorem dup_of {is : List InP} {k : Nat} {r : List UInt8 × Nat} (h : (refsOf is)[k]? = some r) (hr : r ∈ (refsOf is).take k) : dupB is = true := by
  unfold dupB
  rw [decide_eq_true_eq]
  intro hn
  have h1 : ((refsOf is).take (k + 1)).Nodup := hn.sublist (List.take_sublist _ _)
  rw [refs_succ h, List.nodup_append] at h1
  exact h1.2.2 r hr r (by simp) rfl
theorem dup_not {is : List InP} (h : (refsOf is).Nodup) : dupB is = false := by unfold dupB; simp [h]
/-- each as often as once -/
def ones (R : List (List UInt8 × Nat)) : List ((List UInt8 × Nat) × Int) := R.map fun r => (r, 1)
theorem ones_at (R : List (List UInt8 × Nat)) (q : Nat) : (ones R)[q]? = (R[q]?).map fun r => (r, (1 : Int)) := by unfold ones; rw [List.getElem?_map]
theorem ones32 {R : List (List UInt8 × Nat)} (h : ∀ r ∈ R, r.1.length = 32) : Len32 (ones R) := by
  intro e he
  unfold ones at he
  obtain ⟨r, hr, rfl⟩ := List.mem_map.1 he
  exact h r hr
theorem ones_not {R : List (List UInt8 × Nat)} {r : List UInt8 × Nat} (h : r ∉ R) : ∀ e ∈ ones R, e.1 ≠ r := by
  intro e he
  unfold ones at he
  obtain ⟨x, hx, rfl⟩ := List.mem_map.1 he
  rintro rfl; exact h hx
theorem ones_first {R : List (List UInt8 × Nat)} {r : List UInt8 × Nat} (hn : R.Nodup) {q : Nat} (hq : R[q]? = some r) : ∀ p, p < q → ∀ e, (ones R)[p]? = some e → e.1 ≠ r := by
  intro p hp e he
  rw [ones_at] at he
  cases hx : R[p]? with
  | none => rw [hx] at he; cases he
  | some x =>
    rw [hx] at he
    simp only [Option.map_some, Option.some.injEq] at he
    subst he
    rintro rfl
    have h1 := (List.getElem?_eq_some_iff.1 hx)
    have h2 := (List.getElem?_eq_some_iff.1 hq)
    obtain ⟨a1, b1⟩ := h1
    obtain ⟨a2, b2⟩ := h2
    exact (List.pairwise_iff_getElem.1 hn p q a1 a2 hp) (by rw [b1, b2])
set_option maxRecDepth 100000 in
set_option maxHeartbeats 8000000 in
theorem tTwice_any {is : List InP} {a : Value} (W0 : World) (ha : InsOf W0 a is) (hid : ∀ i ∈ is, i.id.length = 32) (hlen : is.length ≤ 1000) : Calls Tryz.prog 63 #[a] W0 (BoolPost W0 (dupB is)) := by
  obtain ⟨zs, es, ha⟩ := ha
  obtain ⟨N, hN⟩ : ∃ N, zs.length = N := ⟨_, rfl⟩
  have hiN : is.length = N := by rw [← fst_len es, hN]
  obtain ⟨R, hR⟩ : ∃ R, dupB is = R := ⟨_, rfl⟩
  rw [hR]
  have h32 : ∀ k, ∀ r ∈ (refsOf is).take k, r.1.length = 32 := by
    intro k r hr
    have := List.mem_of_mem_take hr
    unfold refsOf at this
    obtain ⟨i, hi, rfl⟩ := List.mem_map.1 this
    exact hid i hi
  go_enter Tryz.func63, Tryz.ntmps63
  go_wp2_with (first
    | ((with_reducible change wpList _ _ _ (Oper.mk (some 6) _ _ _ _ _ :: _) _ _); refine kMakeMap _ rfl rfl ?_; intro w1 hm1 hz1 hB1; have hM1 : MapRow w1 W0.heap.size (ones ((refsOf is).take 0)) := hm1; have ha1 := ha.below hB1; clear hm1 hz1; go_frame)
    | ((with_reducible change wpList _ _ _ (Oper.mk (some 8) _ _ _ _ _ :: _) _ _); refine kLenIns _ a zs N ha1 hN rfl rfl rfl ?_; go_frame))
  go_loopw [9] (fun x wr => ∃ k : Nat, k ≤ N ∧ x = .int .i64 (k : Int) ∧ MapRow wr W0.heap.size (ones ((refsOf is).take k)) ∧ ((refsOf is).take k).Nodup ∧ Below W0.heap.size W0 wr) (fun x _ => N - (intOf x).toNat)
  case atStart => exact ⟨0, by omega, rfl, hM1, by simp, hB1⟩
  case round =>
    clear hM1 ha1 hB1
    obtain ⟨k, hk, rfl, hM, hnd, hB⟩ := hrel
    have hsz := hB.size
    by_cases hlt : k < N
    · have hd : decide ((k : Int) < (N : Int)) = true := by simp; omega
      obtain ⟨⟨i, u⟩, hz⟩ : ∃ z, zs[k]? = some z := ⟨_, List.getElem?_eq_getElem (by omega)⟩
      have hik := fst_at es hz
      have hi32 := hid i (List.mem_of_getElem? hik)
      have hrk := refs_at hik
      have hu0 : IsVals W0 u (i.unlock.map VB) := ha.2 _ (List.mem_of_getElem? hz)
      have har := ha.below hB
      have hE := ones32 (h32 k)
      by_cases hin : (i.id, i.at') ∈ (refsOf is).take k
      · have hR2 : true = R := by rw [← hR, dup_of hrk hin]
        subst hR2
        clear hR
        obtain ⟨q, hq⟩ := List.mem_iff_getElem?.1 hin
        have hf := ones_first hnd hq
        have hq1 : (ones ((refsOf is).take k))[q]? = some ((i.id, i.at'), 1) := by rw [ones_at, hq]; rfl
        have hqk : q < (ones ((refsOf is).take k)).length := (List.getElem?_eq_some_iff.1 hq1).1
        obtain ⟨E, hEE⟩ : ∃ E, ones ((refsOf is).take k) = E := ⟨_, rfl⟩
        rw [hEE] at hM hE hf hq1 hqk
        clear hEE hin hq hnd h32
        go_wp2_with (first
          | ((with_reducible change wpList _ _ _ (Oper.mk (some 10) _ _ _ _ _ :: _) _ _); refine kLssI _ _ _ _ .i64 (k : Int) (N : Int) true rfl rfl rfl rfl hd ?_; go_frame)
          | ((with_reducible change wpList _ _ _ (Oper.mk (some 11) _ _ _ _ _ :: _) _ _); refine kIndexIn _ _ a zs k (i, u) har hz rfl rfl rfl rfl ?_; intro bb hbb; go_frame)
          | ((with_reducible change wpList _ _ _ (Oper.mk (some 12) _ _ _ _ _ :: _) _ _); refine kLoadInAt _ bb i u hbb rfl rfl rfl ?_; clear hbb har; go_frame)
          | ((with_reducible change wpList _ _ _ (Oper.mk (some 5) _ _ _ _ _ :: _) _ _); refine kAllocL _ _ rfl rfl zero_InC ?_; intro w5 hR5 hz5 hBq; have hB5 := hB.trans (hBq.mono hsz); have hM5 := hM.below hBq; have hne : Hid (W0.heap.size ≠ wr.heap.size) := Nat.ne_of_lt hM.lt; clear hB hM hBq hz5; go_frame)
          | ((with_reducible change wpList _ _ _ (Oper.mk none _ _ _ _ _ :: _) _ _); refine kStoreIn _ _ _ i u _ hR5 (inC_size _ _) hu0.sl.one rfl rfl rfl rfl ?_; intro w6 hR6 hW6; have hB6 := hB5.trans (hW6.below hsz); have hM6 := hM5.wrote hW6 hne.out; clear hB5 hM5 hW6 hR5; go_frame))
        refine region_mixE [(0, true), (1, true), (2, true), (3, true), (4, true), (5, false), (6, true)] 7 _ (fun w => Row w wr.heap.size 62 (inC i u) ∧ MapRow w W0.heap.size E) (by kernel_rfl) (by kernel_rfl) rfl rfl ?_
        intro b0 hBd hsd
        have hR7 := hR6.below hBd hR6.lt
        have hM7 := hM6.below hBd
        have hB7 := hB6.trans (hBd.mono hB6.size)
        clear hR6 hM6 hB6 hBd hsd
        simp only [List.map_cons, List.map_nil]
        dsimp only [List.filterMap, List.getElem?_cons_zero, List.getElem?_cons_succ]
        have hS : (fun w => Row w wr.heap.size 62 (inC i u) ∧ MapRow w W0.heap.size E) b0 := ⟨hR7, hM7⟩
        refine dY _ hS (yMove _ (.map (some W0.heap.size)) rfl rfl rfl) ?_; go_frame
        refine dY _ hS (yFld inCF0 _ _ 0 0 rfl rfl rfl rfl) ?_; go_frame
        refine dY _ hS (yLoadPartC Tryz.underlying60 rfl _ wr.heap.size 0 33 (inC i u) (refC i.id i.at') info_RefC (by rw [inC_size]; decide) (inC_ref i u) (fun _ h => h.1) rfl rfl rfl) ?_; go_frame
        refine dY _ hS (yLookup _ _ _ _ _ (.int .i64 1) rfl rfl rfl rfl (fun w h => run_lookup_some hi32 i.at' q 1 h.2 hE hq1 hf)) ?_; go_frame
        refine dY _ hS (yAddI _ _ _ _ 1 1 2 (by decide) rfl rfl rfl rfl) ?_; go_frame
        refine dLoud ?_
        refine kMapEntry _ _ _ _ _ _ _ rfl rfl rfl rfl (run_mapEntry_some hi32 i.at' q 1 hM7 hE hq1 hf) ?_
        obtain ⟨b1, hb1⟩ : ∃ b1, setBlock b0 W0.heap.size (.map (mEnts 0 E).toArray E.length) = b1 := ⟨_, rfl⟩
        have hW1 : Wrote W0.heap.size b0 b1 := by rw [← hb1]; exact wrote_setBlock _ _ _
        have hM8 : MapRow b1 W0.heap.size E := by rw [← hb1]; unfold MapRow; rw [setBlock_at _ hM7.lt]
        rw [hb1]
        have hR8 := hW1.row hR7 (Ne.symm hne.out)
        have hB8 := hB7.trans (hW1.below (Nat.le_refl _))
        clear hS hb1 hR7 hM7 hB7 hW1
        have hS : (fun w => Row w wr.heap.size 62 (inC i u) ∧ MapRow w W0.heap.size E) b1 := ⟨hR8, hM8⟩
        refine mixOn ⟨fun w => Row w wr.heap.size 62 (inC i u) ∧ MapRow w W0.heap.size E, fun _ h => h, hS, ?_⟩
        go_frame
        refine dY _ hS (yExtract _ 1 _ (.int .i64 (q : Int)) rfl rfl rfl rfl) ?_; go_frame
        refine dDone ?_
        refine kEntryStore _ _ _ _ _ _ _ _ rfl rfl rfl rfl rfl (run_entryStore _ q 2 1 (i.id, i.at') hM8 hq1) ?_
        obtain ⟨b2, hb2⟩ : ∃ b2, setBlock b1 W0.heap.size (.map (mEnts 0 (E.set q ((i.id, i.at'), 2))).toArray E.length) = b2 := ⟨_, rfl⟩
        have hW2 : Wrote W0.heap.size b1 b2 := by rw [← hb2]; exact wrote_setBlock _ _ _
        have hM9 : MapRow b2 W0.heap.size (E.set q ((i.id, i.at'), 2)) := by rw [← hb2]; unfold MapRow; rw [setBlock_at _ hM8.lt, List.length_set]
        rw [hb2]
        have hR9 := hW2.row hR8 (Ne.symm hne.out)
        have hB9 := hB8.trans (hW2.below (Nat.le_refl _))
        clear hS hb2 hR8 hM8 hB8 hW2
        refine mixOn ?_
        go_frame
        have hE9 : Len32 (E.set q ((i.id, i.at'), 2)) := fun e he => by
          rcases List.mem_or_eq_of_mem_set he with h | rfl
          · exact hE e h
          · exact hi32
        have hq9 : (E.set q ((i.id, i.at'), 2))[q]? = some ((i.id, i.at'), 2) := by rw [List.getElem?_set]; simp [hqk]
        have hf9 : ∀ p, p < q → ∀ e, (E.set q ((i.id, i.at'), 2))[p]? = some e → e.1 ≠ (i.id, i.at') := fun p hp e he => by
          rw [List.getElem?_set, if_neg (by omega)] at he; exact hf p hp e he
        go_wp2_with (first
          | ((with_reducible change wpList _ _ _ (Oper.mk (some 21) _ _ _ _ _ :: _) _ _); refine kFld inCF0 _ _ 0 0 rfl rfl rfl rfl ?_; go_frame)
          | ((with_reducible change wpList _ _ _ (Oper.mk (some 22) _ _ _ _ _ :: _) _ _); refine kLoadInRef _ _ i u hR9 rfl rfl rfl ?_; go_frame)
          | ((with_reducible change wpList _ _ _ (Oper.mk (some 23) _ _ _ _ _ :: _) _ _); refine kLookup _ _ _ _ _ (.int .i64 2) rfl rfl rfl rfl (run_lookup_some hi32 i.at' q 2 hM9 hE9 hq9 hf9) ?_; go_frame)
          | ((with_reducible change wpList _ _ _ (Oper.mk (some 24) _ _ _ _ _ :: _) _ _); refine kGtrI _ _ _ _ .i64 2 1 true rfl rfl rfl rfl (by decide) ?_; go_frame))
        (try simp only [Exit.inBlock, Exit.then])
        refine retBT rfl rfl ?_
        exact ⟨rfl, hB9⟩
      · have hno := ones_not hin
        have hnd2 := nodup_step hrk hnd hin
        have hsucc : ones ((refsOf is).take (k + 1)) = ones ((refsOf is).take k) ++ [((i.id, i.at'), 1)] := by rw [refs_succ hrk]; simp [ones]
        obtain ⟨E, hEE⟩ : ∃ E, ones ((refsOf is).take k) = E := ⟨_, rfl⟩
        rw [hEE] at hM hE hno hsucc
        have hE2 : Len32 (E ++ [((i.id, i.at'), 0)]) := fun e he => by
          rcases List.mem_append.1 he with h | h
          · exact hE e h
          · simp at h; subst h; exact hi32
        have hq2 : (E ++ [((i.id, i.at'), (0 : Int))])[E.length]? = some ((i.id, i.at'), 0) := by simp
        have hf2 : ∀ p, p < E.length → ∀ e, (E ++ [((i.id, i.at'), (0 : Int))])[p]? = some e → e.1 ≠ (i.id, i.at') := fun p hp e he => by
          rw [List.getElem?_append_left hp] at he; exact hno e (List.mem_of_getElem? he)
        have hset : (E ++ [((i.id, i.at'), (0 : Int))]).set E.length ((i.id, i.at'), 1) = E ++ [((i.id, i.at'), 1)] := by simp
        have hE9 : Len32 (E ++ [((i.id, i.at'), 1)]) := fun e he => by
          rcases List.mem_append.1 he with h | h
          · exact hE e h
          · simp at h; subst h; exact hi32
        have hq9 : (E ++ [((i.id, i.at'), (1 : Int))])[E.length]? = some ((i.id, i.at'), 1) := by simp
        have hf9 : ∀ p, p < E.length → ∀ e, (E ++ [((i.id, i.at'), (1 : Int))])[p]? = some e → e.1 ≠ (i.id, i.at') := fun p hp e he => by
          rw [List.getElem?_append_left hp] at he; exact hno e (List.mem_of_getElem? he)
        clear hEE hin hnd
        go_wp2_with (first
          | ((with_reducible change wpList _ _ _ (Oper.mk (some 10) _ _ _ _ _ :: _) _ _); refine kLssI _ _ _ _ .i64 (k : Int) (N : Int) true rfl rfl rfl rfl hd ?_; go_frame)
          | ((with_reducible change wpList _ _ _ (Oper.mk (some 11) _ _ _ _ _ :: _) _ _); refine kIndexIn _ _ a zs k (i, u) har hz rfl rfl rfl rfl ?_; intro bb hbb; go_frame)
          | ((with_reducible change wpList _ _ _ (Oper.mk (some 12) _ _ _ _ _ :: _) _ _); refine kLoadInAt _ bb i u hbb rfl rfl rfl ?_; clear hbb har; go_frame)
          | ((with_reducible change wpList _ _ _ (Oper.mk (some 5) _ _ _ _ _ :: _) _ _); refine kAllocL _ _ rfl rfl zero_InC ?_; intro w5 hR5 hz5 hBq; have hB5 := hB.trans (hBq.mono hsz); have hM5 := hM.below hBq; have hne : Hid (W0.heap.size ≠ wr.heap.size) := Nat.ne_of_lt hM.lt; clear hB hM hBq hz5; go_frame)
          | ((with_reducible change wpList _ _ _ (Oper.mk none _ _ _ _ _ :: _) _ _); refine kStoreIn _ _ _ i u _ hR5 (inC_size _ _) hu0.sl.one rfl rfl rfl rfl ?_; intro w6 hR6 hW6; have hB6 := hB5.trans (hW6.below hsz); have hM6 := hM5.wrote hW6 hne.out; clear hB5 hM5 hW6 hR5; go_frame))
        refine region_mixE [(0, true), (1, true), (2, true), (3, true), (4, true), (5, false), (6, true)] 7 _ (fun w => Row w wr.heap.size 62 (inC i u) ∧ (MapRow w W0.heap.size E ∨ MapRow w W0.heap.size (E ++ [((i.id, i.at'), 0)]))) (by kernel_rfl) (by kernel_rfl) rfl rfl ?_
        intro b0 hBd hsd
        have hR7 := hR6.below hBd hR6.lt
        have hM7 := hM6.below hBd
        have hB7 := hB6.trans (hBd.mono hB6.size)
        clear hR6 hM6 hB6 hBd hsd
        simp only [List.map_cons, List.map_nil]
        dsimp only [List.filterMap, List.getElem?_cons_zero, List.getElem?_cons_succ]
        have hS : (fun w => Row w wr.heap.size 62 (inC i u) ∧ (MapRow w W0.heap.size E ∨ MapRow w W0.heap.size (E ++ [((i.id, i.at'), 0)]))) b0 := ⟨hR7, .inl hM7⟩
        refine dY _ hS (yMove _ (.map (some W0.heap.size)) rfl rfl rfl) ?_; go_frame
        refine dY _ hS (yFld inCF0 _ _ 0 0 rfl rfl rfl rfl) ?_; go_frame
        refine dY _ hS (yLoadPartC Tryz.underlying60 rfl _ wr.heap.size 0 33 (inC i u) (refC i.id i.at') info_RefC (by rw [inC_size]; decide) (inC_ref i u) (fun _ h => h.1) rfl rfl rfl) ?_; go_frame
        refine dY _ hS (yLookup _ _ _ _ _ (.int .i64 0) rfl rfl rfl rfl (fun w h => h.2.elim (fun hm => run_lookup_none hi32 i.at' hm hE hno) (fun hm => run_lookup_some hi32 i.at' E.length 0 hm hE2 hq2 hf2))) ?_; go_frame
        refine dY _ hS (yAddI _ _ _ _ 0 1 1 (by decide) rfl rfl rfl rfl) ?_; go_frame
        refine dLoud ?_
        refine kMapEntry _ _ _ _ _ _ _ rfl rfl rfl rfl (run_mapEntry_none hi32 i.at' hM7 hE hno) ?_
        obtain ⟨b1, hb1⟩ : ∃ b1, setBlock b0 W0.heap.size (.map (mEnts 0 (E ++ [((i.id, i.at'), 0)])).toArray (E.length + 1)) = b1 := ⟨_, rfl⟩
        have hW1 : Wrote W0.heap.size b0 b1 := by rw [← hb1]; exact wrote_setBlock _ _ _
        have hM8 : MapRow b1 W0.heap.size (E ++ [((i.id, i.at'), 0)]) := by rw [← hb1]; unfold MapRow; rw [setBlock_at _ hM7.lt]; simp
        rw [hb1]
        have hR8 := hW1.row hR7 (Ne.symm hne.out)
        have hB8 := hB7.trans (hW1.below (Nat.le_refl _))
        clear hS hb1 hR7 hM7 hB7 hW1
        have hS : (fun w => Row w wr.heap.size 62 (inC i u) ∧ (MapRow w W0.heap.size E ∨ MapRow w W0.heap.size (E ++ [((i.id, i.at'), 0)]))) b1 := ⟨hR8, .inr hM8⟩
        refine mixOn ⟨fun w => Row w wr.heap.size 62 (inC i u) ∧ (MapRow w W0.heap.size E ∨ MapRow w W0.heap.size (E ++ [((i.id, i.at'), 0)])), fun _ h => h, hS, ?_⟩
        go_frame
        refine dY _ hS (yExtract _ 1 _ (.int .i64 (E.length : Int)) rfl rfl rfl rfl) ?_; go_frame
        refine dDone ?_
        refine kEntryStore _ _ _ _ _ _ _ _ rfl rfl rfl rfl rfl (run_entryStore _ E.length 1 0 (i.id, i.at') hM8 hq2) ?_
        obtain ⟨b2, hb2⟩ : ∃ b2, setBlock b1 W0.heap.size (.map (mEnts 0 ((E ++ [((i.id, i.at'), 0)]).set E.length ((i.id, i.at'), 1))).toArray (E ++ [((i.id, i.at'), 0)]).length) = b2 := ⟨_, rfl⟩
        have hW2 : Wrote W0.heap.size b1 b2 := by rw [← hb2]; exact wrote_setBlock _ _ _
        have hM9 : MapRow b2 W0.heap.size ((E ++ [((i.id, i.at'), 0)]).set E.length ((i.id, i.at'), 1)) := by rw [← hb2]; unfold MapRow; rw [setBlock_at _ hM8.lt, List.length_set]
        rw [hb2]
        have hR9 := hW2.row hR8 (Ne.symm hne.out)
        have hB9 := hB8.trans (hW2.below (Nat.le_refl _))
        clear hS hb2 hR8 hM8 hB8 hW2
        refine mixOn ?_
        go_frame
        rw [hset] at hM9
        go_wp2_with (first
          | ((with_reducible change wpList _ _ _ (Oper.mk (some 21) _ _ _ _ _ :: _) _ _); refine kFld inCF0 _ _ 0 0 rfl rfl rfl rfl ?_; go_frame)
          | ((with_reducible change wpList _ _ _ (Oper.mk (some 22) _ _ _ _ _ :: _) _ _); refine kLoadInRef _ _ i u hR9 rfl rfl rfl ?_; go_frame)
          | ((with_reducible change wpList _ _ _ (Oper.mk (some 23) _ _ _ _ _ :: _) _ _); refine kLookup _ _ _ _ _ (.int .i64 1) rfl rfl rfl rfl (run_lookup_some hi32 i.at' E.length 1 hM9 hE9 hq9 hf9) ?_; go_frame)
          | ((with_reducible change wpList _ _ _ (Oper.mk (some 24) _ _ _ _ _ :: _) _ _); refine kGtrI _ _ _ _ .i64 1 1 false rfl rfl rfl rfl (by decide) ?_; go_frame)
          | ((with_reducible change wpList _ _ _ (Oper.mk (some 25) _ _ _ _ _ :: _) _ _); refine kAddI _ _ _ _ (k : Int) 1 ((k + 1 : Nat) : Int) (by omega) rfl rfl rfl rfl ?_; go_frame))
        go_roundw
        case rel => exact ⟨k + 1, by omega, rfl, by rw [hsucc]; exact hM9, hnd2, hB9⟩
        case measure => simp [intOf]; omega
    · have hd : decide ((k : Int) < (N : Int)) = false := by simp; omega
      rw [List.take_of_length_le (by unfold refsOf; rw [List.length_map]; omega)] at hnd
      have hR2 : false = R := by rw [← hR, dup_not hnd]
      subst hR2
      clear hR
      go_wp2_with (first
        | ((with_reducible change wpList _ _ _ (Oper.mk (some 10) _ _ _ _ _ :: _) _ _); refine kLssI _ _ _ _ .i64 (k : Int) (N : Int) false rfl rfl rfl rfl hd ?_; go_frame))
      go_ret
      exact ⟨rfl, hB⟩
end Go.Proofs.YtmfjgehlkbndjaaGreatDoor

/-
  Layer 10: can it be: the program's Check.
-/
namespace Go.Proofs.YtmfjgehlkbndjaaGreatDoor
open Go Go.RowKit

def badI (b : Bool) (i : InP) : Bool := bif b then (decide (i.unlock.length < 2) || decide (100 < i.unlock.length)) else nullI i
def comesB (is : List InP) : Bool := !(is.any (badI (baseB is)))
def checkN (t : TxP) : Int := bif decide (t.ins.length = 0) then 101 else bif decide (t.outs.length = 0) then 101 else bif decide (5000 < (txL t).length) then 101 else bif (sumS 0 (t.outs.map Prod.fst)).isNone then 91 else bif dupB t.ins then 101 else bif comesB t.ins then 0 else 101
theorem inC_33i (i : InP) (u : Value) : (inR (i, u))[33]? = some u := by simp [inR]
section
variable {ops : Array Oper} {Q : Exit → Act → World → Prop} {rest : List Oper} {o : Oper} {a : Act} {w : World}
/-- the only one -/
theorem kIndexIn1 (x y : Operand) (v : Value) (i : InP) (k : Int) (hv : InsOf w v [i]) (ho : o.op = .indexAddr 31 x y) (hg : Region.wanted o (yielded ops a.tmps) = true) (hx : a.eval x = v) (hk : k = 0) (hy : a.eval y = .int .i64 k)
    (h : ∀ (b : Addr) (u : Value), (∀ (j : Nat) (t : Value), (inR (i, u))[j]? = some t → w.cell? (b.add j) = some t) → IsVals w u (i.unlock.map VB) → wpList Tryz.prog ops Q rest (a.put o.dst (.pointer (some b))) w) : wpList Tryz.prog ops Q (o :: rest) a w := by
  subst hk
  obtain ⟨zs, es, hz⟩ := hv
  match zs, es, hz with
  | [(j, u)], es, hz =>
    simp at es
    subst es
    exact kIndexIn x y v _ 0 (j, u) hz rfl ho hg hx hy fun b hb => h b u hb (hz.2 (j, u) (by simp))
  | [], es, _ => simp at es
  | x :: y :: zs, es, _ => simp at es
end
theorem baseB_one {is : List InP} (h : baseB is = true) : ∃ i, is = [i] := by
  match is, h with
  | [i], _ => exact ⟨i, rfl⟩
  | [], h => cases h
  | i :: j :: is, h => cases h
theorem any_step {p : InP → Bool} {is : List InP} {k : Nat} {i : InP} (h : is[k]? = some i) : (is.drop k).any p = (p i || (is.drop (k + 1)).any p) := by
  obtain ⟨hk, rfl⟩ := List.getElem?_eq_some_iff.1 h
  rw [List.drop_eq_getElem_cons hk]; rfl
set_option maxRecDepth 100000 in
set_option maxHeartbeats 8000000 in
theorem insIndex_any {is : List InP} {a : Value} (W0 : World) (ha : InsOf W0 a is) (hid : ∀ i ∈ is, i.id.length = 32) (hlen : is.length ≤ 1000) : Calls Tryz.prog 115 #[a, .func (.func 94) #[] #[]] W0 fun e w' => ∃ z : Int, e = .returned (.int .i64 z) ∧ decide (z ≥ 0) = is.any nullI ∧ Below W0.heap.size W0 w' := by
  obtain ⟨zs, es, ha⟩ := ha
  obtain ⟨N, hN⟩ : ∃ N, zs.length = N := ⟨_, rfl⟩
  have hiN : is.length = N := by rw [← fst_len es, hN]
  obtain ⟨R, hR⟩ : ∃ R, is.any nullI = R := ⟨_, rfl⟩
  rw [hR]
  go_enter Tryz.func115, Tryz.ntmps115
  go_wp2_with (first
    | ((with_reducible change wpList _ _ _ (Oper.mk (some 7) _ _ _ _ _ :: _) _ _); refine kLenIns _ a zs N ha hN rfl rfl rfl ?_; go_frame))
  go_loopw [8] (fun x wr => ∃ k : Nat, k ≤ N ∧ x = .int .i64 (k : Int) ∧ (is.drop k).any nullI = R ∧ Below W0.heap.size W0 wr) (fun x _ => N - (intOf x).toNat)
  case atStart => exact ⟨0, by omega, rfl, by rw [List.drop_zero]; exact hR, Below.refl _ _⟩
  case round =>
    clear hR
    obtain ⟨k, hk, rfl, hR, hB⟩ := hrel
    by_cases hlt : k < N
    · have hd : decide ((k : Int) < (N : Int)) = true := by simp; omega
      obtain ⟨⟨i, u⟩, hz⟩ : ∃ z, zs[k]? = some z := ⟨_, List.getElem?_eq_getElem (by omega)⟩
      have hik := fst_at es hz
      have hii := hid i (List.mem_of_getElem? hik)
      have har := ha.below hB
      rw [any_step hik] at hR
      obtain ⟨c, hc⟩ : ∃ c, nullI i = c := ⟨_, rfl⟩
      rw [hc] at hR
      cases c
      · rw [Bool.false_or] at hR
        go_wp2_with (first
          | ((with_reducible change wpList _ _ _ (Oper.mk (some 9) _ _ _ _ _ :: _) _ _); refine kLssI _ _ _ _ .i64 (k : Int) (N : Int) true rfl rfl rfl rfl hd ?_; go_frame)
          | ((with_reducible change wpList _ _ _ (Oper.mk (some 14) _ _ _ _ _ :: _) _ _); refine kIndexIn _ _ a zs k (i, u) har hz rfl rfl rfl rfl ?_; intro bb hbb; go_frame)
          | ((with_reducible change wpList _ _ _ (Oper.mk (some 15) _ _ _ _ _ :: _) _ _); refine kLoadInAt _ bb i u hbb rfl rfl rfl ?_; clear hbb har; go_frame)
          | (go_at_call 94; refine (tNull_any _ hii).mono ?_; rintro e w2 ⟨rfl, hBq⟩; have hB2 := hB.trans (hBq.mono hB.size); rw [hc]; clear hBq hB; go_frame)
          | ((with_reducible change wpList _ _ _ (Oper.mk (some 18) _ _ _ _ _ :: _) _ _); refine kAddI _ _ _ _ (k : Int) 1 ((k + 1 : Nat) : Int) (by omega) rfl rfl rfl rfl ?_; go_frame))
        go_roundw
        case rel => exact ⟨k + 1, by omega, rfl, hR, hB2⟩
        case measure => simp [intOf]; omega
      · rw [Bool.true_or] at hR
        subst hR
        go_wp2_with (first
          | ((with_reducible change wpList _ _ _ (Oper.mk (some 9) _ _ _ _ _ :: _) _ _); refine kLssI _ _ _ _ .i64 (k : Int) (N : Int) true rfl rfl rfl rfl hd ?_; go_frame)
          | ((with_reducible change wpList _ _ _ (Oper.mk (some 14) _ _ _ _ _ :: _) _ _); refine kIndexIn _ _ a zs k (i, u) har hz rfl rfl rfl rfl ?_; intro bb hbb; go_frame)
          | ((with_reducible change wpList _ _ _ (Oper.mk (some 15) _ _ _ _ _ :: _) _ _); refine kLoadInAt _ bb i u hbb rfl rfl rfl ?_; clear hbb har; go_frame)
          | (go_at_call 94; refine (tNull_any _ hii).mono ?_; rintro e w2 ⟨rfl, hBq⟩; have hB2 := hB.trans (hBq.mono hB.size); rw [hc]; clear hBq hB; go_frame)
          | ((with_reducible change wpList _ _ _ (Oper.mk (some 18) _ _ _ _ _ :: _) _ _); refine kAddI _ _ _ _ (k : Int) 1 ((k + 1 : Nat) : Int) (by omega) rfl rfl rfl rfl ?_; go_frame))
        (try simp only [Exit.inBlock, Exit.then])
        refine retBT rfl rfl ?_
        exact ⟨(k : Int), rfl, by simp, hB2⟩
    · have hd : decide ((k : Int) < (N : Int)) = false := by simp; omega
      have hR1 : false = R := by rw [← hR, List.drop_of_length_le (by omega)]; rfl
      subst hR1
      go_wp2_with (first
        | ((with_reducible change wpList _ _ _ (Oper.mk (some 9) _ _ _ _ _ :: _) _ _); refine kLssI _ _ _ _ .i64 (k : Int) (N : Int) false rfl rfl rfl rfl hd ?_; go_frame))
      go_ret
      exact ⟨-1, rfl, by decide, hB⟩
set_option maxRecDepth 100000 in
set_option maxHeartbeats 8000000 in
theorem insHas_any {is : List InP} {a : Value} (W0 : World) (ha : InsOf W0 a is) (hid : ∀ i ∈ is, i.id.length = 32) (hlen : is.length ≤ 1000) : Calls Tryz.prog 97 #[a, .func (.func 94) #[] #[]] W0 (BoolPost W0 (is.any nullI)) := by
  go_enter Tryz.func97, Tryz.ntmps97
  go_wp2_with (first
    | (go_at_call 115; refine (insIndex_any _ ha hid hlen).mono ?_; rintro e w1 ⟨z, rfl, hz, hB⟩; go_frame)
    | ((with_reducible change wpList _ _ _ (Oper.mk (some 8) _ _ _ _ _ :: _) _ _); refine kGeqI _ _ _ _ .i64 z 0 _ rfl rfl rfl rfl hz ?_; go_frame))
  go_ret
  exact ⟨rfl, hB⟩
set_option maxRecDepth 100000 in
set_option maxHeartbeats 8000000 in
theorem tComes_any {is : List InP} {n e : Nat} {a b : Value} (W0 : World) (ha : InsOf W0 a is) (hid : ∀ i ∈ is, i.id.length = 32) (hlen : is.length ≤ 1000) : Calls Tryz.prog 64 #[.agg (txC n a b e)] W0 (BoolPost W0 (comesB is)) := by
  unfold comesB
  obtain ⟨bb, hbb⟩ : ∃ bb, baseB is = bb := ⟨_, rfl⟩
  rw [hbb]
  cases bb
  · rw [show is.any (badI false) = is.any nullI by congr 1]
    go_enter Tryz.func64, Tryz.ntmps64
    go_wp2_with (first
      | ((with_reducible change wpList _ _ _ (Oper.mk (some 1) _ _ _ _ _ :: _) _ _); refine kBoxL _ _ _ rfl rfl rfl ?_; intro w1 hR hz1 hB; have ha1 := ha.below hB; clear hz1; go_frame)
      | ((with_reducible change wpList _ _ _ (Oper.mk (some 4) _ _ _ _ _ :: _) _ _); refine kLoadTx _ _ n e a b hR rfl rfl rfl ?_; go_frame)
      | (go_at_call 60; refine (tBase_any _ ha1 hid).mono ?_; rintro e w2 ⟨rfl, hBq⟩; rw [hbb]; have hB2 := hB.trans (hBq.mono hB.size); have ha2 := ha1.below hBq; have hR2 := hR.below hBq hR.lt; clear hB hBq ha1 hR; go_frame)
      | ((with_reducible change wpList _ _ _ (Oper.mk (some 18) _ _ _ _ _ :: _) _ _); refine kFld txCF1 _ _ 0 1 rfl rfl rfl rfl ?_; go_frame)
      | ((with_reducible change wpList _ _ _ (Oper.mk (some 19) _ _ _ _ _ :: _) _ _); refine kLd Tryz.underlying31 rfl _ _ 1 _ a hR2 rfl rfl rfl rfl ?_; go_frame)
      | (go_at_call 97; refine (insHas_any _ ha2 hid hlen).mono ?_; rintro e w3 ⟨rfl, hBq⟩; have hB3 := hB2.trans (hBq.mono hB2.size); clear hBq; go_frame)
      | ((with_reducible change wpList _ _ _ (Oper.mk (some 21) _ _ _ _ _ :: _) _ _); refine kNot _ _ _ rfl rfl rfl ?_; go_frame))
    go_ret
    exact ⟨rfl, hB3⟩
  · obtain ⟨i, rfl⟩ := baseB_one hbb
    obtain ⟨N, hN⟩ : ∃ N, i.unlock.length = N := ⟨_, rfl⟩
    have hs : (!([i].any (badI true))) = (decide (2 ≤ N) && decide (N ≤ 100)) := by
      rw [← hN, Bool.eq_iff_iff]
      simp [badI]
    rw [hs]
    obtain ⟨c1, h1⟩ : ∃ c, decide (2 ≤ N) = c := ⟨_, rfl⟩
    obtain ⟨c2, h2⟩ : ∃ c, decide (N ≤ 100) = c := ⟨_, rfl⟩
    rw [h1, h2]
    have h1' : decide ((N : Int) ≥ 2) = c1 := by rw [← h1]; exact decide_eq_decide.2 (by omega)
    have h2' : decide ((N : Int) ≤ 100) = c2 := by rw [← h2]; exact decide_eq_decide.2 (by omega)
    clear h1 h2 hs
    cases c1
    · go_enter Tryz.func64, Tryz.ntmps64
      go_wp2_with (first
        | ((with_reducible change wpList _ _ _ (Oper.mk (some 1) _ _ _ _ _ :: _) _ _); refine kBoxL _ _ _ rfl rfl rfl ?_; intro w1 hR hz1 hB; have ha1 := ha.below hB; clear hz1; go_frame)
        | ((with_reducible change wpList _ _ _ (Oper.mk (some 4) _ _ _ _ _ :: _) _ _); refine kLoadTx _ _ n e a b hR rfl rfl rfl ?_; go_frame)
        | (go_at_call 60; refine (tBase_any _ ha1 hid).mono ?_; rintro e w2 ⟨rfl, hBq⟩; rw [hbb]; have hB2 := hB.trans (hBq.mono hB.size); have ha2 := ha1.below hBq; have hR2 := hR.below hBq hR.lt; clear hB hBq ha1 hR; go_frame)
        | ((with_reducible change wpList _ _ _ (Oper.mk (some 6) _ _ _ _ _ :: _) _ _); refine kFld txCF1 _ _ 0 1 rfl rfl rfl rfl ?_; go_frame)
        | ((with_reducible change wpList _ _ _ (Oper.mk (some 7) _ _ _ _ _ :: _) _ _); refine kLd Tryz.underlying31 rfl _ _ 1 _ a hR2 rfl rfl rfl rfl ?_; go_frame)
        | ((with_reducible change wpList _ _ _ (Oper.mk (some 8) _ _ _ _ _ :: _) _ _); refine kIndexIn1 _ _ a i _ ha2 rfl rfl rfl rfl rfl ?_; intro bd u hbd hu; go_frame)
        | ((with_reducible change wpList _ _ _ (Oper.mk (some 9) _ _ _ _ _ :: _) _ _); refine kFldAtN inCF1 _ bd rfl rfl rfl ?_; go_frame)
        | ((with_reducible change wpList _ _ _ (Oper.mk (some 10) _ _ _ _ _ :: _) _ _); refine kLoadAt Tryz.underlying38 rfl _ _ u (hbd 33 u (inC_33i i u)) rfl rfl rfl ?_; clear hbd; go_frame)
        | ((with_reducible change wpList _ _ _ (Oper.mk (some 11) _ _ _ _ _ :: _) _ _); refine kLenN _ _ _ u _ N rfl rfl rfl hu (by rw [List.length_map, hN]) Tryz.underlying38 ?_; go_frame)
        | ((with_reducible change wpList _ _ _ (Oper.mk (some 13) _ _ _ _ _ :: _) _ _); refine kGeqI _ _ _ _ .i64 (N : Int) 2 _ rfl rfl rfl rfl h1' ?_; go_frame)
        | ((with_reducible change wpList _ _ _ (Oper.mk (some 16) _ _ _ _ _ :: _) _ _); refine kLeqI _ _ _ _ .i64 (N : Int) 100 _ rfl rfl rfl rfl h2' ?_; go_frame))
      go_ret
      exact ⟨rfl, hB2⟩
    go_enter Tryz.func64, Tryz.ntmps64
    go_wp2_with (first
      | ((with_reducible change wpList _ _ _ (Oper.mk (some 1) _ _ _ _ _ :: _) _ _); refine kBoxL _ _ _ rfl rfl rfl ?_; intro w1 hR hz1 hB; have ha1 := ha.below hB; clear hz1; go_frame)
      | ((with_reducible change wpList _ _ _ (Oper.mk (some 4) _ _ _ _ _ :: _) _ _); refine kLoadTx _ _ n e a b hR rfl rfl rfl ?_; go_frame)
      | (go_at_call 60; refine (tBase_any _ ha1 hid).mono ?_; rintro e w2 ⟨rfl, hBq⟩; rw [hbb]; have hB2 := hB.trans (hBq.mono hB.size); have ha2 := ha1.below hBq; have hR2 := hR.below hBq hR.lt; clear hB hBq ha1 hR; go_frame)
      | ((with_reducible change wpList _ _ _ (Oper.mk (some 6) _ _ _ _ _ :: _) _ _); refine kFld txCF1 _ _ 0 1 rfl rfl rfl rfl ?_; go_frame)
      | ((with_reducible change wpList _ _ _ (Oper.mk (some 7) _ _ _ _ _ :: _) _ _); refine kLd Tryz.underlying31 rfl _ _ 1 _ a hR2 rfl rfl rfl rfl ?_; go_frame)
      | ((with_reducible change wpList _ _ _ (Oper.mk (some 8) _ _ _ _ _ :: _) _ _); refine kIndexIn1 _ _ a i _ ha2 rfl rfl rfl rfl rfl ?_; intro bd u hbd hu; go_frame)
      | ((with_reducible change wpList _ _ _ (Oper.mk (some 9) _ _ _ _ _ :: _) _ _); refine kFldAtN inCF1 _ bd rfl rfl rfl ?_; go_frame)
      | ((with_reducible change wpList _ _ _ (Oper.mk (some 10) _ _ _ _ _ :: _) _ _); refine kLoadAt Tryz.underlying38 rfl _ _ u (hbd 33 u (inC_33i i u)) rfl rfl rfl ?_; clear hbd; go_frame)
      | ((with_reducible change wpList _ _ _ (Oper.mk (some 11) _ _ _ _ _ :: _) _ _); refine kLenN _ _ _ u _ N rfl rfl rfl hu (by rw [List.length_map, hN]) Tryz.underlying38 ?_; go_frame)
      | ((with_reducible change wpList _ _ _ (Oper.mk (some 13) _ _ _ _ _ :: _) _ _); refine kGeqI _ _ _ _ .i64 (N : Int) 2 _ rfl rfl rfl rfl h1' ?_; go_frame)
      | ((with_reducible change wpList _ _ _ (Oper.mk (some 16) _ _ _ _ _ :: _) _ _); refine kLeqI _ _ _ _ .i64 (N : Int) 100 _ rfl rfl rfl rfl h2' ?_; go_frame))
    go_ret
    exact ⟨rfl, hB2⟩
def CheckPost (w : World) (n : Int) (e : Ending) (w' : World) : Prop := e = .returned (.int .i64 n) ∧ Below w.heap.size w w'
set_option maxRecDepth 100000 in
set_option maxHeartbeats 8000000 in
theorem tCheck_any {t : TxP} {a b : Value} (W0 : World) (ht : t.Is) (hf : t.Fits) (ha : InsOf W0 a t.ins) (hb : OutsOf W0 b t.outs) : Calls Tryz.prog 35 #[.agg (txC t.version a b t.end')] W0 (CheckPost W0 (checkN t)) := by
  have hti : ∀ i ∈ t.ins, i.id.length = 32 := fun i hi => (ht.2.2.1 i hi).1
  obtain ⟨zi, ei, hi⟩ := id ha
  obtain ⟨zo, eo, hoo⟩ := id hb
  obtain ⟨N, hN⟩ : ∃ N, t.ins.length = N := ⟨_, rfl⟩
  obtain ⟨M, hM⟩ : ∃ M, t.outs.length = M := ⟨_, rfl⟩
  obtain ⟨L, hL⟩ : ∃ L, (txL t).length = L := ⟨_, rfl⟩
  have hzN : zi.length = N := by rw [fst_len ei, hN]
  have hzM : zo.length = M := by rw [fst_len eo, hM]
  have hN2 : N ≤ 200 := by rw [← hN]; exact hf.1
  have hM2 : M ≤ 200 := by rw [← hM]; exact hf.2.1
  obtain ⟨S, hS⟩ : ∃ S, sumS 0 (t.outs.map Prod.fst) = S := ⟨_, rfl⟩
  have hsum : sumS 0 ((zo.map fun z => (z.1.1, z.2)).map Prod.fst) = S := by rw [← hS, ← eo, List.map_map, List.map_map]; rfl
  obtain ⟨R, hR0⟩ : ∃ R, checkN t = R := ⟨_, rfl⟩
  rw [hR0]
  unfold checkN at hR0
  rw [hN, hM, hL, hS] at hR0
  obtain ⟨c1, e1⟩ : ∃ c, decide (N = 0) = c := ⟨_, rfl⟩
  obtain ⟨c2, e2⟩ : ∃ c, decide (M = 0) = c := ⟨_, rfl⟩
  obtain ⟨c3, e3⟩ : ∃ c, decide (5000 < L) = c := ⟨_, rfl⟩
  obtain ⟨c4, e4⟩ : ∃ c, S.isNone = c := ⟨_, rfl⟩
  obtain ⟨c5, d5⟩ : ∃ c, dupB t.ins = c := ⟨_, rfl⟩
  obtain ⟨c6, d6⟩ : ∃ c, comesB t.ins = c := ⟨_, rfl⟩
  rw [e1, e2, e3, e4, d5, d6] at hR0
  have d1 : decide ((N : Int) = 0) = c1 := by rw [← e1]; exact decide_eq_decide.2 (by omega)
  have d2 : decide ((M : Int) = 0) = c2 := by rw [← e2]; exact decide_eq_decide.2 (by omega)
  have d3 : decide ((L : Int) > 5000) = c3 := by rw [← e3]; exact decide_eq_decide.2 (by omega)
  have d4 : (!decide (sumE S = 0)) = c4 := by rw [← e4]; cases S <;> rfl
  have hE4 : c4 = true → sumE S = 91 := by intro h; rw [← e4] at h; unfold sumE; rw [if_pos h]
  clear e1 e2 e3 e4 hS eo ei
  cases c1
  case true =>
    subst hR0
    go_enter Tryz.func35, Tryz.ntmps35
    go_wp2_with (first
      | ((with_reducible change wpList _ _ _ (Oper.mk (some 1) _ _ _ _ _ :: _) _ _); refine kBoxL _ _ _ rfl rfl rfl ?_; intro w1 hR hz1 hB; have ha1 := ha.below hB; have hb1 := hb.below hB; clear hz1; go_frame)
      | ((with_reducible change wpList _ _ _ (Oper.mk (some 5) _ _ _ _ _ :: _) _ _); refine kFld txCF1 _ _ 0 1 rfl rfl rfl rfl ?_; go_frame)
      | ((with_reducible change wpList _ _ _ (Oper.mk (some 6) _ _ _ _ _ :: _) _ _); refine kLd Tryz.underlying31 rfl _ _ 1 _ a hR rfl rfl rfl rfl ?_; go_frame)
      | ((with_reducible change wpList _ _ _ (Oper.mk (some 7) _ _ _ _ _ :: _) _ _); refine kLenIns _ a zi N (hi.below hB) hzN rfl rfl rfl ?_; go_frame)
      | ((with_reducible change wpList _ _ _ (Oper.mk (some 8) _ _ _ _ _ :: _) _ _); refine kEqlI _ _ _ _ .i64 (N : Int) 0 _ rfl rfl rfl rfl d1 ?_; go_frame))
    (try simp only [Exit.inBlock, Exit.then])
    refine retBT rfl rfl ?_
    exact ⟨rfl, hB⟩
  cases c2
  case true =>
    subst hR0
    go_enter Tryz.func35, Tryz.ntmps35
    go_wp2_with (first
      | ((with_reducible change wpList _ _ _ (Oper.mk (some 1) _ _ _ _ _ :: _) _ _); refine kBoxL _ _ _ rfl rfl rfl ?_; intro w1 hR hz1 hB; have ha1 := ha.below hB; have hb1 := hb.below hB; clear hz1; go_frame)
      | ((with_reducible change wpList _ _ _ (Oper.mk (some 5) _ _ _ _ _ :: _) _ _); refine kFld txCF1 _ _ 0 1 rfl rfl rfl rfl ?_; go_frame)
      | ((with_reducible change wpList _ _ _ (Oper.mk (some 6) _ _ _ _ _ :: _) _ _); refine kLd Tryz.underlying31 rfl _ _ 1 _ a hR rfl rfl rfl rfl ?_; go_frame)
      | ((with_reducible change wpList _ _ _ (Oper.mk (some 7) _ _ _ _ _ :: _) _ _); refine kLenIns _ a zi N (hi.below hB) hzN rfl rfl rfl ?_; go_frame)
      | ((with_reducible change wpList _ _ _ (Oper.mk (some 8) _ _ _ _ _ :: _) _ _); refine kEqlI _ _ _ _ .i64 (N : Int) 0 _ rfl rfl rfl rfl d1 ?_; go_frame)
      | ((with_reducible change wpList _ _ _ (Oper.mk (some 10) _ _ _ _ _ :: _) _ _); refine kFld txCF2 _ _ 0 2 rfl rfl rfl rfl ?_; go_frame)
      | ((with_reducible change wpList _ _ _ (Oper.mk (some 11) _ _ _ _ _ :: _) _ _); refine kLd Tryz.underlying32 rfl _ _ 2 _ b hR rfl rfl rfl rfl ?_; go_frame)
      | ((with_reducible change wpList _ _ _ (Oper.mk (some 12) _ _ _ _ _ :: _) _ _); refine kLenOutsT _ b zo M (hoo.below hB) hzM rfl rfl rfl ?_; go_frame)
      | ((with_reducible change wpList _ _ _ (Oper.mk (some 13) _ _ _ _ _ :: _) _ _); refine kEqlI _ _ _ _ .i64 (M : Int) 0 _ rfl rfl rfl rfl d2 ?_; go_frame))
    (try simp only [Exit.inBlock, Exit.then])
    refine retBT rfl rfl ?_
    exact ⟨rfl, hB⟩
  cases c3
  case true =>
    subst hR0
    go_enter Tryz.func35, Tryz.ntmps35
    go_wp2_with (first
      | ((with_reducible change wpList _ _ _ (Oper.mk (some 1) _ _ _ _ _ :: _) _ _); refine kBoxL _ _ _ rfl rfl rfl ?_; intro w1 hR hz1 hB; have ha1 := ha.below hB; have hb1 := hb.below hB; clear hz1; go_frame)
      | ((with_reducible change wpList _ _ _ (Oper.mk (some 5) _ _ _ _ _ :: _) _ _); refine kFld txCF1 _ _ 0 1 rfl rfl rfl rfl ?_; go_frame)
      | ((with_reducible change wpList _ _ _ (Oper.mk (some 6) _ _ _ _ _ :: _) _ _); refine kLd Tryz.underlying31 rfl _ _ 1 _ a hR rfl rfl rfl rfl ?_; go_frame)
      | ((with_reducible change wpList _ _ _ (Oper.mk (some 7) _ _ _ _ _ :: _) _ _); refine kLenIns _ a zi N (hi.below hB) hzN rfl rfl rfl ?_; go_frame)
      | ((with_reducible change wpList _ _ _ (Oper.mk (some 8) _ _ _ _ _ :: _) _ _); refine kEqlI _ _ _ _ .i64 (N : Int) 0 _ rfl rfl rfl rfl d1 ?_; go_frame)
      | ((with_reducible change wpList _ _ _ (Oper.mk (some 10) _ _ _ _ _ :: _) _ _); refine kFld txCF2 _ _ 0 2 rfl rfl rfl rfl ?_; go_frame)
      | ((with_reducible change wpList _ _ _ (Oper.mk (some 11) _ _ _ _ _ :: _) _ _); refine kLd Tryz.underlying32 rfl _ _ 2 _ b hR rfl rfl rfl rfl ?_; go_frame)
      | ((with_reducible change wpList _ _ _ (Oper.mk (some 12) _ _ _ _ _ :: _) _ _); refine kLenOutsT _ b zo M (hoo.below hB) hzM rfl rfl rfl ?_; go_frame)
      | ((with_reducible change wpList _ _ _ (Oper.mk (some 13) _ _ _ _ _ :: _) _ _); refine kEqlI _ _ _ _ .i64 (M : Int) 0 _ rfl rfl rfl rfl d2 ?_; go_frame)
      | ((with_reducible change wpList _ _ _ (Oper.mk (some 16) _ _ _ _ _ :: _) _ _); refine kLoadTx _ _ t.version t.end' a b hR rfl rfl rfl ?_; go_frame)
      | (go_at_call 42; refine (tBytes_any _ ht hf ha1 hb1).mono ?_; rintro e w2 ⟨v2, rfl, hO2, hBq⟩; have hR2 := hR.below hBq hR.lt; have ha2 := ha1.below hBq; have hb2 := hb1.below hBq; have hB2 := hB.trans (hBq.mono hB.size); clear hBq hR ha1 hb1 hB; go_frame)
      | ((with_reducible change wpList _ _ _ (Oper.mk (some 18) _ _ _ _ _ :: _) _ _); refine kLenN _ _ _ v2 _ L rfl rfl rfl hO2.vals (by rw [List.length_map, hL]) Tryz.underlying38 ?_; go_frame)
      | ((with_reducible change wpList _ _ _ (Oper.mk (some 19) _ _ _ _ _ :: _) _ _); refine kGtrI _ _ _ _ .i64 (L : Int) 5000 _ rfl rfl rfl rfl d3 ?_; go_frame))
    (try simp only [Exit.inBlock, Exit.then])
    refine retBT rfl rfl ?_
    exact ⟨rfl, hB2⟩
  cases c4
  case true =>
    subst hR0
    have h91 := hE4 rfl
    go_enter Tryz.func35, Tryz.ntmps35
    go_wp2_with (first
      | ((with_reducible change wpList _ _ _ (Oper.mk (some 1) _ _ _ _ _ :: _) _ _); refine kBoxL _ _ _ rfl rfl rfl ?_; intro w1 hR hz1 hB; have ha1 := ha.below hB; have hb1 := hb.below hB; clear hz1; go_frame)
      | ((with_reducible change wpList _ _ _ (Oper.mk (some 5) _ _ _ _ _ :: _) _ _); refine kFld txCF1 _ _ 0 1 rfl rfl rfl rfl ?_; go_frame)
      | ((with_reducible change wpList _ _ _ (Oper.mk (some 6) _ _ _ _ _ :: _) _ _); refine kLd Tryz.underlying31 rfl _ _ 1 _ a hR rfl rfl rfl rfl ?_; go_frame)
      | ((with_reducible change wpList _ _ _ (Oper.mk (some 7) _ _ _ _ _ :: _) _ _); refine kLenIns _ a zi N (hi.below hB) hzN rfl rfl rfl ?_; go_frame)
      | ((with_reducible change wpList _ _ _ (Oper.mk (some 8) _ _ _ _ _ :: _) _ _); refine kEqlI _ _ _ _ .i64 (N : Int) 0 _ rfl rfl rfl rfl d1 ?_; go_frame)
      | ((with_reducible change wpList _ _ _ (Oper.mk (some 10) _ _ _ _ _ :: _) _ _); refine kFld txCF2 _ _ 0 2 rfl rfl rfl rfl ?_; go_frame)
      | ((with_reducible change wpList _ _ _ (Oper.mk (some 11) _ _ _ _ _ :: _) _ _); refine kLd Tryz.underlying32 rfl _ _ 2 _ b hR rfl rfl rfl rfl ?_; go_frame)
      | ((with_reducible change wpList _ _ _ (Oper.mk (some 12) _ _ _ _ _ :: _) _ _); refine kLenOutsT _ b zo M (hoo.below hB) hzM rfl rfl rfl ?_; go_frame)
      | ((with_reducible change wpList _ _ _ (Oper.mk (some 13) _ _ _ _ _ :: _) _ _); refine kEqlI _ _ _ _ .i64 (M : Int) 0 _ rfl rfl rfl rfl d2 ?_; go_frame)
      | ((with_reducible change wpList _ _ _ (Oper.mk (some 16) _ _ _ _ _ :: _) _ _); refine kLoadTx _ _ t.version t.end' a b hR rfl rfl rfl ?_; go_frame)
      | (go_at_call 42; refine (tBytes_any _ ht hf ha1 hb1).mono ?_; rintro e w2 ⟨v2, rfl, hO2, hBq⟩; have hR2 := hR.below hBq hR.lt; have ha2 := ha1.below hBq; have hb2 := hb1.below hBq; have hB2 := hB.trans (hBq.mono hB.size); clear hBq hR ha1 hb1 hB; go_frame)
      | ((with_reducible change wpList _ _ _ (Oper.mk (some 18) _ _ _ _ _ :: _) _ _); refine kLenN _ _ _ v2 _ L rfl rfl rfl hO2.vals (by rw [List.length_map, hL]) Tryz.underlying38 ?_; go_frame)
      | ((with_reducible change wpList _ _ _ (Oper.mk (some 19) _ _ _ _ _ :: _) _ _); refine kGtrI _ _ _ _ .i64 (L : Int) 5000 _ rfl rfl rfl rfl d3 ?_; go_frame)
      | ((with_reducible change wpList _ _ _ (Oper.mk (some 22) _ _ _ _ _ :: _) _ _); refine kFld txCF2 _ _ 0 2 rfl rfl rfl rfl ?_; go_frame)
      | ((with_reducible change wpList _ _ _ (Oper.mk (some 23) _ _ _ _ _ :: _) _ _); refine kLd Tryz.underlying32 rfl _ _ 2 _ b hR2 rfl rfl rfl rfl ?_; go_frame)
      | (go_at_call 62; refine (coSum_any _ (hoo.below hB2).outs (by rw [List.length_map]; omega)).mono ?_; rintro e w3 ⟨rfl, hBq⟩; rw [hsum]; have hR3 := hR2.below hBq hR2.lt; have ha3 := ha2.below hBq; have hb3 := hb2.below hBq; have hB3 := hB2.trans (hBq.mono hB2.size); clear hBq hR2 ha2 hb2 hB2 hO2; go_frame)
      | ((with_reducible change wpList _ _ _ (Oper.mk (some 28) _ _ _ _ _ :: _) _ _); refine kNeqI _ _ _ _ .i64 (sumE S) 0 _ rfl rfl rfl rfl d4 ?_; go_frame))
    (try simp only [Exit.inBlock, Exit.then])
    refine retBT rfl rfl ?_
    refine ⟨?_, hB3⟩
    rw [← h91]; rfl
  cases c5
  case true =>
    subst hR0
    go_enter Tryz.func35, Tryz.ntmps35
    go_wp2_with (first
      | ((with_reducible change wpList _ _ _ (Oper.mk (some 1) _ _ _ _ _ :: _) _ _); refine kBoxL _ _ _ rfl rfl rfl ?_; intro w1 hR hz1 hB; have ha1 := ha.below hB; have hb1 := hb.below hB; clear hz1; go_frame)
      | ((with_reducible change wpList _ _ _ (Oper.mk (some 5) _ _ _ _ _ :: _) _ _); refine kFld txCF1 _ _ 0 1 rfl rfl rfl rfl ?_; go_frame)
      | ((with_reducible change wpList _ _ _ (Oper.mk (some 6) _ _ _ _ _ :: _) _ _); refine kLd Tryz.underlying31 rfl _ _ 1 _ a hR rfl rfl rfl rfl ?_; go_frame)
      | ((with_reducible change wpList _ _ _ (Oper.mk (some 7) _ _ _ _ _ :: _) _ _); refine kLenIns _ a zi N (hi.below hB) hzN rfl rfl rfl ?_; go_frame)
      | ((with_reducible change wpList _ _ _ (Oper.mk (some 8) _ _ _ _ _ :: _) _ _); refine kEqlI _ _ _ _ .i64 (N : Int) 0 _ rfl rfl rfl rfl d1 ?_; go_frame)
      | ((with_reducible change wpList _ _ _ (Oper.mk (some 10) _ _ _ _ _ :: _) _ _); refine kFld txCF2 _ _ 0 2 rfl rfl rfl rfl ?_; go_frame)
      | ((with_reducible change wpList _ _ _ (Oper.mk (some 11) _ _ _ _ _ :: _) _ _); refine kLd Tryz.underlying32 rfl _ _ 2 _ b hR rfl rfl rfl rfl ?_; go_frame)
      | ((with_reducible change wpList _ _ _ (Oper.mk (some 12) _ _ _ _ _ :: _) _ _); refine kLenOutsT _ b zo M (hoo.below hB) hzM rfl rfl rfl ?_; go_frame)
      | ((with_reducible change wpList _ _ _ (Oper.mk (some 13) _ _ _ _ _ :: _) _ _); refine kEqlI _ _ _ _ .i64 (M : Int) 0 _ rfl rfl rfl rfl d2 ?_; go_frame)
      | ((with_reducible change wpList _ _ _ (Oper.mk (some 16) _ _ _ _ _ :: _) _ _); refine kLoadTx _ _ t.version t.end' a b hR rfl rfl rfl ?_; go_frame)
      | (go_at_call 42; refine (tBytes_any _ ht hf ha1 hb1).mono ?_; rintro e w2 ⟨v2, rfl, hO2, hBq⟩; have hR2 := hR.below hBq hR.lt; have ha2 := ha1.below hBq; have hb2 := hb1.below hBq; have hB2 := hB.trans (hBq.mono hB.size); clear hBq hR ha1 hb1 hB; go_frame)
      | ((with_reducible change wpList _ _ _ (Oper.mk (some 18) _ _ _ _ _ :: _) _ _); refine kLenN _ _ _ v2 _ L rfl rfl rfl hO2.vals (by rw [List.length_map, hL]) Tryz.underlying38 ?_; go_frame)
      | ((with_reducible change wpList _ _ _ (Oper.mk (some 19) _ _ _ _ _ :: _) _ _); refine kGtrI _ _ _ _ .i64 (L : Int) 5000 _ rfl rfl rfl rfl d3 ?_; go_frame)
      | ((with_reducible change wpList _ _ _ (Oper.mk (some 22) _ _ _ _ _ :: _) _ _); refine kFld txCF2 _ _ 0 2 rfl rfl rfl rfl ?_; go_frame)
      | ((with_reducible change wpList _ _ _ (Oper.mk (some 23) _ _ _ _ _ :: _) _ _); refine kLd Tryz.underlying32 rfl _ _ 2 _ b hR2 rfl rfl rfl rfl ?_; go_frame)
      | (go_at_call 62; refine (coSum_any _ (hoo.below hB2).outs (by rw [List.length_map]; omega)).mono ?_; rintro e w3 ⟨rfl, hBq⟩; rw [hsum]; have hR3 := hR2.below hBq hR2.lt; have ha3 := ha2.below hBq; have hb3 := hb2.below hBq; have hB3 := hB2.trans (hBq.mono hB2.size); clear hBq hR2 ha2 hb2 hB2 hO2; go_frame)
      | ((with_reducible change wpList _ _ _ (Oper.mk (some 28) _ _ _ _ _ :: _) _ _); refine kNeqI _ _ _ _ .i64 (sumE S) 0 _ rfl rfl rfl rfl d4 ?_; go_frame)
      | ((with_reducible change wpList _ _ _ (Oper.mk (some 30) _ _ _ _ _ :: _) _ _); refine kFld txCF1 _ _ 0 1 rfl rfl rfl rfl ?_; go_frame)
      | ((with_reducible change wpList _ _ _ (Oper.mk (some 31) _ _ _ _ _ :: _) _ _); refine kLd Tryz.underlying31 rfl _ _ 1 _ a hR3 rfl rfl rfl rfl ?_; go_frame)
      | (go_at_call 63; refine (tTwice_any _ ha3 hti (by omega)).mono ?_; rintro e w4 ⟨rfl, hBq⟩; rw [d5]; have hR4 := hR3.below hBq hR3.lt; have ha4 := ha3.below hBq; have hB4 := hB3.trans (hBq.mono hB3.size); clear hBq hR3 ha3 hB3; go_frame))
    (try simp only [Exit.inBlock, Exit.then])
    refine retBT rfl rfl ?_
    exact ⟨rfl, hB4⟩
  cases c6
  · subst hR0
    go_enter Tryz.func35, Tryz.ntmps35
    go_wp2_with (first
      | ((with_reducible change wpList _ _ _ (Oper.mk (some 1) _ _ _ _ _ :: _) _ _); refine kBoxL _ _ _ rfl rfl rfl ?_; intro w1 hR hz1 hB; have ha1 := ha.below hB; have hb1 := hb.below hB; clear hz1; go_frame)
      | ((with_reducible change wpList _ _ _ (Oper.mk (some 5) _ _ _ _ _ :: _) _ _); refine kFld txCF1 _ _ 0 1 rfl rfl rfl rfl ?_; go_frame)
      | ((with_reducible change wpList _ _ _ (Oper.mk (some 6) _ _ _ _ _ :: _) _ _); refine kLd Tryz.underlying31 rfl _ _ 1 _ a hR rfl rfl rfl rfl ?_; go_frame)
      | ((with_reducible change wpList _ _ _ (Oper.mk (some 7) _ _ _ _ _ :: _) _ _); refine kLenIns _ a zi N (hi.below hB) hzN rfl rfl rfl ?_; go_frame)
      | ((with_reducible change wpList _ _ _ (Oper.mk (some 8) _ _ _ _ _ :: _) _ _); refine kEqlI _ _ _ _ .i64 (N : Int) 0 _ rfl rfl rfl rfl d1 ?_; go_frame)
      | ((with_reducible change wpList _ _ _ (Oper.mk (some 10) _ _ _ _ _ :: _) _ _); refine kFld txCF2 _ _ 0 2 rfl rfl rfl rfl ?_; go_frame)
      | ((with_reducible change wpList _ _ _ (Oper.mk (some 11) _ _ _ _ _ :: _) _ _); refine kLd Tryz.underlying32 rfl _ _ 2 _ b hR rfl rfl rfl rfl ?_; go_frame)
      | ((with_reducible change wpList _ _ _ (Oper.mk (some 12) _ _ _ _ _ :: _) _ _); refine kLenOutsT _ b zo M (hoo.below hB) hzM rfl rfl rfl ?_; go_frame)
      | ((with_reducible change wpList _ _ _ (Oper.mk (some 13) _ _ _ _ _ :: _) _ _); refine kEqlI _ _ _ _ .i64 (M : Int) 0 _ rfl rfl rfl rfl d2 ?_; go_frame)
      | ((with_reducible change wpList _ _ _ (Oper.mk (some 16) _ _ _ _ _ :: _) _ _); refine kLoadTx _ _ t.version t.end' a b hR rfl rfl rfl ?_; go_frame)
      | (go_at_call 42; refine (tBytes_any _ ht hf ha1 hb1).mono ?_; rintro e w2 ⟨v2, rfl, hO2, hBq⟩; have hR2 := hR.below hBq hR.lt; have ha2 := ha1.below hBq; have hb2 := hb1.below hBq; have hB2 := hB.trans (hBq.mono hB.size); clear hBq hR ha1 hb1 hB; go_frame)
      | ((with_reducible change wpList _ _ _ (Oper.mk (some 18) _ _ _ _ _ :: _) _ _); refine kLenN _ _ _ v2 _ L rfl rfl rfl hO2.vals (by rw [List.length_map, hL]) Tryz.underlying38 ?_; go_frame)
      | ((with_reducible change wpList _ _ _ (Oper.mk (some 19) _ _ _ _ _ :: _) _ _); refine kGtrI _ _ _ _ .i64 (L : Int) 5000 _ rfl rfl rfl rfl d3 ?_; go_frame)
      | ((with_reducible change wpList _ _ _ (Oper.mk (some 22) _ _ _ _ _ :: _) _ _); refine kFld txCF2 _ _ 0 2 rfl rfl rfl rfl ?_; go_frame)
      | ((with_reducible change wpList _ _ _ (Oper.mk (some 23) _ _ _ _ _ :: _) _ _); refine kLd Tryz.underlying32 rfl _ _ 2 _ b hR2 rfl rfl rfl rfl ?_; go_frame)
      | (go_at_call 62; refine (coSum_any _ (hoo.below hB2).outs (by rw [List.length_map]; omega)).mono ?_; rintro e w3 ⟨rfl, hBq⟩; rw [hsum]; have hR3 := hR2.below hBq hR2.lt; have ha3 := ha2.below hBq; have hb3 := hb2.below hBq; have hB3 := hB2.trans (hBq.mono hB2.size); clear hBq hR2 ha2 hb2 hB2 hO2; go_frame)
      | ((with_reducible change wpList _ _ _ (Oper.mk (some 28) _ _ _ _ _ :: _) _ _); refine kNeqI _ _ _ _ .i64 (sumE S) 0 _ rfl rfl rfl rfl d4 ?_; go_frame)
      | ((with_reducible change wpList _ _ _ (Oper.mk (some 30) _ _ _ _ _ :: _) _ _); refine kFld txCF1 _ _ 0 1 rfl rfl rfl rfl ?_; go_frame)
      | ((with_reducible change wpList _ _ _ (Oper.mk (some 31) _ _ _ _ _ :: _) _ _); refine kLd Tryz.underlying31 rfl _ _ 1 _ a hR3 rfl rfl rfl rfl ?_; go_frame)
      | (go_at_call 63; refine (tTwice_any _ ha3 hti (by omega)).mono ?_; rintro e w4 ⟨rfl, hBq⟩; rw [d5]; have hR4 := hR3.below hBq hR3.lt; have ha4 := ha3.below hBq; have hB4 := hB3.trans (hBq.mono hB3.size); clear hBq hR3 ha3 hB3; go_frame)
      | ((with_reducible change wpList _ _ _ (Oper.mk (some 34) _ _ _ _ _ :: _) _ _); refine kLoadTx _ _ t.version t.end' a b hR4 rfl rfl rfl ?_; go_frame)
      | (go_at_call 64; refine (tComes_any _ ha4 hti (by omega)).mono ?_; rintro e w5 ⟨rfl, hBq⟩; rw [d6]; have hB5 := hB4.trans (hBq.mono hB4.size); clear hBq hB4; go_frame)
      | ((with_reducible change wpList _ _ _ (Oper.mk (some 36) _ _ _ _ _ :: _) _ _); refine kNot _ _ _ rfl rfl rfl ?_; go_frame))
    (try simp only [Exit.inBlock, Exit.then])
    refine retBT rfl rfl ?_
    exact ⟨rfl, hB5⟩
  · subst hR0
    go_enter Tryz.func35, Tryz.ntmps35
    go_wp2_with (first
      | ((with_reducible change wpList _ _ _ (Oper.mk (some 1) _ _ _ _ _ :: _) _ _); refine kBoxL _ _ _ rfl rfl rfl ?_; intro w1 hR hz1 hB; have ha1 := ha.below hB; have hb1 := hb.below hB; clear hz1; go_frame)
      | ((with_reducible change wpList _ _ _ (Oper.mk (some 5) _ _ _ _ _ :: _) _ _); refine kFld txCF1 _ _ 0 1 rfl rfl rfl rfl ?_; go_frame)
      | ((with_reducible change wpList _ _ _ (Oper.mk (some 6) _ _ _ _ _ :: _) _ _); refine kLd Tryz.underlying31 rfl _ _ 1 _ a hR rfl rfl rfl rfl ?_; go_frame)
      | ((with_reducible change wpList _ _ _ (Oper.mk (some 7) _ _ _ _ _ :: _) _ _); refine kLenIns _ a zi N (hi.below hB) hzN rfl rfl rfl ?_; go_frame)
      | ((with_reducible change wpList _ _ _ (Oper.mk (some 8) _ _ _ _ _ :: _) _ _); refine kEqlI _ _ _ _ .i64 (N : Int) 0 _ rfl rfl rfl rfl d1 ?_; go_frame)
      | ((with_reducible change wpList _ _ _ (Oper.mk (some 10) _ _ _ _ _ :: _) _ _); refine kFld txCF2 _ _ 0 2 rfl rfl rfl rfl ?_; go_frame)
      | ((with_reducible change wpList _ _ _ (Oper.mk (some 11) _ _ _ _ _ :: _) _ _); refine kLd Tryz.underlying32 rfl _ _ 2 _ b hR rfl rfl rfl rfl ?_; go_frame)
      | ((with_reducible change wpList _ _ _ (Oper.mk (some 12) _ _ _ _ _ :: _) _ _); refine kLenOutsT _ b zo M (hoo.below hB) hzM rfl rfl rfl ?_; go_frame)
      | ((with_reducible change wpList _ _ _ (Oper.mk (some 13) _ _ _ _ _ :: _) _ _); refine kEqlI _ _ _ _ .i64 (M : Int) 0 _ rfl rfl rfl rfl d2 ?_; go_frame)
      | ((with_reducible change wpList _ _ _ (Oper.mk (some 16) _ _ _ _ _ :: _) _ _); refine kLoadTx _ _ t.version t.end' a b hR rfl rfl rfl ?_; go_frame)
      | (go_at_call 42; refine (tBytes_any _ ht hf ha1 hb1).mono ?_; rintro e w2 ⟨v2, rfl, hO2, hBq⟩; have hR2 := hR.below hBq hR.lt; have ha2 := ha1.below hBq; have hb2 := hb1.below hBq; have hB2 := hB.trans (hBq.mono hB.size); clear hBq hR ha1 hb1 hB; go_frame)
      | ((with_reducible change wpList _ _ _ (Oper.mk (some 18) _ _ _ _ _ :: _) _ _); refine kLenN _ _ _ v2 _ L rfl rfl rfl hO2.vals (by rw [List.length_map, hL]) Tryz.underlying38 ?_; go_frame)
      | ((with_reducible change wpList _ _ _ (Oper.mk (some 19) _ _ _ _ _ :: _) _ _); refine kGtrI _ _ _ _ .i64 (L : Int) 5000 _ rfl rfl rfl rfl d3 ?_; go_frame)
      | ((with_reducible change wpList _ _ _ (Oper.mk (some 22) _ _ _ _ _ :: _) _ _); refine kFld txCF2 _ _ 0 2 rfl rfl rfl rfl ?_; go_frame)
      | ((with_reducible change wpList _ _ _ (Oper.mk (some 23) _ _ _ _ _ :: _) _ _); refine kLd Tryz.underlying32 rfl _ _ 2 _ b hR2 rfl rfl rfl rfl ?_; go_frame)
      | (go_at_call 62; refine (coSum_any _ (hoo.below hB2).outs (by rw [List.length_map]; omega)).mono ?_; rintro e w3 ⟨rfl, hBq⟩; rw [hsum]; have hR3 := hR2.below hBq hR2.lt; have ha3 := ha2.below hBq; have hb3 := hb2.below hBq; have hB3 := hB2.trans (hBq.mono hB2.size); clear hBq hR2 ha2 hb2 hB2 hO2; go_frame)
      | ((with_reducible change wpList _ _ _ (Oper.mk (some 28) _ _ _ _ _ :: _) _ _); refine kNeqI _ _ _ _ .i64 (sumE S) 0 _ rfl rfl rfl rfl d4 ?_; go_frame)
      | ((with_reducible change wpList _ _ _ (Oper.mk (some 30) _ _ _ _ _ :: _) _ _); refine kFld txCF1 _ _ 0 1 rfl rfl rfl rfl ?_; go_frame)
      | ((with_reducible change wpList _ _ _ (Oper.mk (some 31) _ _ _ _ _ :: _) _ _); refine kLd Tryz.underlying31 rfl _ _ 1 _ a hR3 rfl rfl rfl rfl ?_; go_frame)
      | (go_at_call 63; refine (tTwice_any _ ha3 hti (by omega)).mono ?_; rintro e w4 ⟨rfl, hBq⟩; rw [d5]; have hR4 := hR3.below hBq hR3.lt; have ha4 := ha3.below hBq; have hB4 := hB3.trans (hBq.mono hB3.size); clear hBq hR3 ha3 hB3; go_frame)
      | ((with_reducible change wpList _ _ _ (Oper.mk (some 34) _ _ _ _ _ :: _) _ _); refine kLoadTx _ _ t.version t.end' a b hR4 rfl rfl rfl ?_; go_frame)
      | (go_at_call 64; refine (tComes_any _ ha4 hti (by omega)).mono ?_; rintro e w5 ⟨rfl, hBq⟩; rw [d6]; have hB5 := hB4.trans (hBq.mono hB4.size); clear hBq hB4; go_frame)
      | ((with_reducible change wpList _ _ _ (Oper.mk (some 36) _ _ _ _ _ :: _) _ _); refine kNot _ _ _ rfl rfl rfl ?_; go_frame))
    go_ret
    exact ⟨rfl, hB5⟩
end Go.Proofs.YtmfjgehlkbndjaaGreatDoor

/-
  Layer 10: can it be: the reference's Check.
-/
namespace Go.Proofs.YtmfjgehlkbndjaaGreatDoor
open Go Go.RowKit

theorem cells_below {w w' : World} {b : Addr} {r : List Value} (h : ∀ (j : Nat) (u : Value), r[j]? = some u → w.cell? (b.add j) = some u) (hb : Below w.heap.size w w') : ∀ (j : Nat) (u : Value), r[j]? = some u → w'.cell? (b.add j) = some u :=
  fun j u hu => by rw [hb.cell (block_lt_of_cell (h j u hu))]; exact h j u hu
section
variable {ops : Array Oper} {o : Oper} {a : Act} {S : World → Prop}
end
end Go.Proofs.YtmfjgehlkbndjaaGreatDoor
