/-
  Joined: TxTwice, TxCheck, TxCheck2.
-/
import Derived.Test.YtdeggdmoijfhdaaDoorSameAll
/-
  Layer 10: what is spent twice; which inputs are NULL; where a transaction comes from.
-/
namespace Go.Proofs.YtdeggdmoijfhdaaDoor
open Go Go.RowKit

open Go.ChangeMaps (setBlock)
section
variable {P : Program} {ops : Array Oper} {Q : Exit → Act → World → Prop} {rest : List Oper} {o : Oper} {a : Act} {w : World} {S : World → Prop}
theorem yLookup (T : TypeId) (x y : Operand) (m k v : Value) (ho : o.op = .lookup T x y false) (hg : Region.wanted o (yielded ops a.tmps) = true) (hx : a.eval x = m) (hy : a.eval y = k) (hr : ∀ w, S w → (Instr.lookup T m k false).run P w = .ok v w) : YieldsIf P ops S o v a :=
  yOf hg fun w hS => by unfold execOp; simp only [ho, hx, hy, Sem.run_bind, hr w hS, Result.andThen_ok, Sem.run_pure]
theorem kLookup (T : TypeId) (x y : Operand) (m k v : Value) (ho : o.op = .lookup T x y false) (hg : Region.wanted o (yielded ops a.tmps) = true) (hx : a.eval x = m) (hy : a.eval y = k) (hr : (Instr.lookup T m k false).run P w = .ok v w) (h : wpList P ops Q rest (a.put o.dst v) w) : wpList P ops Q (o :: rest) a w :=
  kPure v hg (by unfold execOp; simp only [ho, hx, hy, Sem.run_bind, hr, Result.andThen_ok, Sem.run_pure]) h
theorem yAddI (T T2 : TypeId) (x y : Operand) (m n z : Int) (hz : m + n = z ∧ 0 ≤ z ∧ z < 9223372036854775808) (ho : o.op = .binOp .add T x y T2) (hg : Region.wanted o (yielded ops a.tmps) = true) (hx : a.eval x = .int .i64 m) (hy : a.eval y = .int .i64 n) : YieldsIf P ops S o (.int .i64 z) a :=
  yOf hg fun w _ => by
    obtain ⟨rfl, h1, h2⟩ := hz
    have e : IntKind.i64.wrap (m + n) = m + n := by rw [IntKind.wrap_i64]; omega
    unfold execOp; simp only [ho, hx, hy]; simp [eqGuard, binOp, Op.intArith, e]
theorem yExtract (x : Operand) (i : Nat) (vs : Array Value) (v : Value) (ho : o.op = .extract x i) (hg : Region.wanted o (yielded ops a.tmps) = true) (hx : a.eval x = .tuple vs) (hv : vs[i]? = some v) : YieldsIf P ops S o v a :=
  yOf hg fun w _ => by unfold execOp; simp [ho, hx, Instr.extract, hv]
theorem kMapEntry (T : TypeId) (x y : Operand) (m k v : Value) (w1 : World) (ho : o.op = .mapEntry T x y) (hg : Region.wanted o (yielded ops a.tmps) = true) (hx : a.eval x = m) (hy : a.eval y = k) (hr : (Instr.mapEntry T m k).run P w = .ok v w1) (h : wpList P ops Q rest (a.put o.dst v) w1) : wpList P ops Q (o :: rest) a w := by
  refine BigFrame.wpList_want hg fun K hK => ?_
  unfold Oper.wp execOp
  simp only [ho, hx, hy, Sem.run_bind, hr, Result.andThen_ok, Sem.run_pure]
  exact hK _ _ h
theorem kEntryStore (T : TypeId) (x y z : Operand) (m k v : Value) (w1 : World) (ho : o.op = .entryStore T x y z) (hg : Region.wanted o (yielded ops a.tmps) = true) (hx : a.eval x = m) (hy : a.eval y = k) (hz : a.eval z = v) (hr : (Instr.entryStore T m k v).run P w = .ok () w1) (h : wpList P ops Q rest (a.put o.dst undef) w1) : wpList P ops Q (o :: rest) a w := by
  refine BigFrame.wpList_want hg fun K hK => ?_
  unfold Oper.wp execOp
  simp only [ho, hx, hy, hz, Sem.run_bind, hr, Result.andThen_ok, Sem.run_pure]
  exact hK _ _ h
theorem kMakeMap (T : TypeId) (ho : o.op = .makeMap T none) (hg : Region.wanted o (yielded ops a.tmps) = true) (h : ∀ w1 : World, w1.heap[w.heap.size]? = some (.map #[] 0) → w.heap.size < w1.heap.size → Below w.heap.size w w1 → wpList P ops Q rest (a.put o.dst (.map (some w.heap.size))) w1) : wpList P ops Q (o :: rest) a w := by
  refine BigFrame.wpList_want hg fun K hK => ?_
  unfold Oper.wp execOp
  simp only [ho, Option.map_none, Sem.run_bind, run_makeMap, Result.andThen_ok, Sem.run_pure]
  exact hK _ _ (h _ (heap_alloc_new w _) (by simp) ((Below.refl _ _).alloc (Nat.le_refl _) _))
end
def refsOf (is : List InP) : List (List UInt8 × Nat) := is.map fun i => (i.id, i.at')
def dupB (is : List InP) : Bool := decide ¬ (refsOf is).Nodup
theorem refs_at {is : List InP} {k : Nat} {i : InP} (h : is[k]? = some i) : (refsOf is)[k]? = some (i.id, i.at') := by unfold refsOf; rw [List.getElem?_map, h]; rfl
theorem refs_succ {R : List (List UInt8 × Nat)} {k : Nat} {r : List UInt8 × Nat} (h : R[k]? = some r) : R.take (k + 1) = R.take k ++ [r] := by
  obtain ⟨hk, rfl⟩ := List.getElem?_eq_some_iff.1 h
  rw [List.take_succ_eq_append_getElem hk]
theorem nodup_step {R : List (List UInt8 × Nat)} {k : Nat} {r : List UInt8 × Nat} (h : R[k]? = some r) (hn : (R.take k).Nodup) (hr : r ∉ R.take k) : (R.take (k + 1)).Nodup := by
  rw [refs_succ h, List.nodup_append]
  refine ⟨hn, by simp, fun a ha b hb => ?_⟩
  simp at hb; subst hb
  exact fun e => hr (e ▸ ha)
theorem dup_of {is : List InP} {k : Nat} {r : List UInt8 × Nat} (h : (refsOf is)[k]? = some r) (hr : r ∈ (refsOf is).take k) : dupB is = true := by
  unfold dupB
  rw [decide_eq_true_eq]
  intro hn
  have h1 : ((refsOf is).take (k + 1)).Nodup := hn.sublist (List.take_sublist _ _)
  rw [refs_succ h, List.nodup_append] at h1
  exact h1.2.2 r hr r (by simp) rfl
theorem dup_not {is : List InP} (h : (refsOf is).Nodup) : dupB is = false := by unfold dupB; simp [h]
/-- each as often as once -/
def ones (R : List (List UInt8 × Nat)) : List ((List UInt8 × Nat) × Int) := R.map fun r => (r, 1)
theorem ones_at (R : List (List UInt8 × Nat)) (q : Nat) : (ones R)[q]? = (R[q]?).map fun r => (r, (1 : Int)) := by unfold ones; rw [List.getElem?_map]
theorem ones_len (R : List (List UInt8 × Nat)) : (ones R).length = R.length := by simp [ones]
theorem ones32 {R : List (List UInt8 × Nat)} (h : ∀ r ∈ R, r.1.length = 32) : Len32 (ones R) := by
  intro e he
  unfold ones at he
  obtain ⟨r, hr, rfl⟩ := List.mem_map.1 he
  exact h r hr
theorem ones_not {R : List (List UInt8 × Nat)} {r : List UInt8 × Nat} (h : r ∉ R) : ∀ e ∈ ones R, e.1 ≠ r := by
  intro e he
  unfold ones at he
  obtain ⟨x, hx, rfl⟩ := List.mem_map.1 he
  rintro rfl; exact h hx
theorem ones_first {R : List (List UInt8 × Nat)} {r : List UInt8 × Nat} (hn : R.Nodup) {q : Nat} (hq : R[q]? = some r) : ∀ p, p < q → ∀ e, (ones R)[p]? = some e → e.1 ≠ r := by
  intro p hp e he
  rw [ones_at] at he
  cases hx : R[p]? with
  | none => rw [hx] at he; cases he
  | some x =>
    rw [hx] at he
    simp only [Option.map_some, Option.some.injEq] at he
    subst he
    rintro rfl
    have h1 := (List.getElem?_eq_some_iff.1 hx)
    have h2 := (List.getElem?_eq_some_iff.1 hq)
    obtain ⟨a1, b1⟩ := h1
    obtain ⟨a2, b2⟩ := h2
    exact (List.pairwise_iff_getElem.1 hn p q a1 a2 hp) (by rw [b1, b2])
end Go.Proofs.YtdeggdmoijfhdaaDoor

/-
  Layer 10: can it be: the program's Check.
-/
namespace Go.Proofs.YtdeggdmoijfhdaaDoor
open Go Go.RowKit

def badI (b : Bool) (i : InP) : Bool := bif b then (decide (i.unlock.length < 2) || decide (100 < i.unlock.length)) else nullI i
def comesB (is : List InP) : Bool := !(is.any (badI (baseB is)))
def checkN (t : TxP) : Int := bif decide (t.ins.length = 0) then 101 else bif decide (t.outs.length = 0) then 101 else bif decide (5000 < (txL t).length) then 101 else bif (sumS 0 (t.outs.map Prod.fst)).isNone then 91 else bif dupB t.ins then 101 else bif comesB t.ins then 0 else 101
theorem inC_33i (i : InP) (u : Value) : (inR (i, u))[33]? = some u := by simp [inR]
section
variable {ops : Array Oper} {Q : Exit → Act → World → Prop} {rest : List Oper} {o : Oper} {a : Act} {w : World}
end
theorem baseB_one {is : List InP} (h : baseB is = true) : ∃ i, is = [i] := by
  match is, h with
  | [i], _ => exact ⟨i, rfl⟩
  | [], h => cases h
  | i :: j :: is, h => cases h
theorem any_step {p : InP → Bool} {is : List InP} {k : Nat} {i : InP} (h : is[k]? = some i) : (is.drop k).any p = (p i || (is.drop (k + 1)).any p) := by
  obtain ⟨hk, rfl⟩ := List.getElem?_eq_some_iff.1 h
  rw [List.drop_eq_getElem_cons hk]; rfl
def CheckPost (w : World) (n : Int) (e : Ending) (w' : World) : Prop := e = .returned (.int .i64 n) ∧ Below w.heap.size w w'
end Go.Proofs.YtdeggdmoijfhdaaDoor

/-
  Layer 10: can it be: the reference's Check.
-/
namespace Go.Proofs.YtdeggdmoijfhdaaDoor
open Go Go.RowKit

theorem cells_below {w w' : World} {b : Addr} {r : List Value} (h : ∀ (j : Nat) (u : Value), r[j]? = some u → w.cell? (b.add j) = some u) (hb : Below w.heap.size w w') : ∀ (j : Nat) (u : Value), r[j]? = some u → w'.cell? (b.add j) = some u :=
  fun j u hu => by rw [hb.cell (block_lt_of_cell (h j u hu))]; exact h j u hu
section
variable {ops : Array Oper} {o : Oper} {a : Act} {S : World → Prop}
theorem yFldAt0 {P : Program} {T : TypeId} {n : Nat} (hF : ∃ f fs, P.underlying T = some (.struct fs) ∧ fs[0]? = some f ∧ f.offset = 0 ∧ (P.info? f.type).map (·.size) = some (n + 1)) (x : Operand) (b : Addr) (ho : o.op = .fieldAddr T x 0) (hg : Region.wanted o (yielded ops a.tmps) = true) (hx : a.eval x = .pointer (some b)) : YieldsIf P ops S o (.pointer (some b)) a := by
  obtain ⟨f, fs, h1, h2, h3, h4⟩ := hF
  refine yOf hg fun w _ => ?_
  have hrun := run_fieldAtAny (w := w) T 0 n 0 fs f b h1 h2 h3 h4
  rw [addr_add0] at hrun
  unfold execOp; simp only [ho, hx, Sem.run_bind, hrun, Result.andThen_ok, Sem.run_pure]
end
end Go.Proofs.YtdeggdmoijfhdaaDoor
