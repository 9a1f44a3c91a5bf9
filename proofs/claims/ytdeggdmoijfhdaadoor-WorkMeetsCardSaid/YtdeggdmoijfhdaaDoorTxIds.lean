/-
  Layer 10: Parse of the reference; names; transactions held against each other; what makes something.
-/
import Derived.Test.YtdeggdmoijfhdaaDoorTxReAll
import Derived.Test.YtdeggdmoijfhdaaDoorCoKit2
import Derived.Test.YtdeggdmoijfhdaaDoorCoSame
import Derived.Test.YtdeggdmoijfhdaaDoorTwice
namespace Go.Proofs.YtdeggdmoijfhdaaDoor
open Go Go.RowKit

variable {Lm : Nat}
section
variable {ops : Array Oper} {o : Oper} {a : Act} {S : World → Prop}
theorem yBuildAny {P : Program} (T : TypeId) (parts : Array (Nat × Operand)) (vs : Array (Nat × Value)) (cs : Array Value) (ho : o.op = .build T parts) (hg : Region.wanted o (yielded ops a.tmps) = true) (hp : (parts.map fun (i, x) => (i, a.eval x)) = vs) (hb : P.built T vs.toList = some cs) : YieldsIf P ops S o (.agg cs) a :=
  yOf hg fun w _ => by
    unfold execOp
    simp only [ho, Sem.run_bind, hp]
    have := run_build w T vs cs hb
    simp [this]
end
theorem retBT {fn : Func} {R : Ending → World → Prop} {P : Program} {a : Act} {w : World} {t : Tmp} (h : fn.results = #[.tmp t]) (hd : a.defers = []) (hR : R (.returned (a.tmps.getD t undef)) w) : bodyPost P fn R .ret a w :=
  bodyPost_ret (by simp [results, h]) hd hR
def HV (l : List UInt8) : Value := .agg (tab 32 fun p => VB (at8 l p))
def idL (t : TxP) : List UInt8 := sha (sha (txL t))
theorem idL_len (t : TxP) : (idL t).length = 32 := sha_len _
def HashPost (w : World) (l : List UInt8) (e : Ending) (w' : World) : Prop := e = .returned (HV l) ∧ Below w.heap.size w w'
def BoolPost (w : World) (b : Bool) (e : Ending) (w' : World) : Prop := e = .returned (.bool b) ∧ Below w.heap.size w w'
theorem txL_len {t : TxP} (h : t.Is) (hf : t.Fits) : (txL t).length ≤ 900000 := by
  rw [txL_split]
  have h1 := countL_le t.ins.length
  have h2 := countL_le t.outs.length
  have hi : ∀ l : List InP, (∀ i ∈ l, i.Is) → (∀ i ∈ l, i.unlock.length ≤ 2000) → (insL l).length ≤ l.length * 2060 := by
    intro l
    induction l with
    | nil => intro _ _; simp [insL]
    | cons x l ih =>
      intro g1 g2
      have a1 := ih (fun i hi => g1 i (by simp [hi])) (fun i hi => g2 i (by simp [hi]))
      have a2 := inL_le (g2 x (by simp)) (g1 x (by simp)).1
      have e : insL (x :: l) = inL x ++ insL l := by unfold insL; rw [List.map_cons, List.flatten_cons]
      rw [e, List.length_append, List.length_cons, Nat.add_mul]; omega
  have ho : ∀ l : List (Int × List UInt8), (∀ i ∈ l, i.2.length ≤ 2000) → (outsL l).length ≤ l.length * 2060 := by
    intro l
    induction l with
    | nil => intro _; simp [outsL]
    | cons x l ih =>
      intro g2
      have a1 := ih (fun i hi => g2 i (by simp [hi]))
      have a2 : (outPL x).length ≤ 2017 := outL_le (g2 x (by simp))
      have e : outsL (x :: l) = outPL x ++ outsL l := by unfold outsL; rw [List.map_cons, List.flatten_cons]
      rw [e, List.length_append, List.length_cons, Nat.add_mul]; omega
  have b1 := hi t.ins h.2.2.1 hf.2.2.1
  have b2 := ho t.outs hf.2.2.2
  have b3 := Nat.mul_le_mul_right 2060 hf.1
  have b4 := Nat.mul_le_mul_right 2060 hf.2.1
  simp only [List.length_append, fixedL_len]
  omega
end Go.Proofs.YtdeggdmoijfhdaaDoor
