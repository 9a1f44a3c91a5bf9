/-
  Layer 7: the walk of the reference's op.
-/
import Derived.Test.YtnaclalbeocpkaaGreatDoorScRefB
import Derived.Laws.Concat
namespace Go.Proofs.YtnaclalbeocpkaaGreatDoor
open Go Go.RowKit

/-- the answer of op: the stack, and the error's number -/
def OPost (w : World) (q : List (List UInt8) × Nat) (e : Ending) (w' : World) : Prop := ∃ v, e = .returned (.tuple #[v, .int .i64 (q.2 : Int)]) ∧ IsVals w' v (q.1.reverse.map textV) ∧ Below w.heap.size w w'
theorem info_HashO : (Tryz.prog.info? 33).map (·.size) = some 32 := by kernel_rfl
section
variable {P : Program} {ops : Array Oper} {Q : Exit → Act → World → Prop} {rest : List Oper} {o : Oper} {a : Act} {w : World}
theorem kAddStr (T T2 : TypeId) (x y : Operand) (l m : List UInt8) (hl : l.length + m.length ≤ 1000000) (ho : o.op = .binOp .add T x y T2) (hg : Region.wanted o (yielded ops a.tmps) = true) (hx : a.eval x = textV l) (hy : a.eval y = textV m) (h : wpList P ops Q rest (a.put o.dst (textV (l ++ m))) w) : wpList P ops Q (o :: rest) a w := by
  have h1 : (⟨l.toArray⟩ : ByteArray).size = l.length := by simp [ByteArray.size]
  have h2 : (⟨m.toArray⟩ : ByteArray).size = m.length := by simp [ByteArray.size]
  have hr := run_string_add_sum (P := P) (w := w) ⟨l.toArray⟩ ⟨m.toArray⟩ (by rw [h1, h2]; omega)
  rw [ByteArray.mk_append_mk] at hr
  refine kPure _ hg ?_ h
  unfold execOp
  simp only [ho, hx, hy]
  rw [Sem.run_bind]
  show ((binOp .add T (textV l) (textV m)).run P w).andThen _ = _
  rw [show binOp .add T (textV l) (textV m) = Op.stringOp .add ⟨l.toArray⟩ ⟨m.toArray⟩ from rfl, hr]
  rfl
end
/-- the error's number of a check -/
def ckN (b : Bool) : Nat := if b then 0 else 74
end Go.Proofs.YtnaclalbeocpkaaGreatDoor
