/-
  Layer 9: references held against each other; the reference's reader as it begins.
-/
import Derived.Test.YtdeggdmoijfhdaaDoorCoRead
namespace Go.Proofs.YtdeggdmoijfhdaaDoor
open Go Go.RowKit

section
variable {P : Program} {ops : Array Oper} {o : Oper} {a : Act} {S : World → Prop}
theorem yNotC (T : TypeId) (x : Operand) (b : Bool) (ho : o.op = .unOp .not T x) (hg : Region.wanted o (yielded ops a.tmps) = true) (hx : a.eval x = .bool b) : YieldsIf P ops S o (.bool (!b)) a :=
  yOf hg fun w _ => by unfold execOp; simp [ho, hx, Op.unary]
theorem yEqlIC (T T2 : TypeId) (x y : Operand) (k : IntKind) (m n : Int) (b : Bool) (ho : o.op = .binOp .eql T x y T2) (hg : Region.wanted o (yielded ops a.tmps) = true) (hx : a.eval x = .int k m) (hy : a.eval y = .int k n) (hb : decide (m = n) = b) : YieldsIf P ops S o (.bool b) a :=
  yOf hg fun w _ => by
    subst hb
    unfold execOp; simp only [ho, hx, hy]; simp [eqGuard, binOp, Op.intCmp]; rfl
end
section
variable {ops : Array Oper} {Q : Exit → Act → World → Prop} {rest : List Oper} {o : Oper} {a : Act} {w : World} {S : World → Prop}
end
theorem sameO_refl (n : Int) (l : List UInt8) : sameO n l n l = true := by simp [sameO]
theorem ref_len {l : List UInt8} (hl : l.length = 32) (n : Nat) : (refL l n).length = 36 := by unfold refL; rw [List.length_append, fixedL_len, hl]
theorem refS_len (s : Scn) : (refS s).1.1.length = 32 := by
  unfold refS
  split
  · rfl
  · rename_i h
    have h0 : (rawS s 32).2.err = 0 := fixed_ok (z := 4) (by simpa using h)
    exact raw_len (n := 32) h0
theorem ref_restLe (s : Scn) : (refS s).2.rest.length ≤ s.rest.length := by
  unfold refS
  split <;> exact Nat.le_trans (fixed_restLeC _ 4) (raw_restLeC s 32)
end Go.Proofs.YtdeggdmoijfhdaaDoor
