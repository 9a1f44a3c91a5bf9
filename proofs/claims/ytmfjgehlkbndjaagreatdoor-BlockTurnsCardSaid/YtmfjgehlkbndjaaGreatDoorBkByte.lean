/-
  Layer 11: a byte and one, a byte less one, a number of 32 bits and one, as they turn over.
-/
import Derived.Test.YtmfjgehlkbndjaaGreatDoorBkA
namespace Go.Proofs.YtmfjgehlkbndjaaGreatDoor
open Go Go.RowKit

section
variable {P : Program} {ops : Array Oper} {o : Oper} {a : Act} {S : World → Prop}
theorem yAddB1 (T T2 : TypeId) (x y : Operand) (c : UInt8) (ho : o.op = .binOp .add T x y T2) (hg : Region.wanted o (yielded ops a.tmps) = true) (hx : a.eval x = .int .u8 (c.toNat : Int)) (hy : a.eval y = .int .u8 1) : YieldsIf P ops S o (VB (c + 1)) a :=
  yOf hg fun w _ => by
    have e : IntKind.u8.wrap ((c.toNat : Int) + 1) = ((c + 1).toNat : Int) := by
      have := c.toNat_lt
      rw [IntKind.wrap_u8, UInt8.toNat_add, show (1 : UInt8).toNat = 1 from rfl]
      omega
    unfold execOp; simp only [ho, hx, hy]; simp [eqGuard, binOp, Op.intArith, e, VB, B]
theorem ySubB1 (T T2 : TypeId) (x y : Operand) (c : UInt8) (ho : o.op = .binOp .sub T x y T2) (hg : Region.wanted o (yielded ops a.tmps) = true) (hx : a.eval x = .int .u8 ((c + 1).toNat : Int)) (hy : a.eval y = .int .u8 1) : YieldsIf P ops S o (VB c) a :=
  yOf hg fun w _ => by
    have e : IntKind.u8.wrap (((c + 1).toNat : Int) - 1) = (c.toNat : Int) := by
      have := c.toNat_lt
      rw [IntKind.wrap_u8, UInt8.toNat_add, show (1 : UInt8).toNat = 1 from rfl]
      omega
    generalize ((c + 1).toNat : Int) = m at *
    unfold execOp; simp only [ho, hx, hy]; simp [eqGuard, binOp, Op.intArith, e, VB, B]
theorem yAddW1 (T T2 : TypeId) (x y : Operand) (n : Nat) (hn : n < 4294967296) (ho : o.op = .binOp .add T x y T2) (hg : Region.wanted o (yielded ops a.tmps) = true) (hx : a.eval x = .int .u32 (n : Int)) (hy : a.eval y = .int .u32 1) : YieldsIf P ops S o (.int .u32 (((n + 1) % 4294967296 : Nat) : Int)) a :=
  yOf hg fun w _ => by
    have e : IntKind.u32.wrap ((n : Int) + 1) = (((n + 1) % 4294967296 : Nat) : Int) := by rw [IntKind.wrap_u32]; omega
    unfold execOp; simp only [ho, hx, hy]; simp [eqGuard, binOp, Op.intArith, e]
end
end Go.Proofs.YtmfjgehlkbndjaaGreatDoor
