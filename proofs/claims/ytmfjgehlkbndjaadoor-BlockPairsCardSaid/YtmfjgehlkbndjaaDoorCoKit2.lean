/-
  Layer 9: references held against each other; the reference's reader as it begins.
-/
import Derived.Test.YtmfjgehlkbndjaaDoorCoRead
namespace Go.Proofs.YtmfjgehlkbndjaaDoor
open Go Go.RowKit

section
variable {P : Program} {ops : Array Oper} {o : Oper} {a : Act} {S : World → Prop}
theorem yNotC (T : TypeId) (x : Operand) (b : Bool) (ho : o.op = .unOp .not T x) (hg : Region.wanted o (yielded ops a.tmps) = true) (hx : a.eval x = .bool b) : YieldsIf P ops S o (.bool (!b)) a :=
  yOf hg fun w _ => by unfold execOp; simp [ho, hx, Op.unary]
theorem yEqlIC (T T2 : TypeId) (x y : Operand) (k : IntKind) (m n : Int) (b : Bool) (ho : o.op = .binOp .eql T x y T2) (hg : Region.wanted o (yielded ops a.tmps) = true) (hx : a.eval x = .int k m) (hy : a.eval y = .int k n) (hb : decide (m = n) = b) : YieldsIf P ops S o (.bool b) a :=
  yOf hg fun w _ => by
    subst hb
    unfold execOp; simp only [ho, hx, hy]; simp [eqGuard, binOp, Op.intCmp]; rfl
end
theorem eqGuard_RefC : Tryd.prog.eqGuardType Tryd.prog.depth 60 = false := by kernel_rfl
theorem stood_RefC : Tryd.prog.stoodInHeld 60 = false := by kernel_rfl
theorem fields_RefC : Tryd.prog.underlying 60 = some (.struct (Tryd.prog.fieldsOf 60)) := by kernel_rfl
theorem listed_RefC : (Tryd.prog.fieldsOf 60).toList.map (fun f => (f.type, f.offset, decide (f.name = "_"))) = [(25, 0, false), (29, 32, false)] := by kernel_rfl
theorem run_equalRefC {l m : List UInt8} (hl : l.length = 32) (hm : m.length = 32) (n k : Nat) (w : World) : (Op.equalIn 10000 60 (.agg (refC l n)) (.agg (refC m k))).run Tryd.prog w = .ok (decide (l = m) && decide ((n : Int) = (k : Int))) w := by
  have h := run_eqStruct (P := Tryd.prog) (w := w) (xs := refC l n) (ys := refC m k) _ [decide (l = m), decide ((n : Int) = (k : Int))] fields_RefC stood_RefC listed_RefC
    ⟨rfl, ⟨_, _, partA Tryd.underlying25 rfl info_HashCo _ _ _ (refC_id l n) w, partA Tryd.underlying25 rfl info_HashCo _ _ _ (refC_id m k) w, run_equalBytes Tryd.underlying25 Tryd.underlying5 info_b8P 9997 hl hm⟩,
     rfl, ⟨_, _, part1 Tryd.underlying29 rfl _ _ _ (refC_at l n) w, part1 Tryd.underlying29 rfl _ _ _ (refC_at m k) w, run_equalZ Tryd.underlying29 9998 _ _ w⟩, trivial⟩
  have e : [decide (l = m), decide ((n : Int) = (k : Int))].all id = (decide (l = m) && decide ((n : Int) = (k : Int))) := by simp
  rw [e] at h
  exact h
section
variable {ops : Array Oper} {Q : Exit → Act → World → Prop} {rest : List Oper} {o : Oper} {a : Act} {w : World} {S : World → Prop}
end
end Go.Proofs.YtmfjgehlkbndjaaDoor
