/-
  Layer 9: references held against each other; the reference's reader as it begins.
-/
import Derived.Test.YtmfjgehlkbndjaaGreatDoorCoRead
namespace Go.Proofs.YtmfjgehlkbndjaaGreatDoor
open Go Go.RowKit

section
variable {P : Program} {ops : Array Oper} {o : Oper} {a : Act} {S : World → Prop}
theorem yNotC (T : TypeId) (x : Operand) (b : Bool) (ho : o.op = .unOp .not T x) (hg : Region.wanted o (yielded ops a.tmps) = true) (hx : a.eval x = .bool b) : YieldsIf P ops S o (.bool (!b)) a :=
  yOf hg fun w _ => by unfold execOp; simp [ho, hx, Op.unary]
theorem yEqlIC (T T2 : TypeId) (x y : Operand) (k : IntKind) (m n : Int) (b : Bool) (ho : o.op = .binOp .eql T x y T2) (hg : Region.wanted o (yielded ops a.tmps) = true) (hx : a.eval x = .int k m) (hy : a.eval y = .int k n) (hb : decide (m = n) = b) : YieldsIf P ops S o (.bool b) a :=
  yOf hg fun w _ => by
    subst hb
    unfold execOp; simp only [ho, hx, hy]; simp [eqGuard, binOp, Op.intCmp]; rfl
end
theorem eqGuard_RefC : Tryz.prog.eqGuardType Tryz.prog.depth 60 = false := by kernel_rfl
theorem stood_RefC : Tryz.prog.stoodInHeld 60 = false := by kernel_rfl
theorem fields_RefC : Tryz.prog.underlying 60 = some (.struct (Tryz.prog.fieldsOf 60)) := by kernel_rfl
theorem listed_RefC : (Tryz.prog.fieldsOf 60).toList.map (fun f => (f.type, f.offset, decide (f.name = "_"))) = [(24, 0, false), (22, 32, false)] := by kernel_rfl
theorem run_equalRefC {l m : List UInt8} (hl : l.length = 32) (hm : m.length = 32) (n k : Nat) (w : World) : (Op.equalIn 10000 60 (.agg (refC l n)) (.agg (refC m k))).run Tryz.prog w = .ok (decide (l = m) && decide ((n : Int) = (k : Int))) w := by
  have h := run_eqStruct (P := Tryz.prog) (w := w) (xs := refC l n) (ys := refC m k) _ [decide (l = m), decide ((n : Int) = (k : Int))] fields_RefC stood_RefC listed_RefC
    ⟨rfl, ⟨_, _, partA Tryz.underlying24 rfl info_HashCo _ _ _ (refC_id l n) w, partA Tryz.underlying24 rfl info_HashCo _ _ _ (refC_id m k) w, run_equalBytes Tryz.underlying24 Tryz.underlying5 info_b8P 9997 hl hm⟩,
     rfl, ⟨_, _, part1 Tryz.underlying22 rfl _ _ _ (refC_at l n) w, part1 Tryz.underlying22 rfl _ _ _ (refC_at m k) w, run_equalZ Tryz.underlying22 9998 _ _ w⟩, trivial⟩
  have e : [decide (l = m), decide ((n : Int) = (k : Int))].all id = (decide (l = m) && decide ((n : Int) = (k : Int))) := by simp
  rw [e] at h
  exact h
theorem built_scanC0 (ao : Option Addr) (n c : Nat) : Tryz.prog.built 89 [(0, .slice ao n c)] = some #[.slice ao n c, .int .i64 0] := by kernel_rfl
theorem built_scanC {w : World} {v : Value} {l : List Value} (h : IsVals w v l) : Tryz.prog.built 89 [(0, v)] = some #[v, .int .i64 0] := by obtain ⟨ao, c, rfl, _⟩ := h; exact built_scanC0 _ _ _
section
variable {ops : Array Oper} {Q : Exit → Act → World → Prop} {rest : List Oper} {o : Oper} {a : Act} {w : World} {S : World → Prop}
theorem kBuildScanC (x : Operand) (v : Value) {l : List Value} (hv : IsVals w v l) (ho : o.op = .build 89 #[(0, x)]) (hg : Region.wanted o (yielded ops a.tmps) = true) (hx : a.eval x = v) (h : wpList Tryz.prog ops Q rest (a.put o.dst (.agg #[v, .int .i64 0])) w) : wpList Tryz.prog ops Q (o :: rest) a w :=
  kBuildAny _ _ #[(0, v)] _ ho hg (by simp [hx]) (built_scanC hv) h
end
theorem refS_len (s : Scn) : (refS s).1.1.length = 32 := by
  unfold refS
  split
  · rfl
  · rename_i h
    have h0 : (rawS s 32).2.err = 0 := fixed_ok (z := 4) (by simpa using h)
    exact raw_len (n := 32) h0
end Go.Proofs.YtmfjgehlkbndjaaGreatDoor
