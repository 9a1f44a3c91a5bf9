/-
  The walks of the statements CurveOn, CurveAdds, CurveTimes, CurveGroups and CurveNegs.
-/
import Derived.Test.YtfgffjmpjoipeaaDoorCvRef4
namespace Go.Proofs.YtfgffjmpjoipeaaDoor
open Go Go.RowKit

open Cv
theorem cBase_pt (w : World) (hB : GlobPt 0 gPt w) : Calls Tryd.prog 28 #[] w fun e w' => e = .returned (.agg (ptc gPt)) ∧ Below w.heap.size w w' := by
  unfold GlobPt at hB; rw [pX_g, pY_g] at hB; exact cBase_any w hB
theorem eAdd_q {p q r : Pt PP} (hp : p.On) (hq : q.On) (h : Pt.add ivP p q = r) (w : World) : Calls Tryd.prog 53 #[.agg (ptc p), .agg (ptc q)] w fun e w' => e = .returned (.agg (ptc r)) ∧ Below w.heap.size w w' := h ▸ eAdd_pt hp hq w
theorem cTimes_q {k : Nat} {p r : Pt PP} (mk : k < M256) (hp : p.On) (h : Pt.times ivP p k = r) (w : World) (hG : Glob 3 PP w) (hO : GlobP 2 0 0 true w) (hB : GlobPt 0 gPt w) : Calls Tryd.prog 27 #[WV k, .agg (ptc p)] w fun e w' => e = .returned (.agg (ptc r)) ∧ Below w.heap.size w w' := h ▸ cTimes_pt mk hp w hG hO hB
theorem eTimes_q {k : Nat} {p r : Pt PP} (mk : k < M256) (hp : p.On) (h : Pt.times ivP p k = r) (w : World) : Calls Tryd.prog 19 #[WV k, .agg (ptc p)] w fun e w' => e = .returned (.agg (ptc r)) ∧ Below w.heap.size w w' := h ▸ eTimes_pt mk hp w
theorem cBoth_q {k m : Nat} {p r : Pt PP} (mk : k < M256) (mm : m < M256) (hp : p.On) (h : both ivP gPt p k m = r) (w : World) (hG : Glob 3 PP w) (hO : GlobP 2 0 0 true w) (hB : GlobPt 0 gPt w) : Calls Tryd.prog 51 #[WV k, WV m, .agg (ptc p)] w fun e w' => e = .returned (.agg (ptc r)) ∧ Below w.heap.size w w' := h ▸ cBoth_pt mk mm hp w hG hO hB
theorem ptc_at0 (p : Pt PP) : (ptc p).extract 0 (0 + 4) = wcells (pX p) := by rw [ptc_eq]; exact pcells_at0 _ _ _
theorem pX_neg (p : Pt PP) : pX p.neg = pX p := by cases p <;> rfl
section
variable {ops : Array Oper} {Q : Exit → Act → World → Prop} {rest : List Oper} {o : Oper} {a : Act} {w : World}
theorem kAddU (T T2 : TypeId) (x y : Operand) (m n : Nat) (ho : o.op = .binOp .add T x y T2) (hg : Region.wanted o (yielded ops a.tmps) = true) (hx : a.eval x = .int .u64 (m : Int)) (hy : a.eval y = .int .u64 (n : Int)) (hz : m + n < 18446744073709551616) (h : wpList Tryd.prog ops Q rest (a.put o.dst (.int .u64 ((m + n : Nat) : Int))) w) : wpList Tryd.prog ops Q (o :: rest) a w := by
  refine kPure _ hg ?_ h
  unfold execOp
  simp only [ho, hx, hy]
  have e : IntKind.u64.wrap ((m : Int) + (n : Int)) = ((m + n : Nat) : Int) := by rw [IntKind.wrap_u64]; omega
  simp [eqGuard, binOp, Op.intArith, e]
theorem mmStore1 {w0 : World} {l : List (Nat × TypeId × Array Value)} (hM : Mm w0 w l) (i : Nat) (T U : TypeId) (g : Nat) (x y : Operand) (off : Nat) (cs : Array Value) (v : Value) (ds : Array Value) (hi : l[i]? = some (g, U, cs)) (ho : o.op = .store T x y) (hg : Region.wanted o (yielded ops a.tmps) = true) (hx : a.eval x = .pointer (some ⟨g, off, none⟩)) (hy : a.eval y = v) (hs : (Tryd.prog.info? T).map (·.size) = some 1) (hn : off < cs.size) (h1 : v.oneCell' = true) (hd : cs.setIfInBounds off v = ds)
    (h : ∀ w1, Mm w0 w1 (l.set i (g, U, ds)) → wpList Tryd.prog ops Q rest (a.put o.dst undef) w1) : wpList Tryd.prog ops Q (o :: rest) a w :=
  kStore1 _ _ x y g off _ _ ho hg hx hy (hM.get i hi) hs hn h1 fun w1 hr hw => h w1 (by rw [hd] at hr; exact hM.putAt i hi hw hr)
end
end Go.Proofs.YtfgffjmpjoipeaaDoor
