/-
  The walks of the statements CurveOn, CurveAdds, CurveTimes, CurveGroups and CurveNegs.
-/
import Derived.Test.YtecibidncelebaaDoorCvRef4
namespace Go.Proofs.YtecibidncelebaaDoor
open Go Go.RowKit

open Cv
theorem cBase_pt (w : World) (hB : GlobPt 1 gPt w) : Calls Tryd.prog 14 #[] w fun e w' => e = .returned (.agg (ptc gPt)) ∧ Below w.heap.size w w' := by
  unfold GlobPt at hB; rw [pX_g, pY_g] at hB; exact cBase_any w hB
theorem curveAlive_pt (w : World) (hG : Glob 2 PP w) (hO : GlobP 0 0 0 true w) (hB : GlobPt 1 gPt w) : Calls Tryd.prog 15 #[] w fun e w' => e = .returned (.bool true) ∧ Below w.heap.size w w' := by
  unfold GlobPt at hB; rw [pX_g, pY_g] at hB; exact curveAlive_any w hG hO hB
theorem cAdd_q {p q r : Pt PP} (hp : p.On) (hq : q.On) (h : Pt.add ivP p q = r) (w : World) (hG : Glob 2 PP w) (hO : GlobP 0 0 0 true w) : Calls Tryd.prog 13 #[.agg (ptc p), .agg (ptc q)] w fun e w' => e = .returned (.agg (ptc r)) ∧ Below w.heap.size w w' := h ▸ cAdd_pt hp hq w hG hO
theorem cTimes_q {k : Nat} {p r : Pt PP} (mk : k < M256) (hp : p.On) (h : Pt.times ivP p k = r) (w : World) (hG : Glob 2 PP w) (hO : GlobP 0 0 0 true w) (hB : GlobPt 1 gPt w) : Calls Tryd.prog 16 #[WV k, .agg (ptc p)] w fun e w' => e = .returned (.agg (ptc r)) ∧ Below w.heap.size w w' := h ▸ cTimes_pt mk hp w hG hO hB
theorem pickOf_q {k : Nat} {r : Pt PP} (hk : k < 65536) (b : Bool) (h : pick k b = r) (w : World) : Calls Tryd.prog 19 #[.agg #[.int .u16 (k : Int), .bool b]] w fun e w' => e = .returned (.agg (ptc r)) ∧ Below w.heap.size w w' := h ▸ pickOf_any hk b w
theorem ptc_at0 (p : Pt PP) : (ptc p).extract 0 (0 + 4) = wcells (pX p) := by rw [ptc_eq]; exact pcells_at0 _ _ _
section
variable {ops : Array Oper} {Q : Exit → Act → World → Prop} {rest : List Oper} {o : Oper} {a : Act} {w : World}
end
end Go.Proofs.YtecibidncelebaaDoor
