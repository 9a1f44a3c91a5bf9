/-
  The walk of the statement WideNames.
-/
import Derived.Test.YtajpdmcbdekpbaaDoorWMem
namespace Go.Proofs.YtajpdmcbdekpbaaDoor
open Go Go.RowKit

theorem wOf_lit (k : Nat) (v : Int) (h : k < 18446744073709551616) (hv : v = (k : Int)) (w : World) :
    Calls Tryd.prog 16 #[.int .u64 v] w fun e w' => e = .returned (WV k) ∧ Below w.heap.size w w' := by
  subst hv; exact wOf_any k h w

theorem wBits_val (a : Nat) (cs : Array Value) (z : Int) (ha : a < M256) (hc : cs = wcells a) (h : (blen a : Int) = z) (w : World) :
    Calls Tryd.prog 48 #[.agg cs] w fun e w' => e = .returned (.int .i64 z) ∧ Below w.heap.size w w' := by
  subst hc; subst h; exact wBits_any a ha w

section
variable {ops : Array Oper} {Q : Act → Prop} {rest : List Oper} {o : Oper} {a : Act} {w0 w : World} {l : List (Nat × Nat)} {C : World → Prop}
theorem qLoadM (hM : Mem w0 w l) (i : Nat) (x : Operand) (g n : Nat) (hi : l[i]? = some (g, n)) (ho : o.op = .load 25 x) (hg : Region.wanted o (yielded ops a.tmps) = true) (hx : a.eval x = .pointer (some ⟨g, 0, none⟩))
    (h : wpQuiet Tryd.prog ops (fun w' => ∃ p : Regrown, w' = «Sort».grow (redrawn w p.d) p.os) Q rest (a.put o.dst (.agg (wcells n)))) : wpQuiet Tryd.prog ops (fun w' => ∃ p : Regrown, w' = «Sort».grow (redrawn w p.d) p.os) Q (o :: rest) a :=
  qLoadAs _ _ x g 0 4 _ (wcells n) _ ho hg hx (fun _ hw => row_regrown (hM.get i hi) hw) Tryd.underlying25 rfl info_Wide (by rw [wcells_size]; omega) (by
    have : (wcells n).extract 0 (0 + 4) = (wcells n).extract 0 (wcells n).size := by rw [wcells_size]
    rw [this]; simp) h
theorem qEqlW (T2 : TypeId) (x y : Operand) (m n : Nat) (b : Bool) (ho : o.op = .binOp .eql 25 x y T2) (hg : Region.wanted o (yielded ops a.tmps) = true) (hx : a.eval x = .agg (wcells m)) (hy : a.eval y = .agg (wcells n)) (hb : decide (m % M256 = n % M256) = b)
    (h : wpQuiet Tryd.prog ops C Q rest (a.put o.dst (.bool b))) : wpQuiet Tryd.prog ops C Q (o :: rest) a :=
  qStep _ hg (fun w _ => exec_eqlW T2 x y m n b ho hx hy hb w) h
end

end Go.Proofs.YtajpdmcbdekpbaaDoor
