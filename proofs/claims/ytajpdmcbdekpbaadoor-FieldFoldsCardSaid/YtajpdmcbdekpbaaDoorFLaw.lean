/-
  What the statements of layer 3 ask besides: single operations in any region, rows of two numbers, contracts by a number's name.
-/
import Derived.Test.YtajpdmcbdekpbaaDoorFRoot
import Derived.Test.YtajpdmcbdekpbaaDoorKit10
namespace Go.Proofs.YtajpdmcbdekpbaaDoor
open Go Go.RowKit

section
variable {P : Program} {ops : Array Oper} {Q : Exit → Act → World → Prop} {rest : List Oper} {o : Oper} {a : Act} {w : World}
theorem kNot (T : TypeId) (x : Operand) (b : Bool) (ho : o.op = .unOp .not T x) (hg : Region.wanted o (yielded ops a.tmps) = true) (hx : a.eval x = .bool b) (h : wpList P ops Q rest (a.put o.dst (.bool (!b))) w) : wpList P ops Q (o :: rest) a w :=
  kPure _ hg (by unfold execOp; simp [ho, hx, Op.unary]) h
theorem kEqlI (T T2 : TypeId) (x y : Operand) (k : IntKind) (m n : Int) (b : Bool) (ho : o.op = .binOp .eql T x y T2) (hg : Region.wanted o (yielded ops a.tmps) = true) (hx : a.eval x = .int k m) (hy : a.eval y = .int k n) (hb : decide (m = n) = b) (h : wpList P ops Q rest (a.put o.dst (.bool b)) w) : wpList P ops Q (o :: rest) a w := by
  subst hb
  refine kPure _ hg ?_ h
  unfold execOp
  simp only [ho, hx, hy]
  simp [eqGuard, binOp, Op.intCmp]
  rfl
theorem kNeqI (T T2 : TypeId) (x y : Operand) (k : IntKind) (m n : Int) (b : Bool) (ho : o.op = .binOp .neq T x y T2) (hg : Region.wanted o (yielded ops a.tmps) = true) (hx : a.eval x = .int k m) (hy : a.eval y = .int k n) (hb : (!decide (m = n)) = b) (h : wpList P ops Q rest (a.put o.dst (.bool b)) w) : wpList P ops Q (o :: rest) a w := by
  subst hb
  refine kPure _ hg ?_ h
  unfold execOp
  simp only [ho, hx, hy]
  simp [eqGuard, binOp, Op.intCmp]
  rfl
theorem unwanted_of {l : List Oper} {g : Nat} {b : Bool} {d : Tmp} {u : Value} (hg : o.guard = some (g, b)) (hd : (l[g]?).bind (·.dst) = some d) (hv : a.tmps.getD d undef = u) (hu : u = .bool (!b) ∨ u = undef) : Region.wanted o (yielded l.toArray a.tmps) = false := by
  unfold Region.wanted
  rw [hg]
  cases hq : a.tmps[d]? with
  | none => simp [yielded, hd, hq]
  | some x =>
    have e : x = u := by rw [Array.getD_eq_getD_getElem?, hq] at hv; simpa using hv
    subst e
    rcases hu with h | h <;> subst h <;> cases b <;> simp [yielded, hd, hq, undef]
end

theorem Row.on {w w' : World} {g : Nat} {T : TypeId} {cs : Array Value} (h : Row w g T cs) (hb : Below w.heap.size w w') : Row w' g T cs := h.below hb h.lt
/-! ### rows of two numbers -/
def wcells2 (a b : Nat) : Array Value := wcells a ++ wcells b
theorem wcells2_size (a b : Nat) : (wcells2 a b).size = 8 := by unfold wcells2; simp [wcells_size]
theorem wcells2_at0 (a b : Nat) : (wcells2 a b).extract 0 (0 + 4) = wcells a := rfl
theorem wcells2_at4 (a b : Nat) : (wcells2 a b).extract 4 (4 + 4) = wcells b := rfl
section
variable {ops : Array Oper} {Q : Exit → Act → World → Prop} {rest : List Oper} {o : Oper} {a : Act} {w : World}
theorem kIndexAddr2 (x y : Operand) (g : Nat) (i : Int) (j : Nat) (ho : o.op = .indexAddr 47 x y) (hg : Region.wanted o (yielded ops a.tmps) = true) (hx : a.eval x = .pointer (some ⟨g, 0, none⟩)) (hy : a.eval y = .int .i64 i) (hi : i = (j : Int)) (hj : j < 2)
    (h : wpList Tryd.prog ops Q rest (a.put o.dst (.pointer (some ⟨g, 4 * j, none⟩))) w) : wpList Tryd.prog ops Q (o :: rest) a w :=
  kIndexAddr _ _ x y .i64 g 0 i j 2 4 ho hg hx hy Tryd.underlying47 info_Wide hi hj (by rw [Nat.zero_add, Nat.mul_comm]; exact h)
end

/-! ### contracts by names -/
theorem fAdd_as {m a b x : Nat} (hm : Modu m) (g : Nat) (ma : a < M256) (mb : b < M256) (h : x = (a + b) % m) (w : World) (hr : Row w g 54 (wcells m)) :
    Calls Tryd.prog 21 #[.pointer (some ⟨g, 0, none⟩), WV a, WV b] w fun e w' => e = .returned (WV x) ∧ Below w.heap.size w w' := by
  subst h; exact fAdd_any hm a b g ma mb w hr
theorem neqW_no {a b : Nat} (h : a = b) : (!decide (a % M256 = b % M256)) = false := by rw [h]; simp
theorem eqlW_yes {a b : Nat} (h : a = b) : decide (a % M256 = b % M256) = true := by rw [h]; simp
theorem eqlW_no {a b : Nat} (ha : a < M256) (hb : b < M256) (h : a ≠ b) : decide (a % M256 = b % M256) = false := by
  rw [Nat.mod_eq_of_lt ha, Nat.mod_eq_of_lt hb]; exact decide_eq_false h
theorem neqW_yes {a b : Nat} (ha : a < M256) (hb : b < M256) (h : a ≠ b) : (!decide (a % M256 = b % M256)) = true := by rw [eqlW_no ha hb h]; rfl
end Go.Proofs.YtajpdmcbdekpbaaDoor
