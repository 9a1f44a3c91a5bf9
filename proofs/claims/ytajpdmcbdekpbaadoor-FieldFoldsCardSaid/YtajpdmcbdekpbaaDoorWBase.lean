/-
  The types of package wide, math/bits.Add64 and Sub64 as the model has them, and '==' of numbers of 256 bits.
-/
import Derived.Test.YtajpdmcbdekpbaaDoorWNum
import Derived.Test.YtajpdmcbdekpbaaDoorChecked
import Derived.Laws.Externs
import Derived.Maps.RangeWalk
namespace Go.Proofs.YtajpdmcbdekpbaaDoor
open Go Go.RowKit

theorem info_Wide : (Tryd.prog.info? 25).map (·.size) = some 4 := by kernel_rfl
theorem info_WideC (a : Nat) : (Tryd.prog.info? 25).map (·.size) = some (wcells a).size := by rw [wcells_size]; exact info_Wide
theorem info_w64 : (Tryd.prog.info? 23).map (·.size) = some 1 := by kernel_rfl
theorem zero_Wide0 : ((Tryd.prog.info? 25).bind (·.zero)).map Value.cells = some (tab 4 fun _ => .int .u64 0) := by kernel_rfl
theorem zero_Wide : ((Tryd.prog.info? 25).bind (·.zero)).map Value.cells = some (wcells 0) := by rw [wcells_zero]; exact zero_Wide0

theorem run_add64W (x y c : Nat) (hc : c ≤ 1) (w : World) : (callFunc 49 #[.int .u64 x, .int .u64 y, .int .u64 c]).run Tryd.prog w =
    .ok (.value (.tuple #[.int .u64 (((x + y + c) % 18446744073709551616 : Nat) : Int), .int .u64 (((x + y + c) / 18446744073709551616 : Nat) : Int)])) w := by
  rw [run_callFunc_extern Tryd.func49 (by kernel_rfl) (by kernel_rfl) (by kernel_rfl) (e := add64Entry) (by kernel_rfl), run_add64 x y c (by omega) (by omega) (by omega) (by omega)]
  simp only [Result.andThen]
  congr 5 <;> omega
/-- The model's entry for math/bits.Sub64, as the walk meets it. -/
def sub64E : Array Value → Sem Value := fun args => do
  let (x, y, b) ← Extern.MathBitsCarry.three "Sub64" args
  pure (Extern.MathBitsCarry.pair ((x + Extern.MathBitsCarry.m64 - y - b) % Extern.MathBitsCarry.m64) (if x < y + b then 1 else 0))
theorem run_sub64E {P : Program} (x y b : Nat) (hb : b ≤ 1) (w : World) :
    (sub64E #[.int .u64 x, .int .u64 y, .int .u64 b]).run P w =
      .ok (.tuple #[.int .u64 (((x + 18446744073709551616 - y - b) % 18446744073709551616 : Nat) : Int), .int .u64 ((if x < y + b then 1 else 0 : Nat) : Int)]) w := by
  have : b = 0 ∨ b = 1 := by omega
  rcases this with rfl | rfl <;> rfl
theorem run_sub64W (x y b : Nat) (hb : b ≤ 1) (w : World) : (callFunc 50 #[.int .u64 x, .int .u64 y, .int .u64 b]).run Tryd.prog w =
    .ok (.value (.tuple #[.int .u64 (((x + 18446744073709551616 - y - b) % 18446744073709551616 : Nat) : Int), .int .u64 ((if x < y + b then 1 else 0 : Nat) : Int)])) w := by
  rw [run_callFunc_extern Tryd.func50 (by kernel_rfl) (by kernel_rfl) (by kernel_rfl) (e := sub64E) (by kernel_rfl), run_sub64E x y b hb]
  rfl

theorem eqGuard_Wide : Tryd.prog.eqGuardType Tryd.prog.depth 25 = false := by kernel_rfl
section
variable {ops : Array Oper} {S : World → Prop} {Q : Exit → Act → World → Prop} {L : Act → World → Prop} {bs : List Bool} {o : Oper} {rest : List Oper} {a : Act} {w : World}
theorem run_eqlW (m n : Nat) (x y : Operand) (w : World) : (do eqGuard .eql 25 x y (WV m) (WV n); binOp .eql 25 (WV m) (WV n) : Sem Value).run Tryd.prog w = .ok (.bool (decide (m % M256 = n % M256))) w := by
  rw [← limbs_eq]
  exact run_eqlArr (k := .u64) Tryd.underlying25 Tryd.underlying23 info_w64 eqGuard_Wide _ _ x y
theorem run_neqW (m n : Nat) (x y : Operand) (w : World) : (do eqGuard .neq 25 x y (WV m) (WV n); binOp .neq 25 (WV m) (WV n) : Sem Value).run Tryd.prog w = .ok (.bool (!decide (m % M256 = n % M256))) w := by
  rw [← limbs_eq]
  exact run_neqArr (k := .u64) Tryd.underlying25 Tryd.underlying23 info_w64 eqGuard_Wide _ _ x y
theorem exec_eqlW (T2 : TypeId) (x y : Operand) (m n : Nat) (b : Bool) (ho : o.op = .binOp .eql 25 x y T2) (hx : a.eval x = WV m) (hy : a.eval y = WV n) (hb : decide (m % M256 = n % M256) = b) (w : World) : (execOp a.eval o).run Tryd.prog w = .ok (.value (.bool b)) w := by
  subst hb
  unfold execOp
  have hr := run_eqlW m n x y w
  simp only [ho, hx, hy]
  rw [Sem.run_bind, hr]
  rfl
theorem exec_neqW (T2 : TypeId) (x y : Operand) (m n : Nat) (b : Bool) (ho : o.op = .binOp .neq 25 x y T2) (hx : a.eval x = WV m) (hy : a.eval y = WV n) (hb : (!decide (m % M256 = n % M256)) = b) (w : World) : (execOp a.eval o).run Tryd.prog w = .ok (.value (.bool b)) w := by
  subst hb
  unfold execOp
  have hr := run_neqW m n x y w
  simp only [ho, hx, hy]
  rw [Sem.run_bind, hr]
  rfl
theorem kEqlW (T2 : TypeId) (x y : Operand) (m n : Nat) (b : Bool) (ho : o.op = .binOp .eql 25 x y T2) (hg : Region.wanted o (yielded ops a.tmps) = true) (hx : a.eval x = .agg (wcells m)) (hy : a.eval y = .agg (wcells n)) (hb : decide (m % M256 = n % M256) = b)
    (h : wpList Tryd.prog ops Q rest (a.put o.dst (.bool b)) w) : wpList Tryd.prog ops Q (o :: rest) a w := by
  refine BigFrame.wpList_want hg fun K hK => ?_
  unfold Oper.wp
  rw [exec_eqlW T2 x y m n b ho hx hy hb]
  exact hK _ _ h
theorem kNeqW (T2 : TypeId) (x y : Operand) (m n : Nat) (b : Bool) (ho : o.op = .binOp .neq 25 x y T2) (hg : Region.wanted o (yielded ops a.tmps) = true) (hx : a.eval x = .agg (wcells m)) (hy : a.eval y = .agg (wcells n)) (hb : (!decide (m % M256 = n % M256)) = b)
    (h : wpList Tryd.prog ops Q rest (a.put o.dst (.bool b)) w) : wpList Tryd.prog ops Q (o :: rest) a w := by
  refine BigFrame.wpList_want hg fun K hK => ?_
  unfold Oper.wp
  rw [exec_neqW T2 x y m n b ho hx hy hb]
  exact hK _ _ h
theorem mixEqlW (T2 : TypeId) (x y : Operand) (m n : Nat) (b : Bool) (hS : S w) (ho : o.op = .binOp .eql 25 x y T2) (hg : Region.wanted o (yielded ops a.tmps) = true) (hx : a.eval x = .agg (wcells m)) (hy : a.eval y = .agg (wcells n)) (hb : decide (m % M256 = n % M256) = b)
    (h : wpMix Tryd.prog ops Q S L bs rest (a.put o.dst (.bool b)) w) : wpMix Tryd.prog ops Q S L (true :: bs) (o :: rest) a w :=
  mixQuiet _ hS hg (fun w _ => exec_eqlW T2 x y m n b ho hx hy hb w) h
theorem mixNeqW (T2 : TypeId) (x y : Operand) (m n : Nat) (b : Bool) (hS : S w) (ho : o.op = .binOp .neq 25 x y T2) (hg : Region.wanted o (yielded ops a.tmps) = true) (hx : a.eval x = .agg (wcells m)) (hy : a.eval y = .agg (wcells n)) (hb : (!decide (m % M256 = n % M256)) = b)
    (h : wpMix Tryd.prog ops Q S L bs rest (a.put o.dst (.bool b)) w) : wpMix Tryd.prog ops Q S L (true :: bs) (o :: rest) a w :=
  mixQuiet _ hS hg (fun w _ => exec_neqW T2 x y m n b ho hx hy hb w) h
end
end Go.Proofs.YtajpdmcbdekpbaaDoor
