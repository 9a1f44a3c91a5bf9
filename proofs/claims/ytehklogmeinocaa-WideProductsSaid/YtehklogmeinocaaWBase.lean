/-
  The types of package wide, math/bits.Add64 and Sub64 as the model has them, and '==' of numbers of 256 bits.
-/
import Derived.Test.YtehklogmeinocaaWNum
import Derived.Test.YtehklogmeinocaaChecked
import Derived.Laws.Externs
import Derived.Maps.RangeWalk
namespace Go.Proofs.Ytehklogmeinocaa
open Go Go.RowKit

theorem info_Wide : (Try.prog.info? 24).map (·.size) = some 4 := by kernel_rfl
theorem info_WideC (a : Nat) : (Try.prog.info? 24).map (·.size) = some (wcells a).size := by rw [wcells_size]; exact info_Wide
theorem info_w64 : (Try.prog.info? 22).map (·.size) = some 1 := by kernel_rfl
theorem zero_Wide0 : ((Try.prog.info? 24).bind (·.zero)).map Value.cells = some (tab 4 fun _ => .int .u64 0) := by kernel_rfl
theorem zero_Wide : ((Try.prog.info? 24).bind (·.zero)).map Value.cells = some (wcells 0) := by rw [wcells_zero]; exact zero_Wide0

theorem run_add64W (x y c : Nat) (hc : c ≤ 1) (w : World) : (callFunc 34 #[.int .u64 x, .int .u64 y, .int .u64 c]).run Try.prog w =
    .ok (.value (.tuple #[.int .u64 (((x + y + c) % 18446744073709551616 : Nat) : Int), .int .u64 (((x + y + c) / 18446744073709551616 : Nat) : Int)])) w := by
  rw [run_callFunc_extern Try.func34 (by kernel_rfl) (by kernel_rfl) (by kernel_rfl) (e := add64Entry) (by kernel_rfl), run_add64 x y c (by omega) (by omega) (by omega) (by omega)]
  simp only [Result.andThen]
  congr 5 <;> omega
/-- The model's entry for math/bits.Sub64, as the walk meets it. -/
def sub64E : Array Value → Sem Value := fun args => do
  let (x, y, b) ← Extern.MathBitsCarry.three "Sub64" args
  pure (Extern.MathBitsCarry.pair ((x + Extern.MathBitsCarry.m64 - y - b) % Extern.MathBitsCarry.m64) (if x < y + b then 1 else 0))
theorem run_sub64E {P : Program} (x y b : Nat) (hb : b ≤ 1) (w : World) :
    (sub64E #[.int .u64 x, .int .u64 y, .int .u64 b]).run P w =
      .ok (.tuple #[.int .u64 (((x + 18446744073709551616 - y - b) % 18446744073709551616 : Nat) : Int), .int .u64 ((if x < y + b then 1 else 0 : Nat) : Int)]) w := by
  have : b = 0 ∨ b = 1 := by omega
  rcases this with rfl | rfl <;> rfl
theorem run_sub64W (x y b : Nat) (hb : b ≤ 1) (w : World) : (callFunc 31 #[.int .u64 x, .int .u64 y, .int .u64 b]).run Try.prog w =
    .ok (.value (.tuple #[.int .u64 (((x + 18446744073709551616 - y - b) % 18446744073709551616 : Nat) : Int), .int .u64 ((if x < y + b then 1 else 0 : Nat) : Int)])) w := by
  rw [run_callFunc_extern Try.func31 (by kernel_rfl) (by kernel_rfl) (by kernel_rfl) (e := sub64E) (by kernel_rfl), run_sub64E x y b hb]
  rfl

section
variable {P : Program} {ops : Array Oper} {S : World → Prop} {Q : Exit → Act → World → Prop} {L : Act → World → Prop} {bs : List Bool} {o : Oper} {rest : List Oper} {a : Act} {w : World}
/-- a call that yields its value here and now -/
theorem exec_call3 {f : FuncId} {x y z : Operand} {Ts : Array TypeId} {u v t r : Value} (ho : o.op = .call { callee := .value (.func f), args := #[x, y, z], argTypes := Ts }) (hx : a.eval x = u) (hy : a.eval y = v) (hz : a.eval z = t)
    (hr : (callFunc f #[u, v, t]).run P w = .ok (.value r) w) : (execOp a.eval o).run P w = .ok (.value r) w := by
  have hff : a.eval (.func f) = .func (.func f) #[] #[] := rfl
  unfold execOp
  simp only [ho, resolve, List.map_toArray, List.map_cons, List.map_nil, hx, hy, hz, hff, Deferred.ofValue, Sem.run_bind, Sem.run_pure, Result.andThen_ok, invoke]
  simpa using hr
theorem kCallV3 (f : FuncId) (x y z : Operand) (Ts : Array TypeId) (u v t r : Value) (ho : o.op = .call { callee := .value (.func f), args := #[x, y, z], argTypes := Ts }) (hg : Region.wanted o (yielded ops a.tmps) = true) (hx : a.eval x = u) (hy : a.eval y = v) (hz : a.eval z = t)
    (hr : (callFunc f #[u, v, t]).run P w = .ok (.value r) w) (h : wpList P ops Q rest (a.put o.dst r) w) : wpList P ops Q (o :: rest) a w := by
  refine BigFrame.wpList_want hg fun K hK => ?_
  unfold Oper.wp
  rw [exec_call3 ho hx hy hz hr]
  exact hK _ _ h
theorem mixCallV3 (f : FuncId) (x y z : Operand) (Ts : Array TypeId) (u v t r : Value) (hS : S w) (ho : o.op = .call { callee := .value (.func f), args := #[x, y, z], argTypes := Ts }) (hg : Region.wanted o (yielded ops a.tmps) = true) (hx : a.eval x = u) (hy : a.eval y = v) (hz : a.eval z = t)
    (hr : ∀ w, (callFunc f #[u, v, t]).run P w = .ok (.value r) w) (h : wpMix P ops Q S L bs rest (a.put o.dst r) w) : wpMix P ops Q S L (true :: bs) (o :: rest) a w :=
  mixQuiet _ hS hg (fun w _ => exec_call3 ho hx hy hz (hr w)) h
theorem mixIndexAddr1 (T elem : TypeId) (x y : Operand) (k : IntKind) (g : Nat) (i : Int) (j len : Nat) (hS : S w) (ho : o.op = .indexAddr T x y) (hg : Region.wanted o (yielded ops a.tmps) = true)
    (hx : a.eval x = .pointer (some ⟨g, 0, none⟩)) (hy : a.eval y = .int k i) (hu : P.underlying T = some (.array len elem))
    (hs : (P.info? elem).map (·.size) = some 1) (hi : i = (j : Int)) (hj : j < len)
    (h : wpMix P ops Q S L bs rest (a.put o.dst (.pointer (some ⟨g, j, none⟩))) w) : wpMix P ops Q S L (true :: bs) (o :: rest) a w := by
  refine mixQuiet _ hS hg (fun w _ => ?_) h
  subst hi
  unfold execOp
  cases hq : P.info? elem with
  | none => simp [hq] at hs
  | some t =>
    have hs' : t.size = 1 := by simpa [hq] using hs
    have hc : (0 : Int) ≤ (j : Int) ∧ (j : Int) < (len : Int) := by omega
    simp only [ho, hx, hy]
    simp [Instr.indexAt, asIntOf, run_underlying hu, hc, Instr.sureAddr, sizeOf, typeInfo, hq, hs', add_none]
    omega
theorem mixLoad1 (T U : TypeId) (x : Operand) (g off : Nat) (cs : Array Value) (v : Value) (d : TypeDesc) (hS : S w) (ho : o.op = .load T x) (hg : Region.wanted o (yielded ops a.tmps) = true)
    (hx : a.eval x = .pointer (some ⟨g, off, none⟩)) (hr : ∀ w, S w → Row w g U cs) (hu : P.underlying T = some d) (hd : aggDesc d = false) (hv : cs[off]? = some v)
    (h : wpMix P ops Q S L bs rest (a.put o.dst v) w) : wpMix P ops Q S L (true :: bs) (o :: rest) a w := by
  refine mixQuiet _ hS hg (fun w hw => ?_) h
  unfold execOp
  simp only [ho, hx, Instr.loadAt, Instr.sureAddr, Sem.run_bind, Sem.run_pure, Result.andThen_ok, run_load1 (hr w hw) hu hd hv]
theorem mixExtract (x : Operand) (i : Nat) (vs : Array Value) (v : Value) (hS : S w) (ho : o.op = .extract x i) (hg : Region.wanted o (yielded ops a.tmps) = true) (hx : a.eval x = .tuple vs) (hv : vs[i]? = some v)
    (h : wpMix P ops Q S L bs rest (a.put o.dst v) w) : wpMix P ops Q S L (true :: bs) (o :: rest) a w := by
  refine mixQuiet _ hS hg (fun w _ => ?_) h
  unfold execOp
  simp [ho, hx, Instr.extract, hv]
end

theorem eqGuard_Wide : Try.prog.eqGuardType Try.prog.depth 24 = false := by kernel_rfl
section
variable {ops : Array Oper} {S : World → Prop} {Q : Exit → Act → World → Prop} {L : Act → World → Prop} {bs : List Bool} {o : Oper} {rest : List Oper} {a : Act} {w : World}
theorem run_eqlW (m n : Nat) (x y : Operand) (w : World) : (do eqGuard .eql 24 x y (WV m) (WV n); binOp .eql 24 (WV m) (WV n) : Sem Value).run Try.prog w = .ok (.bool (decide (m % M256 = n % M256))) w := by
  rw [← limbs_eq]
  exact run_eqlArr (k := .u64) Try.underlying24 Try.underlying22 info_w64 eqGuard_Wide _ _ x y
theorem run_neqW (m n : Nat) (x y : Operand) (w : World) : (do eqGuard .neq 24 x y (WV m) (WV n); binOp .neq 24 (WV m) (WV n) : Sem Value).run Try.prog w = .ok (.bool (!decide (m % M256 = n % M256))) w := by
  rw [← limbs_eq]
  exact run_neqArr (k := .u64) Try.underlying24 Try.underlying22 info_w64 eqGuard_Wide _ _ x y
theorem exec_eqlW (T2 : TypeId) (x y : Operand) (m n : Nat) (b : Bool) (ho : o.op = .binOp .eql 24 x y T2) (hx : a.eval x = WV m) (hy : a.eval y = WV n) (hb : decide (m % M256 = n % M256) = b) (w : World) : (execOp a.eval o).run Try.prog w = .ok (.value (.bool b)) w := by
  subst hb
  unfold execOp
  have hr := run_eqlW m n x y w
  simp only [ho, hx, hy]
  rw [Sem.run_bind, hr]
  rfl
theorem exec_neqW (T2 : TypeId) (x y : Operand) (m n : Nat) (b : Bool) (ho : o.op = .binOp .neq 24 x y T2) (hx : a.eval x = WV m) (hy : a.eval y = WV n) (hb : (!decide (m % M256 = n % M256)) = b) (w : World) : (execOp a.eval o).run Try.prog w = .ok (.value (.bool b)) w := by
  subst hb
  unfold execOp
  have hr := run_neqW m n x y w
  simp only [ho, hx, hy]
  rw [Sem.run_bind, hr]
  rfl
theorem kEqlW (T2 : TypeId) (x y : Operand) (m n : Nat) (b : Bool) (ho : o.op = .binOp .eql 24 x y T2) (hg : Region.wanted o (yielded ops a.tmps) = true) (hx : a.eval x = .agg (wcells m)) (hy : a.eval y = .agg (wcells n)) (hb : decide (m % M256 = n % M256) = b)
    (h : wpList Try.prog ops Q rest (a.put o.dst (.bool b)) w) : wpList Try.prog ops Q (o :: rest) a w := by
  refine BigFrame.wpList_want hg fun K hK => ?_
  unfold Oper.wp
  rw [exec_eqlW T2 x y m n b ho hx hy hb]
  exact hK _ _ h
theorem kNeqW (T2 : TypeId) (x y : Operand) (m n : Nat) (b : Bool) (ho : o.op = .binOp .neq 24 x y T2) (hg : Region.wanted o (yielded ops a.tmps) = true) (hx : a.eval x = .agg (wcells m)) (hy : a.eval y = .agg (wcells n)) (hb : (!decide (m % M256 = n % M256)) = b)
    (h : wpList Try.prog ops Q rest (a.put o.dst (.bool b)) w) : wpList Try.prog ops Q (o :: rest) a w := by
  refine BigFrame.wpList_want hg fun K hK => ?_
  unfold Oper.wp
  rw [exec_neqW T2 x y m n b ho hx hy hb]
  exact hK _ _ h
theorem mixEqlW (T2 : TypeId) (x y : Operand) (m n : Nat) (b : Bool) (hS : S w) (ho : o.op = .binOp .eql 24 x y T2) (hg : Region.wanted o (yielded ops a.tmps) = true) (hx : a.eval x = .agg (wcells m)) (hy : a.eval y = .agg (wcells n)) (hb : decide (m % M256 = n % M256) = b)
    (h : wpMix Try.prog ops Q S L bs rest (a.put o.dst (.bool b)) w) : wpMix Try.prog ops Q S L (true :: bs) (o :: rest) a w :=
  mixQuiet _ hS hg (fun w _ => exec_eqlW T2 x y m n b ho hx hy hb w) h
theorem mixNeqW (T2 : TypeId) (x y : Operand) (m n : Nat) (b : Bool) (hS : S w) (ho : o.op = .binOp .neq 24 x y T2) (hg : Region.wanted o (yielded ops a.tmps) = true) (hx : a.eval x = .agg (wcells m)) (hy : a.eval y = .agg (wcells n)) (hb : (!decide (m % M256 = n % M256)) = b)
    (h : wpMix Try.prog ops Q S L bs rest (a.put o.dst (.bool b)) w) : wpMix Try.prog ops Q S L (true :: bs) (o :: rest) a w :=
  mixQuiet _ hS hg (fun w _ => exec_neqW T2 x y m n b ho hx hy hb w) h
end
section
variable {P : Program} {ops : Array Oper} {Q : Exit → Act → World → Prop} {rest : List Oper} {o : Oper} {a : Act} {w : World}
/-- a new variable, of whose place no equation is told -/
theorem kAllocL (T : TypeId) (Z : Array Value) (ho : o.op = .alloc T) (hg : Region.wanted o (yielded ops a.tmps) = true) (hz : ((P.info? T).bind (·.zero)).map Value.cells = some Z)
    (h : ∀ w1, Row w1 w.heap.size T Z → w.heap.size < w1.heap.size → Below w.heap.size w w1 → wpList P ops Q rest (a.put o.dst (.pointer (some ⟨w.heap.size, 0, none⟩))) w1) : wpList P ops Q (o :: rest) a w :=
  kAlloc T Z ho hg hz fun w1 hr hs hb => h w1 hr (by omega) hb
theorem kBoxL (T : TypeId) (x : Operand) (cs : Array Value) (ho : o.op = .box T x) (hg : Region.wanted o (yielded ops a.tmps) = true) (hx : a.eval x = .agg cs)
    (h : ∀ w1, Row w1 w.heap.size T cs → w.heap.size < w1.heap.size → Below w.heap.size w w1 → wpList P ops Q rest (a.put o.dst (.pointer (some ⟨w.heap.size, 0, none⟩))) w1) : wpList P ops Q (o :: rest) a w :=
  kBox T x cs ho hg hx fun w1 hr hs hb => h w1 hr (by omega) hb
end

/-- what a function hands back: a row of its own and a value; two rows of its own -/
theorem result_row_tmp {P : Program} {a : Act} {w : World} {fn : Func} {R : Ending → World → Prop} {p u : Tmp} {T U : TypeId} {d : TypeDesc} {g : Nat} {cs : Array Value} {v : Value} (h : fn.results = #[.cell p T, .tmp u])
    (hp : a.tmps.getD p undef = .pointer (some ⟨g, 0, none⟩)) (hv : a.tmps.getD u undef = v) (hr : Row w g U cs) (hu : P.underlying T = some d) (hd : aggDesc d = true)
    (hi : (P.info? T).map (·.size) = some cs.size) (hdf : a.defers = []) (hR : R (.returned (.tuple #[.agg cs, v])) w) : bodyPost P fn R .ret a w := by
  refine bodyPost_ret (v := .tuple #[.agg cs, v]) ?_ hdf hR
  have hp' : a.tmps[p]?.getD undef = .pointer (some ⟨g, 0, none⟩) := by simpa using hp
  have hv' : a.tmps[u]?.getD undef = v := by simpa using hv
  simp [results, h, hp', hv', asAddr, run_loadVar_row w g U T cs _ d hr hu (by cases d <;> first | rfl | cases hd) hi]
theorem result_row2 {P : Program} {a : Act} {w : World} {fn : Func} {R : Ending → World → Prop} {p q : Tmp} {T T2 U U2 : TypeId} {d d2 : TypeDesc} {g g2 : Nat} {cs cs2 : Array Value} (h : fn.results = #[.cell p T, .cell q T2])
    (hp : a.tmps.getD p undef = .pointer (some ⟨g, 0, none⟩)) (hq : a.tmps.getD q undef = .pointer (some ⟨g2, 0, none⟩)) (hr : Row w g U cs) (hu : P.underlying T = some d) (hd : aggDesc d = true)
    (hi : (P.info? T).map (·.size) = some cs.size) (hr2 : Row w g2 U2 cs2) (hu2 : P.underlying T2 = some d2) (hd2 : aggDesc d2 = true)
    (hi2 : (P.info? T2).map (·.size) = some cs2.size) (hdf : a.defers = []) (hR : R (.returned (.tuple #[.agg cs, .agg cs2])) w) : bodyPost P fn R .ret a w := by
  refine bodyPost_ret (v := .tuple #[.agg cs, .agg cs2]) ?_ hdf hR
  have hp' : a.tmps[p]?.getD undef = .pointer (some ⟨g, 0, none⟩) := by simpa using hp
  have hq' : a.tmps[q]?.getD undef = .pointer (some ⟨g2, 0, none⟩) := by simpa using hq
  simp [results, h, hp', hq', asAddr, run_loadVar_row w g U T cs _ d hr hu (by cases d <;> first | rfl | cases hd) hi, run_loadVar_row w g2 U2 T2 cs2 _ d2 hr2 hu2 (by cases d2 <;> first | rfl | cases hd2) hi2]
end Go.Proofs.Ytehklogmeinocaa
