/-
  Layer 9: outputs, coins and references as cells; their fields; numbers of 64 bits with a sign.
-/
import Derived.Test.YtdeggdmoijfhdaaDoorPcAll
import Derived.Test.YtdeggdmoijfhdaaDoorCoPlain
import Derived.Test.YtdeggdmoijfhdaaDoorKitSt
import Derived.Test.YtdeggdmoijfhdaaDoorKitT
import Derived.Laws.Shifts
namespace Go.Proofs.YtdeggdmoijfhdaaDoor
open Go Go.RowKit

def outC (n : Int) (v : Value) : Array Value := #[.int .i64 n, v]
def coinC (n : Int) (v : Value) (h : Int) (b : Bool) : Array Value := #[.int .i64 n, v, .int .i64 h, .bool b]
def refC (l : List UInt8) (n : Nat) : Array Value := ((List.range 32).map (fun p => VB (at8 l p)) ++ [Value.int .u32 (n : Int)]).toArray
theorem refC_size (l : List UInt8) (n : Nat) : (refC l n).size = 33 := by simp [refC]
theorem refC_at (l : List UInt8) (n : Nat) : (refC l n)[32]? = some (.int .u32 (n : Int)) := by simp [refC]
theorem refC_id (l : List UInt8) (n : Nat) : (refC l n).extract 0 (0 + 32) = tab 32 fun p => VB (at8 l p) := by
  simp only [refC, tab, List.extract_toArray, List.extract_eq_take_drop]
  simp
theorem refC_one (l : List UInt8) (n : Nat) : ∀ v ∈ refC l n, v.oneCell' = true := by
  intro v hv
  simp only [refC, List.mem_toArray, List.mem_append, List.mem_map, List.mem_singleton] at hv
  rcases hv with ⟨j, -, rfl⟩ | rfl <;> rfl
theorem refC_set (l : List UInt8) (n m : Nat) : (refC l n).setIfInBounds 32 (.int .u32 (m : Int)) = refC l m := by
  simp [refC]
theorem list_at32 {l : List UInt8} {n : Nat} (h : l.length = n) : (List.range n).map (fun p => VB (at8 l p)) = l.map VB := by
  subst h
  refine List.ext_getElem? fun j => ?_
  rw [List.getElem?_map, List.getElem?_map]
  by_cases hj : j < l.length
  · rw [List.getElem?_range hj, List.getElem?_eq_getElem hj]
    simp [at8, hj]
  · rw [List.getElem?_eq_none (by simp; omega), List.getElem?_eq_none (by omega)]; rfl
theorem refC_eq {l : List UInt8} (hl : l.length = 32) (n : Nat) : refC l n = (l.map VB ++ [Value.int .u32 (n : Int)]).toArray := by unfold refC; rw [list_at32 hl]
theorem info_i64C : (Tryd.prog.info? 2).map (·.size) = some 1 := by kernel_rfl
theorem info_u32Co : (Tryd.prog.info? 22).map (·.size) = some 1 := by kernel_rfl
theorem info_HashCo : (Tryd.prog.info? 24).map (·.size) = some 32 := by kernel_rfl
theorem at_z32 : ∀ j, j < 32 → at8 z32 j = 0 := by decide
theorem refC_z0 : refC z32 0 = ((List.range 32).map (fun _ => VB 0) ++ [Value.int .u32 0]).toArray := by
  unfold refC
  rw [List.map_congr_left (g := fun _ => VB 0) fun j hj => by rw [at_z32 j (List.mem_range.1 hj)]]; rfl
theorem outC_one {w : World} {v : Value} {l : List Value} (h : IsVals w v l) (n : Int) : ∀ u ∈ outC n v, u.oneCell' = true := by
  obtain ⟨ao, c, rfl, _⟩ := h
  intro u hu
  simp [outC] at hu
  rcases hu with rfl | rfl <;> rfl
theorem coinC_one {w : World} {v : Value} {l : List Value} (hv : IsVals w v l) (n h : Int) (b : Bool) : ∀ u ∈ coinC n v h b, u.oneCell' = true := by
  obtain ⟨ao, c, rfl, _⟩ := hv
  intro u hu
  simp [coinC] at hu
  rcases hu with rfl | rfl | rfl | rfl <;> rfl
theorem coinC_out (n : Int) (v : Value) (h : Int) (b : Bool) : (coinC n v h b).extract 0 (0 + 2) = outC n v := by simp [coinC, outC]
section
variable {ops : Array Oper} {Q : Exit → Act → World → Prop} {rest : List Oper} {o : Oper} {a : Act} {w : World} {S : World → Prop}
theorem kFld {P : Program} {T : TypeId} {k n fo : Nat} (hF : ∃ f fs, P.underlying T = some (.struct fs) ∧ fs[k]? = some f ∧ f.offset = fo ∧ (P.info? f.type).map (·.size) = some (n + 1)) (x : Operand) (b off off' : Nat) (he : off + fo = off') (ho : o.op = .fieldAddr T x k) (hg : Region.wanted o (yielded ops a.tmps) = true) (hx : a.eval x = .pointer (some ⟨b, off, none⟩)) (h : wpList P ops Q rest (a.put o.dst (.pointer (some ⟨b, off', none⟩))) w) : wpList P ops Q (o :: rest) a w := by
  obtain ⟨f, fs, h1, h2, h3, h4⟩ := hF
  subst he
  exact kFieldAt _ x k n fo fs f b off ho hg hx h1 h2 h3 h4 h
theorem yFld {P : Program} {T : TypeId} {k n fo : Nat} (hF : ∃ f fs, P.underlying T = some (.struct fs) ∧ fs[k]? = some f ∧ f.offset = fo ∧ (P.info? f.type).map (·.size) = some (n + 1)) (x : Operand) (b off off' : Nat) (he : off + fo = off') (ho : o.op = .fieldAddr T x k) (hg : Region.wanted o (yielded ops a.tmps) = true) (hx : a.eval x = .pointer (some ⟨b, off, none⟩)) : YieldsIf P ops S o (.pointer (some ⟨b, off', none⟩)) a := by
  obtain ⟨f, fs, h1, h2, h3, h4⟩ := hF
  subst he
  exact yField _ x k n fo fs f b off ho hg hx h1 h2 h3 h4
/-- one cell of a row -/
theorem kLd {P : Program} {T U : TypeId} {d : TypeDesc} (hu : P.underlying T = some d) (hd : aggDesc d = false) (x : Operand) (g off : Nat) (cs : Array Value) (v : Value) (hr : Row w g U cs) (hv : cs[off]? = some v) (ho : o.op = .load T x) (hg : Region.wanted o (yielded ops a.tmps) = true) (hx : a.eval x = .pointer (some ⟨g, off, none⟩)) (h : wpList P ops Q rest (a.put o.dst v) w) : wpList P ops Q (o :: rest) a w :=
  kLoad1 _ _ _ g off _ _ _ ho hg hx hr hu hd hv h
theorem yLoadRowC {P : Program} {T U : TypeId} {d : TypeDesc} (hu : P.underlying T = some d) (hd : aggDesc d = true) (x : Operand) (g : Nat) (cs : Array Value) (hi : (P.info? T).map (·.size) = some cs.size) (hr : ∀ w, S w → Row w g U cs) (ho : o.op = .load T x) (hg : Region.wanted o (yielded ops a.tmps) = true) (hx : a.eval x = .pointer (some ⟨g, 0, none⟩)) : YieldsIf P ops S o (.agg cs) a :=
  yOf hg fun w hS => by
    have hl := run_loadPart (w := w) (n := cs.size) (off := 0) (hr w hS) hu hd hi (by omega)
    rw [show cs.extract 0 (0 + cs.size) = cs by simp] at hl
    unfold execOp; simp only [ho, hx, Instr.loadAt, Instr.sureAddr, Sem.run_bind, Sem.run_pure, Result.andThen_ok, hl]
theorem yLoadPartC {P : Program} {T U : TypeId} {d : TypeDesc} (hu : P.underlying T = some d) (hd : aggDesc d = true) (x : Operand) (g off n : Nat) (cs vs : Array Value) (hi : (P.info? T).map (·.size) = some n) (hn : off + n ≤ cs.size) (he : cs.extract off (off + n) = vs) (hr : ∀ w, S w → Row w g U cs) (ho : o.op = .load T x) (hg : Region.wanted o (yielded ops a.tmps) = true) (hx : a.eval x = .pointer (some ⟨g, off, none⟩)) : YieldsIf P ops S o (.agg vs) a :=
  yOf hg fun w hS => by
    subst he
    unfold execOp; simp only [ho, hx, Instr.loadAt, Instr.sureAddr, Sem.run_bind, Sem.run_pure, Result.andThen_ok, run_loadPart (hr w hS) hu hd hi hn]
/-! numbers -/
theorem kConvZU (x : Operand) (z : Int) (ho : o.op = .convert 2 29 x) (hg : Region.wanted o (yielded ops a.tmps) = true) (hx : a.eval x = .int .i64 z) (h : wpList Tryd.prog ops Q rest (a.put o.dst (.int .u64 (u64N z : Int))) w) : wpList Tryd.prog ops Q (o :: rest) a w := by
  refine kPure _ hg ?_ h
  unfold execOp
  have e : IntKind.u64.wrap z = (u64N z : Int) := by rw [IntKind.wrap_u64]; unfold u64N; omega
  simp [ho, hx, convert, run_underlying Tryd.underlying29, run_underlying Tryd.underlying2, e, Conv.intToInt]
theorem kConvUZ (x : Operand) (n : Nat) (ho : o.op = .convert 29 2 x) (hg : Region.wanted o (yielded ops a.tmps) = true) (hx : a.eval x = .int .u64 (n : Int)) (h : wpList Tryd.prog ops Q rest (a.put o.dst (.int .i64 (i64Z n))) w) : wpList Tryd.prog ops Q (o :: rest) a w := by
  refine kPure _ hg ?_ h
  unfold execOp
  have e : IntKind.i64.wrap (n : Int) = i64Z n := by rw [IntKind.wrap_i64]; unfold i64Z; omega
  simp [ho, hx, convert, run_underlying Tryd.underlying29, run_underlying Tryd.underlying2, e, Conv.intToInt]
theorem kConvUW (x : Operand) (n : Nat) (ho : o.op = .convert 29 22 x) (hg : Region.wanted o (yielded ops a.tmps) = true) (hx : a.eval x = .int .u64 (n : Int)) (h : wpList Tryd.prog ops Q rest (a.put o.dst (.int .u32 ((n % 4294967296 : Nat) : Int))) w) : wpList Tryd.prog ops Q (o :: rest) a w := by
  refine kPure _ hg ?_ h
  unfold execOp
  have e : IntKind.u32.wrap (n : Int) = ((n % 4294967296 : Nat) : Int) := by rw [IntKind.wrap_u32]; omega
  simp [ho, hx, convert, run_underlying Tryd.underlying29, run_underlying Tryd.underlying22, e, Conv.intToInt]
theorem kConvWU (x : Operand) (k : Nat) (hk : k < 4294967296) (ho : o.op = .convert 22 29 x) (hg : Region.wanted o (yielded ops a.tmps) = true) (hx : a.eval x = .int .u32 (k : Int)) (h : wpList Tryd.prog ops Q rest (a.put o.dst (.int .u64 (k : Int))) w) : wpList Tryd.prog ops Q (o :: rest) a w := by
  refine kPure _ hg ?_ h
  unfold execOp
  have e : IntKind.u64.wrap (k : Int) = (k : Int) := by rw [IntKind.wrap_u64]; omega
  simp [ho, hx, convert, run_underlying Tryd.underlying29, run_underlying Tryd.underlying22, e, Conv.intToInt]
theorem kQuoZ (T T2 : TypeId) (x y : Operand) (n m : Nat) (hm : 0 < m) (hn : n < 9223372036854775808) (ho : o.op = .binOp .quo T x y T2) (hg : Region.wanted o (yielded ops a.tmps) = true) (hx : a.eval x = .int .i64 (n : Int)) (hy : a.eval y = .int .i64 (m : Int)) (h : wpList Tryd.prog ops Q rest (a.put o.dst (.int .i64 ((n / m : Nat) : Int))) w) : wpList Tryd.prog ops Q (o :: rest) a w := by
  refine kPure _ hg ?_ h
  unfold execOp
  simp only [ho, hx, hy]
  have hq : n / m ≤ n := Nat.div_le_self _ _
  have hm' : m ≠ 0 := by omega
  have e : IntKind.i64.wrap ((n : Int) / (m : Int)) = (n : Int) / (m : Int) := by
    rw [show (n : Int) / (m : Int) = ((n / m : Nat) : Int) by norm_cast]
    generalize n / m = q at *
    rw [IntKind.wrap_i64]; omega
  simp [eqGuard, binOp, Op.intDiv, hm', e]
theorem kShrZ (T T2 : TypeId) (x y : Operand) (n k : Nat) (hn : n < 18446744073709551616) (ho : o.op = .binOp .shr T x y T2) (hg : Region.wanted o (yielded ops a.tmps) = true) (hx : a.eval x = .int .i64 (n : Int)) (hy : a.eval y = .int .i64 (k : Int)) (h : wpList Tryd.prog ops Q rest (a.put o.dst (.int .i64 ((n / 2 ^ k : Nat) : Int))) w) : wpList Tryd.prog ops Q (o :: rest) a w := by
  refine kPure _ hg ?_ h
  unfold execOp
  simp only [ho, hx, hy]
  have e0 : n / 2 ^ min k 64 = n / 2 ^ k := by
    by_cases hk : k ≤ 64
    · rw [Nat.min_eq_left hk]
    · rw [Nat.min_eq_right (by omega)]
      have h1 : 2 ^ 64 ≤ 2 ^ k := Nat.pow_le_pow_right (by decide) (by omega)
      have h2 : (2 : Nat) ^ 64 = 18446744073709551616 := by decide
      rw [Nat.div_eq_of_lt (by omega), Nat.div_eq_of_lt (by omega)]
  have e : (n : Int) / 2 ^ min (k : Int).toNat (IntKind.i64).bits = ((n / 2 ^ k : Nat) : Int) := by
    rw [Int.toNat_natCast, ← e0]
    show (n : Int) / 2 ^ min k 64 = _
    norm_cast
  have e2 := shift_shr_any .i64 .i64 (n : Int) (k : Int) (by omega)
  simp only [eqGuard_shr, binOp_shr, e2, e]
  rfl
theorem kSubC (T T2 : TypeId) (x y : Operand) (m n z : Int) (hz : m - n = z ∧ -9223372036854775808 ≤ z ∧ z < 9223372036854775808) (ho : o.op = .binOp .sub T x y T2) (hg : Region.wanted o (yielded ops a.tmps) = true) (hx : a.eval x = .int .i64 m) (hy : a.eval y = .int .i64 n) (h : wpList Tryd.prog ops Q rest (a.put o.dst (.int .i64 z)) w) : wpList Tryd.prog ops Q (o :: rest) a w := by
  obtain ⟨rfl, h1, h2⟩ := hz
  refine kPure _ hg ?_ h
  unfold execOp
  simp only [ho, hx, hy]
  have e : IntKind.i64.wrap (m - n) = m - n := by rw [IntKind.wrap_i64]; omega
  simp [eqGuard, binOp, Op.intArith, e]
theorem kMulC (T T2 : TypeId) (x y : Operand) (m n z : Int) (hz : m * n = z ∧ 0 ≤ z ∧ z < 9223372036854775808) (ho : o.op = .binOp .mul T x y T2) (hg : Region.wanted o (yielded ops a.tmps) = true) (hx : a.eval x = .int .i64 m) (hy : a.eval y = .int .i64 n) (h : wpList Tryd.prog ops Q rest (a.put o.dst (.int .i64 z)) w) : wpList Tryd.prog ops Q (o :: rest) a w := by
  obtain ⟨rfl, h1, h2⟩ := hz
  refine kPure _ hg ?_ h
  unfold execOp
  simp only [ho, hx, hy]
  have e : IntKind.i64.wrap (m * n) = m * n := by rw [IntKind.wrap_i64]; omega
  simp [eqGuard, binOp, Op.intArith, e]
end
end Go.Proofs.YtdeggdmoijfhdaaDoor
