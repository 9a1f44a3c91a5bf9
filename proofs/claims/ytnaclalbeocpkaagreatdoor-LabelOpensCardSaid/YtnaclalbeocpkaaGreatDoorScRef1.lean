/-
  Layer 7: the walks of the reference's Pushes, True, truth, Push and Next.
-/
import Derived.Test.YtnaclalbeocpkaaGreatDoorPcBase
import Derived.Test.YtnaclalbeocpkaaGreatDoorScPlain
namespace Go.Proofs.YtnaclalbeocpkaaGreatDoor
open Go Go.RowKit

theorem VB_mod (n : Nat) : VB (UInt8.ofNat n) = .int .u8 ((n % 256 : Nat) : Int) := by
  show Value.int .u8 (B (UInt8.ofNat n)) = _
  unfold B; rw [UInt8.toNat_ofNat']
theorem results_tmp4 {fn : Func} {t u v x : Tmp} (h : fn.results = #[.tmp t, .tmp u, .tmp v, .tmp x]) (tmps : Array Value) (P : Program) (w : World) :
    (results fn tmps).run P w = .ok (.tuple #[tmps.getD t undef, tmps.getD u undef, tmps.getD v undef, tmps.getD x undef]) w := by
  simp [results, h]
section
variable {ops : Array Oper} {Q : Exit → Act → World → Prop} {rest : List Oper} {o : Oper} {a : Act} {w : World}
theorem kConvI8 (x : Operand) (n : Nat) (ho : o.op = .convert 3 5 x) (hg : Region.wanted o (yielded ops a.tmps) = true) (hx : a.eval x = .int .i64 (n : Int)) (h : wpList Tryz.prog ops Q rest (a.put o.dst (.int .u8 ((n % 256 : Nat) : Int))) w) : wpList Tryz.prog ops Q (o :: rest) a w := by
  refine kPure _ hg ?_ h
  unfold execOp
  have e : IntKind.u8.wrap (n : Int) = ((n % 256 : Nat) : Int) := by rw [IntKind.wrap_u8]; omega
  simp [ho, hx, convert, run_underlying Tryz.underlying3, run_underlying Tryz.underlying5, e, Conv.intToInt]
theorem kConv8I (x : Operand) (k : Nat) (hk : k < 256) (ho : o.op = .convert 5 3 x) (hg : Region.wanted o (yielded ops a.tmps) = true) (hx : a.eval x = .int .u8 (k : Int)) (h : wpList Tryz.prog ops Q rest (a.put o.dst (.int .i64 (k : Int))) w) : wpList Tryz.prog ops Q (o :: rest) a w := by
  refine kPure _ hg ?_ h
  unfold execOp
  have e : IntKind.i64.wrap (k : Int) = (k : Int) := by rw [IntKind.wrap_i64]; omega
  simp [ho, hx, convert, run_underlying Tryz.underlying3, run_underlying Tryz.underlying5, e, Conv.intToInt]
theorem kRemI (T T2 : TypeId) (x y : Operand) (n m : Nat) (hm : 0 < m) (ho : o.op = .binOp .rem T x y T2) (hg : Region.wanted o (yielded ops a.tmps) = true) (hx : a.eval x = .int .i64 (n : Int)) (hy : a.eval y = .int .i64 (m : Int)) (h : wpList Tryz.prog ops Q rest (a.put o.dst (.int .i64 ((n % m : Nat) : Int))) w) : wpList Tryz.prog ops Q (o :: rest) a w := by
  refine kPure _ hg ?_ h
  unfold execOp
  simp only [ho, hx, hy]
  have e : (n : Int).tmod (m : Int) = ((n % m : Nat) : Int) := by rw [Int.tmod_eq_emod_of_nonneg (Int.natCast_nonneg _)]; norm_cast
  have hm' : m ≠ 0 := by omega
  simp [eqGuard, binOp, Op.intDiv, e, hm']
theorem kQuoI (T T2 : TypeId) (x y : Operand) (n m : Nat) (hm : 0 < m) (hn : n < 9223372036854775808) (ho : o.op = .binOp .quo T x y T2) (hg : Region.wanted o (yielded ops a.tmps) = true) (hx : a.eval x = .int .i64 (n : Int)) (hy : a.eval y = .int .i64 (m : Int)) (h : wpList Tryz.prog ops Q rest (a.put o.dst (.int .i64 ((n / m : Nat) : Int))) w) : wpList Tryz.prog ops Q (o :: rest) a w := by
  refine kPure _ hg ?_ h
  unfold execOp
  simp only [ho, hx, hy]
  have hq : n / m ≤ n := Nat.div_le_self _ _
  have hm' : m ≠ 0 := by omega
  have e : IntKind.i64.wrap ((n : Int) / (m : Int)) = (n : Int) / (m : Int) := by
    rw [show (n : Int) / (m : Int) = ((n / m : Nat) : Int) by norm_cast]
    generalize n / m = q at *
    rw [IntKind.wrap_i64]; omega
  simp [eqGuard, binOp, Op.intDiv, hm', e]
end
theorem true_hit {l : List UInt8} {k : Nat} (hk : k < l.length) (h : at8 l k ≠ 0) : trueB l = true := by
  unfold trueB
  rw [List.any_eq_true]
  exact ⟨l[k], List.getElem_mem hk, by simp [at8, hk] at h; simpa using h⟩
theorem true_none {l : List UInt8} (h : ∀ j, j < l.length → at8 l j = 0) : trueB l = false := by
  unfold trueB
  rw [List.any_eq_false]
  intro x hx
  obtain ⟨j, hj, rfl⟩ := List.getElem_of_mem hx
  have := h j hj
  simp [at8, hj] at this
  simpa using this
theorem own_lit {w : World} {g base : Nat} (l : List UInt8) (hb : base ≤ g) (hl : l.length ≤ 10) (h : Row w g 5 (l.map VB).toArray) : OwnB w base (.slice (some ⟨g, 0, none⟩) l.length l.length) l :=
  ⟨by simp, .inr ⟨g, l.length, _, by simp, hb, h, by simp, by unfold maxLen; omega, by simp, by simp; exact List.take_of_length_le (by simp)⟩⟩
/-- the answer of Next: noughts and the error, or the word -/
def NextPost (w : World) (r : Option (UInt8 × List UInt8 × Nat)) (e : Ending) (w' : World) : Prop :=
  match r with
  | none => e = .returned (.tuple #[.int .u8 0, .slice none 0 0, .int .i64 0, .int .i64 71]) ∧ Below w.heap.size w w'
  | some (c, d, u) => ∃ v, e = .returned (.tuple #[VB c, v, .int .i64 (u : Int), .int .i64 0]) ∧ OwnB w' w.heap.size v d ∧ Below w.heap.size w w'
section
variable {ops : Array Oper} {Q : Exit → Act → World → Prop} {rest : List Oper} {o : Oper} {a : Act} {w : World}
theorem kSub80 (T T2 : TypeId) (x y : Operand) (c : UInt8) (hc : 80 < c.toNat) (ho : o.op = .binOp .sub T x y T2) (hg : Region.wanted o (yielded ops a.tmps) = true) (hx : a.eval x = .int .u8 (B c)) (hy : a.eval y = .int .u8 80) (h : wpList Tryz.prog ops Q rest (a.put o.dst (.int .u8 (B (c - 80)))) w) : wpList Tryz.prog ops Q (o :: rest) a w := by
  refine kPure _ hg ?_ h
  unfold execOp
  simp only [ho, hx, hy]
  have hlt := c.toNat_lt
  have e : IntKind.u8.wrap (B c - 80) = B (c - 80) := by
    rw [IntKind.wrap_u8]; unfold B
    rw [UInt8.toNat_sub_of_le c 80 (by rw [UInt8.le_iff_toNat_le]; show 80 ≤ c.toNat; omega)]
    show ((c.toNat : Int) - 80) % 256 = ((c.toNat - 80 : Nat) : Int)
    omega
  simp [eqGuard, binOp, Op.intArith, e]
theorem kSubJ (T T2 : TypeId) (x y : Operand) (m n z : Int) (hz : m - n = z ∧ 0 ≤ z ∧ z < 9223372036854775808) (ho : o.op = .binOp .sub T x y T2) (hg : Region.wanted o (yielded ops a.tmps) = true) (hx : a.eval x = .int .i64 m) (hy : a.eval y = .int .i64 n) (h : wpList Tryz.prog ops Q rest (a.put o.dst (.int .i64 z)) w) : wpList Tryz.prog ops Q (o :: rest) a w := by
  obtain ⟨rfl, h1, h2⟩ := hz
  refine kPure _ hg ?_ h
  unfold execOp
  simp only [ho, hx, hy]
  have e : IntKind.i64.wrap (m - n) = m - n := by rw [IntKind.wrap_i64]; omega
  simp [eqGuard, binOp, Op.intArith, e]
theorem kMulI64 (T T2 : TypeId) (x y : Operand) (m n z : Nat) (hz : m * n = z ∧ z < 9223372036854775808) (ho : o.op = .binOp .mul T x y T2) (hg : Region.wanted o (yielded ops a.tmps) = true) (hx : a.eval x = .int .i64 (m : Int)) (hy : a.eval y = .int .i64 (n : Int)) (h : wpList Tryz.prog ops Q rest (a.put o.dst (.int .i64 (z : Int))) w) : wpList Tryz.prog ops Q (o :: rest) a w := by
  obtain ⟨rfl, h1⟩ := hz
  refine kPure _ hg ?_ h
  unfold execOp
  simp only [ho, hx, hy]
  have e : IntKind.i64.wrap ((m : Int) * (n : Int)) = ((m * n : Nat) : Int) := by
    rw [show (m : Int) * (n : Int) = ((m * n : Nat) : Int) by norm_cast]
    generalize m * n = z at *
    rw [IntKind.wrap_i64]; omega
  simp [eqGuard, binOp, Op.intArith, e]
end
theorem ret4 {fn : Func} {R : Ending → World → Prop} {P : Program} {a : Act} {w : World} {t u v x : Tmp} (h : fn.results = #[.tmp t, .tmp u, .tmp v, .tmp x]) (hd : a.defers = []) (hR : R (.returned (.tuple #[a.tmps.getD t undef, a.tmps.getD u undef, a.tmps.getD v undef, a.tmps.getD x undef])) w) : bodyPost P fn R .ret a w :=
  bodyPost_ret (results_tmp4 h _ _ _) hd hR
end Go.Proofs.YtnaclalbeocpkaaGreatDoor
