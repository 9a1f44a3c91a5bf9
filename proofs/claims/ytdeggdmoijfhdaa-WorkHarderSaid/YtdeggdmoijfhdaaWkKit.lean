/-
  Layer 12: single operations on whole numbers of 32 and 64 bits; contracts of package wide by the answers' names.
-/
import Derived.Test.YtdeggdmoijfhdaaWAll
import Derived.Test.YtdeggdmoijfhdaaWkNum
import Derived.Test.YtdeggdmoijfhdaaKitAll
import Derived.Test.YtdeggdmoijfhdaaBkTree
namespace Go.Proofs.Ytdeggdmoijfhdaa
open Go Go.RowKit

section
variable {P : Program} {ops : Array Oper} {o : Oper} {a : Act} {S : World → Prop} {Q : Exit → Act → World → Prop} {rest : List Oper} {w : World}
theorem kYw {v : Value} (hy : YieldsIf P ops (fun w' => w' = w) o v a) (h : wpList P ops Q rest (a.put o.dst v) w) : wpList P ops Q (o :: rest) a w := by
  rcases hy with ⟨hg, hv⟩ | ⟨hg, rfl⟩
  · exact kPure _ hg (hv w rfl) h
  · simp only [wpList, hg]
    exact h
theorem yExtr (x : Operand) (i : Nat) (vs : Array Value) (v : Value) (ho : o.op = .extract x i) (hg : Region.wanted o (yielded ops a.tmps) = true) (hx : a.eval x = .tuple vs) (hv : vs[i]? = some v) : YieldsIf P ops S o v a :=
  yOf hg fun w _ => by
    unfold execOp; simp [ho, hx, Instr.extract, hv]
theorem yAddZ (T T2 : TypeId) (x y : Operand) (m n z : Int) (hz : m + n = z ∧ -9223372036854775808 ≤ z ∧ z < 9223372036854775808) (ho : o.op = .binOp .add T x y T2) (hg : Region.wanted o (yielded ops a.tmps) = true) (hx : a.eval x = .int .i64 m) (hy : a.eval y = .int .i64 n) : YieldsIf P ops S o (.int .i64 z) a :=
  yOf hg fun w _ => by
    obtain ⟨rfl, h1, h2⟩ := hz
    have e : IntKind.i64.wrap (m + n) = m + n := by rw [IntKind.wrap_i64]; omega
    unfold execOp; simp only [ho, hx, hy]; simp [eqGuard, binOp, Op.intArith, e]
theorem ySubZ (T T2 : TypeId) (x y : Operand) (m n z : Int) (hz : m - n = z ∧ -9223372036854775808 ≤ z ∧ z < 9223372036854775808) (ho : o.op = .binOp .sub T x y T2) (hg : Region.wanted o (yielded ops a.tmps) = true) (hx : a.eval x = .int .i64 m) (hy : a.eval y = .int .i64 n) : YieldsIf P ops S o (.int .i64 z) a :=
  yOf hg fun w _ => by
    obtain ⟨rfl, h1, h2⟩ := hz
    have e : IntKind.i64.wrap (m - n) = m - n := by rw [IntKind.wrap_i64]; omega
    unfold execOp; simp only [ho, hx, hy]; simp [eqGuard, binOp, Op.intArith, e]
theorem yMulZ (T T2 : TypeId) (x y : Operand) (m n z : Int) (hz : m * n = z ∧ -9223372036854775808 ≤ z ∧ z < 9223372036854775808) (ho : o.op = .binOp .mul T x y T2) (hg : Region.wanted o (yielded ops a.tmps) = true) (hx : a.eval x = .int .i64 m) (hy : a.eval y = .int .i64 n) : YieldsIf P ops S o (.int .i64 z) a :=
  yOf hg fun w _ => by
    obtain ⟨rfl, h1, h2⟩ := hz
    have e : IntKind.i64.wrap (m * n) = m * n := by rw [IntKind.wrap_i64]; omega
    unfold execOp; simp only [ho, hx, hy]; simp [eqGuard, binOp, Op.intArith, e]
theorem yNegZ (T : TypeId) (x : Operand) (m z : Int) (hz : -m = z ∧ -9223372036854775808 ≤ z ∧ z < 9223372036854775808) (ho : o.op = .unOp .neg T x) (hg : Region.wanted o (yielded ops a.tmps) = true) (hx : a.eval x = .int .i64 m) : YieldsIf P ops S o (.int .i64 z) a :=
  yOf hg fun w _ => by
    obtain ⟨rfl, h1, h2⟩ := hz
    have e : IntKind.i64.wrap (-m) = -m := by rw [IntKind.wrap_i64]; omega
    unfold execOp; simp only [ho, hx]; simp [Op.unary, Op.intArith, e]
/-- division and remainder of any kind of whole numbers that are not below 0 -/
theorem yQuoN (k : IntKind) (T T2 : TypeId) (x y : Operand) (m n z : Nat) (hz : m / n = z ∧ 0 < n ∧ k.wrap (m / n : Nat) = (m / n : Nat)) (ho : o.op = .binOp .quo T x y T2) (hg : Region.wanted o (yielded ops a.tmps) = true) (hx : a.eval x = .int k (m : Int)) (hy : a.eval y = .int k (n : Int)) : YieldsIf P ops S o (.int k (z : Int)) a :=
  yOf hg fun w _ => by
    obtain ⟨rfl, h1, h2⟩ := hz
    have e : (m : Int).tdiv (n : Int) = ((m / n : Nat) : Int) := by norm_cast
    have h0 : n ≠ 0 := by omega
    unfold execOp; simp only [ho, hx, hy]; simp only [eqGuard, binOp, Op.intDiv, e]
    simp [h0]
    exact_mod_cast h2
theorem yRemN (k : IntKind) (T T2 : TypeId) (x y : Operand) (m n z : Nat) (hz : m % n = z ∧ 0 < n) (ho : o.op = .binOp .rem T x y T2) (hg : Region.wanted o (yielded ops a.tmps) = true) (hx : a.eval x = .int k (m : Int)) (hy : a.eval y = .int k (n : Int)) : YieldsIf P ops S o (.int k (z : Int)) a :=
  yOf hg fun w _ => by
    obtain ⟨rfl, h1⟩ := hz
    have e : (m : Int).tmod (n : Int) = ((m % n : Nat) : Int) := by rw [Int.tmod_eq_emod_of_nonneg (Int.natCast_nonneg _)]; norm_cast
    have h0 : n ≠ 0 := by omega
    unfold execOp; simp only [ho, hx, hy]; simp only [eqGuard, binOp, Op.intDiv, e]
    simp [h0]
theorem yShrN (k : IntKind) (T T2 : TypeId) (x y : Operand) (n e z : Nat) (hz : n / 2 ^ e = z ∧ e ≤ k.bits) (ho : o.op = .binOp .shr T x y T2) (hg : Region.wanted o (yielded ops a.tmps) = true) (hx : a.eval x = .int k (n : Int)) (hy : a.eval y = .int .u64 (e : Int)) : YieldsIf P ops S o (.int k (z : Int)) a :=
  yOf hg fun w _ => by
    obtain ⟨rfl, h1⟩ := hz
    have e1 : (n : Int).fdiv (2 ^ e) = ((n / 2 ^ e : Nat) : Int) := by rw [Int.fdiv_eq_ediv_of_nonneg _ (by exact_mod_cast Nat.zero_le _)]; norm_cast
    unfold execOp; simp only [ho, hx, hy]; simp [eqGuard, binOp, Op.shift, Nat.min_eq_left h1, e1]
    intro h; omega
theorem yShlN (k : IntKind) (T T2 : TypeId) (x y : Operand) (n e z : Nat) (hz : n * 2 ^ e = z ∧ e ≤ k.bits ∧ k.wrap (n * 2 ^ e : Nat) = (n * 2 ^ e : Nat)) (ho : o.op = .binOp .shl T x y T2) (hg : Region.wanted o (yielded ops a.tmps) = true) (hx : a.eval x = .int k (n : Int)) (hy : a.eval y = .int .u64 (e : Int)) : YieldsIf P ops S o (.int k (z : Int)) a :=
  yOf hg fun w _ => by
    obtain ⟨rfl, h1, h2⟩ := hz
    rw [Int.natCast_mul, Int.natCast_pow] at h2
    unfold execOp; simp only [ho, hx, hy]; simp [eqGuard, binOp, Op.shift, Nat.min_eq_left h1]
    rw [if_neg (by omega)]
    have h3 : k.wrap ((n : Int) * 2 ^ e) = (n : Int) * 2 ^ e := h2
    rw [h3]
theorem yAndW (T T2 : TypeId) (x y : Operand) (m n z : Nat) (hz : m &&& n = z ∧ m < 4294967296 ∧ n < 4294967296) (ho : o.op = .binOp .and T x y T2) (hg : Region.wanted o (yielded ops a.tmps) = true) (hx : a.eval x = .int .u32 (m : Int)) (hy : a.eval y = .int .u32 (n : Int)) : YieldsIf P ops S o (.int .u32 (z : Int)) a :=
  yOf hg fun w _ => by
    obtain ⟨rfl, h1, h2⟩ := hz
    have e1 : (BitVec.ofNat 32 m &&& BitVec.ofNat 32 n).toNat = m &&& n := by
      rw [BitVec.toNat_and, BitVec.toNat_ofNat, BitVec.toNat_ofNat, Nat.mod_eq_of_lt h1, Nat.mod_eq_of_lt h2]
    have h3 : m &&& n < 4294967296 := Nat.lt_of_le_of_lt Nat.and_le_left h1
    unfold execOp; simp only [ho, hx, hy]; simp [eqGuard, binOp, Op.intBits, IntKind.bits]
    exact (congrArg (fun z : Nat => IntKind.u32.wrap (z : Int)) e1).trans (by rw [IntKind.wrap_u32]; omega)
theorem yOrW (T T2 : TypeId) (x y : Operand) (m n z : Nat) (hz : m ||| n = z ∧ m < 4294967296 ∧ n < 4294967296) (ho : o.op = .binOp .or T x y T2) (hg : Region.wanted o (yielded ops a.tmps) = true) (hx : a.eval x = .int .u32 (m : Int)) (hy : a.eval y = .int .u32 (n : Int)) : YieldsIf P ops S o (.int .u32 (z : Int)) a :=
  yOf hg fun w _ => by
    obtain ⟨rfl, h1, h2⟩ := hz
    have e1 : (BitVec.ofNat 32 m ||| BitVec.ofNat 32 n).toNat = m ||| n := by
      rw [BitVec.toNat_or, BitVec.toNat_ofNat, BitVec.toNat_ofNat, Nat.mod_eq_of_lt h1, Nat.mod_eq_of_lt h2]
    have h3 : m ||| n < 4294967296 := Nat.or_lt_two_pow (n := 32) h1 h2
    unfold execOp; simp only [ho, hx, hy]; simp [eqGuard, binOp, Op.intBits, IntKind.bits]
    exact (congrArg (fun z : Nat => IntKind.u32.wrap (z : Int)) e1).trans (by rw [IntKind.wrap_u32]; omega)
/-- sums and products of 32 bits that fit -/
theorem yAddWk (T T2 : TypeId) (x y : Operand) (m n z : Nat) (hz : m + n = z ∧ z < 4294967296) (ho : o.op = .binOp .add T x y T2) (hg : Region.wanted o (yielded ops a.tmps) = true) (hx : a.eval x = .int .u32 (m : Int)) (hy : a.eval y = .int .u32 (n : Int)) : YieldsIf P ops S o (.int .u32 (z : Int)) a :=
  yOf hg fun w _ => by
    obtain ⟨rfl, h1⟩ := hz
    have e : IntKind.u32.wrap ((m : Int) + (n : Int)) = ((m + n : Nat) : Int) := by rw [IntKind.wrap_u32]; omega
    unfold execOp; simp only [ho, hx, hy]; simp [eqGuard, binOp, Op.intArith, e]
theorem yMulWk (T T2 : TypeId) (x y : Operand) (m n z : Nat) (hz : m * n = z ∧ z < 4294967296) (ho : o.op = .binOp .mul T x y T2) (hg : Region.wanted o (yielded ops a.tmps) = true) (hx : a.eval x = .int .u32 (m : Int)) (hy : a.eval y = .int .u32 (n : Int)) : YieldsIf P ops S o (.int .u32 (z : Int)) a :=
  yOf hg fun w _ => by
    obtain ⟨rfl, h1⟩ := hz
    have e : IntKind.u32.wrap ((m : Int) * (n : Int)) = ((m * n : Nat) : Int) := by
      rw [IntKind.wrap_u32, ← Int.natCast_mul]; omega
    unfold execOp; simp only [ho, hx, hy]; simp [eqGuard, binOp, Op.intArith, e]
theorem yEqlK (T T2 : TypeId) (x y : Operand) (k : IntKind) (m n : Int) (b : Bool) (hb : decide (m = n) = b) (ho : o.op = .binOp .eql T x y T2) (hg : Region.wanted o (yielded ops a.tmps) = true) (hx : a.eval x = .int k m) (hy : a.eval y = .int k n) : YieldsIf P ops S o (.bool b) a :=
  yOf hg fun w _ => by
    subst hb
    unfold execOp; simp only [ho, hx, hy]; simp [eqGuard, binOp, Op.intCmp]; rfl
theorem yLssK (T T2 : TypeId) (x y : Operand) (k : IntKind) (m n : Int) (b : Bool) (hb : decide (m < n) = b) (ho : o.op = .binOp .lss T x y T2) (hg : Region.wanted o (yielded ops a.tmps) = true) (hx : a.eval x = .int k m) (hy : a.eval y = .int k n) : YieldsIf P ops S o (.bool b) a :=
  yOf hg fun w _ => by
    subst hb
    unfold execOp; simp only [ho, hx, hy]; simp [eqGuard, binOp, Op.intCmp]
theorem yGtrK (T T2 : TypeId) (x y : Operand) (k : IntKind) (m n : Int) (b : Bool) (hb : decide (m > n) = b) (ho : o.op = .binOp .gtr T x y T2) (hg : Region.wanted o (yielded ops a.tmps) = true) (hx : a.eval x = .int k m) (hy : a.eval y = .int k n) : YieldsIf P ops S o (.bool b) a :=
  yOf hg fun w _ => by
    subst hb
    unfold execOp; simp only [ho, hx, hy]; simp [eqGuard, binOp, Op.intCmp]
theorem yGeqK (T T2 : TypeId) (x y : Operand) (k : IntKind) (m n : Int) (b : Bool) (hb : decide (m ≥ n) = b) (ho : o.op = .binOp .geq T x y T2) (hg : Region.wanted o (yielded ops a.tmps) = true) (hx : a.eval x = .int k m) (hy : a.eval y = .int k n) : YieldsIf P ops S o (.bool b) a :=
  yOf hg fun w _ => by
    subst hb
    unfold execOp; simp only [ho, hx, hy]; simp [eqGuard, binOp, Op.intCmp]
theorem yNeqK (T T2 : TypeId) (x y : Operand) (k : IntKind) (m n : Int) (b : Bool) (hb : (!decide (m = n)) = b) (ho : o.op = .binOp .neq T x y T2) (hg : Region.wanted o (yielded ops a.tmps) = true) (hx : a.eval x = .int k m) (hy : a.eval y = .int k n) : YieldsIf P ops S o (.bool b) a := yNeqI T T2 x y k m n b ho hg hx hy hb
/-- whole numbers from one kind to another -/
theorem yConvK {T U : TypeId} {k j : IntKind} (hT : P.underlying T = some (.int k)) (hU : P.underlying U = some (.int j)) (x : Operand) (m z : Int) (hz : j.wrap m = z) (ho : o.op = .convert T U x) (hg : Region.wanted o (yielded ops a.tmps) = true) (hx : a.eval x = .int k m) : YieldsIf P ops S o (.int j z) a :=
  yOf hg fun w _ => by
    subst hz
    unfold execOp; simp [ho, hx, convert, run_underlying hT, run_underlying hU, Conv.intToInt]
end
theorem yMinL (x y : Operand) (m n z : Int) (hz : (if n < m then n else m) = z) {P : Program} {ops : Array Oper} {o : Oper} {a : Act} {S : World → Prop} {T : TypeId} (ho : o.op = .call { callee := .builtin .min, args := #[x, y], argTypes := #[T, T] }) (hg : Region.wanted o (yielded ops a.tmps) = true) (hx : a.eval x = .int .i64 m) (hy : a.eval y = .int .i64 n) : YieldsIf P ops S o (.int .i64 z) a :=
  yOf hg fun w _ => by
    subst hz
    unfold execOp
    simp only [ho, resolve, invoke, builtin, Sem.run_bind, Sem.run_pure, Result.andThen_ok, List.map_toArray, List.map_cons, List.map_nil, hx, hy, run_min_int2]
theorem yMaxL (x y : Operand) (m n z : Int) (hz : (if n > m then n else m) = z) {P : Program} {ops : Array Oper} {o : Oper} {a : Act} {S : World → Prop} {T : TypeId} (ho : o.op = .call { callee := .builtin .max, args := #[x, y], argTypes := #[T, T] }) (hg : Region.wanted o (yielded ops a.tmps) = true) (hx : a.eval x = .int .i64 m) (hy : a.eval y = .int .i64 n) : YieldsIf P ops S o (.int .i64 z) a :=
  yOf hg fun w _ => by
    subst hz
    unfold execOp
    simp only [ho, resolve, invoke, builtin, Sem.run_bind, Sem.run_pure, Result.andThen_ok, List.map_toArray, List.map_cons, List.map_nil, hx, hy, run_max_int2]
theorem wrap_u64N {n : Nat} (h : n < 18446744073709551616) : IntKind.u64.wrap (n : Int) = (n : Int) := by rw [IntKind.wrap_u64]; omega
theorem wrap_u32N {n : Nat} (h : n < 4294967296) : IntKind.u32.wrap (n : Int) = (n : Int) := by rw [IntKind.wrap_u32]; omega
theorem wrap_i64N {n : Nat} (h : n < 9223372036854775808) : IntKind.i64.wrap (n : Int) = (n : Int) := by rw [IntKind.wrap_i64]; omega

theorem wLeft_k {a : Nat} {z : Int} {r : Nat} (hz : z < 9223372036854775808) (h : a * 2 ^ z.toNat % M256 = r) (w : World) : Calls Try.prog 47 #[WV a, .int .i64 z] w fun e w' => e = .returned (WV r) ∧ Below w.heap.size w w' := by
  subst h; rw [WV_mod]; exact wLeft_any a z hz w
theorem wRight_k {a : Nat} {z : Int} {r : Nat} (ha : a < M256) (hz : z < 9223372036854775808) (h : a / 2 ^ z.toNat = r) (w : World) : Calls Try.prog 26 #[WV a, .int .i64 z] w fun e w' => e = .returned (WV r) ∧ Below w.heap.size w w' := by
  subst h; exact wRight_any a z ha hz w
theorem wLess_k {a b : Nat} {r : Bool} (ha : a < M256) (hb : b < M256) (h : decide (a < b) = r) (w : World) : Calls Try.prog 23 #[WV a, WV b] w fun e w' => e = .returned (.bool r) ∧ Below w.heap.size w w' := by
  subst h; exact wLess_any a b ha hb w
theorem wBits_k {a r : Nat} (ha : a < M256) (h : blen a = r) (w : World) : Calls Try.prog 11 #[WV a] w fun e w' => e = .returned (.int .i64 (r : Int)) ∧ Below w.heap.size w w' := by
  subst h; exact wBits_any a ha w
theorem wAdd_k {a b r : Nat} {c : Bool} (ha : a < M256) (hb : b < M256) (h : (a + b) % M256 = r ∧ decide (M256 ≤ a + b) = c) (w : World) : Calls Try.prog 39 #[WV a, WV b] w fun e w' => e = .returned (.tuple #[WV r, .bool c]) ∧ Below w.heap.size w w' := by
  obtain ⟨rfl, rfl⟩ := h; rw [WV_mod]; exact wAdd_any a b ha hb w
theorem wSub_k {a b r : Nat} {c : Bool} (ha : a < M256) (hb : b < M256) (h : (a + M256 - b) % M256 = r ∧ decide (a < b) = c) (w : World) : Calls Try.prog 24 #[WV a, WV b] w fun e w' => e = .returned (.tuple #[WV r, .bool c]) ∧ Below w.heap.size w w' := by
  obtain ⟨rfl, rfl⟩ := h; rw [WV_mod]; exact wSub_any a b ha hb w
theorem wMul_k {a b r h : Nat} (ha : a < M256) (hb : b < M256) (e : a * b % M256 = r ∧ a * b / M256 = h) (w : World) : Calls Try.prog 51 #[WV a, WV b] w fun e w' => e = .returned (.tuple #[WV r, WV h]) ∧ Below w.heap.size w w' := by
  obtain ⟨rfl, rfl⟩ := e; rw [WV_mod]; exact wMul_any a b ha hb w
theorem wDiv_k {a b q r : Nat} (ha : a < M256) (hb : b < M256) (e : a / b = q ∧ a % b = r) (w : World) : Calls Try.prog 40 #[WV a, WV b] w fun e w' => e = .returned (.tuple #[WV q, WV r]) ∧ Below w.heap.size w w' := by
  obtain ⟨rfl, rfl⟩ := e; exact wDiv_mod a b ha hb w
section
variable {ops : Array Oper} {o : Oper} {a : Act} {S : World → Prop} {Q : Exit → Act → World → Prop} {rest : List Oper} {w : World}
theorem yLoadW (x : Operand) (g n : Nat) (hr : ∀ w, S w → Row w g 24 (wcells n)) (ho : o.op = .load 24 x) (hg : Region.wanted o (yielded ops a.tmps) = true) (hx : a.eval x = .pointer (some ⟨g, 0, none⟩)) : YieldsIf Try.prog ops S o (.agg (wcells n)) a :=
  yOf hg fun w h => by
    have hl := run_loadPart (w := w) (n := (wcells n).size) (off := 0) (hr w h) Try.underlying24 rfl (info_WideC n) (by omega)
    rw [show (wcells n).extract 0 (0 + (wcells n).size) = wcells n by simp] at hl
    unfold execOp; simp only [ho, hx, Instr.loadAt, Instr.sureAddr, Sem.run_bind, Sem.run_pure, Result.andThen_ok, hl]
theorem yBuildW0 (ho : o.op = .build 24 #[]) (hg : Region.wanted o (yielded ops a.tmps) = true) : YieldsIf Try.prog ops S o (.agg (wcells 0)) a :=
  yOf hg fun w _ => by
    have hc : Try.prog.built 24 [] = some (wcells 0) := by rw [lit_zero]; kernel_rfl
    unfold execOp
    simp only [ho, Sem.run_bind]
    have := run_build w 24 #[] (wcells 0) hc
    simp [this]
theorem yNeqW (T2 : TypeId) (x y : Operand) (m n : Nat) (b : Bool) (hb : (!decide (m % M256 = n % M256)) = b) (ho : o.op = .binOp .neq 24 x y T2) (hg : Region.wanted o (yielded ops a.tmps) = true) (hx : a.eval x = .agg (wcells m)) (hy : a.eval y = .agg (wcells n)) : YieldsIf Try.prog ops S o (.bool b) a :=
  yOf hg fun w _ => by
    subst hb
    unfold execOp
    simp only [ho, hx, hy]
    have e := run_neqW m n x y w
    unfold WV at e
    rw [Sem.run_bind, e]; rfl
end
section
variable {P : Program} {ops : Array Oper} {Q : Exit → Act → World → Prop} {L : Act → World → Prop} {o : Oper} {a : Act} {w : World}
/-- a load and a call that may come in either order: what is known of the world outlasts both -/
theorem tTwoLC {k k' : Nat} {t : PT} {o' : Oper} {d d' : Tmp} (v v' : Value) (I : World → Prop) (hI : I w) (h0 : ops.toList[k]? = some o) (h0' : ops.toList[k']? = some o') (hd : o.dst = some d) (hd' : o'.dst = some d') (hne : d ≠ d')
    (hy : ∀ z, I z → YieldsIf P ops (fun x => x = z) o v a) (hz : ∀ z, I z → YieldsIf P ops (fun x => x = z) o v (a.put o'.dst v'))
    (hc : ∀ z, I z → ∀ R : Exit → Act → World → Prop, (∀ z', I z' → wpList P ops R [] (a.put o'.dst v') z') → wpList P ops R [o'] a z)
    (hc2 : ∀ z, I z → ∀ R : Exit → Act → World → Prop, (∀ z', I z' → wpList P ops R [] ((a.put o.dst v).put o'.dst v') z') → wpList P ops R [o'] (a.put o.dst v) z)
    (h : ∀ z, I z → wpPT P ops Q L t (fun _ => True) ((a.put o.dst v).put o'.dst v') z) : wpPT P ops Q L (.two k (.one k' t) k' (.one k t)) (fun _ => True) a w := by
  have e : (a.put o'.dst v').put o.dst v = (a.put o.dst v).put o'.dst v' := by
    rw [hd, hd']
    simp only [Act.put]
    rw [Array.setIfInBounds_comm _ _ (Ne.symm hne)]
  refine tTwo h0 h0' (kYw (hy w hI) (mixOn ⟨fun _ => True, fun _ h => h, trivial, tOne h0' (hc2 w hI _ fun z' hz' => mixOn ⟨fun _ => True, fun _ h => h, trivial, h z' hz'⟩)⟩)) (hc w hI _ fun z' hz' => mixOn ⟨fun _ => True, fun _ h => h, trivial, tOne h0 (kYw (hz z' hz') (mixOn ⟨fun _ => True, fun _ h => h, trivial, ?_⟩))⟩)
  rw [e]
  exact h z' hz'
end
end Go.Proofs.Ytdeggdmoijfhdaa
