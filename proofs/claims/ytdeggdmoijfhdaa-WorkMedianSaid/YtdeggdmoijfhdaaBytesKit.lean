/-
  Bytes in memory: rows of them of one's own, single operations on bytes and integers.
-/
import Derived.Test.YtdeggdmoijfhdaaKitAll
import Derived.Test.YtdeggdmoijfhdaaLawBase
import Derived.Laws.Strings2
import Derived.Laws.Slices
import Derived.Laws.Cover3
namespace Go.Proofs.Ytdeggdmoijfhdaa
open Go Go.RowKit

theorem b8Info0 : (Try.prog.info? 5).map (fun i => (i.zero, i.size, i.bytes)) = some (some (.int .u8 0), 1, 1) := by kernel_rfl
theorem b8Info : ∃ i, Try.prog.info? 5 = some i ∧ i.zero = some (.int .u8 0) ∧ i.size = 1 ∧ i.bytes = 1 := by
  have h := b8Info0
  cases hq : Try.prog.info? 5 with
  | none => rw [hq] at h; cases h
  | some i => rw [hq] at h; simp at h; exact ⟨i, rfl, h.1, h.2.1, h.2.2⟩
def BytesPost (w : World) (l : List UInt8) (e : Ending) (w' : World) : Prop := ∃ v, e = .returned v ∧ IsVals w' v (l.map VB) ∧ Below w.heap.size w w'
def OwnB (w : World) (base : Nat) (v : Value) (l : List UInt8) : Prop := w.ownsRow base 5 1 v (l.map VB).length (l.map VB)
theorem own_one {w : World} {g base : Nat} {c : UInt8} (hb : base ≤ g) (h : Row w g 5 #[VB c]) : OwnB w base (.slice (some ⟨g, 0, none⟩) 1 1) [c] :=
  ⟨rfl, .inr ⟨g, 1, _, rfl, hb, h, Nat.le_refl _, by decide, by simp, by simp⟩⟩
theorem vbs_one (l : List UInt8) : ∀ u ∈ l.map VB, u.oneCell' = true := fun u hu => by
  simp at hu; obtain ⟨x, -, rfl⟩ := hu; rfl
theorem own_less {w : World} {b b' : Nat} {v : Value} {l : List UInt8} (hb : b' ≤ b) (h : OwnB w b v l) : OwnB w b' v l :=
  ⟨h.1, h.2.imp id fun ⟨g, cap, cur, e, hg, rest⟩ => ⟨g, cap, cur, e, Nat.le_trans hb hg, rest⟩⟩
theorem OwnB.vals {w : World} {b : Nat} {v : Value} {l : List UInt8} (h : OwnB w b v l) : IsVals w v (l.map VB) := isVals_own h
/-- the value reads as a list of lists of bytes -/
def AreLists (w : World) (v : Value) (Ls : List (List UInt8)) : Prop :=
  ∃ vs : List Value, vs.length = Ls.length ∧ IsVals w v vs ∧ ∀ (i : Nat) (x : Value) (L : List UInt8), vs[i]? = some x → Ls[i]? = some L → IsVals w x (L.map VB)
theorem IsVals.old {w : World} {v : Value} {l : List Value} (h : IsVals w v l) {g : Nat} (hg : w.heap.size ≤ g) (hl : l ≠ []) : v.ownBlock ≠ some g := by
  obtain ⟨ao, c, rfl, hc, hn, hj⟩ := h
  obtain ⟨u, us, rfl⟩ := List.exists_cons_of_ne_nil hl
  obtain ⟨a, rfl, hcell⟩ := hj 0 u rfl
  have := block_lt_of_cell hcell
  have hblk : (a.add 0).block = a.block := by unfold Addr.add; split <;> rfl
  rw [hblk] at this
  intro e
  simp [Value.ownBlock] at e
  omega
theorem AreLists.below {w w' : World} {v : Value} {Ls : List (List UInt8)} (h : AreLists w v Ls) (hb : Below w.heap.size w w') : AreLists w' v Ls := by
  obtain ⟨vs, hl, hv, hi⟩ := h
  exact ⟨vs, hl, hv.below hb, fun i x L hx hL => (hi i x L hx hL).below hb⟩

theorem areLists_one {w : World} {g : Nat} {E : TypeId} {x : Value} {l : List UInt8} (h : Row w g E #[x]) (hx : IsVals w x (l.map VB)) : AreLists w (.slice (some ⟨g, 0, none⟩) 1 1) [l] :=
  ⟨[x], rfl, isVals_lit (l := [x]) h, fun i y L h1 h2 => by
    match i, h1, h2 with
    | 0, h1, h2 => simp at h1 h2; subst h1; subst h2; exact hx⟩
theorem areLists_nil (w : World) : AreLists w (.slice none 0 0) [] := ⟨[], rfl, isVals_nil w, fun i x L h => by simp at h⟩

section
variable {ops : Array Oper} {Q : Exit → Act → World → Prop} {rest : List Oper} {o : Oper} {a : Act} {w : World}
theorem kConvB8 (x : Operand) (k : Nat) (hk : k < 256) (ho : o.op = .convert 5 22 x) (hg : Region.wanted o (yielded ops a.tmps) = true) (hx : a.eval x = .int .u8 (k : Int)) (h : wpList Try.prog ops Q rest (a.put o.dst (.int .u64 (k : Int))) w) : wpList Try.prog ops Q (o :: rest) a w := by
  refine kPure _ hg ?_ h
  unfold execOp
  have e : IntKind.u64.wrap (k : Int) = (k : Int) := by rw [IntKind.wrap_u64]; omega
  simp [ho, hx, convert, run_underlying Try.underlying22, run_underlying Try.underlying5, e, Conv.intToInt]
theorem kAddI (T T2 : TypeId) (x y : Operand) (m n z : Int) (hz : m + n = z ∧ 0 ≤ z ∧ z < 9223372036854775808) (ho : o.op = .binOp .add T x y T2) (hg : Region.wanted o (yielded ops a.tmps) = true) (hx : a.eval x = .int .i64 m) (hy : a.eval y = .int .i64 n) (h : wpList Try.prog ops Q rest (a.put o.dst (.int .i64 z)) w) : wpList Try.prog ops Q (o :: rest) a w := by
  obtain ⟨rfl, h1, h2⟩ := hz
  refine kPure _ hg ?_ h
  unfold execOp
  simp only [ho, hx, hy]
  have e : IntKind.i64.wrap (m + n) = m + n := by rw [IntKind.wrap_i64]; omega
  simp [eqGuard, binOp, Op.intArith, e]
theorem kConv8 (x : Operand) (n : Nat) (ho : o.op = .convert 22 5 x) (hg : Region.wanted o (yielded ops a.tmps) = true) (hx : a.eval x = .int .u64 (n : Int)) (h : wpList Try.prog ops Q rest (a.put o.dst (.int .u8 ((n % 256 : Nat) : Int))) w) : wpList Try.prog ops Q (o :: rest) a w := by
  refine kPure _ hg ?_ h
  unfold execOp
  have e : IntKind.u8.wrap (n : Int) = ((n % 256 : Nat) : Int) := by rw [IntKind.wrap_u8]; omega
  simp [ho, hx, convert, run_underlying Try.underlying22, run_underlying Try.underlying5, e, Conv.intToInt]
theorem kMinZ (x y : Operand) (m n z : Int) (hz : (if n < m then n else m) = z) (ho : o.op = .call { callee := .builtin .min, args := #[x, y], argTypes := #[3, 3] }) (hg : Region.wanted o (yielded ops a.tmps) = true) (hx : a.eval x = .int .i64 m) (hy : a.eval y = .int .i64 n) (h : wpList Try.prog ops Q rest (a.put o.dst (.int .i64 z)) w) : wpList Try.prog ops Q (o :: rest) a w := by
  subst hz
  refine kPure _ hg ?_ h
  unfold execOp
  simp only [ho, resolve, invoke, builtin, Sem.run_bind, Sem.run_pure, Result.andThen_ok, List.map_toArray, List.map_cons, List.map_nil, hx, hy, run_min_int2]
theorem kMaxZ (x y : Operand) (m n z : Int) (hz : (if n > m then n else m) = z) (ho : o.op = .call { callee := .builtin .max, args := #[x, y], argTypes := #[3, 3] }) (hg : Region.wanted o (yielded ops a.tmps) = true) (hx : a.eval x = .int .i64 m) (hy : a.eval y = .int .i64 n) (h : wpList Try.prog ops Q rest (a.put o.dst (.int .i64 z)) w) : wpList Try.prog ops Q (o :: rest) a w := by
  subst hz
  refine kPure _ hg ?_ h
  unfold execOp
  simp only [ho, resolve, invoke, builtin, Sem.run_bind, Sem.run_pure, Result.andThen_ok, List.map_toArray, List.map_cons, List.map_nil, hx, hy, run_max_int2]
theorem kShrU (T T2 : TypeId) (x y : Operand) (n k M : Nat) (hk : k < 64) (hM : 2 ^ k = M) (ho : o.op = .binOp .shr T x y T2) (hg : Region.wanted o (yielded ops a.tmps) = true) (hx : a.eval x = .int .u64 (n : Int)) (hy : a.eval y = .int .u64 (k : Int)) (h : wpList Try.prog ops Q rest (a.put o.dst (.int .u64 ((n / M : Nat) : Int))) w) : wpList Try.prog ops Q (o :: rest) a w := by
  subst hM
  refine kPure _ hg ?_ h
  unfold execOp
  simp only [ho, hx, hy]
  have e : (n : Int) / 2 ^ (k : Int).toNat = ((n / 2 ^ k : Nat) : Int) := by rw [Int.toNat_natCast]; norm_cast
  have e2 := shift_shr .u64 .u64 (n : Int) (k : Int) (by omega) (by simp [IntKind.bits]; omega)
  simp only [eqGuard_shr, binOp_shr, e2, e]
  rfl
theorem kEqlNilS (T T2 E : TypeId) (x y : Operand) (ao : Option Addr) (n c : Nat) (b : Bool) (hb : ao.isNone = b) (hu : Try.prog.underlying T = some (.slice E)) (ho : o.op = .binOp .eql T x y T2) (hg : Region.wanted o (yielded ops a.tmps) = true) (hx : a.eval x = .slice ao n c) (hy : a.eval y = .slice none 0 0) (h : wpList Try.prog ops Q rest (a.put o.dst (.bool b)) w) : wpList Try.prog ops Q (o :: rest) a w := by
  subst hb
  refine kPure _ hg ?_ h
  unfold execOp
  have e : (do eqGuard .eql T x y (.slice ao n c) (.slice none 0 0); binOp .eql T (.slice ao n c) (.slice none 0 0) : Sem Value).run Try.prog w = .ok (.bool ao.isNone) w := by
    simp [eqGuard, binOp, run_equal_slice_nil w T E ao n c hu]
  simp only [ho, hx, hy]
  rw [Sem.run_bind, e]; rfl
theorem kConvIU (x : Operand) (n : Nat) (hn : n < 18446744073709551616) (ho : o.op = .convert 3 22 x) (hg : Region.wanted o (yielded ops a.tmps) = true) (hx : a.eval x = .int .i64 (n : Int)) (h : wpList Try.prog ops Q rest (a.put o.dst (.int .u64 (n : Int))) w) : wpList Try.prog ops Q (o :: rest) a w := by
  refine kPure _ hg ?_ h
  unfold execOp
  have e : IntKind.u64.wrap (n : Int) = (n : Int) := by rw [IntKind.wrap_u64]; omega
  simp [ho, hx, convert, run_underlying Try.underlying22, run_underlying Try.underlying3, e, Conv.intToInt]
theorem kConvUI (x : Operand) (n : Nat) (hn : n < 9223372036854775808) (ho : o.op = .convert 22 3 x) (hg : Region.wanted o (yielded ops a.tmps) = true) (hx : a.eval x = .int .u64 (n : Int)) (h : wpList Try.prog ops Q rest (a.put o.dst (.int .i64 (n : Int))) w) : wpList Try.prog ops Q (o :: rest) a w := by
  refine kPure _ hg ?_ h
  unfold execOp
  have e : IntKind.i64.wrap (n : Int) = (n : Int) := by rw [IntKind.wrap_i64]; omega
  simp [ho, hx, convert, run_underlying Try.underlying22, run_underlying Try.underlying3, e, Conv.intToInt]
theorem kRemUP (T T2 : TypeId) (x y : Operand) (n m : Nat) (hm : 0 < m) (ho : o.op = .binOp .rem T x y T2) (hg : Region.wanted o (yielded ops a.tmps) = true) (hx : a.eval x = .int .u64 (n : Int)) (hy : a.eval y = .int .u64 (m : Int)) (h : wpList Try.prog ops Q rest (a.put o.dst (.int .u64 ((n % m : Nat) : Int))) w) : wpList Try.prog ops Q (o :: rest) a w := by
  refine kPure _ hg ?_ h
  unfold execOp
  simp only [ho, hx, hy]
  have e : (n : Int).tmod (m : Int) = ((n % m : Nat) : Int) := by rw [Int.tmod_eq_emod_of_nonneg (Int.natCast_nonneg _)]; norm_cast
  have hm' : m ≠ 0 := by omega
  simp [eqGuard, binOp, Op.intDiv, e, hm']
theorem kQuoU (T T2 : TypeId) (x y : Operand) (n m : Nat) (hm : 0 < m) (hn : n < 18446744073709551616) (ho : o.op = .binOp .quo T x y T2) (hg : Region.wanted o (yielded ops a.tmps) = true) (hx : a.eval x = .int .u64 (n : Int)) (hy : a.eval y = .int .u64 (m : Int)) (h : wpList Try.prog ops Q rest (a.put o.dst (.int .u64 ((n / m : Nat) : Int))) w) : wpList Try.prog ops Q (o :: rest) a w := by
  refine kPure _ hg ?_ h
  unfold execOp
  simp only [ho, hx, hy]
  have hq : n / m ≤ n := Nat.div_le_self _ _
  have hm' : m ≠ 0 := by omega
  have e : IntKind.u64.wrap ((n : Int) / (m : Int)) = (n : Int) / (m : Int) := by
    rw [show (n : Int) / (m : Int) = ((n / m : Nat) : Int) by norm_cast]
    generalize n / m = q at *
    rw [IntKind.wrap_u64]; omega
  simp [eqGuard, binOp, Op.intDiv, hm', e]
theorem kMulU (T T2 : TypeId) (x y : Operand) (m n z : Nat) (hz : m * n % 18446744073709551616 = z) (ho : o.op = .binOp .mul T x y T2) (hg : Region.wanted o (yielded ops a.tmps) = true) (hx : a.eval x = .int .u64 (m : Int)) (hy : a.eval y = .int .u64 (n : Int)) (h : wpList Try.prog ops Q rest (a.put o.dst (.int .u64 (z : Int))) w) : wpList Try.prog ops Q (o :: rest) a w := by
  refine kPure _ hg ?_ h
  unfold execOp
  simp only [ho, hx, hy]
  have e : IntKind.u64.wrap ((m : Int) * (n : Int)) = (z : Int) := by rw [← hz, show (m : Int) * (n : Int) = ((m * n : Nat) : Int) by norm_cast, IntKind.wrap_u64]; omega
  simp [eqGuard, binOp, Op.intArith, e]
theorem kAddUP (T T2 : TypeId) (x y : Operand) (m n z : Nat) (hz : (m + n) % 18446744073709551616 = z) (ho : o.op = .binOp .add T x y T2) (hg : Region.wanted o (yielded ops a.tmps) = true) (hx : a.eval x = .int .u64 (m : Int)) (hy : a.eval y = .int .u64 (n : Int)) (h : wpList Try.prog ops Q rest (a.put o.dst (.int .u64 (z : Int))) w) : wpList Try.prog ops Q (o :: rest) a w := by
  refine kPure _ hg ?_ h
  unfold execOp
  simp only [ho, hx, hy]
  have e : IntKind.u64.wrap ((m : Int) + (n : Int)) = (z : Int) := by rw [← hz, IntKind.wrap_u64]; omega
  simp [eqGuard, binOp, Op.intArith, e]
/-- composite values -/
theorem kBuildAny (T : TypeId) (parts : Array (Nat × Operand)) (vs : Array (Nat × Value)) (cs : Array Value) (ho : o.op = .build T parts) (hg : Region.wanted o (yielded ops a.tmps) = true) (hp : (parts.map fun (i, x) => (i, a.eval x)) = vs) (hb : Try.prog.built T vs.toList = some cs)
    (h : wpList Try.prog ops Q rest (a.put o.dst (.agg cs)) w) : wpList Try.prog ops Q (o :: rest) a w := by
  refine kPure _ hg ?_ h
  unfold execOp
  simp only [ho, Sem.run_bind, hp]
  have := run_build w T vs cs hb
  simp [this]
end
end Go.Proofs.Ytdeggdmoijfhdaa
