/-
  Joined: FBase, FOnce, FFold, FAdd, FPow, FRoot, FLaw.
-/
import Derived.Test.YtdeggdmoijfhdaaWAll
import Derived.Test.YtdeggdmoijfhdaaKitAll
import Derived.Deep.LoopGhost
import Derived.Test.YtdeggdmoijfhdaaPlainAll
/-
  Rings of package field: what a ring's pointer reads, and single operations on it.
-/
namespace Go.Proofs.Ytdeggdmoijfhdaa
open Go Go.RowKit

section
variable {P : Program} {ops : Array Oper} {Q : Exit → Act → World → Prop} {rest : List Oper} {o : Oper} {a : Act} {w : World}
end
section
variable {ops : Array Oper} {Q : Exit → Act → World → Prop} {rest : List Oper} {o : Oper} {a : Act} {w : World}
theorem mixNilCheck {S : World → Prop} {L : Act → World → Prop} {bs : List Bool} (x : Operand) (b : Addr) (hS : S w) (ho : o.op = .nilCheck x) (hg : Region.wanted o (yielded ops a.tmps) = true) (hx : a.eval x = .pointer (some b)) (h : wpMix Try.prog ops Q S L bs rest (a.put o.dst (.pointer (some b))) w) : wpMix Try.prog ops Q S L (true :: bs) (o :: rest) a w :=
  mixQuiet _ hS hg (fun w _ => by unfold execOp; simp only [ho, hx, Sem.run_pure]) h
theorem kBuildW0 (ho : o.op = .build 24 #[]) (hg : Region.wanted o (yielded ops a.tmps) = true) (h : wpList Try.prog ops Q rest (a.put o.dst (.agg (wcells 0))) w) : wpList Try.prog ops Q (o :: rest) a w := by
  have hc : Try.prog.built 24 [] = some (wcells 0) := by rw [lit_zero]; kernel_rfl
  refine kPure _ hg ?_ h
  unfold execOp
  simp only [ho, Sem.run_bind]
  have := run_build w 24 #[] (wcells 0) hc
  simp [this]
end

/-! ### the variables that hold numbers of 256 bits: any of them is written; one more has come in a drawn region -/
theorem Mem.add {w0 w w' : World} {l : List (Nat × Nat)} {g m : Nat} (h : Mem w0 w l) (hb : Below w.heap.size w w') (hg : w.heap.size ≤ g) (hr : Row w' g 24 (wcells m)) : Mem w0 w' ((g, m) :: l) := by
  have h' := h.on hb
  refine ⟨fun i k n hi => ?_, List.Pairwise.cons (fun p hp => ?_) h.desc, fun i k n hi => ?_, h'.below⟩
  · cases i with
    | zero => simp at hi; obtain ⟨rfl, rfl⟩ := hi; exact hr
    | succ i => exact h'.rows i k n (by simpa using hi)
  · obtain ⟨i, hi⟩ := List.getElem?_of_mem hp
    exact Nat.lt_of_lt_of_le (h.rows i p.1 p.2 hi).lt hg
  · cases i with
    | zero => simp at hi; obtain ⟨rfl, rfl⟩ := hi; exact Nat.le_trans h.size hg
    | succ i => exact h.ge i k n (by simpa using hi)
theorem pairwise_set {l : List (Nat × Nat)} (h : l.Pairwise (fun a b => b.1 < a.1)) (i : Nat) {g n m : Nat} (hi : l[i]? = some (g, n)) : (l.set i (g, m)).Pairwise (fun a b => b.1 < a.1) := by
  rw [List.pairwise_iff_getElem] at h ⊢
  intro p q hp hq hpq
  have e : ∀ (k : Nat) (hk : k < (l.set i (g, m)).length), ((l.set i (g, m))[k]).1 = (l[k]'(by simpa using hk)).1 := fun k hk => by
    rw [List.getElem_set]
    split
    · rename_i h'; subst h'
      have hil : i < l.length := (List.getElem?_eq_some_iff.1 hi).1
      rw [List.getElem?_eq_getElem hil] at hi
      have := Option.some.inj hi
      rw [this]
    · rfl
  rw [e p hp, e q hq]
  exact h p q (by simpa using hp) (by simpa using hq) hpq
theorem Mem.putAt {w0 w w' : World} {l : List (Nat × Nat)} {g n m : Nat} (h : Mem w0 w l) (i : Nat) (hi : l[i]? = some (g, n)) (hw : Wrote g w w') (hr : Row w' g 24 (wcells m)) : Mem w0 w' (l.set i (g, m)) := by
  refine ⟨fun j k q hj => ?_, pairwise_set h.desc i hi, fun j k q hj => ?_, h.below.trans (hw.below (h.ge i g n hi))⟩
  · by_cases e : i = j
    · subst e
      have hil : i < l.length := (List.getElem?_eq_some_iff.1 hi).1
      rw [List.getElem?_set_self hil] at hj
      simp at hj; obtain ⟨rfl, rfl⟩ := hj; exact hr
    · rw [List.getElem?_set_ne e] at hj
      refine hw.row (h.rows j k q hj) ?_
      have hd := List.pairwise_iff_getElem.1 h.desc
      obtain ⟨hil, e1⟩ := List.getElem?_eq_some_iff.1 hi
      obtain ⟨hjl, e2⟩ := List.getElem?_eq_some_iff.1 hj
      rcases Nat.lt_or_gt_of_ne e with h' | h'
      · have := hd i j hil hjl h'; rw [e1, e2] at this; simp at this; omega
      · have := hd j i hjl hil h'; rw [e1, e2] at this; simp at this; omega
  · by_cases e : i = j
    · subst e
      have hil : i < l.length := (List.getElem?_eq_some_iff.1 hi).1
      rw [List.getElem?_set_self hil] at hj
      simp at hj; obtain ⟨rfl, rfl⟩ := hj; exact h.ge i g n hi
    · rw [List.getElem?_set_ne e] at hj; exact h.ge j k q hj
theorem Mem.recell {w0 w : World} {l : List (Nat × Nat)} (h : Mem w0 w l) (i : Nat) {g n m : Nat} (hi : l[i]? = some (g, n)) (he : wcells n = wcells m) : Mem w0 w (l.set i (g, m)) := by
  have hil : i < l.length := (List.getElem?_eq_some_iff.1 hi).1
  refine ⟨fun j k q hj => ?_, pairwise_set h.desc i hi, fun j k q hj => ?_, h.below⟩
  · by_cases e : i = j
    · subst e
      rw [List.getElem?_set_self hil] at hj
      simp at hj; obtain ⟨rfl, rfl⟩ := hj; rw [← he]; exact h.rows i g n hi
    · rw [List.getElem?_set_ne e] at hj; exact h.rows j k q hj
  · by_cases e : i = j
    · subst e
      rw [List.getElem?_set_self hil] at hj
      simp at hj; obtain ⟨rfl, rfl⟩ := hj; exact h.ge i g n hi
    · rw [List.getElem?_set_ne e] at hj; exact h.ge j k q hj
theorem wcells_less {k : Nat} (h : M256 ≤ k) : wcells k = wcells (k - M256) := by rw [← wcells_mod k, Nat.mod_eq_sub_mod h, wcells_mod]
theorem mStoreAt {ops : Array Oper} {Q : Exit → Act → World → Prop} {rest : List Oper} {o : Oper} {a : Act} {w0 w : World} {l : List (Nat × Nat)} (hM : Mem w0 w l) (i : Nat) (g n : Nat) (x y : Operand) (m : Nat) (hi : l[i]? = some (g, n)) (ho : o.op = .store 24 x y) (hg : Region.wanted o (yielded ops a.tmps) = true) (hx : a.eval x = .pointer (some ⟨g, 0, none⟩)) (hy : a.eval y = .agg (wcells m))
    (h : ∀ w1, Mem w0 w1 (l.set i (g, m)) → wpList Try.prog ops Q rest (a.put o.dst undef) w1) : wpList Try.prog ops Q (o :: rest) a w :=
  kStoreRow _ _ x y g _ _ ho hg hx hy (hM.get i hi) (info_WideC _) (by simp only [wcells_size]) (wcells_one _) fun w1 hr hw => h w1 (hM.putAt i hi hw hr)

/-- a modulus: above half of 2 to the power of 256 -/
structure Modu (m : Nat) : Prop where
  lt : m < M256
  gt : M256 < 2 * m
theorem Modu.pos {m : Nat} (h : Modu m) : 0 < m := by have := h.gt; have := M256_pos; omega
theorem Modu.mod {m : Nat} (h : Modu m) (x : Nat) : x % m < M256 := Nat.lt_trans (Nat.mod_lt _ h.pos) h.lt
end Go.Proofs.Ytdeggdmoijfhdaa

/-
  The walk of field's once: the modulus is taken away, if it is in the number.
-/
namespace Go.Proofs.Ytdeggdmoijfhdaa
open Go Go.RowKit

theorem once_less {a m : Nat} (h : a < m) : a = a % m := (Nat.mod_eq_of_lt h).symm
theorem once_more {a m : Nat} (ha : a < M256) (hm : Modu m) (h : ¬ a < m) : wcells (a + M256 - m) = wcells (a % m) := by
  have h2 := hm.gt; have h1 := hm.lt
  rw [← wcells_mod, show a + M256 - m = a - m + M256 by omega, Nat.add_mod_right, wcells_mod, Nat.mod_eq_sub_mod (by omega), Nat.mod_eq_of_lt (show a - m < m by omega)]
end Go.Proofs.Ytdeggdmoijfhdaa

/-
  The walk of field's Fold: low and high times 2 to the power of 256, modulo the ring's modulus.
-/
namespace Go.Proofs.Ytdeggdmoijfhdaa
open Go Go.RowKit

theorem wSub_gap {m gp : Nat} (hm : Modu m) (Hgp : Hid (gp = M256 - m)) (w : World) :
    Calls Try.prog 24 #[WV 0, WV m] w fun e w' => e = .returned (.tuple #[WV gp, .bool (decide (0 < m))]) ∧ Below w.heap.size w w' := by
  have h := wSub_any 0 m M256_pos hm.lt w
  rwa [show 0 + M256 - m = gp by rw [Hgp.out, Nat.zero_add]] at h
/-- one round: what is high comes down -/
theorem fold_round {m gp lo hi : Nat} (hm : Modu m) (Hgp : gp = M256 - m) (mhi : hi < M256) (hne : hi ≠ 0) :
    (lo + hi * gp) % m = (lo + hi * M256) % m ∧ lo + hi * gp < lo + hi * M256 ∧ hi * gp / M256 + 1 < M256 ∧ hi * gp / M256 < M256 := by
  have h1 := hm.lt; have h2 := hm.gt
  have e : hi * M256 = hi * gp + m * hi := by rw [Hgp, Nat.mul_comm m hi, ← Nat.mul_add, Nat.sub_add_cancel (by omega)]
  refine ⟨?_, ?_, ?_, ?_⟩
  · rw [e, ← Nat.add_assoc, Nat.add_mul_mod_self_left]
  · have : 0 < m * hi := Nat.mul_pos hm.pos (by omega)
    omega
  · have : hi * gp / M256 ≤ gp := by
      refine Nat.div_le_of_le_mul ?_
      exact Nat.mul_le_mul_right _ (by omega)
    omega
  · have : hi * gp / M256 ≤ gp := by
      refine Nat.div_le_of_le_mul ?_
      exact Nat.mul_le_mul_right _ (by omega)
    omega
theorem fold_parts (x lo : Nat) : lo + x % M256 + x / M256 * M256 = lo + x := by
  have := Nat.mod_add_div x M256; rw [Nat.mul_comm] at this; omega
theorem wMul_parts (y gp p q : Nat) (my : y < M256) (mgp : gp < M256) (hp : p = y * gp % M256) (hq : q = y * gp / M256) (w : World) :
    Calls Try.prog 51 #[WV y, WV gp] w fun e w' => e = .returned (.tuple #[WV p, WV q]) ∧ Below w.heap.size w w' := by
  have h := wMul_any y gp my mgp w
  rwa [← WV_mod (y * gp), ← hp, ← hq] at h
theorem wAdd_one (q n1 : Nat) (mq : q < M256) (mn1 : n1 < M256) (h : n1 = 1) (w : World) :
    Calls Try.prog 39 #[WV q, WV n1] w fun e w' => e = .returned (.tuple #[WV (q + 1), .bool (decide (M256 ≤ q + n1))]) ∧ Below w.heap.size w w' := by
  have h' := wAdd_any q n1 mq mn1 w
  subst h; exact h'
end Go.Proofs.Ytdeggdmoijfhdaa

/-
  The walks of field's Add, Sub, Mul, In and Modulus.
-/
namespace Go.Proofs.Ytdeggdmoijfhdaa
open Go Go.RowKit

theorem wAdd_over {a b s : Nat} (ma : a < M256) (mb : b < M256) (h : a + b = s + M256) (w : World) :
    Calls Try.prog 39 #[WV a, WV b] w fun e w' => e = .returned (.tuple #[WV s, .bool true]) ∧ Below w.heap.size w w' := by
  have h' := wAdd_any a b ma mb w
  rw [← WV_mod (a + b), h, Nat.add_mod_right, WV_mod, show decide (M256 ≤ s + M256) = true by simp] at h'
  exact h'
theorem wAdd_fits {a b s : Nat} (ma : a < M256) (mb : b < M256) (h : a + b = s) (hs : s < M256) (w : World) :
    Calls Try.prog 39 #[WV a, WV b] w fun e w' => e = .returned (.tuple #[WV s, .bool false]) ∧ Below w.heap.size w w' := by
  have h' := wAdd_any a b ma mb w
  rw [h, show decide (M256 ≤ s) = false by simpa using hs] at h'
  exact h'
theorem wSub_less {a b : Nat} (ma : a < M256) (mb : b < M256) (h : a < b) (w : World) :
    Calls Try.prog 24 #[WV a, WV b] w fun e w' => e = .returned (.tuple #[WV (a + M256 - b), .bool true]) ∧ Below w.heap.size w w' := by
  have h' := wSub_any a b ma mb w
  rw [show decide (a < b) = true by simpa using h] at h'
  exact h'
theorem wSub_fits {a b s : Nat} (ma : a < M256) (mb : b < M256) (h : a = s + b) (w : World) :
    Calls Try.prog 24 #[WV a, WV b] w fun e w' => e = .returned (.tuple #[WV s, .bool false]) ∧ Below w.heap.size w w' := by
  have h' := wSub_any a b ma mb w
  rw [show decide (a < b) = false by simp; omega, ← WV_mod (a + M256 - b), show a + M256 - b = s + M256 by omega, Nat.add_mod_right, WV_mod] at h'
  exact h'
end Go.Proofs.Ytdeggdmoijfhdaa

/-
  The walk of field's Pow: a number to any power.
-/
namespace Go.Proofs.Ytdeggdmoijfhdaa
open Go Go.RowKit

theorem limb_shr1 (n N : Nat) : limb n (N / 64) / 2 ^ (N % 64) % 2 = n / 2 ^ N % 2 := by
  unfold limb P64
  rw [show (18446744073709551616 : Nat) = 2 ^ 64 by decide, ← Nat.pow_mul]
  generalize hx : n / 2 ^ (64 * (N / 64)) = x
  have e1 : x % 2 ^ 64 / 2 ^ (N % 64) % 2 = x / 2 ^ (N % 64) % 2 := by
    have hr : N % 64 < 64 := Nat.mod_lt _ (by decide)
    generalize N % 64 = r at hr
    have e2 : (2 : Nat) ^ 64 = 2 ^ r * (2 * 2 ^ (63 - r)) := by rw [← Nat.pow_succ', ← Nat.pow_add]; congr 1; omega
    rw [e2, Nat.mod_mul_right_div_self, Nat.mod_mul_right_mod]
  rw [e1, ← hx, Nat.div_div_eq_div_mul, ← Nat.pow_add, Nat.div_add_mod]
theorem bit_and (n N : Nat) (b : Nat) (h : n / 2 ^ N % 2 = b) : bits BinOp.and IntKind.u64 ((limb n (N / 64) : Int) / 2 ^ (N % 64)) 1 = (b : Int) := by
  have e : ((limb n (N / 64) : Int) / 2 ^ (N % 64)) = ((limb n (N / 64) / 2 ^ (N % 64) : Nat) : Int) := by push_cast; rfl
  have hl := limb_lt n (N / 64)
  have hd : limb n (N / 64) / 2 ^ (N % 64) ≤ limb n (N / 64) := Nat.div_le_self _ _
  rw [← h, ← limb_shr1, e]
  generalize limb n (N / 64) / 2 ^ (N % 64) = x at hd
  rw [and_one_u64 _ (by omega) (by omega)]
  push_cast; rfl
/-- the power's next round -/
theorem pow_even {a n k m p : Nat} (h : p % m = a ^ (n / 2 ^ (k + 1)) % m) (hb : n / 2 ^ k % 2 = 0) : p * p % m = a ^ (n / 2 ^ k) % m := by
  have e : n / 2 ^ k = n / 2 ^ (k + 1) + n / 2 ^ (k + 1) := by rw [Nat.pow_succ, ← Nat.div_div_eq_div_mul]; omega
  rw [e, Nat.pow_add, Nat.mul_mod, h, ← Nat.mul_mod]
theorem pow_odd {a n k m p q : Nat} (h : p % m = a ^ (n / 2 ^ (k + 1)) % m) (hq : p * p % m = q) (hb : n / 2 ^ k % 2 = 1) : q * a % m = a ^ (n / 2 ^ k) % m := by
  have e : n / 2 ^ k = n / 2 ^ (k + 1) + n / 2 ^ (k + 1) + 1 := by rw [Nat.pow_succ, ← Nat.div_div_eq_div_mul]; omega
  rw [e, Nat.pow_succ, Nat.pow_add, ← hq, Nat.mod_mul_mod, Nat.mul_mod (p * p) a, Nat.mul_mod p p, h, ← Nat.mul_mod (a ^ _) (a ^ _), ← Nat.mul_mod]
end Go.Proofs.Ytdeggdmoijfhdaa

/-
  The walks of field's P, N, Inv and Root, and of the statements' own 'ring'.
-/
namespace Go.Proofs.Ytdeggdmoijfhdaa
open Go Go.RowKit

/-- the program's variable k holds the number m -/
def Glob (k m : Nat) (w : World) : Prop := ∀ j, j < 4 → w.cell? ⟨k, j, none⟩ = some (.int .u64 (limb m j : Int))
theorem Glob.below {k m : Nat} {w w' : World} (h : Glob k m w) (hb : Below w.heap.size w w') : Glob k m w' := fun j hj => by
  have := h j hj
  rw [hb.cell (block_lt_of_cell this)]; exact this
theorem Glob.mem {k m : Nat} {w0 w : World} {l : List (Nat × Nat)} (h : Glob k m w0) (hM : Mem w0 w l) : Glob k m w := h.below hM.below
section
variable {ops : Array Oper} {Q : Exit → Act → World → Prop} {rest : List Oper} {o : Oper} {a : Act} {w : World}
theorem run_loadG {k m : Nat} (hG : Glob k m w) : (loadVar 24 ⟨k, 0, none⟩).run Try.prog w = .ok (.agg (wcells m)) w := by
  have hl : (loadCells ⟨k, 0, none⟩ (wcells m).toList.length).run Try.prog w = .ok (wcells m).toList.toArray w :=
    run_loadCells_list (P := Try.prog) w ⟨k, 0, none⟩ (wcells m).toList (fun j v hv => by
      rw [add_none, Nat.zero_add]
      have hv' : (wcells m)[j]? = some v := by rw [← Array.getElem?_toList]; exact hv
      have hj : j < 4 := by
        rcases Nat.lt_or_ge j 4 with h | h
        · exact h
        · rw [Array.getElem?_eq_none (by rw [wcells_size]; exact h)] at hv'; cases hv'
      rw [wcells_get m j hj] at hv'
      rw [hG j hj]; exact hv')
  have hi := info_Wide
  cases hq : Try.prog.info? 24 with
  | none => rw [hq] at hi; cases hi
  | some i =>
    have hs : i.size = 4 := by simpa [hq] using hi
    rw [Array.length_toList, wcells_size, Array.toArray_toList] at hl
    simp [loadVar, Sem.run_bind, run_isAgg Try.underlying24, aggDesc, sizeOf, typeInfo, hq, hs, hl]
theorem kLoadG (x : Operand) (k m : Nat) (ho : o.op = .load 24 x) (hg : Region.wanted o (yielded ops a.tmps) = true) (hx : a.eval x = .pointer (some ⟨k, 0, none⟩)) (hG : Glob k m w)
    (h : wpList Try.prog ops Q rest (a.put o.dst (.agg (wcells m))) w) : wpList Try.prog ops Q (o :: rest) a w :=
  kPure _ hg (by unfold execOp; simp only [ho, hx, Instr.loadAt, Instr.sureAddr, Sem.run_bind, Sem.run_pure, Result.andThen_ok, run_loadG hG]) h
theorem wcells_lit (n : Nat) : wcells n = #[.int .u64 (limb n 0 : Int), .int .u64 (limb n 1 : Int), .int .u64 (limb n 2 : Int), .int .u64 (limb n 3 : Int)] := rfl
end
theorem modu_P : Modu PP := ⟨by decide, by decide⟩
theorem modu_N : Modu NN := ⟨by decide, by decide⟩
theorem wRight_as (a k c : Nat) (ma : a < M256) {z : Int} (h : a / 2 ^ c = k) (w : World) (hz : z = (c : Int) := by rfl) (hc : c < 9223372036854775808 := by decide) :
    Calls Try.prog 26 #[WV a, .int .i64 z] w fun e w' => e = .returned (WV k) ∧ Below w.heap.size w w' := by
  subst hz
  have h' := wRight_any a (c : Int) ma (by omega) w
  rwa [Int.toNat_natCast, h] at h'
theorem limb0_rem (r : Nat) : (limb r 0 : Int) % 2 = ((r % 2 : Nat) : Int) := by
  unfold limb; rw [P64_zero, Nat.div_one]; omega
end Go.Proofs.Ytdeggdmoijfhdaa

/-
  What the statements of layer 3 ask besides: single operations in any region, rows of two numbers, contracts by a number's name.
-/
namespace Go.Proofs.Ytdeggdmoijfhdaa
open Go Go.RowKit

section
variable {P : Program} {ops : Array Oper} {Q : Exit → Act → World → Prop} {rest : List Oper} {o : Oper} {a : Act} {w : World}
theorem unwanted_of {l : List Oper} {g : Nat} {b : Bool} {d : Tmp} {u : Value} (hg : o.guard = some (g, b)) (hd : (l[g]?).bind (·.dst) = some d) (hv : a.tmps.getD d undef = u) (hu : u = .bool (!b) ∨ u = undef) : Region.wanted o (yielded l.toArray a.tmps) = false := by
  unfold Region.wanted
  rw [hg]
  cases hq : a.tmps[d]? with
  | none => simp [yielded, hd, hq]
  | some x =>
    have e : x = u := by rw [Array.getD_eq_getD_getElem?, hq] at hv; simpa using hv
    subst e
    rcases hu with h | h <;> subst h <;> cases b <;> simp [yielded, hd, hq, undef]
end

theorem Row.on {w w' : World} {g : Nat} {T : TypeId} {cs : Array Value} (h : Row w g T cs) (hb : Below w.heap.size w w') : Row w' g T cs := h.below hb h.lt
/-! ### rows of two numbers -/
def wcells2 (a b : Nat) : Array Value := wcells a ++ wcells b
theorem wcells2_size (a b : Nat) : (wcells2 a b).size = 8 := by unfold wcells2; simp [wcells_size]
theorem wcells2_at0 (a b : Nat) : (wcells2 a b).extract 0 (0 + 4) = wcells a := rfl
theorem wcells2_at4 (a b : Nat) : (wcells2 a b).extract 4 (4 + 4) = wcells b := rfl
section
variable {ops : Array Oper} {Q : Exit → Act → World → Prop} {rest : List Oper} {o : Oper} {a : Act} {w : World}
end

/-! ### contracts by names -/
theorem neqW_no {a b : Nat} (h : a = b) : (!decide (a % M256 = b % M256)) = false := by rw [h]; simp
theorem eqlW_yes {a b : Nat} (h : a = b) : decide (a % M256 = b % M256) = true := by rw [h]; simp
theorem eqlW_no {a b : Nat} (ha : a < M256) (hb : b < M256) (h : a ≠ b) : decide (a % M256 = b % M256) = false := by
  rw [Nat.mod_eq_of_lt ha, Nat.mod_eq_of_lt hb]; exact decide_eq_false h
theorem neqW_yes {a b : Nat} (ha : a < M256) (hb : b < M256) (h : a ≠ b) : (!decide (a % M256 = b % M256)) = true := by rw [eqlW_no ha hb h]; rfl
end Go.Proofs.Ytdeggdmoijfhdaa
