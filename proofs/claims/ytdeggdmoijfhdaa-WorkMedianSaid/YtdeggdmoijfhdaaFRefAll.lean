/-
  Joined: FRef, FRef2, FRef3, FHex.
-/
import Derived.Test.YtdeggdmoijfhdaaWRefAll
import Derived.Test.YtdeggdmoijfhdaaFAll
import Derived.Deep.LoopGhost
import Derived.Test.YtdeggdmoijfhdaaPlainAll
import Derived.Laws.Strings2
import Derived.Laws.Slices
/-
  The reference of layer 3: numbers as digits by their value; the walks of its trim, Mod, Add, Sub, Mul and Of.
-/
namespace Go.Proofs.Ytdeggdmoijfhdaa
open Go Go.RowKit

/-! ### plain -/
/-- no nought at the end -/
def Tr (l : List Nat) : Prop := l = [] ∨ dat l (l.length - 1) ≠ 0
theorem tr_len {l : List Nat} (h : Tr l) {k : Nat} (hv : dval l < P16 k) : l.length ≤ k := by
  rcases h with rfl | h
  · simp
  · rcases Nat.lt_or_ge k l.length with hk | hk
    · have h1 := dval_take_succ l (l.length - 1)
      rw [show l.length - 1 + 1 = l.length by omega, List.take_length] at h1
      have h2 : P16 k ≤ P16 (l.length - 1) := Nat.pow_le_pow_right (by decide) (by omega)
      have h3 : P16 (l.length - 1) * 1 ≤ P16 (l.length - 1) * dat l (l.length - 1) := Nat.mul_le_mul_left _ (by omega)
      omega
    · exact hk
theorem tr_zero {l : List Nat} (h : Tr l) (hv : dval l = 0) : l = [] := by
  have := tr_len h (k := 0) (by rw [hv]; exact P16_pos 0)
  exact List.length_eq_zero_iff.1 (by omega)
theorem P16_16 : P16 16 = M256 := by decide

/-- digits of the number n, k at most -/
def Num (w : World) (v : Value) (n k : Nat) : Prop := ∃ l, Digs l ∧ Dig w v l ∧ dval l = n ∧ l.length ≤ k
/-- digits of the number n, no nought at the end -/
def NumT (w : World) (v : Value) (n : Nat) : Prop := ∃ l, Digs l ∧ Dig w v l ∧ dval l = n ∧ Tr l
theorem Num.below {w w' : World} {v : Value} {n k : Nat} (h : Num w v n k) (hb : Below w.heap.size w w') : Num w' v n k := by
  obtain ⟨l, h1, h2, h3, h4⟩ := h; exact ⟨l, h1, h2.below hb, h3, h4⟩
theorem NumT.below {w w' : World} {v : Value} {n : Nat} (h : NumT w v n) (hb : Below w.heap.size w w') : NumT w' v n := by
  obtain ⟨l, h1, h2, h3, h4⟩ := h; exact ⟨l, h1, h2.below hb, h3, h4⟩
theorem NumT.num {w : World} {v : Value} {n k : Nat} (h : NumT w v n) (hn : n < P16 k) : Num w v n k := by
  obtain ⟨l, h1, h2, h3, h4⟩ := h; exact ⟨l, h1, h2, h3, tr_len h4 (by rw [h3]; exact hn)⟩
theorem Num.lt {w : World} {v : Value} {n k : Nat} (h : Num w v n k) : n < P16 k := by
  obtain ⟨l, h1, -, h3, h4⟩ := h
  have := dval_lt h1
  rw [← h3]; exact Nat.lt_of_lt_of_le this (Nat.pow_le_pow_right (by decide) h4)
def NumPost (w : World) (n k : Nat) (e : Ending) (w' : World) : Prop := ∃ v, e = .returned v ∧ Num w' v n k ∧ Below w.heap.size w w'
def NumTPost (w : World) (n : Nat) (e : Ending) (w' : World) : Prop := ∃ v, e = .returned v ∧ NumT w' v n ∧ Below w.heap.size w w'

theorem dOf_num (a : Nat) (ma : a < M256) (w : World) : Calls Try.prog 20 #[WV a] w (NumPost w a 16) :=
  (dOf_any a w).mono fun _ _ ⟨v, h1, h2, h3⟩ => ⟨v, h1, ⟨_, digsOf_digs a 16, h2, digsOf_16 a ma, by rw [digsOf_len]; exact Nat.le_refl _⟩, h3⟩
theorem dAdd_num {va vb : Value} {na nb ka kb : Nat} {w : World} (ha : Num w va na ka) (hb : Num w vb nb kb) (hka : ka ≤ 1000) (hkb : kb ≤ 1000) : Calls Try.prog 43 #[va, vb] w (NumPost w (na + nb) (max ka kb + 1)) := by
  obtain ⟨a, h1, h2, h3, h4⟩ := ha
  obtain ⟨b, k1, k2, k3, k4⟩ := hb
  subst h3; subst k3
  exact (dAdd_any a b va vb w h1 k1 h2 k2 (by omega) (by omega)).mono fun _ _ ⟨v, l, e1, e2, e3, e4, e5, e6⟩ => ⟨v, e1, ⟨l, e3, e2, e4, by omega⟩, e6⟩
theorem dSub_num {va vb : Value} {na nb ka kb : Nat} {w : World} (ha : Num w va na ka) (hb : Num w vb nb kb) (hka : ka ≤ 1000) (hle : nb ≤ na) : Calls Try.prog 54 #[va, vb] w (NumPost w (na - nb) ka) := by
  obtain ⟨a, h1, h2, h3, h4⟩ := ha
  obtain ⟨b, k1, k2, k3, -⟩ := hb
  subst h3; subst k3
  exact (dSub_any a b va vb w h1 k1 h2 k2 (by omega) hle).mono fun _ _ ⟨v, l, e1, e2, e3, e4, e5, e6⟩ => ⟨v, e1, ⟨l, e3, e2, e4, by omega⟩, e6⟩
theorem dMul_num {va vb : Value} {na nb ka kb : Nat} {w : World} (ha : Num w va na ka) (hb : Num w vb nb kb) (hka : ka ≤ 1000) (hkb : kb ≤ 1000) : Calls Try.prog 45 #[va, vb] w (NumPost w (na * nb) (ka + kb)) := by
  obtain ⟨a, h1, h2, h3, h4⟩ := ha
  obtain ⟨b, k1, k2, k3, k4⟩ := hb
  subst h3; subst k3
  refine (dMul_any a b va vb w h1 k1 h2 k2 (by omega) (by omega)).mono fun _ _ ⟨v, e1, e2, e3⟩ => ⟨v, e1, ⟨_, digsOf_digs _ _, e2, ?_, by rw [digsOf_len]; omega⟩, e3⟩
  rw [digsOf_val, Nat.mod_eq_of_lt]
  rw [P16_add]
  exact Nat.mul_lt_mul'' (dval_lt h1) (dval_lt k1)
theorem dPower_num (n : Nat) (hn : n ≤ 1000) (w : World) : Calls Try.prog 42 #[.int .i64 (n : Int)] w (NumPost w (2 ^ n) (n / 16 + 1)) :=
  (dPower_any n hn w).mono fun _ _ ⟨v, e1, e2, e3⟩ => ⟨v, e1, ⟨_, powL_digs n, e2, powL_val n, by rw [powL_len]; exact Nat.le_refl _⟩, e3⟩
theorem dCompare_num {va vb : Value} {na nb ka kb : Nat} {w : World} (ha : Num w va na ka) (hb : Num w vb nb kb) (hka : ka ≤ 1000) (hkb : kb ≤ 1000) : Calls Try.prog 37 #[va, vb] w fun e w' => e = .returned (.int .i64 (cmpI na nb)) ∧ w = w' := by
  obtain ⟨a, h1, h2, h3, h4⟩ := ha
  obtain ⟨b, k1, k2, k3, k4⟩ := hb
  subst h3; subst k3
  exact dCompare_any a b va vb w h1 k1 h2 k2 (by omega) (by omega)
theorem dWide_num {v : Value} {n k : Nat} {w : World} (h : Num w v n k) : Calls Try.prog 16 #[v] w fun e w' => e = .returned (WV n) ∧ Below w.heap.size w w' := by
  obtain ⟨l, h1, h2, h3, h4⟩ := h
  subst h3
  exact dWide_any l v w h1 h2
theorem dWide_numT {v : Value} {n : Nat} {w : World} (h : NumT w v n) : Calls Try.prog 16 #[v] w fun e w' => e = .returned (WV n) ∧ Below w.heap.size w w' := by
  obtain ⟨l, h1, h2, h3, h4⟩ := h
  subst h3
  exact dWide_any l v w h1 h2

/-! ### trim -/
theorem kEqlIx {P : Program} {ops : Array Oper} {Q : Exit → Act → World → Prop} {rest : List Oper} {o : Oper} {a : Act} {w : World} (T T2 : TypeId) (x y : Operand) (k : IntKind) (m n : Int) (b : Bool) (ho : o.op = .binOp .eql T x y T2) (hg : Region.wanted o (yielded ops a.tmps) = true) (hx : a.eval x = .int k m) (hy : a.eval y = .int k n) (hb : (m == n) = b) (h : wpList P ops Q rest (a.put o.dst (.bool b)) w) : wpList P ops Q (o :: rest) a w := by
  subst hb
  refine kPure _ hg ?_ h
  unfold execOp
  simp only [ho, hx, hy]
  simp [eqGuard, binOp, Op.intCmp]
end Go.Proofs.Ytdeggdmoijfhdaa

/-
  The walks of the reference's Mod, Add, Sub, Mul and Of of layer 3, over the prime's own contract.
-/
namespace Go.Proofs.Ytdeggdmoijfhdaa
open Go Go.RowKit

/-! ### plain -/
theorem mod_round {m lo hi : Nat} (hm : Modu m) (hhi : 0 < hi) : (lo + hi * (M256 - m)) % m = (lo + M256 * hi) % m ∧ lo + hi * (M256 - m) < lo + M256 * hi := by
  have h1 := hm.lt; have h2 := hm.gt
  have e : M256 * hi = hi * (M256 - m) + m * hi := by rw [Nat.mul_comm m hi, ← Nat.mul_add, Nat.sub_add_cancel (by omega), Nat.mul_comm]
  refine ⟨?_, ?_⟩
  · rw [e, ← Nat.add_assoc, Nat.add_mul_mod_self_left]
  · have : 0 < m * hi := Nat.mul_pos hm.pos hhi
    omega
theorem cmpI_ge {x y : Nat} (h : y ≤ x) : decide (cmpI x y ≥ 0) = true := by
  unfold cmpI; rw [if_neg (by omega)]; split <;> simp
theorem cmpI_lt {x y : Nat} (h : x < y) : decide (cmpI x y ≥ 0) = false := by
  unfold cmpI; rw [if_pos h]; rfl
theorem drop_pos {l : List Nat} (h : Tr l) (hl : 16 < l.length) : 0 < dval (l.drop 16) := by
  rcases Nat.eq_zero_or_pos (dval (l.drop 16)) with h0 | h0
  · exfalso
    have e := dval_split l (l.length - 1) (by omega)
    rcases h with h | h
    · subst h; simp at hl
    · have h2 : dval ((l.drop 16).drop (l.length - 17)) = 0 := by
        have := dval_split (l.drop 16) (l.length - 17) (by simp; omega)
        have hp := P16_pos (l.length - 17)
        rw [h0] at this
        rcases Nat.eq_zero_or_pos (dval ((l.drop 16).drop (l.length - 17))) with h3 | h3
        · exact h3
        · have := Nat.mul_pos hp h3; omega
      rw [List.drop_drop, show 16 + (l.length - 17) = l.length - 1 by omega, dval_drop l (l.length - 1)] at h2
      omega
  · exact h0

section
variable {P : Program} {ops : Array Oper} {Q : Exit → Act → World → Prop} {rest : List Oper} {o : Oper} {a : Act} {w : World}
end

end Go.Proofs.Ytdeggdmoijfhdaa

/-
  The walks of the reference's Add, Sub, Mul, Of, Pow and Inv of layer 3, over the prime's own contract.
-/
namespace Go.Proofs.Ytdeggdmoijfhdaa
open Go Go.RowKit

theorem mod_lt16 {m : Nat} (hm : Modu m) (x : Nat) : x % m < P16 16 := by rw [P16_16]; exact hm.mod x

/-! ### Pow -/
theorem pow_bit1 {a n t m x y : Nat} (hx : x = a ^ (n % 2 ^ t) % m) (hy : y = a ^ 2 ^ t % m) (hb : n / 2 ^ t % 2 = 1) : x * y % m = a ^ (n % 2 ^ (t + 1)) % m := by
  have e : n % 2 ^ (t + 1) = n % 2 ^ t + 2 ^ t := by rw [Nat.pow_succ, Nat.mod_mul, hb, Nat.mul_one]
  rw [e, Nat.pow_add, hx, hy, ← Nat.mul_mod]
theorem pow_bit0 {a n t m : Nat} (hb : n / 2 ^ t % 2 = 0) : a ^ (n % 2 ^ t) % m = a ^ (n % 2 ^ (t + 1)) % m := by
  rw [Nat.pow_succ, Nat.mod_mul, hb, Nat.mul_zero, Nat.add_zero]
theorem pow_square {a t m y : Nat} (hy : y = a ^ 2 ^ t % m) : y * y % m = a ^ 2 ^ (t + 1) % m := by
  rw [hy, ← Nat.mul_mod, ← Nat.pow_add, Nat.pow_succ, Nat.mul_two]
theorem digit_bit {l : List Nat} (dl : Digs l) (j k : Nat) (hk : k < 16) : dat l j / 2 ^ k % 2 = dval l / 2 ^ (16 * j + k) % 2 := by
  rw [dat_num dl j, P16_pow]
  have e : (65536 : Nat) = 2 ^ k * (2 * 2 ^ (15 - k)) := by rw [← Nat.pow_succ', ← Nat.pow_add, show k + (15 - k).succ = 16 by omega]
  rw [e, Nat.mod_mul_right_div_self, Nat.mod_mul_right_mod, Nat.div_div_eq_div_mul, ← Nat.pow_add]
theorem tmod_bit {x k : Nat} {b : Nat} (h : x / 2 ^ k % 2 = b) : ((x : Int) / 2 ^ k).tmod 2 = (b : Int) := by
  have e : ((x : Int) / 2 ^ k) = ((x / 2 ^ k : Nat) : Int) := by push_cast; rfl
  rw [e, ← h]
  generalize x / 2 ^ k = y
  rw [Int.tmod_eq_emod_of_nonneg (by omega)]; push_cast; rfl
theorem pow_val {a n m t x : Nat} (hm : Modu m) (h : x = a ^ (n % 2 ^ t) % m) : x < P16 16 := by rw [h]; exact mod_lt16 hm _
theorem sq_val {a m t x : Nat} (hm : Modu m) (h : x = a ^ 2 ^ t % m) : x < P16 16 := by rw [h]; exact mod_lt16 hm _

end Go.Proofs.Ytdeggdmoijfhdaa

/-
  The walks of the reference's hex (a text of digits to sixteen as a number) and Prime.
-/
namespace Go.Proofs.Ytdeggdmoijfhdaa
open Go Go.RowKit

/-! ### plain -/
/-- a letter's number: a digit to sixteen -/
def hxv (c : UInt8) : Nat := if 65 ≤ c.toNat then c.toNat - 55 else c.toNat - 48
def isHex (c : UInt8) : Bool := (decide (48 ≤ c.toNat) && decide (c.toNat < 58)) || (decide (65 ≤ c.toNat) && decide (c.toNat < 71))
theorem hxv_lt {c : UInt8} (h : isHex c = true) : hxv c < 16 := by
  unfold hxv; simp [isHex] at h; split <;> omega
/-- the number of these letters -/
def hxN (l : List UInt8) : Nat := l.foldl (fun n c => 16 * n + hxv c) 0
theorem hxN_snoc (l : List UInt8) (c : UInt8) : hxN (l ++ [c]) = 16 * hxN l + hxv c := by simp [hxN, List.foldl_append]
theorem hxN_take (f : List UInt8) (k : Nat) (hk : k < f.length) : hxN (f.take (k + 1)) = 16 * hxN (f.take k) + hxv (at8 f k) := by
  rw [List.take_succ_eq_append_getElem hk, hxN_snoc]; simp [at8, hk]
theorem hxN_lt (f : List UInt8) (h : ∀ c ∈ f, isHex c = true) : ∀ k, k ≤ f.length → hxN (f.take k) < 16 ^ k
  | 0, _ => by simp [hxN]
  | k + 1, hk => by
    have ih := hxN_lt f h k (by omega)
    have hc : hxv (at8 f k) < 16 := hxv_lt (h _ (by simp [at8, show k < f.length by omega]))
    rw [hxN_take f k (by omega), Nat.pow_succ]; omega
/-- the digit of the p-th four letters -/
def hxD (s : List UInt8) (p : Nat) : Nat := hxN ((s.drop (4 * p)).take 4)
theorem hxD_lt (s : List UInt8) (h : ∀ c ∈ s, isHex c = true) (p : Nat) (hp : 4 * p + 4 ≤ s.length) : hxD s p < 65536 := by
  have := hxN_lt ((s.drop (4 * p)).take 4) (fun c hc => h c (List.mem_of_mem_drop (List.mem_of_mem_take hc))) 4 (by simp; omega)
  rwa [List.take_of_length_le (l := List.take 4 (List.drop (4 * p) s)) (by simp; omega)] at this
/-- the digits, the last four letters first -/
def hxL (s : List UInt8) (Q r : Nat) : List Nat := (List.range r).map fun t => hxD s (Q - 1 - t)
theorem hxL_len (s : List UInt8) (Q r : Nat) : (hxL s Q r).length = r := by simp [hxL]
theorem hxL_succ (s : List UInt8) (Q r : Nat) : hxL s Q (r + 1) = hxL s Q r ++ [hxD s (Q - 1 - r)] := by simp [hxL, List.range_succ]

theorem info_byteF : (Try.prog.info? 5).map (·.size) = some 1 := by kernel_rfl
theorem kSliceStr {P : Program} {ops : Array Oper} {Q : Exit → Act → World → Prop} {rest : List Oper} {o : Oper} {a : Act} {w : World} (T : TypeId) (x y z : Operand) (k k' : IntKind) (l : List UInt8) (i j : Int) (p q : Nat) (ho : o.op = .slice T x (some y) (some z) none) (hg : Region.wanted o (yielded ops a.tmps) = true) (hx : a.eval x = textV l) (hy : a.eval y = .int k i) (hz : a.eval z = .int k' j) (hu : P.underlying T = some .string) (hi : i = (p : Int)) (hj : j = (q : Int)) (hpq : p ≤ q) (hq : q ≤ l.length)
    (h : wpList P ops Q rest (a.put o.dst (textV ((l.drop p).take (q - p)))) w) : wpList P ops Q (o :: rest) a w := by
  subst hi; subst hj
  refine kPure _ hg ?_ h
  unfold execOp
  have hs : (⟨l.toArray⟩ : ByteArray).size = l.length := by simp [ByteArray.size]
  have e := run_slice_string (P := P) w T ⟨l.toArray⟩ k k' (p : Int) (q : Int) hu (by omega) (by omega) (by rw [hs]; omega)
  simp only [ho, hx, hy, hz, textV, Option.map_some, Option.map_none, Sem.run_bind, run_sliceAt_string (P := P) w T _ _ _ _ hu, e, Result.andThen_ok, Sem.run_pure]
  rw [Int.toNat_natCast, Int.toNat_natCast, ByteArray.extract_mk]

def pText : List UInt8 := [70, 70, 70, 70, 70, 70, 70, 70, 70, 70, 70, 70, 70, 70, 70, 70, 70, 70, 70, 70, 70, 70, 70, 70, 70, 70, 70, 70, 70, 70, 70, 70, 70, 70, 70, 70, 70, 70, 70, 70, 70, 70, 70, 70, 70, 70, 70, 70, 70, 70, 70, 70, 70, 70, 70, 69, 70, 70, 70, 70, 70, 67, 50, 70]
def nText : List UInt8 := [70, 70, 70, 70, 70, 70, 70, 70, 70, 70, 70, 70, 70, 70, 70, 70, 70, 70, 70, 70, 70, 70, 70, 70, 70, 70, 70, 70, 70, 70, 70, 69, 66, 65, 65, 69, 68, 67, 69, 54, 65, 70, 52, 56, 65, 48, 51, 66, 66, 70, 68, 50, 53, 69, 56, 67, 68, 48, 51, 54, 52, 49, 52, 49]
theorem pText_val : dval (hxL pText 16 16) = PP := by decide +kernel
theorem nText_val : dval (hxL nText 16 16) = NN := by decide +kernel
theorem hxL_digs (s : List UInt8) (Q r : Nat) (hs : s.length = 4 * Q) (hr : r ≤ Q) (h : ∀ c ∈ s, isHex c = true) : Digs (hxL s Q r) := fun x hx => by
  simp [hxL] at hx; obtain ⟨t, ht, rfl⟩ := hx; exact hxD_lt s h _ (by omega)
end Go.Proofs.Ytdeggdmoijfhdaa
