/-
  Joined: FRef, FRef2, FRef3, FHex.
-/
import Derived.Test.YtfgffjmpjoipeaaDoorWRefAll
import Derived.Test.YtfgffjmpjoipeaaDoorFAll
import Derived.Deep.LoopGhost
import Derived.Test.YtfgffjmpjoipeaaDoorPlainAll
import Derived.Laws.Strings2
import Derived.Laws.Slices
/-
  The reference of layer 3: numbers as digits by their value; the walks of its trim, Mod, Add, Sub, Mul and Of.
-/
namespace Go.Proofs.YtfgffjmpjoipeaaDoor
open Go Go.RowKit

/-! ### plain -/
/-- no nought at the end -/
def Tr (l : List Nat) : Prop := l = [] ∨ dat l (l.length - 1) ≠ 0
theorem tr_len {l : List Nat} (h : Tr l) {k : Nat} (hv : dval l < P16 k) : l.length ≤ k := by
  rcases h with rfl | h
  · simp
  · rcases Nat.lt_or_ge k l.length with hk | hk
    · have h1 := dval_take_succ l (l.length - 1)
      rw [show l.length - 1 + 1 = l.length by omega, List.take_length] at h1
      have h2 : P16 k ≤ P16 (l.length - 1) := Nat.pow_le_pow_right (by decide) (by omega)
      have h3 : P16 (l.length - 1) * 1 ≤ P16 (l.length - 1) * dat l (l.length - 1) := Nat.mul_le_mul_left _ (by omega)
      omega
    · exact hk
theorem tr_zero {l : List Nat} (h : Tr l) (hv : dval l = 0) : l = [] := by
  have := tr_len h (k := 0) (by rw [hv]; exact P16_pos 0)
  exact List.length_eq_zero_iff.1 (by omega)
theorem P16_16 : P16 16 = M256 := by decide

/-- digits of the number n, k at most -/
def Num (w : World) (v : Value) (n k : Nat) : Prop := ∃ l, Digs l ∧ Dig w v l ∧ dval l = n ∧ l.length ≤ k
/-- digits of the number n, no nought at the end -/
def NumT (w : World) (v : Value) (n : Nat) : Prop := ∃ l, Digs l ∧ Dig w v l ∧ dval l = n ∧ Tr l
theorem Num.below {w w' : World} {v : Value} {n k : Nat} (h : Num w v n k) (hb : Below w.heap.size w w') : Num w' v n k := by
  obtain ⟨l, h1, h2, h3, h4⟩ := h; exact ⟨l, h1, h2.below hb, h3, h4⟩
theorem NumT.below {w w' : World} {v : Value} {n : Nat} (h : NumT w v n) (hb : Below w.heap.size w w') : NumT w' v n := by
  obtain ⟨l, h1, h2, h3, h4⟩ := h; exact ⟨l, h1, h2.below hb, h3, h4⟩
theorem NumT.num {w : World} {v : Value} {n k : Nat} (h : NumT w v n) (hn : n < P16 k) : Num w v n k := by
  obtain ⟨l, h1, h2, h3, h4⟩ := h; exact ⟨l, h1, h2, h3, tr_len h4 (by rw [h3]; exact hn)⟩
theorem Num.lt {w : World} {v : Value} {n k : Nat} (h : Num w v n k) : n < P16 k := by
  obtain ⟨l, h1, -, h3, h4⟩ := h
  have := dval_lt h1
  rw [← h3]; exact Nat.lt_of_lt_of_le this (Nat.pow_le_pow_right (by decide) h4)
def NumPost (w : World) (n k : Nat) (e : Ending) (w' : World) : Prop := ∃ v, e = .returned v ∧ Num w' v n k ∧ Below w.heap.size w w'
def NumTPost (w : World) (n : Nat) (e : Ending) (w' : World) : Prop := ∃ v, e = .returned v ∧ NumT w' v n ∧ Below w.heap.size w w'

theorem dOf_num (a : Nat) (ma : a < M256) (w : World) : Calls Tryd.prog 41 #[WV a] w (NumPost w a 16) :=
  (dOf_any a w).mono fun _ _ ⟨v, h1, h2, h3⟩ => ⟨v, h1, ⟨_, digsOf_digs a 16, h2, digsOf_16 a ma, by rw [digsOf_len]; exact Nat.le_refl _⟩, h3⟩
theorem dAdd_num {va vb : Value} {na nb ka kb : Nat} {w : World} (ha : Num w va na ka) (hb : Num w vb nb kb) (hka : ka ≤ 1000) (hkb : kb ≤ 1000) : Calls Tryd.prog 65 #[va, vb] w (NumPost w (na + nb) (max ka kb + 1)) := by
  obtain ⟨a, h1, h2, h3, h4⟩ := ha
  obtain ⟨b, k1, k2, k3, k4⟩ := hb
  subst h3; subst k3
  exact (dAdd_any a b va vb w h1 k1 h2 k2 (by omega) (by omega)).mono fun _ _ ⟨v, l, e1, e2, e3, e4, e5, e6⟩ => ⟨v, e1, ⟨l, e3, e2, e4, by omega⟩, e6⟩
theorem dSub_num {va vb : Value} {na nb ka kb : Nat} {w : World} (ha : Num w va na ka) (hb : Num w vb nb kb) (hka : ka ≤ 1000) (hle : nb ≤ na) : Calls Tryd.prog 68 #[va, vb] w (NumPost w (na - nb) ka) := by
  obtain ⟨a, h1, h2, h3, h4⟩ := ha
  obtain ⟨b, k1, k2, k3, -⟩ := hb
  subst h3; subst k3
  exact (dSub_any a b va vb w h1 k1 h2 k2 (by omega) hle).mono fun _ _ ⟨v, l, e1, e2, e3, e4, e5, e6⟩ => ⟨v, e1, ⟨l, e3, e2, e4, by omega⟩, e6⟩
theorem dMul_num {va vb : Value} {na nb ka kb : Nat} {w : World} (ha : Num w va na ka) (hb : Num w vb nb kb) (hka : ka ≤ 1000) (hkb : kb ≤ 1000) : Calls Tryd.prog 66 #[va, vb] w (NumPost w (na * nb) (ka + kb)) := by
  obtain ⟨a, h1, h2, h3, h4⟩ := ha
  obtain ⟨b, k1, k2, k3, k4⟩ := hb
  subst h3; subst k3
  refine (dMul_any a b va vb w h1 k1 h2 k2 (by omega) (by omega)).mono fun _ _ ⟨v, e1, e2, e3⟩ => ⟨v, e1, ⟨_, digsOf_digs _ _, e2, ?_, by rw [digsOf_len]; omega⟩, e3⟩
  rw [digsOf_val, Nat.mod_eq_of_lt]
  rw [P16_add]
  exact Nat.mul_lt_mul'' (dval_lt h1) (dval_lt k1)
theorem dPower_num (n : Nat) (hn : n ≤ 1000) (w : World) : Calls Tryd.prog 87 #[.int .i64 (n : Int)] w (NumPost w (2 ^ n) (n / 16 + 1)) :=
  (dPower_any n hn w).mono fun _ _ ⟨v, e1, e2, e3⟩ => ⟨v, e1, ⟨_, powL_digs n, e2, powL_val n, by rw [powL_len]; exact Nat.le_refl _⟩, e3⟩
theorem dCompare_num {va vb : Value} {na nb ka kb : Nat} {w : World} (ha : Num w va na ka) (hb : Num w vb nb kb) (hka : ka ≤ 1000) (hkb : kb ≤ 1000) : Calls Tryd.prog 46 #[va, vb] w fun e w' => e = .returned (.int .i64 (cmpI na nb)) ∧ w = w' := by
  obtain ⟨a, h1, h2, h3, h4⟩ := ha
  obtain ⟨b, k1, k2, k3, k4⟩ := hb
  subst h3; subst k3
  exact dCompare_any a b va vb w h1 k1 h2 k2 (by omega) (by omega)
theorem dWide_num {v : Value} {n k : Nat} {w : World} (h : Num w v n k) : Calls Tryd.prog 9 #[v] w fun e w' => e = .returned (WV n) ∧ Below w.heap.size w w' := by
  obtain ⟨l, h1, h2, h3, h4⟩ := h
  subst h3
  exact dWide_any l v w h1 h2
theorem dWide_numT {v : Value} {n : Nat} {w : World} (h : NumT w v n) : Calls Tryd.prog 9 #[v] w fun e w' => e = .returned (WV n) ∧ Below w.heap.size w w' := by
  obtain ⟨l, h1, h2, h3, h4⟩ := h
  subst h3
  exact dWide_any l v w h1 h2

/-! ### trim -/
theorem kEqlIx {P : Program} {ops : Array Oper} {Q : Exit → Act → World → Prop} {rest : List Oper} {o : Oper} {a : Act} {w : World} (T T2 : TypeId) (x y : Operand) (k : IntKind) (m n : Int) (b : Bool) (ho : o.op = .binOp .eql T x y T2) (hg : Region.wanted o (yielded ops a.tmps) = true) (hx : a.eval x = .int k m) (hy : a.eval y = .int k n) (hb : (m == n) = b) (h : wpList P ops Q rest (a.put o.dst (.bool b)) w) : wpList P ops Q (o :: rest) a w := by
  subst hb
  refine kPure _ hg ?_ h
  unfold execOp
  simp only [ho, hx, hy]
  simp [eqGuard, binOp, Op.intCmp]
set_option maxRecDepth 100000 in
set_option maxHeartbeats 4000000 in
theorem rtrim_num {v : Value} {n k : Nat} {w : World} (h : Num w v n k) (hk : k ≤ 1000) :
    Calls Tryd.prog 86 #[v] w fun e w' => ∃ v', e = .returned v' ∧ NumT w' v' n ∧ w = w' := by
  obtain ⟨l, dl, hv, hn, hl⟩ := h
  have hl0 : l.length ≤ 1000 := by omega
  clear hl
  go_enter Tryd.func86, Tryd.ntmps86
  go_wp2_with fail
  go_loopg [0] l.length (fun q d wr => ∃ l', q = l'.length ∧ Digs l' ∧ Dig w d l' ∧ Hid (dval l' = n) ∧ l'.length ≤ 1000 ∧ wr = w)
  case atStart => exact ⟨l, rfl, dl, hv, Lib.hid hn, hl0, rfl⟩
  case round =>
    obtain ⟨l', hq, dl', hv', Hn', hl', rfl⟩ := hrel
    by_cases h0 : l'.length = 0
    · have hml : (l'.map VU).length = 0 := by simpa using h0
      have T := Lib.hid (show Tr l' from .inl (List.length_eq_zero_iff.1 h0))
      clear h0 hq hl'
      go_wp2_with (first
        | ((with_reducible change wpList _ _ _ (Oper.mk (some 4) _ _ _ _ _ :: _) _ _); refine kLenN _ _ _ _ _ 0 rfl rfl rfl hv' hml Tryd.underlying27 ?_; go_frame))
      go_ret
      exact ⟨_, rfl, ⟨l', dl', hv', Hn'.out, T.out⟩, rfl⟩
    · obtain ⟨t, ht⟩ : ∃ t, l'.length = t + 1 := ⟨l'.length - 1, by omega⟩
      have hml : (l'.map VU).length = t + 1 := by simpa using ht
      have ht2 : t < 1000 := by omega
      have Ht := Lib.hid ht
      have Hq := Lib.hid hq
      clear h0 hq hl' ht
      by_cases hz : dat l' t = 0
      · have Hz := Lib.hid hz
        clear hz
        go_wp2_with (first
          | ((with_reducible change wpList _ _ _ (Oper.mk (some 4) _ _ _ _ _ :: _) _ _); refine kLenN _ _ _ _ _ (t + 1) rfl rfl rfl hv' hml Tryd.underlying27 ?_; go_frame)
          | ((with_reducible change wpList _ _ _ (Oper.mk (some 9) _ _ _ _ _ :: _) _ _); refine kLenN _ _ _ _ _ (t + 1) rfl rfl rfl hv' hml Tryd.underlying27 ?_; go_frame)
          | ((with_reducible change wpList _ _ _ (Oper.mk (some 11) _ _ _ _ _ :: _) _ _); refine kIndexAddrV _ _ _ _ _ _ _ _ t _ rfl rfl rfl hv' rfl Tryd.underlying27 info_w64 (by omega) (dig_at (by rw [Ht.out]; omega)) ?_; intro b hb; unfold VU at hb; rw [Hz.out] at hb; go_frame)
          | ((with_reducible change wpList _ _ _ (Oper.mk (some 12) _ _ _ _ _ :: _) _ _); refine kLoadCell _ _ _ _ _ rfl rfl rfl hb Tryd.underlying22 rfl ?_; go_frame)
          | ((with_reducible change wpList _ _ _ (Oper.mk (some 17) _ _ _ _ _ :: _) _ _); refine kLenN _ _ _ _ _ (t + 1) rfl rfl rfl hv' hml Tryd.underlying27 ?_; go_frame)
          | ((with_reducible change wpList _ _ _ (Oper.mk (some 19) _ _ _ _ _ :: _) _ _); refine kSliceToV _ _ _ _ _ _ _ _ t rfl rfl rfl rfl Tryd.underlying27 info_w64 hv' (by omega) (by rw [hml]; omega) ?_; go_frame))
        have ht := Ht.out
        go_roundg t
        case rel =>
          refine ⟨l'.take t, by simp; omega, dl'.take _, ?_, Lib.hid ?_, by simp; omega, rfl⟩
          · have := isVals_to (n := t) hv' (by rw [hml]; omega)
            unfold Dig; rw [List.map_take]; exact this
          · have h1 := dval_take_succ l' t
            rw [← ht, List.take_length, Hz.out, Nat.mul_zero, Nat.add_zero] at h1
            rw [← h1]; exact Hn'.out
        case measure => have := Hq.out; omega
      · have T := Lib.hid (show Tr l' from .inr (by rw [Ht.out]; exact hz))
        generalize hxx : dat l' t = xx at hz
        have hne2 : ((xx : Int) == 0) = false := by simpa using hz
        have Hxx := Lib.hid hxx
        clear hz hxx
        go_wp2_with (first
          | ((with_reducible change wpList _ _ _ (Oper.mk (some 4) _ _ _ _ _ :: _) _ _); refine kLenN _ _ _ _ _ (t + 1) rfl rfl rfl hv' hml Tryd.underlying27 ?_; go_frame)
          | ((with_reducible change wpList _ _ _ (Oper.mk (some 9) _ _ _ _ _ :: _) _ _); refine kLenN _ _ _ _ _ (t + 1) rfl rfl rfl hv' hml Tryd.underlying27 ?_; go_frame)
          | ((with_reducible change wpList _ _ _ (Oper.mk (some 11) _ _ _ _ _ :: _) _ _); refine kIndexAddrV _ _ _ _ _ _ _ _ t _ rfl rfl rfl hv' rfl Tryd.underlying27 info_w64 (by omega) (dig_at (by rw [Ht.out]; omega)) ?_; intro b hb; unfold VU at hb; rw [Hxx.out] at hb; go_frame)
          | ((with_reducible change wpList _ _ _ (Oper.mk (some 12) _ _ _ _ _ :: _) _ _); refine kLoadCell _ _ _ _ _ rfl rfl rfl hb Tryd.underlying22 rfl ?_; go_frame)
          | ((with_reducible change wpList _ _ _ (Oper.mk (some 13) _ _ _ _ _ :: _) _ _); refine kEqlIx _ _ _ _ .u64 _ _ false rfl rfl rfl rfl hne2 ?_; go_frame))
        go_ret
        exact ⟨_, rfl, ⟨l', dl', hv', Hn'.out, T.out⟩, rfl⟩
end Go.Proofs.YtfgffjmpjoipeaaDoor

/-
  The walks of the reference's Mod, Add, Sub, Mul and Of of layer 3, over the prime's own contract.
-/
namespace Go.Proofs.YtfgffjmpjoipeaaDoor
open Go Go.RowKit

/-! ### plain -/
theorem mod_round {m lo hi : Nat} (hm : Modu m) (hhi : 0 < hi) : (lo + hi * (M256 - m)) % m = (lo + M256 * hi) % m ∧ lo + hi * (M256 - m) < lo + M256 * hi := by
  have h1 := hm.lt; have h2 := hm.gt
  have e : M256 * hi = hi * (M256 - m) + m * hi := by rw [Nat.mul_comm m hi, ← Nat.mul_add, Nat.sub_add_cancel (by omega), Nat.mul_comm]
  refine ⟨?_, ?_⟩
  · rw [e, ← Nat.add_assoc, Nat.add_mul_mod_self_left]
  · have : 0 < m * hi := Nat.mul_pos hm.pos hhi
    omega
theorem cmpI_ge {x y : Nat} (h : y ≤ x) : decide (cmpI x y ≥ 0) = true := by
  unfold cmpI; rw [if_neg (by omega)]; split <;> simp
theorem cmpI_lt {x y : Nat} (h : x < y) : decide (cmpI x y ≥ 0) = false := by
  unfold cmpI; rw [if_pos h]; rfl
theorem drop_pos {l : List Nat} (h : Tr l) (hl : 16 < l.length) : 0 < dval (l.drop 16) := by
  rcases Nat.eq_zero_or_pos (dval (l.drop 16)) with h0 | h0
  · exfalso
    have e := dval_split l (l.length - 1) (by omega)
    rcases h with h | h
    · subst h; simp at hl
    · have h2 : dval ((l.drop 16).drop (l.length - 17)) = 0 := by
        have := dval_split (l.drop 16) (l.length - 17) (by simp; omega)
        have hp := P16_pos (l.length - 17)
        rw [h0] at this
        rcases Nat.eq_zero_or_pos (dval ((l.drop 16).drop (l.length - 17))) with h3 | h3
        · exact h3
        · have := Nat.mul_pos hp h3; omega
      rw [List.drop_drop, show 16 + (l.length - 17) = l.length - 1 by omega, dval_drop l (l.length - 1)] at h2
      omega
  · exact h0

section
variable {P : Program} {ops : Array Oper} {Q : Exit → Act → World → Prop} {rest : List Oper} {o : Oper} {a : Act} {w : World}
theorem kGtrI (T T2 : TypeId) (x y : Operand) (k : IntKind) (m n : Int) (b : Bool) (ho : o.op = .binOp .gtr T x y T2) (hg : Region.wanted o (yielded ops a.tmps) = true) (hx : a.eval x = .int k m) (hy : a.eval y = .int k n) (hb : decide (m > n) = b) (h : wpList P ops Q rest (a.put o.dst (.bool b)) w) : wpList P ops Q (o :: rest) a w := by
  subst hb
  refine kPure _ hg ?_ h
  unfold execOp
  simp only [ho, hx, hy]
  simp [eqGuard, binOp, Op.intCmp]
theorem kGeqI (T T2 : TypeId) (x y : Operand) (k : IntKind) (m n : Int) (b : Bool) (ho : o.op = .binOp .geq T x y T2) (hg : Region.wanted o (yielded ops a.tmps) = true) (hx : a.eval x = .int k m) (hy : a.eval y = .int k n) (hb : decide (m ≥ n) = b) (h : wpList P ops Q rest (a.put o.dst (.bool b)) w) : wpList P ops Q (o :: rest) a w := by
  subst hb
  refine kPure _ hg ?_ h
  unfold execOp
  simp only [ho, hx, hy]
  simp [eqGuard, binOp, Op.intCmp]
theorem kLssI (T T2 : TypeId) (x y : Operand) (k : IntKind) (m n : Int) (b : Bool) (ho : o.op = .binOp .lss T x y T2) (hg : Region.wanted o (yielded ops a.tmps) = true) (hx : a.eval x = .int k m) (hy : a.eval y = .int k n) (hb : decide (m < n) = b) (h : wpList P ops Q rest (a.put o.dst (.bool b)) w) : wpList P ops Q (o :: rest) a w := by
  subst hb
  refine kPure _ hg ?_ h
  unfold execOp
  simp only [ho, hx, hy]
  simp [eqGuard, binOp, Op.intCmp]
end

set_option maxRecDepth 100000 in
set_option maxHeartbeats 8000000 in
theorem rMod_num {b : Bool} {m : Nat} (hm : Modu m) (hP : ∀ w, Calls Tryd.prog 10 #[.bool b] w (NumPost w m 16)) {v : Value} {n k : Nat} {w : World} (h : Num w v n k) (hk : k ≤ 100) :
    Calls Tryd.prog 64 #[v, .bool b] w (NumTPost w (n % m)) := by
  have hbl : n < P16 100 := Nat.lt_of_lt_of_le h.lt (Nat.pow_le_pow_right (by decide) hk)
  obtain ⟨gp, Hgp⟩ : ∃ g, Hid (g = M256 - m) := ⟨_, Lib.hid rfl⟩
  have hgl : gp < P16 17 := by rw [Hgp.out]; exact Nat.lt_of_le_of_lt (Nat.sub_le _ _) (by decide)
  have hsub : m ≤ 2 ^ 256 := by have := hm.lt; have e : M256 = 2 ^ 256 := by decide
                                omega
  have hgv : 2 ^ 256 - m = gp := by rw [Hgp.out]; congr 1
  have Hsub := Lib.hid hsub
  have Hgv := Lib.hid hgv
  clear hsub hgv
  go_enter Tryd.func64, Tryd.ntmps64
  go_wp2_with (first
    | (go_at_call 10; refine (hP _).mono ?_; rintro e w1 ⟨v5, rfl, N5, hB1⟩; go_frame)
    | (go_at_call 87; refine (dPower_num 256 (by decide) _).mono ?_; rintro e w2 ⟨v9, rfl, N9, hB2⟩; go_frame)
    | (go_at_call 68; refine (dSub_num N9 (N5.below hB2) (by decide) Hsub.out).mono ?_; rintro e w3 ⟨v11, rfl, N11, hB3⟩; rw [Hgv.out] at N11; go_frame)
    | (go_at_call 86; (with_reducible change Calls _ _ #[v11] _ _); refine (rtrim_num N11 (by decide)).mono ?_; rintro e w4 ⟨v12, rfl, N12, rfl⟩; go_frame)
    | (go_at_call 86; (with_reducible change Calls _ _ #[v] _ _); refine (rtrim_num (((h.below hB1).below hB2).below hB3) (by omega)).mono ?_; rintro e w5 ⟨v14, rfl, N14, rfl⟩; go_frame))
  have hB03 : Below w.heap.size w w3 := (hB1.trans (hB2.mono hB1.size)).trans (hB3.mono (Nat.le_trans hB1.size hB2.size))
  have N5' := (N5.below hB2).below hB3
  clear N5 N9 N11 hB1 hB2 hB3
  go_loopg [0] n (fun V d wr => NumT wr d V ∧ V ≤ n ∧ Hid (V % m = n % m) ∧ Num wr v5 m 16 ∧ NumT wr v12 gp ∧ Below w.heap.size w wr)
  case atStart => exact ⟨N14, Nat.le_refl _, Lib.hid rfl, N5', N12, hB03⟩
  case round =>
    obtain ⟨NV, hV, Hmod, P5, P12, hB⟩ := hrel
    clear N5' N12 N14 hB03
    have NV0 := NV
    obtain ⟨l, dl, hd, hval, htr⟩ := NV
    have hl100 : l.length ≤ 100 := tr_len htr (by omega)
    have Hval := Lib.hid hval
    clear hval
    have hml : (l.map VU).length = l.length := by simp
    by_cases hlen : l.length ≤ 16
    · have hlt : gk < M256 := by
        rw [← Hval.out, ← P16_16]; exact Nat.lt_of_lt_of_le (dval_lt dl) (Nat.pow_le_pow_right (by decide) hlen)
      have D := Lib.hid (show decide ((l.length : Int) > 16) = false from decide_eq_false (by omega))
      clear hlen hl100
      go_wp2_with (first
        | ((with_reducible change wpList _ _ _ (Oper.mk (some 16) _ _ _ _ _ :: _) _ _); refine kLenN _ _ _ _ _ l.length rfl rfl rfl hd hml Tryd.underlying27 ?_; go_frame)
        | ((with_reducible change wpList _ _ _ (Oper.mk (some 17) _ _ _ _ _ :: _) _ _); refine kGtrI _ _ _ _ .i64 _ _ false rfl rfl rfl rfl D.out ?_; go_frame))
      clear hd hml D dl htr Hval hV
      go_loopg [0] gk (fun V d w2 => NumT w2 d V ∧ V < M256 ∧ Hid (V % m = n % m) ∧ Num w2 v5 m 16 ∧ Below w.heap.size w w2)
      case atStart => exact ⟨NV0, hlt, Hmod, P5, hB⟩
      case round =>
        clear NV0 Hmod P5 hB P12 hlt
        obtain ⟨NV, hlt, Hmod, P5, hB⟩ := hrel
        have NK := NV.num (k := 16) (by rw [P16_16]; exact hlt)
        by_cases hge : m ≤ gk
        · have D := Lib.hid (cmpI_ge hge)
          have Hge := Lib.hid hge
          clear hge
          go_wp2_with (first
            | (go_at_call 46; refine (dCompare_num NK P5 (by decide) (by decide)).mono ?_; rintro e w6 ⟨rfl, rfl⟩; go_frame)
            | ((with_reducible change wpList _ _ _ (Oper.mk (some 29) _ _ _ _ _ :: _) _ _); refine kGeqI _ _ _ _ .i64 _ _ true rfl rfl rfl rfl D.out ?_; go_frame)
            | (go_at_call 68; refine (dSub_num NK P5 (by decide) Hge.out).mono ?_; rintro e w7 ⟨v32, rfl, N32, hB7⟩; go_frame)
            | (go_at_call 86; refine (rtrim_num N32 (by decide)).mono ?_; rintro e w8 ⟨v33, rfl, N33, rfl⟩; go_frame))
          have hge := Hge.out
          have hmp := hm.pos
          go_roundg (gk - m)
          case rel => exact ⟨N33, by omega, Lib.hid (by rw [← Hmod.out, Nat.mod_eq_sub_mod hge]), P5.below hB7, hB.trans (hB7.mono hB.size)⟩
          case measure => omega
        · have D := Lib.hid (cmpI_lt (show gk < m by omega))
          have HE := Lib.hid (show gk = n % m by rw [← Hmod.out, Nat.mod_eq_of_lt (by omega)])
          clear hge
          go_wp2_with (first
            | (go_at_call 46; refine (dCompare_num NK P5 (by decide) (by decide)).mono ?_; rintro e w6 ⟨rfl, rfl⟩; go_frame)
            | ((with_reducible change wpList _ _ _ (Oper.mk (some 29) _ _ _ _ _ :: _) _ _); refine kGeqI _ _ _ _ .i64 _ _ false rfl rfl rfl rfl D.out ?_; go_frame))
          go_ret
          exact ⟨_, rfl, HE.out ▸ NV, hB⟩
    · have D := Lib.hid (show decide ((l.length : Int) > 16) = true from decide_eq_true (by omega))
      have hsplit := dval_split l 16 (by omega)
      rw [P16_16, Hval.out] at hsplit
      obtain ⟨q1, q2⟩ := mod_round (lo := dval (l.take 16)) hm (drop_pos htr (by omega))
      rw [← Hgp.out, ← hsplit] at q1 q2
      have Hq1 := Lib.hid q1
      have Hq2 := Lib.hid q2
      have hl16 : 16 ≤ l.length := by omega
      clear q1 q2 hsplit hlen
      go_wp2_with (first
        | ((with_reducible change wpList _ _ _ (Oper.mk (some 16) _ _ _ _ _ :: _) _ _); refine kLenN _ _ _ _ _ l.length rfl rfl rfl hd hml Tryd.underlying27 ?_; go_frame)
        | ((with_reducible change wpList _ _ _ (Oper.mk (some 17) _ _ _ _ _ :: _) _ _); refine kGtrI _ _ _ _ .i64 _ _ true rfl rfl rfl rfl D.out ?_; go_frame))
      refine region_mixP [(0, true), (1, true), (2, true), (3, true), (4, true), (5, false), (6, false), (7, false)] (fun w' => Below wr.heap.size wr w') (by kernel_rfl) (by kernel_rfl) rfl ?_
      intro wd hBd hsd
      simp only [List.length_cons, List.length_nil, List.drop_succ_cons, List.drop_zero, List.map_cons, List.map_nil]
      dsimp only [List.filterMap, List.getElem?_cons_zero, List.getElem?_cons_succ]
      refine mixMove _ u0 hBd rfl rfl rfl ?_; go_frame
      refine mixSliceTo _ _ _ _ _ _ _ _ 16 hBd rfl rfl rfl rfl Tryd.underlying27 info_w64 (fun _ h => IsVals.below hd h) rfl (by rw [hml]; exact hl16) ?_; go_frame
      refine mixMove _ u0 hBd rfl rfl rfl ?_; go_frame
      refine mixSliceFrom _ _ _ _ _ _ _ _ 16 hBd rfl rfl rfl rfl Tryd.underlying27 info_w64 (fun _ h => IsVals.below hd h) rfl (by rw [hml]; exact hl16) ?_; go_frame
      refine mixMove _ v12 hBd rfl rfl rfl ?_; go_frame
      have hdd := hd.below hBd
      have NHI : Num wd (fromV u0 16) (dval (l.drop 16)) 84 := ⟨l.drop 16, dl.drop 16, by unfold Dig; rw [List.map_drop]; exact isVals_from hdd (by rw [hml]; exact hl16), rfl, by simp; omega⟩
      have NLO : Num wd (toV u0 16) (dval (l.take 16)) 16 := ⟨l.take 16, dl.take 16, by unfold Dig; rw [List.map_take]; exact isVals_to hdd (by rw [hml]; exact hl16), rfl, by simp; omega⟩
      have NG : Num wd v12 gp 17 := (P12.below hBd).num hgl
      refine mixLoud ?_
      refine kCall2 66 _ _ _ _ _ rfl rfl (by kernel_rfl) rfl rfl ?_
      refine (dMul_num NHI NG (by decide) (by decide)).mono ?_
      rintro e w6 ⟨v23, rfl, N23, hB6⟩
      have hBd6 := hBd.trans (hB6.mono hBd.size)
      refine ⟨_, rfl, mixOn ⟨hBd6, ?_⟩⟩
      go_frame
      refine mixLoud ?_
      refine kCall2 65 _ _ _ _ _ rfl rfl (by kernel_rfl) rfl rfl ?_
      refine (dAdd_num (NLO.below hB6) N23 (by decide) (by decide)).mono ?_
      rintro e w7 ⟨v24, rfl, N24, hB7⟩
      have hBd7 := hBd6.trans (hB7.mono hBd6.size)
      refine ⟨_, rfl, mixOn ⟨hBd7, ?_⟩⟩
      go_frame
      refine mixLoud ?_
      refine kCall1 86 _ _ _ rfl rfl (by kernel_rfl) rfl ?_
      refine (rtrim_num N24 (by decide)).mono ?_
      rintro e w8 ⟨v25, rfl, N25, rfl⟩
      refine ⟨_, rfl, mixOn ⟨hBd7, ?_⟩⟩
      go_frame
      refine mixEnd ?_
      refine kAssignV _ _ rfl rfl rfl ?_; go_frame
      clear N23 N24 NHI NLO NG hdd hd hml htr dl D
      go_wp2
      have q2 := Hq2.out
      go_roundg (dval (l.take 16) + dval (l.drop 16) * gp)
      case rel => exact ⟨N25, by omega, Lib.hid (by rw [Hq1.out]; exact Hmod.out), P5.below hBd7, P12.below hBd7, hB.trans (hBd7.mono hB.size)⟩
      case measure => exact q2
end Go.Proofs.YtfgffjmpjoipeaaDoor

/-
  The walks of the reference's Add, Sub, Mul, Of, Pow and Inv of layer 3, over the prime's own contract.
-/
namespace Go.Proofs.YtfgffjmpjoipeaaDoor
open Go Go.RowKit

/-- the prime's contract -/
def PrimeIs (b : Bool) (m : Nat) : Prop := ∀ w, Calls Tryd.prog 10 #[.bool b] w (NumPost w m 16)
theorem mod_lt16 {m : Nat} (hm : Modu m) (x : Nat) : x % m < P16 16 := by rw [P16_16]; exact hm.mod x

set_option maxRecDepth 100000 in
set_option maxHeartbeats 2000000 in
theorem rAdd_num {b : Bool} {m : Nat} (hm : Modu m) (hP : PrimeIs b m) {va vb : Value} {na nb : Nat} {w : World} (ha : Num w va na 16) (hb : Num w vb nb 16) :
    Calls Tryd.prog 38 #[va, vb, .bool b] w (NumTPost w ((na + nb) % m)) := by
  go_enter Tryd.func38, Tryd.ntmps38
  go_wp2_with (first
    | (go_at_call 65; refine (dAdd_num ha hb (by decide) (by decide)).mono ?_; rintro e w1 ⟨v9, rfl, N9, hB1⟩; go_frame)
    | (go_at_call 64; refine (rMod_num hm hP N9 (by decide)).mono ?_; rintro e w2 ⟨v11, rfl, N11, hB2⟩; go_frame))
  go_ret
  exact ⟨_, rfl, N11, hB1.trans (hB2.mono hB1.size)⟩
set_option maxRecDepth 100000 in
set_option maxHeartbeats 2000000 in
theorem rMul_num {b : Bool} {m : Nat} (hm : Modu m) (hP : PrimeIs b m) {va vb : Value} {na nb : Nat} {w : World} (ha : Num w va na 16) (hb : Num w vb nb 16) :
    Calls Tryd.prog 40 #[va, vb, .bool b] w (NumTPost w (na * nb % m)) := by
  go_enter Tryd.func40, Tryd.ntmps40
  go_wp2_with (first
    | (go_at_call 66; refine (dMul_num ha hb (by decide) (by decide)).mono ?_; rintro e w1 ⟨v9, rfl, N9, hB1⟩; go_frame)
    | (go_at_call 64; refine (rMod_num hm hP N9 (by decide)).mono ?_; rintro e w2 ⟨v11, rfl, N11, hB2⟩; go_frame))
  go_ret
  exact ⟨_, rfl, N11, hB1.trans (hB2.mono hB1.size)⟩
set_option maxRecDepth 100000 in
set_option maxHeartbeats 2000000 in
theorem rSub_num {b : Bool} {m : Nat} (hm : Modu m) (hP : PrimeIs b m) {va vb : Value} {na nb : Nat} {w : World} (ha : Num w va na 16) (hb : Num w vb nb 16) (hnb : nb < m) :
    Calls Tryd.prog 44 #[va, vb, .bool b] w (NumTPost w ((na + m - nb) % m)) := by
  have Hle := Lib.hid (show nb ≤ na + m by omega)
  clear hnb
  go_enter Tryd.func44, Tryd.ntmps44
  go_wp2_with (first
    | (go_at_call 10; refine (hP _).mono ?_; rintro e w1 ⟨v9, rfl, N9, hB1⟩; go_frame)
    | (go_at_call 65; refine (dAdd_num (ha.below hB1) N9 (by decide) (by decide)).mono ?_; rintro e w2 ⟨v10, rfl, N10, hB2⟩; go_frame)
    | (go_at_call 68; refine (dSub_num N10 ((hb.below hB1).below hB2) (by decide) Hle.out).mono ?_; rintro e w3 ⟨v12, rfl, N12, hB3⟩; go_frame)
    | (go_at_call 64; refine (rMod_num hm hP N12 (by decide)).mono ?_; rintro e w4 ⟨v14, rfl, N14, hB4⟩; go_frame))
  go_ret
  have h1 := hB1.trans (hB2.mono hB1.size)
  have h2 := h1.trans (hB3.mono h1.size)
  exact ⟨_, rfl, N14, h2.trans (hB4.mono h2.size)⟩
set_option maxRecDepth 100000 in
set_option maxHeartbeats 2000000 in
theorem rOf_num {b : Bool} {m : Nat} (hm : Modu m) (hP : PrimeIs b m) (a : Nat) (ma : a < M256) (w : World) :
    Calls Tryd.prog 37 #[WV a, .bool b] w (NumTPost w (a % m)) := by
  have hM0 := mem_nil w
  unfold WV
  go_enter Tryd.func37, Tryd.ntmps37
  go_wp2_with (first
    | ((with_reducible change wpList _ _ _ (Oper.mk (some 2) _ _ _ _ _ :: _) _ _); refine mBox hM0 _ _ rfl rfl rfl ?_; intro w1 hM1; clear hM0; go_frame)
    | ((with_reducible change wpList _ _ _ (Oper.mk (some 5) _ _ _ _ _ :: _) _ _); refine mLoad hM1 0 _ _ _ rfl rfl rfl rfl ?_; go_frame)
    | (go_at_call 41; refine (dOf_num a ma _).mono ?_; rintro e w2 ⟨v6, rfl, N6, hB2⟩; go_frame)
    | (go_at_call 64; refine (rMod_num hm hP N6 (by decide)).mono ?_; rintro e w3 ⟨v8, rfl, N8, hB3⟩; go_frame))
  go_ret
  have h1 := hM1.below.trans (hB2.mono hM1.below.size)
  exact ⟨_, rfl, N8, h1.trans (hB3.mono h1.size)⟩

/-! ### Pow -/
theorem pow_bit1 {a n t m x y : Nat} (hx : x = a ^ (n % 2 ^ t) % m) (hy : y = a ^ 2 ^ t % m) (hb : n / 2 ^ t % 2 = 1) : x * y % m = a ^ (n % 2 ^ (t + 1)) % m := by
  have e : n % 2 ^ (t + 1) = n % 2 ^ t + 2 ^ t := by rw [Nat.pow_succ, Nat.mod_mul, hb, Nat.mul_one]
  rw [e, Nat.pow_add, hx, hy, ← Nat.mul_mod]
theorem pow_bit0 {a n t m : Nat} (hb : n / 2 ^ t % 2 = 0) : a ^ (n % 2 ^ t) % m = a ^ (n % 2 ^ (t + 1)) % m := by
  rw [Nat.pow_succ, Nat.mod_mul, hb, Nat.mul_zero, Nat.add_zero]
theorem pow_square {a t m y : Nat} (hy : y = a ^ 2 ^ t % m) : y * y % m = a ^ 2 ^ (t + 1) % m := by
  rw [hy, ← Nat.mul_mod, ← Nat.pow_add, Nat.pow_succ, Nat.mul_two]
theorem digit_bit {l : List Nat} (dl : Digs l) (j k : Nat) (hk : k < 16) : dat l j / 2 ^ k % 2 = dval l / 2 ^ (16 * j + k) % 2 := by
  rw [dat_num dl j, P16_pow]
  have e : (65536 : Nat) = 2 ^ k * (2 * 2 ^ (15 - k)) := by rw [← Nat.pow_succ', ← Nat.pow_add, show k + (15 - k).succ = 16 by omega]
  rw [e, Nat.mod_mul_right_div_self, Nat.mod_mul_right_mod, Nat.div_div_eq_div_mul, ← Nat.pow_add]
theorem tmod_bit {x k : Nat} {b : Nat} (h : x / 2 ^ k % 2 = b) : ((x : Int) / 2 ^ k).tmod 2 = (b : Int) := by
  have e : ((x : Int) / 2 ^ k) = ((x / 2 ^ k : Nat) : Int) := by push_cast; rfl
  rw [e, ← h]
  generalize x / 2 ^ k = y
  rw [Int.tmod_eq_emod_of_nonneg (by omega)]; push_cast; rfl
theorem pow_val {a n m t x : Nat} (hm : Modu m) (h : x = a ^ (n % 2 ^ t) % m) : x < P16 16 := by rw [h]; exact mod_lt16 hm _
theorem sq_val {a m t x : Nat} (hm : Modu m) (h : x = a ^ 2 ^ t % m) : x < P16 16 := by rw [h]; exact mod_lt16 hm _

set_option maxRecDepth 100000 in
set_option maxHeartbeats 8000000 in
theorem rPow_num {b : Bool} {m : Nat} (hm : Modu m) (hP : PrimeIs b m) {va vn : Value} {na n : Nat} {w : World} (ha : Num w va na 16) (hn : Num w vn n 16) :
    Calls Tryd.prog 67 #[va, vn, .bool b] w (NumTPost w (na ^ n % m)) := by
  obtain ⟨ix, hix, hzx, hsx, hbx⟩ := w64Info
  obtain ⟨l, dl, hv, hval, hl⟩ := hn
  have Hval := Lib.hid hval
  clear hval
  have hml : (l.map VU).length = l.length := by simp
  go_enter Tryd.func67, Tryd.ntmps67
  go_wp2_with (first
    | ((with_reducible change wpList _ _ _ (Oper.mk (some 12) _ _ _ _ _ :: _) _ _); refine kBuildSlice1 _ _ _ (VU 1) rfl rfl Tryd.underlying27 ix _ hix hzx hsx rfl rfl ?_; intro w1 hR1 hz1 hB1; clear hz1; go_frame)
    | (go_at_call 64; refine (rMod_num hm hP (ha.below hB1) (by decide)).mono ?_; rintro e w2 ⟨v15, rfl, N15, hB2⟩; go_frame)
    | ((with_reducible change wpList _ _ _ (Oper.mk (some 17) _ _ _ _ _ :: _) _ _); refine kLenN _ _ _ _ _ l.length rfl rfl rfl ((hv.below hB1).below hB2) hml Tryd.underlying27 ?_; go_frame))
  have h2m : 1 < m := by have := hm.gt; have : 4 < M256 := by decide
                         omega
  have N1 : NumT w2 (.slice (some ⟨w.heap.size, 0, none⟩) 1 1) 1 := NumT.below ⟨[1], digs_one (by decide), isVals_lit (l := [VU 1]) hR1, rfl, .inr (by decide)⟩ hB2
  have hv2 := (hv.below hB1).below hB2
  have hB02 : Below w.heap.size w w2 := hB1.trans (hB2.mono hB1.size)
  clear hR1 hv ha hB1 hB2
  go_loopw [18, 7, 8] (fun i o s wr => ∃ (j x y : Nat), j ≤ l.length ∧ i = .int .i64 (j : Int) ∧ NumT wr o x ∧ NumT wr s y ∧ Hid (x = na ^ (n % 2 ^ (16 * j)) % m) ∧ Hid (y = na ^ 2 ^ (16 * j) % m) ∧ Dig wr vn l ∧ Below w.heap.size w wr) (fun i _ _ _ => 17 - (intOf i).toNat)
  case atStart => exact ⟨0, 1, na % m, by omega, rfl, N1, N15, Lib.hid (by simp [Nat.mod_one, Nat.mod_eq_of_lt h2m]), Lib.hid (by simp), hv2, hB02⟩
  case round =>
    obtain ⟨j, x, y, hj, rfl, Nx, Ny, Hx, Hy, hvn, hB⟩ := hrel
    clear N1 N15 hv2 hB02
    by_cases hlt : j < l.length
    · have hd : decide ((j : Int) < (l.length : Int)) = true := decide_eq_true (by omega)
      go_wp2_with (first
        | ((with_reducible change wpList _ _ _ (Oper.mk (some 20) _ _ _ _ _ :: _) _ _); refine kIndexAddrV _ _ _ _ _ _ _ _ j _ rfl rfl rfl hvn rfl Tryd.underlying27 info_w64 rfl (dig_at hlt) ?_; intro ba hba; unfold VU at hba; go_frame)
        | ((with_reducible change wpList _ _ _ (Oper.mk (some 21) _ _ _ _ _ :: _) _ _); refine kLoadCell _ _ _ _ _ rfl rfl rfl hba Tryd.underlying22 rfl ?_; go_frame))
      clear hba
      obtain ⟨wo, hwo⟩ : ∃ wo : World, wo = wr := ⟨_, rfl⟩
      subst hwo
      go_loopw [11, 7, 8] (fun kk o s wq => ∃ (k x y : Nat), k ≤ 16 ∧ kk = .int .i64 (k : Int) ∧ NumT wq o x ∧ NumT wq s y ∧ Hid (x = na ^ (n % 2 ^ (16 * j + k)) % m) ∧ Hid (y = na ^ 2 ^ (16 * j + k) % m) ∧ Dig wq vn l ∧ Below w.heap.size w wq) (fun kk _ _ _ => 17 - (intOf kk).toNat)
      case atStart => exact ⟨0, x, y, by omega, rfl, Nx, Ny, Hx, Hy, hvn, hB⟩
      case round =>
        clear Nx Ny Hx Hy hvn hB
        obtain ⟨k, x, y, hk, rfl, Nx, Ny, Hx, Hy, hvn, hB⟩ := hrel
        by_cases hk16 : k < 16
        · have hd2 : decide ((k : Int) < 16) = true := decide_eq_true (by omega)
          have hdb := digit_bit dl j k hk16
          rw [Hval.out] at hdb
          have Hs := Lib.hid (pow_square Hy.out)
          by_cases hbit : n / 2 ^ (16 * j + k) % 2 = 1
          · have hb : ((dat l j : Int) / 2 ^ k).tmod 2 = 1 := tmod_bit (by rw [hdb, hbit])
            have H1 := Lib.hid (pow_bit1 Hx.out Hy.out hbit)
            clear hbit hdb
            go_wp2_with (first
              | (go_at_call 40; (with_reducible change Calls _ _ #[u7, u8, Value.bool b] _ _); refine (rMul_num hm hP (Nx.num (pow_val hm Hx.out)) (Ny.num (sq_val hm Hy.out))).mono ?_; rintro e w5 ⟨v35, rfl, N35, hB5⟩; go_frame)
              | (go_at_call 40; (with_reducible change Calls _ _ #[u8, u8, Value.bool b] _ _); refine (rMul_num hm hP ((Ny.num (sq_val hm Hy.out)).below hB5) ((Ny.num (sq_val hm Hy.out)).below hB5)).mono ?_; rintro e w6 ⟨v39, rfl, N39, hB6⟩; go_frame))
            have hB56 := hB5.trans (hB6.mono hB5.size)
            go_roundw
            case rel => exact ⟨k + 1, _, _, by omega, by go_num, N35.below hB6, N39, H1, Hs, hvn.below hB56, hB.trans (hB56.mono hB.size)⟩
            case measure => simp [intOf]; omega
          · have hbit0 : n / 2 ^ (16 * j + k) % 2 = 0 := by omega
            have hb : ((dat l j : Int) / 2 ^ k).tmod 2 = 0 := tmod_bit (by rw [hdb, hbit0])
            have H1 := Lib.hid (Hx.out.trans (pow_bit0 hbit0))
            clear hbit hbit0 hdb
            go_wp2_with (first
              | (go_at_call 40; (with_reducible change Calls _ _ #[u8, u8, Value.bool b] _ _); refine (rMul_num hm hP (Ny.num (sq_val hm Hy.out)) (Ny.num (sq_val hm Hy.out))).mono ?_; rintro e w6 ⟨v39, rfl, N39, hB6⟩; go_frame))
            go_roundw
            case rel => exact ⟨k + 1, _, _, by omega, by go_num, Nx.below hB6, N39, H1, Hs, hvn.below hB6, hB.trans (hB6.mono hB.size)⟩
            case measure => simp [intOf]; omega
        · obtain rfl : k = 16 := by omega
          rw [show 16 * j + 16 = 16 * (j + 1) by omega] at Hx Hy
          go_wp2
          go_roundw
          case rel => exact ⟨j + 1, _, _, by omega, by go_num, Nx, Ny, Hx, Hy, hvn, hB⟩
          case measure => simp [intOf]; omega
    · obtain rfl : j = l.length := by omega
      have hd : decide ((l.length : Int) < (l.length : Int)) = false := decide_eq_false (by omega)
      have HE := Lib.hid (show x = na ^ n % m by
        have e : n % 2 ^ (16 * l.length) = n := Nat.mod_eq_of_lt (by rw [← Hval.out, ← P16_pow]; exact dval_lt dl)
        rw [Hx.out, e])
      go_wp2
      go_ret
      exact ⟨_, rfl, HE.out ▸ Nx, hB⟩
set_option maxRecDepth 100000 in
set_option maxHeartbeats 2000000 in
theorem rInv_num {b : Bool} {m : Nat} (hm : Modu m) (hP : PrimeIs b m) {va : Value} {na : Nat} {w : World} (ha : Num w va na 16) :
    Calls Tryd.prog 42 #[va, .bool b] w (NumTPost w (na ^ (m - 2) % m)) := by
  obtain ⟨ix, hix, hzx, hsx, hbx⟩ := w64Info
  have H2 := Lib.hid (show 2 ≤ m by have := hm.gt; have : 4 < M256 := by decide
                                    omega)
  go_enter Tryd.func42, Tryd.ntmps42
  go_wp2_with (first
    | (go_at_call 10; refine (hP _).mono ?_; rintro e w1 ⟨v7, rfl, N7, hB1⟩; go_frame)
    | ((with_reducible change wpList _ _ _ (Oper.mk (some 8) _ _ _ _ _ :: _) _ _); refine kBuildSlice1 _ _ _ (VU 2) rfl rfl Tryd.underlying27 ix _ hix hzx hsx rfl rfl ?_; intro w2 hR2 hz2 hB2; clear hz2; have N8 : Num w2 (.slice (some ⟨w1.heap.size, 0, none⟩) 1 1) 2 1 := ⟨[2], digs_one (by decide), isVals_lit (l := [VU 2]) hR2, rfl, by decide⟩; go_frame)
    | (go_at_call 68; refine (dSub_num (N7.below hB2) N8 (by decide) H2.out).mono ?_; rintro e w3 ⟨v9, rfl, N9, hB3⟩; go_frame)
    | (go_at_call 67; refine (rPow_num hm hP (((ha.below hB1).below hB2).below hB3) N9).mono ?_; rintro e w4 ⟨v11, rfl, N11, hB4⟩; go_frame))
  go_ret
  have h1 := hB1.trans (hB2.mono hB1.size)
  have h2 := h1.trans (hB3.mono h1.size)
  exact ⟨_, rfl, N11, h2.trans (hB4.mono h2.size)⟩
end Go.Proofs.YtfgffjmpjoipeaaDoor

/-
  The walks of the reference's hex (a text of digits to sixteen as a number) and Prime.
-/
namespace Go.Proofs.YtfgffjmpjoipeaaDoor
open Go Go.RowKit

/-! ### plain -/
/-- a letter's number: a digit to sixteen -/
def hxv (c : UInt8) : Nat := if 65 ≤ c.toNat then c.toNat - 55 else c.toNat - 48
def isHex (c : UInt8) : Bool := (decide (48 ≤ c.toNat) && decide (c.toNat < 58)) || (decide (65 ≤ c.toNat) && decide (c.toNat < 71))
theorem hxv_lt {c : UInt8} (h : isHex c = true) : hxv c < 16 := by
  unfold hxv; simp [isHex] at h; split <;> omega
/-- the number of these letters -/
def hxN (l : List UInt8) : Nat := l.foldl (fun n c => 16 * n + hxv c) 0
theorem hxN_snoc (l : List UInt8) (c : UInt8) : hxN (l ++ [c]) = 16 * hxN l + hxv c := by simp [hxN, List.foldl_append]
theorem hxN_take (f : List UInt8) (k : Nat) (hk : k < f.length) : hxN (f.take (k + 1)) = 16 * hxN (f.take k) + hxv (at8 f k) := by
  rw [List.take_succ_eq_append_getElem hk, hxN_snoc]; simp [at8, hk]
theorem hxN_lt (f : List UInt8) (h : ∀ c ∈ f, isHex c = true) : ∀ k, k ≤ f.length → hxN (f.take k) < 16 ^ k
  | 0, _ => by simp [hxN]
  | k + 1, hk => by
    have ih := hxN_lt f h k (by omega)
    have hc : hxv (at8 f k) < 16 := hxv_lt (h _ (by simp [at8, show k < f.length by omega]))
    rw [hxN_take f k (by omega), Nat.pow_succ]; omega
/-- the digit of the p-th four letters -/
def hxD (s : List UInt8) (p : Nat) : Nat := hxN ((s.drop (4 * p)).take 4)
theorem hxD_lt (s : List UInt8) (h : ∀ c ∈ s, isHex c = true) (p : Nat) (hp : 4 * p + 4 ≤ s.length) : hxD s p < 65536 := by
  have := hxN_lt ((s.drop (4 * p)).take 4) (fun c hc => h c (List.mem_of_mem_drop (List.mem_of_mem_take hc))) 4 (by simp; omega)
  rwa [List.take_of_length_le (l := List.take 4 (List.drop (4 * p) s)) (by simp; omega)] at this
/-- the digits, the last four letters first -/
def hxL (s : List UInt8) (Q r : Nat) : List Nat := (List.range r).map fun t => hxD s (Q - 1 - t)
theorem hxL_len (s : List UInt8) (Q r : Nat) : (hxL s Q r).length = r := by simp [hxL]
theorem hxL_succ (s : List UInt8) (Q r : Nat) : hxL s Q (r + 1) = hxL s Q r ++ [hxD s (Q - 1 - r)] := by simp [hxL, List.range_succ]

theorem info_byteF : (Tryd.prog.info? 5).map (·.size) = some 1 := by kernel_rfl
theorem kSliceStr {P : Program} {ops : Array Oper} {Q : Exit → Act → World → Prop} {rest : List Oper} {o : Oper} {a : Act} {w : World} (T : TypeId) (x y z : Operand) (k k' : IntKind) (l : List UInt8) (i j : Int) (p q : Nat) (ho : o.op = .slice T x (some y) (some z) none) (hg : Region.wanted o (yielded ops a.tmps) = true) (hx : a.eval x = textV l) (hy : a.eval y = .int k i) (hz : a.eval z = .int k' j) (hu : P.underlying T = some .string) (hi : i = (p : Int)) (hj : j = (q : Int)) (hpq : p ≤ q) (hq : q ≤ l.length)
    (h : wpList P ops Q rest (a.put o.dst (textV ((l.drop p).take (q - p)))) w) : wpList P ops Q (o :: rest) a w := by
  subst hi; subst hj
  refine kPure _ hg ?_ h
  unfold execOp
  have hs : (⟨l.toArray⟩ : ByteArray).size = l.length := by simp [ByteArray.size]
  have e := run_slice_string (P := P) w T ⟨l.toArray⟩ k k' (p : Int) (q : Int) hu (by omega) (by omega) (by rw [hs]; omega)
  simp only [ho, hx, hy, hz, textV, Option.map_some, Option.map_none, Sem.run_bind, run_sliceAt_string (P := P) w T _ _ _ _ hu, e, Result.andThen_ok, Sem.run_pure]
  rw [Int.toNat_natCast, Int.toNat_natCast, ByteArray.extract_mk]

set_option maxRecDepth 100000 in
set_option maxHeartbeats 8000000 in
theorem rhex_any (s : List UInt8) (Q : Nat) (hs : s.length = 4 * Q) (hQ : Q ≤ 16) (hh : ∀ c ∈ s, isHex c = true) (w : World) :
    Calls Tryd.prog 25 #[textV s] w (DigPost w (hxL s Q Q)) := by
  obtain ⟨ix, hix, hzx, hsx, hbx⟩ := w64Info
  go_enter Tryd.func25, Tryd.ntmps25
  go_wp2_with (first
    | ((with_reducible change wpList _ _ _ (Oper.mk (some 9) _ _ _ _ _ :: _) _ _); refine kBuildSlice0 _ _ rfl rfl Tryd.underlying27 ix hix ?_; intro w2 hR2 hz2 hB2; clear hz2; have hO2 := own_empty (base := w.heap.size) (Nat.le_refl _) hR2; go_frame)
    | ((with_reducible change wpList _ _ _ (Oper.mk (some 11) _ _ _ _ _ :: _) _ _); refine kLenStr _ _ s rfl rfl rfl Tryd.underlying9 ?_; go_frame))
  clear hR2
  go_loopw [4, 3] (fun i v wr => ∃ q : Nat, q ≤ Q ∧ i = .int .i64 ((4 * q : Nat) : Int) ∧ OwnD wr w.heap.size v (hxL s Q (Q - q)) ∧ Below w.heap.size w wr) (fun i _ _ => (intOf i).toNat)
  case atStart => exact ⟨Q, by omega, by rw [← hs], by rw [Nat.sub_self]; exact hO2, hB2⟩
  case round =>
    obtain ⟨q, hq, rfl, hO, hB⟩ := hrel
    clear hO2 hB2
    have hszq := hB.size
    by_cases h0 : q = 0
    · subst h0
      go_wp2
      go_ret
      exact ⟨_, rfl, hO.dig, hB⟩
    · obtain ⟨p, rfl⟩ : ∃ p, q = p + 1 := ⟨q - 1, by omega⟩
      obtain ⟨f, Hf⟩ : ∃ f, Hid (f = (s.drop (4 * p)).take 4) := ⟨_, Lib.hid rfl⟩
      have hfl : f.length = 4 := by rw [Hf.out]; simp; omega
      have hfm : (f.map VB).length = 4 := by simpa using hfl
      have hfh : ∀ c ∈ f, isHex c = true := fun c hc => hh c (by rw [Hf.out] at hc; exact List.mem_of_mem_drop (List.mem_of_mem_take hc))
      go_wp2_with (first
        | ((with_reducible change wpList _ _ _ (Oper.mk (some 13) _ _ _ _ _ :: _) _ _); refine kGtrI _ _ _ _ .i64 _ _ true rfl rfl rfl rfl (decide_eq_true (by omega)) ?_; go_frame)
        | ((with_reducible change wpList _ _ _ (Oper.mk (some 20) _ _ _ _ _ :: _) _ _); refine kSliceStr _ _ _ _ _ _ s _ _ (4 * p) (4 * p + 4) rfl rfl rfl rfl rfl Tryd.underlying9 (by omega) (by omega) (by omega) (by omega) ?_; rw [show 4 * p + 4 - 4 * p = 4 by omega, ← Hf.out]; go_frame)
        | ((with_reducible change wpList _ _ _ (Oper.mk (some 21) _ _ _ _ _ :: _) _ _); refine kToBytes _ _ _ _ f rfl rfl rfl Tryd.underlying9 Tryd.underlying42 Tryd.underlying5 ?_; intro vb w5 hB5 hvb; go_frame)
        | ((with_reducible change wpList _ _ _ (Oper.mk (some 22) _ _ _ _ _ :: _) _ _); refine kLenN _ _ _ _ _ 4 rfl rfl rfl hvb hfm Tryd.underlying42 ?_; go_frame))
      obtain ⟨wo, hwo⟩ : ∃ wo : World, wo = wr := ⟨_, rfl⟩
      subst hwo
      go_loopw [23, 5] (fun jj nn wq => ∃ k : Nat, k ≤ 4 ∧ jj = .int .i64 (k : Int) ∧ nn = .int .u64 ((hxN (f.take k) : Nat) : Int) ∧ wq = w5) (fun jj _ _ => 4 - (intOf jj).toNat)
      case atStart => exact ⟨0, by omega, rfl, rfl, rfl⟩
      case round =>
        obtain ⟨k, hk, rfl, rfl, rfl⟩ := hrel
        by_cases hlt : k < 4
        · have hd : decide ((k : Int) < 4) = true := decide_eq_true (by omega)
          have hc := hfh (at8 f k) (by simp [at8, show k < f.length by omega])
          have Hn := Lib.hid (hxN_take f k (by omega))
          have hn : hxN (f.take k) < 65536 := Nat.lt_of_lt_of_le (hxN_lt f hfh k (by omega)) (by have : (16 : Nat) ^ k ≤ 16 ^ 4 := Nat.pow_le_pow_right (by decide) (by omega)
                                                                                                 exact this)
          generalize hxN (f.take k) = n at *
          have hat : (f.map VB)[k]? = some (VB (at8 f k)) := by simp [at8, show k < f.length by omega]
          have hvc : VB (at8 f k) = .int .u8 ((at8 f k).toNat : Int) := rfl
          rw [hvc] at hat
          have Hv : hxv (at8 f k) = if 65 ≤ (at8 f k).toNat then (at8 f k).toNat - 55 else (at8 f k).toNat - 48 := rfl
          replace Hv := Lib.hid Hv
          simp [isHex] at hc
          generalize (at8 f k).toNat = z at *
          by_cases h65 : 65 ≤ z
          · have hd2 : decide ((z : Int) ≥ 65) = true := decide_eq_true (by omega)
            have HE := Lib.hid (show 16 * n + hxv (at8 f k) = 16 * n + (z - 65 + 10) by rw [Hv.out, if_pos h65]; omega)
            go_wp2_with (first
              | ((with_reducible change wpList _ _ _ (Oper.mk (some 25) _ _ _ _ _ :: _) _ _); refine kIndexAddrV _ _ _ _ _ _ _ _ k _ rfl rfl rfl hvb rfl Tryd.underlying42 info_byteF rfl hat ?_; intro ba hba; go_frame)
              | ((with_reducible change wpList _ _ _ (Oper.mk (some 26) _ _ _ _ _ :: _) _ _); refine kLoadCell _ _ _ _ _ rfl rfl rfl hba Tryd.underlying5 rfl ?_; go_frame))
            go_roundw
            case rel => exact ⟨k + 1, by omega, by go_num, by rw [Hn.out, HE.out]; congr 1; omega, by first | rfl | trivial⟩
            case measure => simp [intOf]; omega
          · have hd2 : decide ((z : Int) ≥ 65) = false := decide_eq_false (by omega)
            have HE := Lib.hid (show 16 * n + hxv (at8 f k) = 16 * n + (z - 48) by rw [Hv.out, if_neg h65])
            go_wp2_with (first
              | ((with_reducible change wpList _ _ _ (Oper.mk (some 25) _ _ _ _ _ :: _) _ _); refine kIndexAddrV _ _ _ _ _ _ _ _ k _ rfl rfl rfl hvb rfl Tryd.underlying42 info_byteF rfl hat ?_; intro ba hba; go_frame)
              | ((with_reducible change wpList _ _ _ (Oper.mk (some 26) _ _ _ _ _ :: _) _ _); refine kLoadCell _ _ _ _ _ rfl rfl rfl hba Tryd.underlying5 rfl ?_; go_frame))
            go_roundw
            case rel => exact ⟨k + 1, by omega, by go_num, by rw [Hn.out, HE.out]; congr 1; omega, by first | rfl | trivial⟩
            case measure => simp [intOf]; omega
        · obtain rfl : k = 4 := by omega
          have HD := Lib.hid (show hxN (f.take 4) = hxD s p by rw [List.take_of_length_le (by omega), Hf.out]; rfl)
          rw [HD.out]
          have hlq : ((hxL s Q (Q - (p + 1))).map VU).length = Q - (p + 1) := by rw [List.length_map, hxL_len]
          have hOq := ownsRow_below hO hB5
          have hs5 := hB5.size
          go_wp2_with (first
            | ((with_reducible change wpList _ _ _ (Oper.mk (some 43) _ _ _ _ _ :: _) _ _); refine kBuildSlice1 _ _ _ (VU (hxD s p)) rfl rfl Tryd.underlying27 ix _ hix hzx hsx rfl rfl ?_; intro w6 hR6 hz6 hB6; clear hz6; go_frame)
            | ((with_reducible change wpList _ _ _ (Oper.mk (some 44) _ _ _ _ _ :: _) _ _); refine kAppend _ _ _ _ rfl rfl w.heap.size ix _ Tryd.underlying27 hix hzx hsx rfl _ _ _ [VU (hxD s p)] rfl (ownsRow_below hOq hB6) rfl (isVals_lit hR6) (vu_one [_]) (by unfold maxLen; rw [hlq]; simp; omega) (by rw [hbx, hlq]; simp; omega) (by have := hB6.size; omega) ?_; intro v7 w7 hO7 hG7; have hB7 := ((hB.trans (hB5.mono hszq)).trans (hB6.mono (by omega))).trans (below_grown (ownsRow_below hOq hB6) hG7 (by have := hB6.size; omega)); clear hR6 hB6 hG7; go_frame))
          go_roundw
          case rel =>
            refine ⟨p, by omega, by congr 1; omega, ?_, hB7⟩
            rw [show Q - p = Q - (p + 1) + 1 by omega, hxL_succ, show Q - 1 - (Q - (p + 1)) = p by omega]
            unfold OwnD
            rw [List.map_append (l₂ := [_])]
            exact hO7
          case measure => simp [intOf]; omega
def pText : List UInt8 := [70, 70, 70, 70, 70, 70, 70, 70, 70, 70, 70, 70, 70, 70, 70, 70, 70, 70, 70, 70, 70, 70, 70, 70, 70, 70, 70, 70, 70, 70, 70, 70, 70, 70, 70, 70, 70, 70, 70, 70, 70, 70, 70, 70, 70, 70, 70, 70, 70, 70, 70, 70, 70, 70, 70, 69, 70, 70, 70, 70, 70, 67, 50, 70]
def nText : List UInt8 := [70, 70, 70, 70, 70, 70, 70, 70, 70, 70, 70, 70, 70, 70, 70, 70, 70, 70, 70, 70, 70, 70, 70, 70, 70, 70, 70, 70, 70, 70, 70, 69, 66, 65, 65, 69, 68, 67, 69, 54, 65, 70, 52, 56, 65, 48, 51, 66, 66, 70, 68, 50, 53, 69, 56, 67, 68, 48, 51, 54, 52, 49, 52, 49]
theorem pText_val : dval (hxL pText 16 16) = PP := by decide +kernel
theorem nText_val : dval (hxL nText 16 16) = NN := by decide +kernel
theorem hxL_digs (s : List UInt8) (Q r : Nat) (hs : s.length = 4 * Q) (hr : r ≤ Q) (h : ∀ c ∈ s, isHex c = true) : Digs (hxL s Q r) := fun x hx => by
  simp [hxL] at hx; obtain ⟨t, ht, rfl⟩ := hx; exact hxD_lt s h _ (by omega)
theorem rhex_num (s : List UInt8) (m : Nat) (hs : s.length = 64) (hh : ∀ c ∈ s, isHex c = true) (hv : dval (hxL s 16 16) = m) (w : World) :
    Calls Tryd.prog 25 #[textV s] w (NumPost w m 16) :=
  (rhex_any s 16 hs (by decide) hh w).mono fun _ _ ⟨v, e1, e2, e3⟩ => ⟨v, e1, ⟨_, hxL_digs s 16 16 hs (Nat.le_refl _) hh, e2, hv, by rw [hxL_len]; exact Nat.le_refl _⟩, e3⟩
set_option maxRecDepth 100000 in
set_option maxHeartbeats 2000000 in
theorem rPrime_true : PrimeIs true PP := fun w => by
  go_enter Tryd.func10, Tryd.ntmps10
  go_wp2_with (first
    | (go_at_call 25; refine (rhex_num pText PP (by decide) (by decide) pText_val _).mono ?_; rintro e w1 ⟨v1, rfl, N1, hB1⟩; go_frame))
  go_ret
  exact ⟨_, rfl, N1, hB1⟩
set_option maxRecDepth 100000 in
set_option maxHeartbeats 2000000 in
theorem rPrime_false : PrimeIs false NN := fun w => by
  go_enter Tryd.func10, Tryd.ntmps10
  go_wp2_with (first
    | (go_at_call 25; refine (rhex_num nText NN (by decide) (by decide) nText_val _).mono ?_; rintro e w1 ⟨v1, rfl, N1, hB1⟩; go_frame))
  go_ret
  exact ⟨_, rfl, N1, hB1⟩
end Go.Proofs.YtfgffjmpjoipeaaDoor
