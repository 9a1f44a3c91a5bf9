/-
  The reference of layer 3: numbers as digits by their value; the walks of its trim, Mod, Add, Sub, Mul and Of.
-/
import Derived.Test.YtajpdmcbdekpbaaDoorWRef4
import Derived.Test.YtajpdmcbdekpbaaDoorFBase
import Derived.Deep.LoopGhost
namespace Go.Proofs.YtajpdmcbdekpbaaDoor
open Go Go.RowKit

/-! ### plain -/
/-- no nought at the end -/
def Tr (l : List Nat) : Prop := l = [] ∨ dat l (l.length - 1) ≠ 0
theorem tr_len {l : List Nat} (h : Tr l) {k : Nat} (hv : dval l < P16 k) : l.length ≤ k := by
  rcases h with rfl | h
  · simp
  · rcases Nat.lt_or_ge k l.length with hk | hk
    · have h1 := dval_take_succ l (l.length - 1)
      rw [show l.length - 1 + 1 = l.length by omega, List.take_length] at h1
      have h2 : P16 k ≤ P16 (l.length - 1) := Nat.pow_le_pow_right (by decide) (by omega)
      have h3 : P16 (l.length - 1) * 1 ≤ P16 (l.length - 1) * dat l (l.length - 1) := Nat.mul_le_mul_left _ (by omega)
      omega
    · exact hk
theorem tr_zero {l : List Nat} (h : Tr l) (hv : dval l = 0) : l = [] := by
  have := tr_len h (k := 0) (by rw [hv]; exact P16_pos 0)
  exact List.length_eq_zero_iff.1 (by omega)
theorem P16_16 : P16 16 = M256 := by decide

/-- digits of the number n, k at most -/
def Num (w : World) (v : Value) (n k : Nat) : Prop := ∃ l, Digs l ∧ Dig w v l ∧ dval l = n ∧ l.length ≤ k
/-- digits of the number n, no nought at the end -/
def NumT (w : World) (v : Value) (n : Nat) : Prop := ∃ l, Digs l ∧ Dig w v l ∧ dval l = n ∧ Tr l
theorem Num.below {w w' : World} {v : Value} {n k : Nat} (h : Num w v n k) (hb : Below w.heap.size w w') : Num w' v n k := by
  obtain ⟨l, h1, h2, h3, h4⟩ := h; exact ⟨l, h1, h2.below hb, h3, h4⟩
theorem NumT.below {w w' : World} {v : Value} {n : Nat} (h : NumT w v n) (hb : Below w.heap.size w w') : NumT w' v n := by
  obtain ⟨l, h1, h2, h3, h4⟩ := h; exact ⟨l, h1, h2.below hb, h3, h4⟩
theorem NumT.num {w : World} {v : Value} {n k : Nat} (h : NumT w v n) (hn : n < P16 k) : Num w v n k := by
  obtain ⟨l, h1, h2, h3, h4⟩ := h; exact ⟨l, h1, h2, h3, tr_len h4 (by rw [h3]; exact hn)⟩
theorem Num.lt {w : World} {v : Value} {n k : Nat} (h : Num w v n k) : n < P16 k := by
  obtain ⟨l, h1, -, h3, h4⟩ := h
  have := dval_lt h1
  rw [← h3]; exact Nat.lt_of_lt_of_le this (Nat.pow_le_pow_right (by decide) h4)
def NumPost (w : World) (n k : Nat) (e : Ending) (w' : World) : Prop := ∃ v, e = .returned v ∧ Num w' v n k ∧ Below w.heap.size w w'
def NumTPost (w : World) (n : Nat) (e : Ending) (w' : World) : Prop := ∃ v, e = .returned v ∧ NumT w' v n ∧ Below w.heap.size w w'

theorem dOf_num (a : Nat) (ma : a < M256) (w : World) : Calls Tryd.prog 29 #[WV a] w (NumPost w a 16) :=
  (dOf_any a w).mono fun _ _ ⟨v, h1, h2, h3⟩ => ⟨v, h1, ⟨_, digsOf_digs a 16, h2, digsOf_16 a ma, by rw [digsOf_len]; exact Nat.le_refl _⟩, h3⟩
theorem dAdd_num {va vb : Value} {na nb ka kb : Nat} {w : World} (ha : Num w va na ka) (hb : Num w vb nb kb) (hka : ka ≤ 1000) (hkb : kb ≤ 1000) : Calls Tryd.prog 40 #[va, vb] w (NumPost w (na + nb) (max ka kb + 1)) := by
  obtain ⟨a, h1, h2, h3, h4⟩ := ha
  obtain ⟨b, k1, k2, k3, k4⟩ := hb
  subst h3; subst k3
  exact (dAdd_any a b va vb w h1 k1 h2 k2 (by omega) (by omega)).mono fun _ _ ⟨v, l, e1, e2, e3, e4, e5, e6⟩ => ⟨v, e1, ⟨l, e3, e2, e4, by omega⟩, e6⟩
theorem dSub_num {va vb : Value} {na nb ka kb : Nat} {w : World} (ha : Num w va na ka) (hb : Num w vb nb kb) (hka : ka ≤ 1000) (hle : nb ≤ na) : Calls Tryd.prog 41 #[va, vb] w (NumPost w (na - nb) ka) := by
  obtain ⟨a, h1, h2, h3, h4⟩ := ha
  obtain ⟨b, k1, k2, k3, -⟩ := hb
  subst h3; subst k3
  exact (dSub_any a b va vb w h1 k1 h2 k2 (by omega) hle).mono fun _ _ ⟨v, l, e1, e2, e3, e4, e5, e6⟩ => ⟨v, e1, ⟨l, e3, e2, e4, by omega⟩, e6⟩
theorem dMul_num {va vb : Value} {na nb ka kb : Nat} {w : World} (ha : Num w va na ka) (hb : Num w vb nb kb) (hka : ka ≤ 1000) (hkb : kb ≤ 1000) : Calls Tryd.prog 43 #[va, vb] w (NumPost w (na * nb) (ka + kb)) := by
  obtain ⟨a, h1, h2, h3, h4⟩ := ha
  obtain ⟨b, k1, k2, k3, k4⟩ := hb
  subst h3; subst k3
  refine (dMul_any a b va vb w h1 k1 h2 k2 (by omega) (by omega)).mono fun _ _ ⟨v, e1, e2, e3⟩ => ⟨v, e1, ⟨_, digsOf_digs _ _, e2, ?_, by rw [digsOf_len]; omega⟩, e3⟩
  rw [digsOf_val, Nat.mod_eq_of_lt]
  rw [P16_add]
  exact Nat.mul_lt_mul'' (dval_lt h1) (dval_lt k1)
theorem dPower_num (n : Nat) (hn : n ≤ 1000) (w : World) : Calls Tryd.prog 47 #[.int .i64 (n : Int)] w (NumPost w (2 ^ n) (n / 16 + 1)) :=
  (dPower_any n hn w).mono fun _ _ ⟨v, e1, e2, e3⟩ => ⟨v, e1, ⟨_, powL_digs n, e2, powL_val n, by rw [powL_len]; exact Nat.le_refl _⟩, e3⟩
theorem dCompare_num {va vb : Value} {na nb ka kb : Nat} {w : World} (ha : Num w va na ka) (hb : Num w vb nb kb) (hka : ka ≤ 1000) (hkb : kb ≤ 1000) : Calls Tryd.prog 28 #[va, vb] w fun e w' => e = .returned (.int .i64 (cmpI na nb)) ∧ w = w' := by
  obtain ⟨a, h1, h2, h3, h4⟩ := ha
  obtain ⟨b, k1, k2, k3, k4⟩ := hb
  subst h3; subst k3
  exact dCompare_any a b va vb w h1 k1 h2 k2 (by omega) (by omega)
theorem dWide_num {v : Value} {n k : Nat} {w : World} (h : Num w v n k) : Calls Tryd.prog 17 #[v] w fun e w' => e = .returned (WV n) ∧ Below w.heap.size w w' := by
  obtain ⟨l, h1, h2, h3, h4⟩ := h
  subst h3
  exact dWide_any l v w h1 h2
theorem dWide_numT {v : Value} {n : Nat} {w : World} (h : NumT w v n) : Calls Tryd.prog 17 #[v] w fun e w' => e = .returned (WV n) ∧ Below w.heap.size w w' := by
  obtain ⟨l, h1, h2, h3, h4⟩ := h
  subst h3
  exact dWide_any l v w h1 h2

/-! ### trim -/
theorem kEqlIx {P : Program} {ops : Array Oper} {Q : Exit → Act → World → Prop} {rest : List Oper} {o : Oper} {a : Act} {w : World} (T T2 : TypeId) (x y : Operand) (k : IntKind) (m n : Int) (b : Bool) (ho : o.op = .binOp .eql T x y T2) (hg : Region.wanted o (yielded ops a.tmps) = true) (hx : a.eval x = .int k m) (hy : a.eval y = .int k n) (hb : (m == n) = b) (h : wpList P ops Q rest (a.put o.dst (.bool b)) w) : wpList P ops Q (o :: rest) a w := by
  subst hb
  refine kPure _ hg ?_ h
  unfold execOp
  simp only [ho, hx, hy]
  simp [eqGuard, binOp, Op.intCmp]
set_option maxRecDepth 100000 in
set_option maxHeartbeats 4000000 in
theorem rtrim_num {v : Value} {n k : Nat} {w : World} (h : Num w v n k) (hk : k ≤ 1000) :
    Calls Tryd.prog 46 #[v] w fun e w' => ∃ v', e = .returned v' ∧ NumT w' v' n ∧ w = w' := by
  obtain ⟨l, dl, hv, hn, hl⟩ := h
  have hl0 : l.length ≤ 1000 := by omega
  clear hl
  go_enter Tryd.func46, Tryd.ntmps46
  go_wp2_with fail
  go_loopg [0] l.length (fun q d wr => ∃ l', q = l'.length ∧ Digs l' ∧ Dig w d l' ∧ Hid (dval l' = n) ∧ l'.length ≤ 1000 ∧ wr = w)
  case atStart => exact ⟨l, rfl, dl, hv, Lib.hid hn, hl0, rfl⟩
  case round =>
    obtain ⟨l', hq, dl', hv', Hn', hl', rfl⟩ := hrel
    by_cases h0 : l'.length = 0
    · have hml : (l'.map VU).length = 0 := by simpa using h0
      have T := Lib.hid (show Tr l' from .inl (List.length_eq_zero_iff.1 h0))
      clear h0 hq hl'
      go_wp2_with (first
        | ((with_reducible change wpList _ _ _ (Oper.mk (some 4) _ _ _ _ _ :: _) _ _); refine kLenN _ _ _ _ _ 0 rfl rfl rfl hv' hml Tryd.underlying35 ?_; go_frame))
      go_ret
      exact ⟨_, rfl, ⟨l', dl', hv', Hn'.out, T.out⟩, rfl⟩
    · obtain ⟨t, ht⟩ : ∃ t, l'.length = t + 1 := ⟨l'.length - 1, by omega⟩
      have hml : (l'.map VU).length = t + 1 := by simpa using ht
      have ht2 : t < 1000 := by omega
      have Ht := Lib.hid ht
      have Hq := Lib.hid hq
      clear h0 hq hl' ht
      by_cases hz : dat l' t = 0
      · have Hz := Lib.hid hz
        clear hz
        go_wp2_with (first
          | ((with_reducible change wpList _ _ _ (Oper.mk (some 4) _ _ _ _ _ :: _) _ _); refine kLenN _ _ _ _ _ (t + 1) rfl rfl rfl hv' hml Tryd.underlying35 ?_; go_frame)
          | ((with_reducible change wpList _ _ _ (Oper.mk (some 9) _ _ _ _ _ :: _) _ _); refine kLenN _ _ _ _ _ (t + 1) rfl rfl rfl hv' hml Tryd.underlying35 ?_; go_frame)
          | ((with_reducible change wpList _ _ _ (Oper.mk (some 11) _ _ _ _ _ :: _) _ _); refine kIndexAddrV _ _ _ _ _ _ _ _ t _ rfl rfl rfl hv' rfl Tryd.underlying35 info_w64 (by omega) (dig_at (by rw [Ht.out]; omega)) ?_; intro b hb; unfold VU at hb; rw [Hz.out] at hb; go_frame)
          | ((with_reducible change wpList _ _ _ (Oper.mk (some 12) _ _ _ _ _ :: _) _ _); refine kLoadCell _ _ _ _ _ rfl rfl rfl hb Tryd.underlying23 rfl ?_; go_frame)
          | ((with_reducible change wpList _ _ _ (Oper.mk (some 17) _ _ _ _ _ :: _) _ _); refine kLenN _ _ _ _ _ (t + 1) rfl rfl rfl hv' hml Tryd.underlying35 ?_; go_frame)
          | ((with_reducible change wpList _ _ _ (Oper.mk (some 19) _ _ _ _ _ :: _) _ _); refine kSliceToV _ _ _ _ _ _ _ _ t rfl rfl rfl rfl Tryd.underlying35 info_w64 hv' (by omega) (by rw [hml]; omega) ?_; go_frame))
        have ht := Ht.out
        go_roundg t
        case rel =>
          refine ⟨l'.take t, by simp; omega, dl'.take _, ?_, Lib.hid ?_, by simp; omega, rfl⟩
          · have := isVals_to (n := t) hv' (by rw [hml]; omega)
            unfold Dig; rw [List.map_take]; exact this
          · have h1 := dval_take_succ l' t
            rw [← ht, List.take_length, Hz.out, Nat.mul_zero, Nat.add_zero] at h1
            rw [← h1]; exact Hn'.out
        case measure => have := Hq.out; omega
      · have T := Lib.hid (show Tr l' from .inr (by rw [Ht.out]; exact hz))
        generalize hxx : dat l' t = xx at hz
        have hne2 : ((xx : Int) == 0) = false := by simpa using hz
        have Hxx := Lib.hid hxx
        clear hz hxx
        go_wp2_with (first
          | ((with_reducible change wpList _ _ _ (Oper.mk (some 4) _ _ _ _ _ :: _) _ _); refine kLenN _ _ _ _ _ (t + 1) rfl rfl rfl hv' hml Tryd.underlying35 ?_; go_frame)
          | ((with_reducible change wpList _ _ _ (Oper.mk (some 9) _ _ _ _ _ :: _) _ _); refine kLenN _ _ _ _ _ (t + 1) rfl rfl rfl hv' hml Tryd.underlying35 ?_; go_frame)
          | ((with_reducible change wpList _ _ _ (Oper.mk (some 11) _ _ _ _ _ :: _) _ _); refine kIndexAddrV _ _ _ _ _ _ _ _ t _ rfl rfl rfl hv' rfl Tryd.underlying35 info_w64 (by omega) (dig_at (by rw [Ht.out]; omega)) ?_; intro b hb; unfold VU at hb; rw [Hxx.out] at hb; go_frame)
          | ((with_reducible change wpList _ _ _ (Oper.mk (some 12) _ _ _ _ _ :: _) _ _); refine kLoadCell _ _ _ _ _ rfl rfl rfl hb Tryd.underlying23 rfl ?_; go_frame)
          | ((with_reducible change wpList _ _ _ (Oper.mk (some 13) _ _ _ _ _ :: _) _ _); refine kEqlIx _ _ _ _ .u64 _ _ false rfl rfl rfl rfl hne2 ?_; go_frame))
        go_ret
        exact ⟨_, rfl, ⟨l', dl', hv', Hn'.out, T.out⟩, rfl⟩
end Go.Proofs.YtajpdmcbdekpbaaDoor
