/-
  The walks of the reference's Bits and Mul.
-/
import Derived.Test.YtajpdmcbdekpbaaDoorWRef3
namespace Go.Proofs.YtajpdmcbdekpbaaDoor
open Go Go.RowKit

/-! ### Bits -/
theorem bits_digit {l : List Nat} (dl : Digs l) (n : Nat) (hn : n ≤ l.length) (h : dat l n ≠ 0) : blen (dval (l.take (n + 1))) = 16 * n + blen (dat l n) := by
  have h1 := dval_lt (dl.take n)
  rw [List.length_take, Nat.min_eq_left hn] at h1
  have e : dval (l.take (n + 1)) / 2 ^ (16 * n) = dat l n := by
    rw [dval_take_succ, ← P16_pow, Nat.add_mul_div_left _ _ (P16_pos n), Nat.div_eq_of_lt h1, Nat.zero_add]
  rw [blen_shift (dval (l.take (n + 1))) (16 * n) (by rw [e]; omega), e]
theorem bits_none {l : List Nat} (n : Nat) (h : dat l n = 0) : dval (l.take (n + 1)) = dval (l.take n) := by rw [dval_take_succ, h]; simp
theorem blen_halves (x k : Nat) (h0 : x / 2 ^ k = 0) (h1 : k = 0 ∨ 0 < x / 2 ^ (k - 1)) : blen x = k := by
  refine blen_unique x k ?_ ?_
  · exact (Nat.div_eq_zero_iff_lt (Nat.pow_pos (by decide))).1 h0
  · rcases h1 with h | h
    · exact .inl h
    · right
      rcases Nat.lt_or_ge x (2 ^ (k - 1)) with h' | h'
      · rw [Nat.div_eq_of_lt h'] at h; omega
      · exact h'

/-! ### Mul -/
/-- the j-th digit of a number -/
def dg (n j : Nat) : Nat := n / P16 j % 65536
theorem dg_lt (n j : Nat) : dg n j < 65536 := Nat.mod_lt _ (by decide)
/-- what is in the row once k digits of a are through, and of the next one m digits of b -/
def dmN (a b : List Nat) (k m : Nat) : Nat := dval (a.take k) * dval b + dat a k * dval (b.take m) * P16 k
def dmTab (s : Nat) (a b : List Nat) (k m : Nat) : Array Value := tab s fun j => .int .u64 ((if j < k + m then dg (dmN a b k m) j else dg (dval (a.take k) * dval b) j : Nat) : Int)
def drow (n s : Nat) : Array Value := tab s fun j => .int .u64 (dg n j : Int)
theorem drow_list (n s : Nat) : drow n s = ((digsOf n s).map VU).toArray := by
  unfold drow tab digsOf; rw [List.map_map]; rfl
theorem dmN_zero (a b : List Nat) (k : Nat) : dmN a b k 0 = dval (a.take k) * dval b := by simp [dmN, dval]
theorem dmN_all (a b : List Nat) (k : Nat) : dmN a b k b.length = dval (a.take (k + 1)) * dval b := by
  unfold dmN; rw [List.take_of_length_le (Nat.le_refl _), dval_take_succ, Nat.add_mul]; congr 1
  rw [Nat.mul_comm (P16 k), Nat.mul_right_comm]
theorem dmN_succ (a b : List Nat) (k m : Nat) : dmN a b k (m + 1) = dmN a b k m + P16 (k + m) * (dat a k * dat b m) := by
  unfold dmN
  rw [dval_take_succ, Nat.mul_add, Nat.add_mul, Nat.add_assoc]
  congr 1
  congr 1
  rw [P16_add]
  generalize P16 k = p; generalize P16 m = q; generalize dat a k = x; generalize dat b m = y
  ac_rfl
theorem dmTab_zero (s : Nat) (a b : List Nat) (k : Nat) : dmTab s a b k 0 = drow (dval (a.take k) * dval b) s := tab_congr fun j _ => by
  rw [dmN_zero]; split <;> rfl
theorem dg_mult (n q j k : Nat) (h : j < k) : dg (n + P16 k * q) j = dg n j := by
  have e : P16 k = P16 j * (65536 * P16 (k - j - 1)) := by
    unfold P16; rw [← Nat.mul_assoc, ← Nat.pow_succ, ← Nat.pow_add]; congr 1; omega
  unfold dg
  rw [e, Nat.mul_assoc, Nat.add_mul_div_left _ _ (P16_pos j), Nat.mul_assoc, Nat.add_mul_mod_self_left]
theorem dg_step (n k : Nat) : n / P16 k = dg n k + 65536 * (n / P16 (k + 1)) := by
  unfold dg
  rw [P16_succ, ← Nat.div_div_eq_div_mul, Nat.mod_add_div]
theorem dm_step {a b : List Nat} {k m c : Nat} (h : dmN a b k m / P16 (k + m) = dval (a.take k) * dval b / P16 (k + m) + c) :
    dg (dmN a b k (m + 1)) (k + m) = (c + (dg (dval (a.take k) * dval b) (k + m) + dat a k * dat b m)) % 65536 ∧
    dmN a b k (m + 1) / P16 (k + (m + 1)) = dval (a.take k) * dval b / P16 (k + (m + 1)) + (c + (dg (dval (a.take k) * dval b) (k + m) + dat a k * dat b m)) / 65536 := by
  have e1 : dmN a b k (m + 1) / P16 (k + m) = dg (dval (a.take k) * dval b) (k + m) + 65536 * (dval (a.take k) * dval b / P16 (k + m + 1)) + c + dat a k * dat b m := by
    rw [dmN_succ, Nat.add_mul_div_left _ _ (P16_pos _), h, dg_step (dval (a.take k) * dval b) (k + m)]
  constructor
  · show dmN a b k (m + 1) / P16 (k + m) % _ = _
    rw [e1]; omega
  · rw [show k + (m + 1) = k + m + 1 from rfl, P16_succ, ← Nat.div_div_eq_div_mul, ← Nat.div_div_eq_div_mul, e1, dg_step (dval (a.take k) * dval b) (k + m)]
    have hl := dg_lt (dval (a.take k) * dval b) (k + m)
    generalize dat a k * dat b m = z
    generalize dg (dval (a.take k) * dval b) (k + m) = y at *
    generalize dval (a.take k) * dval b / P16 (k + m + 1) = q
    omega
theorem dmTab_set (s : Nat) (a b : List Nat) (k m : Nat) (v : Nat) (hv : v = dg (dmN a b k (m + 1)) (k + m)) : (dmTab s a b k m).setIfInBounds (k + m) (.int .u64 (v : Int)) = dmTab s a b k (m + 1) := tab_set fun j hj => by
  subst hv
  by_cases h : j = k + m
  · subst h; rw [if_pos rfl, if_pos (by omega)]
  · rw [if_neg h]
    by_cases h2 : j < k + m
    · rw [if_pos h2, if_pos (by omega), dmN_succ, dg_mult _ _ _ _ h2]
    · rw [if_neg h2, if_neg (by omega)]
theorem dm_lt {a b : List Nat} (da : Digs a) (db : Digs b) (k : Nat) : dval (a.take k) * dval b < P16 (k + b.length) := by
  have h1 := dval_lt (da.take k)
  have h1' : P16 (a.take k).length ≤ P16 k := Nat.pow_le_pow_right (by decide) (by rw [List.length_take]; omega)
  have h2 := dval_lt db
  rw [P16_add]
  exact Nat.lt_of_le_of_lt (Nat.mul_le_mul_right _ (Nat.le_of_lt (by omega : dval (a.take k) < P16 k))) (Nat.mul_lt_mul_of_pos_left h2 (P16_pos k))
theorem drow_end (s : Nat) {a b : List Nat} (da : Digs a) (db : Digs b) (k c : Nat) (h : dmN a b k b.length / P16 (k + b.length) = dval (a.take k) * dval b / P16 (k + b.length) + c) : (dmTab s a b k b.length).setIfInBounds (k + b.length) (.int .u64 (c : Int)) = drow (dval (a.take (k + 1)) * dval b) s := tab_set fun j hj => by
  rw [dmN_all] at *
  have hT := dm_lt da db k
  have hN := dm_lt da db (k + 1)
  rw [Nat.div_eq_of_lt hT, Nat.zero_add] at h
  by_cases hjk : j = k + b.length
  · subst hjk
    rw [if_pos rfl]
    congr 2
    unfold dg
    rw [h]
    have : c < 65536 := by
      rw [← h]
      rw [show k + 1 + b.length = k + b.length + 1 by omega, P16_succ] at hN
      exact Nat.div_lt_of_lt_mul hN
    exact Nat.mod_eq_of_lt this
  · rw [if_neg hjk]
    by_cases h2 : j < k + b.length
    · rw [if_pos h2]
    · rw [if_neg h2]
      have hP : P16 (k + b.length) ≤ P16 j := Nat.pow_le_pow_right (by decide) (by omega)
      have hP2 : P16 (k + 1 + b.length) ≤ P16 j := Nat.pow_le_pow_right (by decide) (by omega)
      unfold dg
      rw [Nat.div_eq_of_lt (Nat.lt_of_lt_of_le hN hP2), Nat.div_eq_of_lt (Nat.lt_of_lt_of_le hT hP)]
theorem dm_bound {x y p c : Nat} (hx : x < 65536) (hy : y < 65536) (hp : p < 65536) (hc : c < 65536) : c + (p + x * y) < 4294967296 := by
  have hle : x * y ≤ 4294836225 := Nat.mul_le_mul (Nat.le_of_lt_succ hx) (Nat.le_of_lt_succ hy)
  omega
def MulPost (a b : List Nat) (w : World) (e : Ending) (w' : World) : Prop := ∃ v, e = .returned v ∧ Dig w' v (digsOf (dval a * dval b) (a.length + b.length)) ∧ Below w.heap.size w w'

set_option maxRecDepth 100000 in
set_option maxHeartbeats 8000000 in
theorem dMul_any (a b : List Nat) (va vb : Value) (w : World) (da : Digs a) (db : Digs b) (hva : Dig w va a) (hvb : Dig w vb b) (hla : a.length ≤ 1000) (hlb : b.length ≤ 1000) :
    Calls Tryd.prog 43 #[va, vb] w (MulPost a b w) := by
  obtain ⟨i, hi, hz, hs1, hby⟩ := w64Info
  have hma : (a.map VU).length = a.length := by simp
  have hmb : (b.map VU).length = b.length := by simp
  go_enter Tryd.func43, Tryd.ntmps43
  go_wp2_with (first
    | ((with_reducible change wpList _ _ _ (Oper.mk (some 12) _ _ _ _ _ :: _) _ _); refine kLenN _ _ _ _ _ a.length rfl rfl rfl hva hma Tryd.underlying35 ?_; go_frame)
    | ((with_reducible change wpList _ _ _ (Oper.mk (some 14) _ _ _ _ _ :: _) _ _); refine kLenN _ _ _ _ _ b.length rfl rfl rfl hvb hmb Tryd.underlying35 ?_; go_frame)
    | ((with_reducible change wpList _ _ _ (Oper.mk (some 16) _ _ _ _ _ :: _) _ _); refine kMake _ _ _ _ rfl rfl i _ Tryd.underlying35 hi hz hs1 (.int .u64 0) rfl _ _ _ _ (a.length + b.length) (a.length + b.length) rfl rfl (by omega) (by omega) (by omega) (by rw [hby]; omega) (by omega) ?_; intro w1 hR1 hz1 hB1; clear hz1; go_frame)
    | ((with_reducible change wpList _ _ _ (Oper.mk (some 18) _ _ _ _ _ :: _) _ _); refine kLenN _ _ _ _ _ a.length rfl rfl rfl (hva.below hB1) hma Tryd.underlying35 ?_; go_frame))
  have hl1 := hR1.lt
  have hR0 : Row w1 w.heap.size 23 (drow 0 (a.length + b.length)) := by
    have e : drow 0 (a.length + b.length) = Array.replicate (a.length + b.length) (.int .u64 0) := by
      apply Array.ext_getElem?
      intro j
      by_cases h : j < a.length + b.length
      · unfold drow; rw [tab_get _ _ _ h, Array.getElem?_replicate, if_pos h]; unfold dg; simp
      · rw [Array.getElem?_eq_none (by unfold drow; rw [tab_size]; omega), Array.getElem?_eq_none (by simp; omega)]
    rw [e]; exact hR1
  clear hR1
  go_loopw [19] (fun i wr => ∃ k : Nat, k ≤ a.length ∧ i = .int .i64 (k : Int) ∧ Row wr w.heap.size 23 (drow (dval (a.take k) * dval b) (a.length + b.length)) ∧ Below w.heap.size w wr) (fun i _ => 1001 - (intOf i).toNat)
  case atStart => exact ⟨0, by omega, rfl, by simpa [dval] using hR0, hB1⟩
  case round =>
    obtain ⟨k, hk, rfl, hR, hBr⟩ := hrel
    clear hR0 hB1
    have hvar := hva.below hBr
    have hvbr := hvb.below hBr
    by_cases hlt : k < a.length
    · have hd : decide ((k : Int) < (a.length : Int)) = true := by simp; omega
      have xa := dat_lt da k
      go_wp2_with (first
        | ((with_reducible change wpList _ _ _ (Oper.mk (some 22) _ _ _ _ _ :: _) _ _); refine kIndexAddrV _ _ _ _ _ _ _ _ k _ rfl rfl rfl hvar rfl Tryd.underlying35 info_w64 rfl (dig_at hlt) ?_; intro ba hba; unfold VU at hba; go_frame)
        | ((with_reducible change wpList _ _ _ (Oper.mk (some 23) _ _ _ _ _ :: _) _ _); refine kLoadCell _ _ _ _ _ rfl rfl rfl hba Tryd.underlying23 rfl ?_; go_frame)
        | ((with_reducible change wpList _ _ _ (Oper.mk (some 25) _ _ _ _ _ :: _) _ _); refine kLenN _ _ _ _ _ b.length rfl rfl rfl hvbr hmb Tryd.underlying35 ?_; go_frame))
      clear hba
      go_loopw [26, 8] (fun i c wq => ∃ m cn : Nat, m ≤ b.length ∧ cn < 65536 ∧ i = .int .i64 (m : Int) ∧ c = .int .u64 (cn : Int) ∧ Hid (dmN a b k m / P16 (k + m) = dval (a.take k) * dval b / P16 (k + m) + cn) ∧ Row wq w.heap.size 23 (dmTab (a.length + b.length) a b k m) ∧ Below w.heap.size w wq) (fun i _ _ => 1001 - (intOf i).toNat)
      case atStart => exact ⟨0, 0, by omega, by decide, rfl, rfl, Lib.hid (by rw [dmN_zero]; rfl), by rw [dmTab_zero]; exact hR, hBr⟩
      case round =>
        obtain ⟨m, cn, hm, hcn, rfl, rfl, Hc, hRq, hBq⟩ := hrel
        have hvbq := hvb.below hBq
        by_cases hltm : m < b.length
        · have hdm : decide ((m : Int) < (b.length : Int)) = true := by simp; omega
          have xb := dat_lt db m
          have xp := dg_lt (dval (a.take k) * dval b) (k + m)
          have hst := Lib.hid (dm_step Hc.out)
          have hbd := dm_bound xa xb xp hcn
          have hget : (dmTab (a.length + b.length) a b k m)[k + m]? = some (.int .u64 (dg (dval (a.take k) * dval b) (k + m) : Int)) := by
            unfold dmTab; rw [tab_get _ _ _ (by omega), if_neg (by omega)]
          have hsz : (dmTab (a.length + b.length) a b k m).size = a.length + b.length := by unfold dmTab; exact tab_size _ _
          have hxy : ((dat a k : Int) * (dat b m : Int)) = ((dat a k * dat b m : Nat) : Int) := (Int.natCast_mul _ _).symm
          generalize hpp : dg (dval (a.take k) * dval b) (k + m) = pp at *
          generalize hzz : dat a k * dat b m = zz at *
          clear hpp hzz
          go_wp2_with (first
            | ((with_reducible change wpList _ _ _ (Oper.mk (some 29) _ _ _ _ _ :: _) _ _); refine kIndexAddrV _ _ _ _ _ _ _ _ m _ rfl rfl rfl hvbq rfl Tryd.underlying35 info_w64 rfl (dig_at hltm) ?_; intro bb hbb; unfold VU at hbb; go_frame)
            | ((with_reducible change wpList _ _ _ (Oper.mk (some 30) _ _ _ _ _ :: _) _ _); refine kLoadCell _ _ _ _ _ rfl rfl rfl hbb Tryd.underlying23 rfl ?_; go_frame)
            | ((with_reducible change wpList _ _ _ (Oper.mk (some 36) _ _ _ _ _ :: _) _ _); refine kIndexAddrS _ _ _ _ _ w.heap.size 0 (a.length + b.length) (a.length + b.length) _ (k + m) rfl rfl rfl rfl Tryd.underlying35 info_w64 (by omega) (by omega) ?_; rw [Nat.zero_add]; go_frame)
            | ((with_reducible change wpList _ _ _ (Oper.mk (some 37) _ _ _ _ _ :: _) _ _); refine kLoad1 _ _ _ _ _ _ _ _ rfl rfl rfl hRq Tryd.underlying23 rfl hget ?_; go_frame)
            | ((with_reducible change wpList _ _ _ (Oper.mk (some 49) _ _ _ _ _ :: _) _ _); refine kIndexAddrS _ _ _ _ _ w.heap.size 0 (a.length + b.length) (a.length + b.length) _ (k + m) rfl rfl rfl rfl Tryd.underlying35 info_w64 (by omega) (by omega) ?_; rw [Nat.zero_add]; go_frame)
            | ((with_reducible change wpList _ _ _ (Oper.mk none _ _ _ _ _ :: _) _ _); refine kStore1 _ _ _ _ _ (k + m) _ (.int .u64 (dg (dmN a b k (m + 1)) (k + m) : Int)) rfl rfl rfl (congrArg (Value.int IntKind.u64) (by rw [hst.out.1]; omega)) hRq info_w64 (by rw [hsz]; omega) rfl ?_; intro w7 hR7 hW7; rw [dmTab_set _ _ _ _ _ _ rfl] at hR7; go_frame))
          go_roundw
          case rel => exact ⟨m + 1, (cn + (pp + zz)) / 65536, by omega, by omega, by go_num, congrArg (Value.int IntKind.u64) (by omega), Lib.hid hst.out.2, hR7, hBq.trans (hW7.below (Nat.le_refl _))⟩
          case measure => simp [intOf]; omega
        · have hmb2 : m = b.length := by omega
          have hdm : decide ((m : Int) < (b.length : Int)) = false := by simp; omega
          rw [hmb2] at Hc hRq
          clear hmb2
          have hsz : (dmTab (a.length + b.length) a b k b.length).size = a.length + b.length := by unfold dmTab; exact tab_size _ _
          go_wp2_with (first
            | ((with_reducible change wpList _ _ _ (Oper.mk (some 56) _ _ _ _ _ :: _) _ _); refine kLenN _ _ _ _ _ b.length rfl rfl rfl hvbq hmb Tryd.underlying35 ?_; go_frame)
            | ((with_reducible change wpList _ _ _ (Oper.mk (some 59) _ _ _ _ _ :: _) _ _); refine kIndexAddrS _ _ _ _ _ w.heap.size 0 (a.length + b.length) (a.length + b.length) _ (k + b.length) rfl rfl rfl rfl Tryd.underlying35 info_w64 (by omega) (by omega) ?_; rw [Nat.zero_add]; go_frame)
            | ((with_reducible change wpList _ _ _ (Oper.mk none _ _ _ _ _ :: _) _ _); refine kStore1 _ _ _ _ _ (k + b.length) _ (.int .u64 (cn : Int)) rfl rfl rfl rfl hRq info_w64 (by rw [hsz]; omega) rfl ?_; intro w7 hR7 hW7; rw [drow_end _ da db _ _ Hc.out] at hR7; go_frame))
          go_roundw
          case rel => exact ⟨k + 1, by omega, by go_num, hR7, hBq.trans (hW7.below (Nat.le_refl _))⟩
          case measure => simp [intOf]; omega
    · have hka : k = a.length := by omega
      have hd : decide ((k : Int) < (a.length : Int)) = false := by simp; omega
      rw [hka, List.take_of_length_le (Nat.le_refl _), drow_list] at hR
      clear hka
      have hdv := isVals_lit hR
      rw [List.length_map, digsOf_len] at hdv
      go_wp2
      go_ret
      exact ⟨_, rfl, hdv, hBr⟩
end Go.Proofs.YtajpdmcbdekpbaaDoor
