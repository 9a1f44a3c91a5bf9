/-
  The walks of the reference's Power, Compare and Add.
-/
import Derived.Test.YtajpdmcbdekpbaaDoorWRef
namespace Go.Proofs.YtajpdmcbdekpbaaDoor
open Go Go.RowKit

/-! ### Power -/
def powL (n : Nat) : List Nat := List.replicate (n / 16) 0 ++ [2 ^ (n % 16)]
theorem dval_zeros (n : Nat) : dval (List.replicate n 0) = 0 := by
  induction n with
  | zero => rfl
  | succ n ih => show 0 + 65536 * dval (List.replicate n 0) = 0; rw [ih]
theorem powL_val (n : Nat) : dval (powL n) = 2 ^ n := by
  unfold powL
  rw [dval_snoc, dval_zeros, List.length_replicate, Nat.zero_add, P16_pow, ← Nat.pow_add, Nat.div_add_mod]
theorem powL_len (n : Nat) : (powL n).length = n / 16 + 1 := by simp [powL]
theorem powL_digs (n : Nat) : Digs (powL n) := fun x hx => by
  unfold powL at hx
  rcases List.mem_append.1 hx with h | h
  · rw [List.mem_replicate] at h; omega
  · simp at h; subst h
    have : (2 : Nat) ^ (n % 16) < 2 ^ 16 := Nat.pow_lt_pow_right (by decide) (Nat.mod_lt _ (by decide))
    omega
theorem powL_cells (n : Nat) : (Array.replicate (n / 16 + 1) (Value.int .u64 0)).setIfInBounds (n / 16) (VU (2 ^ (n % 16))) = ((powL n).map VU).toArray := by
  apply Array.ext_getElem?
  intro j
  rw [Array.getElem?_setIfInBounds, show (((powL n).map VU).toArray)[j]? = ((powL n).map VU)[j]? by simp, List.getElem?_map]
  unfold powL
  by_cases h : n / 16 = j
  · subst h; simp
  · rw [if_neg h]
    by_cases h2 : j < n / 16
    · rw [List.getElem?_append_left (by simpa using h2), Array.getElem?_replicate, if_pos (by omega), List.getElem?_replicate, if_pos h2]; rfl
    · rw [Array.getElem?_eq_none (by simp; omega), List.getElem?_eq_none (by simp; omega)]; rfl

set_option maxRecDepth 100000 in
set_option maxHeartbeats 1000000 in
theorem dPower_any (n : Nat) (hn : n ≤ 1000) (w : World) : Calls Tryd.prog 47 #[.int .i64 (n : Int)] w (DigPost w (powL n)) := by
  obtain ⟨i, hi, hz, hs1, hby⟩ := w64Info
  go_enter Tryd.func47, Tryd.ntmps47
  go_wp2_with (first
    | ((with_reducible change wpList _ _ _ (Oper.mk (some 7) _ _ _ _ _ :: _) _ _); refine kMake _ _ _ _ rfl rfl i _ Tryd.underlying35 hi hz hs1 (.int .u64 0) rfl _ _ _ _ (n / 16 + 1) (n / 16 + 1) rfl rfl (by omega) (by omega) (by omega) (by rw [hby]; omega) (by omega) ?_; intro w1 hR1 hz1 hB1; clear hz1; go_frame)
    | ((with_reducible change wpList _ _ _ (Oper.mk (some 15) _ _ _ _ _ :: _) _ _); refine kIndexAddrS _ _ _ _ _ w.heap.size 0 (n / 16 + 1) (n / 16 + 1) _ (n / 16) rfl rfl rfl rfl Tryd.underlying35 info_w64 (by omega) (by omega) ?_; go_frame)
    | ((with_reducible change wpList _ _ _ (Oper.mk none _ _ _ _ _ :: _) _ _); refine kStore1 _ _ _ _ _ (n / 16) _ (VU (2 ^ (n % 16))) rfl rfl (by simp [Act.eval]) (congrArg (Value.int IntKind.u64) (pow_wrap (n % 16) (by omega))) hR1 info_w64 (by simp) rfl ?_; intro w2 hR2 hW2; rw [powL_cells] at hR2; go_frame))
  go_ret
  have hv := isVals_lit hR2
  rw [List.length_map, powL_len] at hv
  exact ⟨_, rfl, hv, hB1.trans (hW2.below (Nat.le_refl _))⟩

/-! ### Compare -/
def cmpI (x y : Nat) : Int := if x < y then -1 else if y < x then 1 else 0
theorem cmp_less {a b : List Nat} (ha : Digs a) (hb : Digs b) (k : Nat) (he : dval (a.drop (k + 1)) = dval (b.drop (k + 1))) (h : dat a k < dat b k) : cmpI (dval a) (dval b) = -1 := by
  have h1 : dval a / P16 k < dval b / P16 k := by rw [dval_div ha, dval_div hb, dval_drop a k, dval_drop b k, he]; omega
  have : dval a < dval b := by
    rcases Nat.lt_or_ge (dval a) (dval b) with h' | h'
    · exact h'
    · have := Nat.div_le_div_right (c := P16 k) h'; omega
  unfold cmpI; rw [if_pos this]
theorem cmp_more {a b : List Nat} (ha : Digs a) (hb : Digs b) (k : Nat) (he : dval (a.drop (k + 1)) = dval (b.drop (k + 1))) (h : dat b k < dat a k) : cmpI (dval a) (dval b) = 1 := by
  have h1 : dval b / P16 k < dval a / P16 k := by rw [dval_div ha, dval_div hb, dval_drop a k, dval_drop b k, he]; omega
  have : dval b < dval a := by
    rcases Nat.lt_or_ge (dval b) (dval a) with h' | h'
    · exact h'
    · have := Nat.div_le_div_right (c := P16 k) h'; omega
  unfold cmpI; rw [if_neg (by omega), if_pos this]
theorem cmp_same {x y : Nat} (h : x = y) : cmpI x y = 0 := by unfold cmpI; rw [if_neg (by omega), if_neg (by omega)]
theorem dAt_lit (l : List Nat) (v : Value) (k : Nat) (z : Int) (w : World) (hv : Dig w v l) (hz : z = (k : Int)) :
    Calls Tryd.prog 45 #[v, .int .i64 z] w fun e w' => e = .returned (.int .u64 (dat l k : Int)) ∧ w = w' := by
  subst hz; exact dAt_any l v k w hv

set_option maxRecDepth 100000 in
set_option maxHeartbeats 2000000 in
theorem dCompare_any (a b : List Nat) (va vb : Value) (w : World) (da : Digs a) (db : Digs b) (hva : Dig w va a) (hvb : Dig w vb b) (hla : a.length ≤ 1000) (hlb : b.length ≤ 1000) :
    Calls Tryd.prog 28 #[va, vb] w fun e w' => e = .returned (.int .i64 (cmpI (dval a) (dval b))) ∧ w = w' := by
  have hma : (a.map VU).length = a.length := by simp
  have hmb : (b.map VU).length = b.length := by simp
  obtain ⟨M, hM⟩ : ∃ M, M = max a.length b.length := ⟨_, rfl⟩
  have hmx : (if (b.length : Int) > (a.length : Int) then (b.length : Int) else (a.length : Int)) = (M : Int) := by split <;> omega
  have hML : M ≤ 1000 := by omega
  have HM := Lib.hid hM
  clear hM
  go_enter Tryd.func28, Tryd.ntmps28
  go_wp2_with (first
    | ((with_reducible change wpList _ _ _ (Oper.mk (some 7) _ _ _ _ _ :: _) _ _); refine kLenN _ _ _ _ _ a.length rfl rfl rfl hva hma Tryd.underlying35 ?_; go_frame)
    | ((with_reducible change wpList _ _ _ (Oper.mk (some 9) _ _ _ _ _ :: _) _ _); refine kLenN _ _ _ _ _ b.length rfl rfl rfl hvb hmb Tryd.underlying35 ?_; go_frame)
    | ((with_reducible change wpList _ _ _ (Oper.mk (some 10) _ _ _ _ _ :: _) _ _); refine kMax2 _ _ _ _ _ _ _ _ rfl rfl rfl rfl hmx ?_; go_frame))
  go_loopw [5] (fun i wr => ∃ k : Nat, k ≤ M ∧ i = .int .i64 ((k : Int) - 1) ∧ Hid (dval (a.drop k) = dval (b.drop k)) ∧ wr = w) (fun i _ => (intOf i + 1).toNat)
  case atStart => exact ⟨M, by omega, by go_num, Lib.hid (by have := HM.out; rw [List.drop_eq_nil_of_le (by omega), List.drop_eq_nil_of_le (by omega)]), rfl⟩
  case round =>
    obtain ⟨k, hk, rfl, Hk, rfl⟩ := hrel
    by_cases h0 : k = 0
    · subst h0
      have Hc := Lib.hid (cmp_same (by have h := Hk.out; simpa using h : dval a = dval b))
      go_wp2
      go_ret
      exact ⟨by rw [Hc.out]; rfl, rfl⟩
    · obtain ⟨m, rfl⟩ : ∃ m, k = m + 1 := ⟨k - 1, by omega⟩
      have hd : decide (((m + 1 : Nat) : Int) - 1 ≥ 0) = true := by simp
      have xa := dat_lt da m
      have xb := dat_lt db m
      by_cases h1 : dat a m < dat b m
      · have hd1 : decide (dat a m < dat b m) = true := by simpa using h1
        have Hc := Lib.hid (cmp_less da db m Hk.out h1)
        clear h1
        go_wp2_with (first
          | (go_at_call 45; (with_reducible change Calls _ _ #[va, _] _ _); refine (dAt_lit a va m _ _ hva (by omega)).mono ?_; rintro e w1 ⟨rfl, rfl⟩; go_frame)
          | (go_at_call 45; (with_reducible change Calls _ _ #[vb, _] _ _); refine (dAt_lit b vb m _ _ hvb (by omega)).mono ?_; rintro e w1 ⟨rfl, rfl⟩; go_frame))
        go_ret
        exact ⟨by rw [Hc.out]; rfl, rfl⟩
      · have hd1 : decide (dat a m < dat b m) = false := by simpa using h1
        by_cases h2 : dat b m < dat a m
        · have hd2 : decide (dat b m < dat a m) = true := by simpa using h2
          have Hc := Lib.hid (cmp_more da db m Hk.out h2)
          clear h1 h2
          go_wp2_with (first
            | (go_at_call 45; (with_reducible change Calls _ _ #[va, _] _ _); refine (dAt_lit a va m _ _ hva (by omega)).mono ?_; rintro e w1 ⟨rfl, rfl⟩; go_frame)
            | (go_at_call 45; (with_reducible change Calls _ _ #[vb, _] _ _); refine (dAt_lit b vb m _ _ hvb (by omega)).mono ?_; rintro e w1 ⟨rfl, rfl⟩; go_frame))
          go_ret
          exact ⟨by rw [Hc.out]; rfl, rfl⟩
        · have hd2 : decide (dat b m < dat a m) = false := by simpa using h2
          have Hn := Lib.hid (show dval (a.drop m) = dval (b.drop m) by rw [dval_drop a m, dval_drop b m, Hk.out, show dat a m = dat b m by omega])
          clear h1 h2
          go_wp2_with (first
            | (go_at_call 45; (with_reducible change Calls _ _ #[va, _] _ _); refine (dAt_lit a va m _ _ hva (by omega)).mono ?_; rintro e w1 ⟨rfl, rfl⟩; go_frame)
            | (go_at_call 45; (with_reducible change Calls _ _ #[vb, _] _ _); refine (dAt_lit b vb m _ _ hvb (by omega)).mono ?_; rintro e w1 ⟨rfl, rfl⟩; go_frame))
          go_roundw
          case rel => exact ⟨m, by omega, by go_num, Hn, trivial⟩
          case measure => simp [intOf]

/-! ### Add -/
structure AddInv (a b o : List Nat) (c : Nat) : Prop where
  digs : Digs o
  car : c ≤ 1
  len : o.length ≤ max a.length b.length ∨ (o.length = max a.length b.length + 1 ∧ c = 0)
  sum : dval o + P16 o.length * (c + dval (a.drop o.length) + dval (b.drop o.length)) = dval a + dval b
theorem addInv_start (a b : List Nat) : AddInv a b [] 0 := ⟨fun x hx => by simp at hx, by omega, by left; simp, by simp [dval, P16]⟩
theorem addInv_step {a b o : List Nat} {c : Nat} (da : Digs a) (db : Digs b) (h : AddInv a b o c) (hc : o.length < max a.length b.length ∨ 0 < c) : AddInv a b (o ++ [(c + dat a o.length + dat b o.length) % 65536]) ((c + dat a o.length + dat b o.length) / 65536) := by
  have xa := dat_lt da o.length
  have xb := dat_lt db o.length
  have hcar := h.car
  have hlen : (o ++ [(c + dat a o.length + dat b o.length) % 65536]).length = o.length + 1 := by simp
  refine ⟨h.digs.append (digs_one (Nat.mod_lt _ (by decide))), by omega, ?_, ?_⟩
  · rw [hlen]
    rcases h.len with h1 | h1
    · by_cases h2 : o.length < max a.length b.length
      · left; omega
      · right
        refine ⟨by omega, ?_⟩
        rw [dat_big (by omega), dat_big (by omega)]; omega
    · omega
  · rw [hlen, dval_snoc, ← h.sum, dval_drop a o.length, dval_drop b o.length, P16_succ]
    generalize dval (a.drop (o.length + 1)) = x; generalize dval (b.drop (o.length + 1)) = y
    generalize dat a o.length = p at *; generalize dat b o.length = q at *; generalize P16 o.length = P
    have e : c + (p + 65536 * x) + (q + 65536 * y) = (c + p + q) % 65536 + 65536 * ((c + p + q) / 65536 + x + y) := by omega
    rw [e, Nat.mul_add P, ← Nat.mul_assoc P]
    omega
theorem addInv_end {a b o : List Nat} {c : Nat} (h : AddInv a b o c) (hc : max a.length b.length ≤ o.length) (h0 : c = 0) : dval o = dval a + dval b := by
  have := h.sum
  rw [List.drop_eq_nil_of_le (by omega), List.drop_eq_nil_of_le (by omega), h0] at this
  simpa [dval] using this
def DAddPostO (a b : List Nat) (w : World) (e : Ending) (w' : World) : Prop := ∃ v l, e = .returned v ∧ OwnD w' w.heap.size v l ∧ Digs l ∧ dval l = dval a + dval b ∧ l.length ≤ max a.length b.length + 1 ∧ Below w.heap.size w w'
def DAddPost (a b : List Nat) (w : World) (e : Ending) (w' : World) : Prop := ∃ v l, e = .returned v ∧ Dig w' v l ∧ Digs l ∧ dval l = dval a + dval b ∧ l.length ≤ max a.length b.length + 1 ∧ Below w.heap.size w w'

set_option maxRecDepth 100000 in
set_option maxHeartbeats 4000000 in
theorem dAdd_own (a b : List Nat) (va vb : Value) (w : World) (da : Digs a) (db : Digs b) (hva : Dig w va a) (hvb : Dig w vb b) (hla : a.length ≤ 1000) (hlb : b.length ≤ 1000) :
    Calls Tryd.prog 40 #[va, vb] w (DAddPostO a b w) := by
  obtain ⟨i, hi, hz, hs1, hby⟩ := w64Info
  have hma : (a.map VU).length = a.length := by simp
  have hmb : (b.map VU).length = b.length := by simp
  go_enter Tryd.func40, Tryd.ntmps40
  go_wp2_with (first
    | ((with_reducible change wpList _ _ _ (Oper.mk (some 8) _ _ _ _ _ :: _) _ _); refine kBuildSlice0 _ _ rfl rfl Tryd.underlying35 i hi ?_; intro w1 hR1 hz1 hB1; clear hz1; have hO1 := own_empty (base := w.heap.size) (Nat.le_refl _) hR1; go_frame))
  clear hR1
  go_loopw [7, 6, 5] (fun j cv v wr => ∃ (o : List Nat) (c : Nat), j = .int .i64 (o.length : Int) ∧ cv = .int .u64 (c : Int) ∧ AddInv a b o c ∧ OwnD wr w.heap.size v o ∧ Below w.heap.size w wr) (fun j _ _ _ => 1002 - (intOf j).toNat)
  case atStart => exact ⟨[], 0, rfl, rfl, addInv_start a b, hO1, hB1⟩
  case round =>
    obtain ⟨o, c, rfl, rfl, hI, hO, hBr⟩ := hrel
    clear hO1 hB1
    have hszr := hBr.size
    have hcar := hI.car
    have xa := dat_lt da o.length
    have xb := dat_lt db o.length
    have hlo : o.length ≤ 1001 := by rcases hI.len with h | h <;> omega
    have hmo : (o.map VU).length = o.length := by simp
    have hvar := hva.below hBr
    have hvbr := hvb.below hBr
    by_cases hA : o.length < a.length
    · by_cases hB : o.length < b.length
      · skip
        have hdA : decide ((o.length : Int) < (a.length : Int)) = true := by simp; omega
        have hdB : decide ((o.length : Int) < (b.length : Int)) = true := by simp; omega
        have hI2 := Lib.hid (addInv_step da db hI (by omega))
        go_wp2_with (first
          | ((with_reducible change wpList _ _ _ (Oper.mk (some 11) _ _ _ _ _ :: _) _ _); refine kLenN _ _ _ _ _ a.length rfl rfl rfl hvar hma Tryd.underlying35 ?_; go_frame)
          | ((with_reducible change wpList _ _ _ (Oper.mk (some 27) _ _ _ _ _ :: _) _ _); refine kLenN _ _ _ _ _ a.length rfl rfl rfl hvar hma Tryd.underlying35 ?_; go_frame)
          | ((with_reducible change wpList _ _ _ (Oper.mk (some 32) _ _ _ _ _ :: _) _ _); refine kIndexAddrV _ _ _ _ _ _ _ _ o.length _ rfl rfl rfl hvar rfl Tryd.underlying35 info_w64 rfl (dig_at hA) ?_; intro ba hba; unfold VU at hba; go_frame)
          | ((with_reducible change wpList _ _ _ (Oper.mk (some 33) _ _ _ _ _ :: _) _ _); refine kLoadCell _ _ _ _ _ rfl rfl rfl hba Tryd.underlying23 rfl ?_; go_frame)
          | ((with_reducible change wpList _ _ _ (Oper.mk (some 37) _ _ _ _ _ :: _) _ _); refine kLenN _ _ _ _ _ b.length rfl rfl rfl hvbr hmb Tryd.underlying35 ?_; go_frame)
          | ((with_reducible change wpList _ _ _ (Oper.mk (some 42) _ _ _ _ _ :: _) _ _); refine kIndexAddrV _ _ _ _ _ _ _ _ o.length _ rfl rfl rfl hvbr rfl Tryd.underlying35 info_w64 rfl (dig_at hB) ?_; intro bb hbb; unfold VU at hbb; go_frame)
          | ((with_reducible change wpList _ _ _ (Oper.mk (some 43) _ _ _ _ _ :: _) _ _); refine kLoadCell _ _ _ _ _ rfl rfl rfl hbb Tryd.underlying23 rfl ?_; go_frame)
          | ((with_reducible change wpList _ _ _ (Oper.mk (some 48) _ _ _ _ _ :: _) _ _); refine kBuildSlice1 _ _ _ (VU ((c + dat a o.length + dat b o.length) % 65536)) rfl rfl Tryd.underlying35 i _ hi hz hs1 (congrArg (Value.int IntKind.u64) (by omega)) rfl ?_; intro w5 hR5 hz5 hB5; clear hz5; have hs5 := hB5.size; go_frame)
          | ((with_reducible change wpList _ _ _ (Oper.mk (some 49) _ _ _ _ _ :: _) _ _); refine kAppend _ _ _ _ rfl rfl w.heap.size i _ Tryd.underlying35 hi hz hs1 rfl _ _ _ [VU ((c + dat a o.length + dat b o.length) % 65536)] rfl (ownsRow_below hO hB5) rfl (isVals_lit hR5) (vu_one [_]) (by unfold maxLen; rw [hmo]; simp; omega) (by rw [hby, hmo]; simp; omega) (by omega) ?_; intro v6 w6 hO6 hG6; have hB6 := (hBr.trans (hB5.mono hszr)).trans (below_grown (ownsRow_below hO hB5) hG6 (by omega)); clear hR5 hB5 hG6; go_frame))
        go_roundw
        case rel =>
          refine ⟨o ++ [(c + dat a o.length + dat b o.length) % 65536], (c + dat a o.length + dat b o.length) / 65536, by rw [List.length_append]; go_num, congrArg (Value.int IntKind.u64) (by omega), hI2.out, ?_, hB6⟩
          unfold OwnD
          rw [List.map_append (l₂ := [_])]
          exact hO6
        case measure => simp [intOf]; omega
      · skip
        have hdA : decide ((o.length : Int) < (a.length : Int)) = true := by simp; omega
        have hdB : decide ((o.length : Int) < (b.length : Int)) = false := by simp; omega
        have hI2 := Lib.hid (addInv_step da db hI (by omega))
        have zB : dat b o.length = 0 := dat_big (by omega)
        have ZB := Lib.hid zB
        clear zB
        go_wp2_with (first
          | ((with_reducible change wpList _ _ _ (Oper.mk (some 11) _ _ _ _ _ :: _) _ _); refine kLenN _ _ _ _ _ a.length rfl rfl rfl hvar hma Tryd.underlying35 ?_; go_frame)
          | ((with_reducible change wpList _ _ _ (Oper.mk (some 27) _ _ _ _ _ :: _) _ _); refine kLenN _ _ _ _ _ a.length rfl rfl rfl hvar hma Tryd.underlying35 ?_; go_frame)
          | ((with_reducible change wpList _ _ _ (Oper.mk (some 32) _ _ _ _ _ :: _) _ _); refine kIndexAddrV _ _ _ _ _ _ _ _ o.length _ rfl rfl rfl hvar rfl Tryd.underlying35 info_w64 rfl (dig_at hA) ?_; intro ba hba; unfold VU at hba; go_frame)
          | ((with_reducible change wpList _ _ _ (Oper.mk (some 33) _ _ _ _ _ :: _) _ _); refine kLoadCell _ _ _ _ _ rfl rfl rfl hba Tryd.underlying23 rfl ?_; go_frame)
          | ((with_reducible change wpList _ _ _ (Oper.mk (some 37) _ _ _ _ _ :: _) _ _); refine kLenN _ _ _ _ _ b.length rfl rfl rfl hvbr hmb Tryd.underlying35 ?_; go_frame)
          | ((with_reducible change wpList _ _ _ (Oper.mk (some 48) _ _ _ _ _ :: _) _ _); refine kBuildSlice1 _ _ _ (VU ((c + dat a o.length + dat b o.length) % 65536)) rfl rfl Tryd.underlying35 i _ hi hz hs1 (congrArg (Value.int IntKind.u64) (by have := ZB.out; omega)) rfl ?_; intro w5 hR5 hz5 hB5; clear hz5; have hs5 := hB5.size; go_frame)
          | ((with_reducible change wpList _ _ _ (Oper.mk (some 49) _ _ _ _ _ :: _) _ _); refine kAppend _ _ _ _ rfl rfl w.heap.size i _ Tryd.underlying35 hi hz hs1 rfl _ _ _ [VU ((c + dat a o.length + dat b o.length) % 65536)] rfl (ownsRow_below hO hB5) rfl (isVals_lit hR5) (vu_one [_]) (by unfold maxLen; rw [hmo]; simp; omega) (by rw [hby, hmo]; simp; omega) (by omega) ?_; intro v6 w6 hO6 hG6; have hB6 := (hBr.trans (hB5.mono hszr)).trans (below_grown (ownsRow_below hO hB5) hG6 (by omega)); clear hR5 hB5 hG6; go_frame))
        go_roundw
        case rel =>
          refine ⟨o ++ [(c + dat a o.length + dat b o.length) % 65536], (c + dat a o.length + dat b o.length) / 65536, by rw [List.length_append]; go_num, congrArg (Value.int IntKind.u64) (by have := ZB.out; omega), hI2.out, ?_, hB6⟩
          unfold OwnD
          rw [List.map_append (l₂ := [_])]
          exact hO6
        case measure => simp [intOf]; omega
    · by_cases hB : o.length < b.length
      · skip
        have hdA : decide ((o.length : Int) < (a.length : Int)) = false := by simp; omega
        have hdB : decide ((o.length : Int) < (b.length : Int)) = true := by simp; omega
        have hI2 := Lib.hid (addInv_step da db hI (by omega))
        have zA : dat a o.length = 0 := dat_big (by omega)
        have ZA := Lib.hid zA
        clear zA
        go_wp2_with (first
          | ((with_reducible change wpList _ _ _ (Oper.mk (some 11) _ _ _ _ _ :: _) _ _); refine kLenN _ _ _ _ _ a.length rfl rfl rfl hvar hma Tryd.underlying35 ?_; go_frame)
          | ((with_reducible change wpList _ _ _ (Oper.mk (some 16) _ _ _ _ _ :: _) _ _); refine kLenN _ _ _ _ _ b.length rfl rfl rfl hvbr hmb Tryd.underlying35 ?_; go_frame)
          | ((with_reducible change wpList _ _ _ (Oper.mk (some 27) _ _ _ _ _ :: _) _ _); refine kLenN _ _ _ _ _ a.length rfl rfl rfl hvar hma Tryd.underlying35 ?_; go_frame)
          | ((with_reducible change wpList _ _ _ (Oper.mk (some 37) _ _ _ _ _ :: _) _ _); refine kLenN _ _ _ _ _ b.length rfl rfl rfl hvbr hmb Tryd.underlying35 ?_; go_frame)
          | ((with_reducible change wpList _ _ _ (Oper.mk (some 42) _ _ _ _ _ :: _) _ _); refine kIndexAddrV _ _ _ _ _ _ _ _ o.length _ rfl rfl rfl hvbr rfl Tryd.underlying35 info_w64 rfl (dig_at hB) ?_; intro bb hbb; unfold VU at hbb; go_frame)
          | ((with_reducible change wpList _ _ _ (Oper.mk (some 43) _ _ _ _ _ :: _) _ _); refine kLoadCell _ _ _ _ _ rfl rfl rfl hbb Tryd.underlying23 rfl ?_; go_frame)
          | ((with_reducible change wpList _ _ _ (Oper.mk (some 48) _ _ _ _ _ :: _) _ _); refine kBuildSlice1 _ _ _ (VU ((c + dat a o.length + dat b o.length) % 65536)) rfl rfl Tryd.underlying35 i _ hi hz hs1 (congrArg (Value.int IntKind.u64) (by have := ZA.out; omega)) rfl ?_; intro w5 hR5 hz5 hB5; clear hz5; have hs5 := hB5.size; go_frame)
          | ((with_reducible change wpList _ _ _ (Oper.mk (some 49) _ _ _ _ _ :: _) _ _); refine kAppend _ _ _ _ rfl rfl w.heap.size i _ Tryd.underlying35 hi hz hs1 rfl _ _ _ [VU ((c + dat a o.length + dat b o.length) % 65536)] rfl (ownsRow_below hO hB5) rfl (isVals_lit hR5) (vu_one [_]) (by unfold maxLen; rw [hmo]; simp; omega) (by rw [hby, hmo]; simp; omega) (by omega) ?_; intro v6 w6 hO6 hG6; have hB6 := (hBr.trans (hB5.mono hszr)).trans (below_grown (ownsRow_below hO hB5) hG6 (by omega)); clear hR5 hB5 hG6; go_frame))
        go_roundw
        case rel =>
          refine ⟨o ++ [(c + dat a o.length + dat b o.length) % 65536], (c + dat a o.length + dat b o.length) / 65536, by rw [List.length_append]; go_num, congrArg (Value.int IntKind.u64) (by have := ZA.out; omega), hI2.out, ?_, hB6⟩
          unfold OwnD
          rw [List.map_append (l₂ := [_])]
          exact hO6
        case measure => simp [intOf]; omega
      · by_cases hC : 0 < c
        · skip
          have hdA : decide ((o.length : Int) < (a.length : Int)) = false := by simp; omega
          have hdB : decide ((o.length : Int) < (b.length : Int)) = false := by simp; omega
          have hdC : decide ((c : Int) > 0) = true := by simp; omega
          have hI2 := Lib.hid (addInv_step da db hI (by omega))
          have zA : dat a o.length = 0 := dat_big (by omega)
          have zB : dat b o.length = 0 := dat_big (by omega)
          have ZA := Lib.hid zA
          clear zA
          have ZB := Lib.hid zB
          clear zB
          go_wp2_with (first
            | ((with_reducible change wpList _ _ _ (Oper.mk (some 11) _ _ _ _ _ :: _) _ _); refine kLenN _ _ _ _ _ a.length rfl rfl rfl hvar hma Tryd.underlying35 ?_; go_frame)
            | ((with_reducible change wpList _ _ _ (Oper.mk (some 16) _ _ _ _ _ :: _) _ _); refine kLenN _ _ _ _ _ b.length rfl rfl rfl hvbr hmb Tryd.underlying35 ?_; go_frame)
            | ((with_reducible change wpList _ _ _ (Oper.mk (some 27) _ _ _ _ _ :: _) _ _); refine kLenN _ _ _ _ _ a.length rfl rfl rfl hvar hma Tryd.underlying35 ?_; go_frame)
            | ((with_reducible change wpList _ _ _ (Oper.mk (some 37) _ _ _ _ _ :: _) _ _); refine kLenN _ _ _ _ _ b.length rfl rfl rfl hvbr hmb Tryd.underlying35 ?_; go_frame)
            | ((with_reducible change wpList _ _ _ (Oper.mk (some 48) _ _ _ _ _ :: _) _ _); refine kBuildSlice1 _ _ _ (VU ((c + dat a o.length + dat b o.length) % 65536)) rfl rfl Tryd.underlying35 i _ hi hz hs1 (congrArg (Value.int IntKind.u64) (by have := ZA.out; have := ZB.out; omega)) rfl ?_; intro w5 hR5 hz5 hB5; clear hz5; have hs5 := hB5.size; go_frame)
            | ((with_reducible change wpList _ _ _ (Oper.mk (some 49) _ _ _ _ _ :: _) _ _); refine kAppend _ _ _ _ rfl rfl w.heap.size i _ Tryd.underlying35 hi hz hs1 rfl _ _ _ [VU ((c + dat a o.length + dat b o.length) % 65536)] rfl (ownsRow_below hO hB5) rfl (isVals_lit hR5) (vu_one [_]) (by unfold maxLen; rw [hmo]; simp; omega) (by rw [hby, hmo]; simp; omega) (by omega) ?_; intro v6 w6 hO6 hG6; have hB6 := (hBr.trans (hB5.mono hszr)).trans (below_grown (ownsRow_below hO hB5) hG6 (by omega)); clear hR5 hB5 hG6; go_frame))
          go_roundw
          case rel =>
            refine ⟨o ++ [(c + dat a o.length + dat b o.length) % 65536], (c + dat a o.length + dat b o.length) / 65536, by rw [List.length_append]; go_num, congrArg (Value.int IntKind.u64) (by have := ZA.out; have := ZB.out; omega), hI2.out, ?_, hB6⟩
            unfold OwnD
            rw [List.map_append (l₂ := [_])]
            exact hO6
          case measure => simp [intOf]; omega
        · have hdA : decide ((o.length : Int) < (a.length : Int)) = false := by simp; omega
          have hdB : decide ((o.length : Int) < (b.length : Int)) = false := by simp; omega
          have hdC : decide ((c : Int) > 0) = false := by simp; omega
          have hE := addInv_end hI (by omega) (by omega)
          have hL : o.length ≤ max a.length b.length + 1 := by rcases hI.len with h | h <;> omega
          have hP : DAddPostO a b w (.returned u5) wr := ⟨_, o, rfl, hO, hI.digs, hE, hL, hBr⟩
          clear hE hL
          go_wp2_with (first
            | ((with_reducible change wpList _ _ _ (Oper.mk (some 11) _ _ _ _ _ :: _) _ _); refine kLenN _ _ _ _ _ a.length rfl rfl rfl hvar hma Tryd.underlying35 ?_; go_frame)
            | ((with_reducible change wpList _ _ _ (Oper.mk (some 16) _ _ _ _ _ :: _) _ _); refine kLenN _ _ _ _ _ b.length rfl rfl rfl hvbr hmb Tryd.underlying35 ?_; go_frame))
          go_ret
          exact hP
theorem dAdd_any (a b : List Nat) (va vb : Value) (w : World) (da : Digs a) (db : Digs b) (hva : Dig w va a) (hvb : Dig w vb b) (hla : a.length ≤ 1000) (hlb : b.length ≤ 1000) :
    Calls Tryd.prog 40 #[va, vb] w (DAddPost a b w) :=
  (dAdd_own a b va vb w da db hva hvb hla hlb).mono fun _ _ ⟨v, l, h1, h2, h3⟩ => ⟨v, l, h1, h2.dig, h3⟩
end Go.Proofs.YtajpdmcbdekpbaaDoor
