/-
  The walks of the reference's Sub and Wide.
-/
import Derived.Test.YtajpdmcbdekpbaaDoorWRef2
namespace Go.Proofs.YtajpdmcbdekpbaaDoor
open Go Go.RowKit

/-! ### Sub -/
structure SubInv (a b o : List Nat) (c : Nat) : Prop where
  digs : Digs o
  car : c ≤ 1
  len : o.length ≤ a.length
  sum : dval (a.take o.length) + P16 o.length * c = dval o + dval (b.take o.length)
theorem subInv_start (a b : List Nat) : SubInv a b [] 0 := ⟨fun x hx => by simp at hx, by omega, by simp, by simp [dval]⟩
theorem subInv_put {a b o : List Nat} {c c' d : Nat} (h : SubInv a b o c) (hlt : o.length < a.length) (hd : d < 65536) (hc : c' ≤ 1) (e : dat a o.length + 65536 * c' = d + dat b o.length + c) : SubInv a b (o ++ [d]) c' := by
  have hlen : (o ++ [d]).length = o.length + 1 := by simp
  refine ⟨h.digs.append (digs_one hd), hc, by rw [hlen]; omega, ?_⟩
  have h2 := h.sum
  rw [hlen, dval_take_succ, dval_take_succ, dval_snoc, P16_succ]
  have e2 : P16 o.length * dat a o.length + P16 o.length * 65536 * c' = P16 o.length * d + P16 o.length * dat b o.length + P16 o.length * c := by
    rw [Nat.mul_assoc, ← Nat.mul_add, e, Nat.mul_add, Nat.mul_add]
  omega
theorem subInv_yes {a b o : List Nat} {c : Nat} (h : SubInv a b o c) (hlt : o.length < a.length) (_ : Digs a) (db : Digs b) (hl : dat a o.length < dat b o.length + c) : SubInv a b (o ++ [dat a o.length + 65536 - (dat b o.length + c)]) 1 := by
  have xb := dat_lt db o.length
  have hc := h.car
  exact subInv_put h hlt (by omega) (by omega) (by omega)
theorem subInv_no {a b o : List Nat} {c : Nat} (h : SubInv a b o c) (hlt : o.length < a.length) (da : Digs a) (_ : Digs b) (hl : ¬ dat a o.length < dat b o.length + c) : SubInv a b (o ++ [dat a o.length - (dat b o.length + c)]) 0 := by
  have xa := dat_lt da o.length
  exact subInv_put h hlt (by omega) (by omega) (by omega)
theorem dval_take_all {b : List Nat} {n : Nat} (h : dval b < P16 n) : dval (b.take n) = dval b := by
  by_cases hn : n ≤ b.length
  · have e := dval_split b n hn
    have h0 : dval (b.drop n) = 0 := by
      rcases Nat.eq_zero_or_pos (dval (b.drop n)) with h' | h'
      · exact h'
      · have : P16 n * 1 ≤ P16 n * dval (b.drop n) := Nat.mul_le_mul_left _ h'
        omega
    rw [h0] at e; omega
  · rw [List.take_of_length_le (by omega)]
theorem subInv_end {a b o : List Nat} {c : Nat} (h : SubInv a b o c) (da : Digs a) (he : o.length = a.length) (hle : dval b ≤ dval a) : dval o = dval a - dval b := by
  have h1 := dval_lt da
  have h2 := dval_lt h.digs
  have h3 := h.sum
  rw [he] at h2 h3
  rw [List.take_of_length_le (Nat.le_refl _), dval_take_all (by omega)] at h3
  have hc := h.car
  have : c = 0 ∨ c = 1 := by omega
  rcases this with rfl | rfl
  · omega
  · omega
def SubPostO (a b : List Nat) (w : World) (e : Ending) (w' : World) : Prop := ∃ v l, e = .returned v ∧ OwnD w' w.heap.size v l ∧ Digs l ∧ dval l = dval a - dval b ∧ l.length = a.length ∧ Below w.heap.size w w'
def SubPost (a b : List Nat) (w : World) (e : Ending) (w' : World) : Prop := ∃ v l, e = .returned v ∧ Dig w' v l ∧ Digs l ∧ dval l = dval a - dval b ∧ l.length = a.length ∧ Below w.heap.size w w'

set_option maxRecDepth 100000 in
set_option maxHeartbeats 4000000 in
theorem dSub_own (a b : List Nat) (va vb : Value) (w : World) (da : Digs a) (db : Digs b) (hva : Dig w va a) (hvb : Dig w vb b) (hla : a.length ≤ 1000) (hle : dval b ≤ dval a) :
    Calls Tryd.prog 41 #[va, vb] w (SubPostO a b w) := by
  obtain ⟨i, hi, hz, hs1, hby⟩ := w64Info
  have hma : (a.map VU).length = a.length := by simp
  go_enter Tryd.func41, Tryd.ntmps41
  go_wp2_with (first
    | ((with_reducible change wpList _ _ _ (Oper.mk (some 10) _ _ _ _ _ :: _) _ _); refine kBuildSlice0 _ _ rfl rfl Tryd.underlying35 i hi ?_; intro w1 hR1 hz1 hB1; clear hz1; have hO1 := own_empty (base := w.heap.size) (Nat.le_refl _) hR1; go_frame)
    | ((with_reducible change wpList _ _ _ (Oper.mk (some 12) _ _ _ _ _ :: _) _ _); refine kLenN _ _ _ _ _ a.length rfl rfl rfl (hva.below hB1) hma Tryd.underlying35 ?_; go_frame))
  clear hR1
  go_loopw [13, 6, 5] (fun j cv v wr => ∃ (o : List Nat) (c : Nat), j = .int .i64 (o.length : Int) ∧ cv = .int .u64 (c : Int) ∧ SubInv a b o c ∧ OwnD wr w.heap.size v o ∧ Below w.heap.size w wr) (fun j _ _ _ => 1002 - (intOf j).toNat)
  case atStart => exact ⟨[], 0, rfl, rfl, subInv_start a b, hO1, hB1⟩
  case round =>
    obtain ⟨o, c, rfl, rfl, hI, hO, hBr⟩ := hrel
    clear hO1 hB1
    have hszr := hBr.size
    have hcar := hI.car
    have hlen := hI.len
    have xa := dat_lt da o.length
    have xb := dat_lt db o.length
    have hmo : (o.map VU).length = o.length := by simp
    have hvar := hva.below hBr
    have hvbr := hvb.below hBr
    by_cases hlt : o.length < a.length
    · have hd : decide ((o.length : Int) < (a.length : Int)) = true := by simp; omega
      by_cases hless : dat a o.length < dat b o.length + c
      · skip
        have hdl : decide ((dat a o.length : Int) < (dat b o.length : Int) + (c : Int)) = true := by simp; omega
        have hI2 := Lib.hid (subInv_yes hI hlt da db hless)
        go_wp2_with (first
          | (go_at_call 45; refine (dAt_lit b vb o.length _ _ hvbr rfl).mono ?_; rintro e w4 ⟨rfl, rfl⟩; go_frame)
          | ((with_reducible change wpList _ _ _ (Oper.mk (some 23) _ _ _ _ _ :: _) _ _); refine kIndexAddrV _ _ _ _ _ _ _ _ o.length _ rfl rfl rfl hvar rfl Tryd.underlying35 info_w64 rfl (dig_at hlt) ?_; intro ba hba; unfold VU at hba; go_frame)
          | ((with_reducible change wpList _ _ _ (Oper.mk (some 24) _ _ _ _ _ :: _) _ _); refine kLoadCell _ _ _ _ _ rfl rfl rfl hba Tryd.underlying23 rfl ?_; go_frame)
          | ((with_reducible change wpList _ _ _ (Oper.mk (some 34) _ _ _ _ _ :: _) _ _); refine kBuildSlice1 _ _ _ (VU (dat a o.length + 65536 - (dat b o.length + c))) rfl rfl Tryd.underlying35 i _ hi hz hs1 (congrArg (Value.int IntKind.u64) (by omega)) rfl ?_; intro w5 hR5 hz5 hB5; clear hz5; have hs5 := hB5.size; go_frame)
          | ((with_reducible change wpList _ _ _ (Oper.mk (some 35) _ _ _ _ _ :: _) _ _); refine kAppend _ _ _ _ rfl rfl w.heap.size i _ Tryd.underlying35 hi hz hs1 rfl _ _ _ [VU (dat a o.length + 65536 - (dat b o.length + c))] rfl (ownsRow_below hO hB5) rfl (isVals_lit hR5) (vu_one [_]) (by unfold maxLen; rw [hmo]; simp; omega) (by rw [hby, hmo]; simp; omega) (by omega) ?_; intro v6 w6 hO6 hG6; have hB6 := (hBr.trans (hB5.mono hszr)).trans (below_grown (ownsRow_below hO hB5) hG6 (by omega)); clear hR5 hB5 hG6; go_frame))
        go_roundw
        case rel =>
          refine ⟨o ++ [dat a o.length + 65536 - (dat b o.length + c)], 1, by rw [List.length_append]; go_num, rfl, hI2.out, ?_, hB6⟩
          unfold OwnD
          rw [List.map_append (l₂ := [_])]
          exact hO6
        case measure => simp [intOf]; omega
      · skip
        have hdl : decide ((dat a o.length : Int) < (dat b o.length : Int) + (c : Int)) = false := by simp; omega
        have hI2 := Lib.hid (subInv_no hI hlt da db hless)
        go_wp2_with (first
          | (go_at_call 45; refine (dAt_lit b vb o.length _ _ hvbr rfl).mono ?_; rintro e w4 ⟨rfl, rfl⟩; go_frame)
          | ((with_reducible change wpList _ _ _ (Oper.mk (some 23) _ _ _ _ _ :: _) _ _); refine kIndexAddrV _ _ _ _ _ _ _ _ o.length _ rfl rfl rfl hvar rfl Tryd.underlying35 info_w64 rfl (dig_at hlt) ?_; intro ba hba; unfold VU at hba; go_frame)
          | ((with_reducible change wpList _ _ _ (Oper.mk (some 24) _ _ _ _ _ :: _) _ _); refine kLoadCell _ _ _ _ _ rfl rfl rfl hba Tryd.underlying23 rfl ?_; go_frame)
          | ((with_reducible change wpList _ _ _ (Oper.mk (some 34) _ _ _ _ _ :: _) _ _); refine kBuildSlice1 _ _ _ (VU (dat a o.length - (dat b o.length + c))) rfl rfl Tryd.underlying35 i _ hi hz hs1 (congrArg (Value.int IntKind.u64) (by omega)) rfl ?_; intro w5 hR5 hz5 hB5; clear hz5; have hs5 := hB5.size; go_frame)
          | ((with_reducible change wpList _ _ _ (Oper.mk (some 35) _ _ _ _ _ :: _) _ _); refine kAppend _ _ _ _ rfl rfl w.heap.size i _ Tryd.underlying35 hi hz hs1 rfl _ _ _ [VU (dat a o.length - (dat b o.length + c))] rfl (ownsRow_below hO hB5) rfl (isVals_lit hR5) (vu_one [_]) (by unfold maxLen; rw [hmo]; simp; omega) (by rw [hby, hmo]; simp; omega) (by omega) ?_; intro v6 w6 hO6 hG6; have hB6 := (hBr.trans (hB5.mono hszr)).trans (below_grown (ownsRow_below hO hB5) hG6 (by omega)); clear hR5 hB5 hG6; go_frame))
        go_roundw
        case rel =>
          refine ⟨o ++ [dat a o.length - (dat b o.length + c)], 0, by rw [List.length_append]; go_num, rfl, hI2.out, ?_, hB6⟩
          unfold OwnD
          rw [List.map_append (l₂ := [_])]
          exact hO6
        case measure => simp [intOf]; omega
    · have hd : decide ((o.length : Int) < (a.length : Int)) = false := by simp; omega
      have hP : SubPostO a b w (.returned u5) wr := ⟨_, o, rfl, hO, hI.digs, subInv_end hI da (by omega) hle, by omega, hBr⟩
      go_wp2
      go_ret
      exact hP
theorem dSub_any (a b : List Nat) (va vb : Value) (w : World) (da : Digs a) (db : Digs b) (hva : Dig w va a) (hvb : Dig w vb b) (hla : a.length ≤ 1000) (hle : dval b ≤ dval a) :
    Calls Tryd.prog 41 #[va, vb] w (SubPost a b w) :=
  (dSub_own a b va vb w da db hva hvb hla hle).mono fun _ _ ⟨v, l, h1, h2, h3⟩ => ⟨v, l, h1, h2.dig, h3⟩

/-! ### Wide -/
def wideTo (n k : Nat) : Array Value := tab 4 fun p => .int .u64 ((limb n p / P16 (k - 4 * p) : Nat) : Int)
theorem wideTo_16 (n : Nat) : wideTo n 16 = wcells 0 := by
  rw [wcells_zero]
  refine tab_congr fun p hp => ?_
  have h1 := limb_lt n p
  have h2 : P16 4 ≤ P16 (16 - 4 * p) := Nat.pow_le_pow_right (by decide) (by omega)
  have h3 : P16 4 = 18446744073709551616 := rfl
  rw [Nat.div_eq_of_lt (by omega)]; rfl
theorem wideTo_0 (n : Nat) : wideTo n 0 = wcells n := tab_congr fun p _ => by rw [Nat.zero_sub]; unfold P16; simp
theorem wideTo_size (n k : Nat) : (wideTo n k).size = 4 := tab_size ..
theorem wideTo_get (n k p : Nat) (h : p < 4) : (wideTo n k)[p]? = some (.int .u64 ((limb n p / P16 (k - 4 * p) : Nat) : Int)) := tab_get _ _ _ h
theorem wide_other (n m p : Nat) (h : p ≠ m / 4) : limb n p / P16 (m - 4 * p) = limb n p / P16 (m + 1 - 4 * p) := by
  by_cases hp : p < m / 4
  · have h1 := limb_lt n p
    have h2 : P16 4 ≤ P16 (m - 4 * p) := Nat.pow_le_pow_right (by decide) (by omega)
    have h2' : P16 4 ≤ P16 (m + 1 - 4 * p) := Nat.pow_le_pow_right (by decide) (by omega)
    have h3 : P16 4 = 18446744073709551616 := rfl
    rw [Nat.div_eq_of_lt (by omega), Nat.div_eq_of_lt (by omega)]
  · rw [show m - 4 * p = 0 by omega, show m + 1 - 4 * p = 0 by omega]
theorem wide_step (n m : Nat) : 65536 * (limb n (m / 4) / P16 (m + 1 - 4 * (m / 4))) + n / P16 m % 65536 = limb n (m / 4) / P16 (m - 4 * (m / 4)) := by
  have e1 : n / P16 m % 65536 = limb n (m / 4) / P16 (m - 4 * (m / 4)) % 65536 := by
    rw [digit_limb n (m / 4) (m - 4 * (m / 4)) (by omega), show 4 * (m / 4) + (m - 4 * (m / 4)) = m by omega]
  rw [e1, show m + 1 - 4 * (m / 4) = m - 4 * (m / 4) + 1 by omega, P16_succ, ← Nat.div_div_eq_div_mul]
  omega
theorem wideTo_set (l : List Nat) (dl : Digs l) (m : Nat) (v : Nat) (hv : v = 65536 * (limb (dval l) (m / 4) / P16 (m + 1 - 4 * (m / 4))) + dat l m) : (wideTo (dval l) (m + 1)).setIfInBounds (m / 4) (.int .u64 (v : Int)) = wideTo (dval l) m := tab_set fun p _ => by
  subst hv
  by_cases h : p = m / 4
  · subst h; rw [if_pos rfl, dat_num dl, wide_step]
  · rw [if_neg h, wide_other _ _ _ h]
theorem wideTo_skip (l : List Nat) (dl : Digs l) (m : Nat) (h : l.length ≤ m) : wideTo (dval l) (m + 1) = wideTo (dval l) m := tab_congr fun p _ => by
  by_cases hp : p = m / 4
  · have e := wide_step (dval l) m
    have h0 : dval l / P16 m = 0 := by rw [dval_div dl, List.drop_eq_nil_of_le h]; rfl
    have hx : limb (dval l) (m / 4) / P16 (m - 4 * (m / 4)) = 0 := by
      have h1 : limb (dval l) (m / 4) ≤ dval l / P64 (m / 4) := Nat.mod_le _ _
      have h2 : limb (dval l) (m / 4) / P16 (m - 4 * (m / 4)) ≤ dval l / P64 (m / 4) / P16 (m - 4 * (m / 4)) := Nat.div_le_div_right h1
      rw [Nat.div_div_eq_div_mul, P64_pow, show 64 * (m / 4) = 16 * (4 * (m / 4)) by omega, ← P16_pow, ← P16_add, show 4 * (m / 4) + (m - 4 * (m / 4)) = m by omega, h0] at h2
      omega
    subst hp
    rw [hx]
    rw [hx] at e
    congr 2
    omega
  · rw [wide_other _ _ _ hp]
set_option maxRecDepth 100000 in
set_option maxHeartbeats 4000000 in
theorem dWide_any (l : List Nat) (v : Value) (w : World) (dl : Digs l) (hv : Dig w v l) :
    Calls Tryd.prog 17 #[v] w fun e w' => e = .returned (WV (dval l)) ∧ Below w.heap.size w w' := by
  unfold WV
  obtain ⟨z, Hz⟩ : ∃ z, Hid (z = 0) := ⟨0, Lib.hid rfl⟩
  have hzW : ((Tryd.prog.info? 25).bind (·.zero)).map Value.cells = some (wcells z) := by rw [Hz.out]; exact zero_Wide
  have hml : (l.map VU).length = l.length := by simp
  go_enter Tryd.func17, Tryd.ntmps17
  go_wp2_with (first
    | ((with_reducible change wpList _ _ _ (Oper.mk (some 2) _ _ _ _ _ :: _) _ _); refine kAllocL _ _ rfl rfl hzW ?_; intro w1 hR1 hl1 hB1; go_frame)
    | ((with_reducible change wpList _ _ _ (Oper.mk (some 3) _ _ _ _ _ :: _) _ _); refine kAllocL _ _ rfl rfl hzW ?_; intro w2 hR2 hl2 hB2; go_frame)
    | ((with_reducible change wpList _ _ _ (Oper.mk none _ _ _ _ _ :: _) _ _); refine kStoreRow _ _ _ _ _ _ (wcells z) rfl rfl rfl (by rw [Hz.out, lit_zero]; rfl) hR2 (info_WideC _) (by simp only [wcells_size]) (wcells_one _) ?_; intro w3 hR3 hW3; go_frame))
  have hRm := hW3.row (hR1.below hB2 (by omega)) (by omega)
  have hB : Below w.heap.size w w3 := (hB1.trans (hB2.mono (by omega))).trans (hW3.below (by omega))
  have hl3 : w1.heap.size < w3.heap.size := hR3.lt
  have hv3 := hv.below hB
  clear hR1 hR2 hB1 hB2 hW3 hl2
  go_loopw [4] (fun i wr => ∃ k : Nat, k ≤ 16 ∧ i = .int .i64 ((k : Int) - 1) ∧ Row wr w1.heap.size 25 (wideTo (dval l) k) ∧ Below w1.heap.size w3 wr) (fun i _ => (intOf i + 1).toNat)
  case atStart => exact ⟨16, by omega, rfl, by rw [wideTo_16, ← Hz.out]; exact hR3, Below.refl _ _⟩
  case round =>
    obtain ⟨k, hk, rfl, hR, hBr⟩ := hrel
    have hBw : Below w.heap.size w wr := hB.trans (hBr.mono (by omega))
    have hvr := hv.below hBw
    by_cases h0 : k = 0
    · subst h0
      rw [wideTo_0] at hR
      have hRmr := hRm.below hBr (by omega)
      go_wp2_with (first
        | ((with_reducible change wpList _ _ _ (Oper.mk (some 27) _ _ _ _ _ :: _) _ _); refine kLoadRow _ _ _ _ _ _ rfl rfl rfl hR Tryd.underlying25 rfl (info_WideC _) ?_; go_frame)
        | ((with_reducible change wpList _ _ _ (Oper.mk none _ _ _ _ _ :: _) _ _); refine kStoreRow _ _ _ _ _ _ _ rfl rfl rfl rfl hRmr (info_WideC _) (by simp only [wcells_size]) (wcells_one _) ?_; intro w6 hR6 hW6; go_frame))
      exact result_row Tryd.results17 rfl hR6 Tryd.underlying25 rfl (info_WideC _) rfl ⟨rfl, hBw.trans (hW6.below (by omega))⟩
    · obtain ⟨m, rfl⟩ : ∃ m, k = m + 1 := ⟨k - 1, by omega⟩
      have hd : decide (((m + 1 : Nat) : Int) - 1 ≥ 0) = true := by simp
      by_cases hlt : m < l.length
      · have hdl : decide ((m : Int) < (l.length : Int)) = true := by simp; omega
        have hdl2 : decide (((m + 1 : Nat) : Int) - 1 < (l.length : Int)) = true := by simp; omega
        obtain ⟨ad, had, hrun⟩ := isVals_addr hvr (dig_at hlt)
        unfold VU at had
        have hx : limb (dval l) (m / 4) / P16 (m + 1 - 4 * (m / 4)) < 281474976710656 := by
          have h1 := limb_lt (dval l) (m / 4)
          have h2 : P16 1 ≤ P16 (m + 1 - 4 * (m / 4)) := Nat.pow_le_pow_right (by decide) (by omega)
          have h3 : P16 1 = 65536 := rfl
          exact Nat.div_lt_of_lt_mul (Nat.lt_of_lt_of_le h1 (by omega))
        have xd := dat_lt dl m
        have hget := wideTo_get (dval l) (m + 1) (m / 4) (by omega)
        generalize hxx : limb (dval l) (m / 4) / P16 (m + 1 - 4 * (m / 4)) = x at *
        have Hxx := Lib.hid hxx
        clear hxx
        go_wp2_with (first
          | ((with_reducible change wpList _ _ _ (Oper.mk (some 12) _ _ _ _ _ :: _) _ _); refine kLenN _ _ _ _ _ l.length rfl rfl rfl hvr hml Tryd.underlying35 ?_; go_frame))
        refine region_drew_tail 13 (by kernel_rfl) (by kernel_rfl) ?_
        simp only [List.take_succ_cons, List.take_zero, List.drop_succ_cons, List.drop_zero]
        repeat (first
          | ((with_reducible change wpQuiet _ _ _ _ (Oper.mk (some 18) _ _ _ _ _ :: _) _); refine qIndexAddr1 _ _ _ _ _ _ _ (m / 4) _ rfl rfl rfl rfl Tryd.underlying25 info_w64 (by omega) (by omega) ?_; go_frame)
          | ((with_reducible change wpQuiet _ _ _ _ (Oper.mk (some 19) _ _ _ _ _ :: _) _); refine qLoad1 _ _ _ _ _ _ _ _ rfl rfl rfl (fun _ ⟨_, e⟩ => by rw [e]; exact hR) Tryd.underlying23 rfl hget ?_; go_frame)
          | ((with_reducible change wpQuiet _ _ _ _ (Oper.mk (some 23) _ _ _ _ _ :: _) _); refine qIndexAddrB _ _ _ _ _ v _ m ad rfl rfl rfl rfl (by omega) Tryd.underlying35 info_w64 hrun ?_; go_frame)
          | ((with_reducible change wpQuiet _ _ _ _ (Oper.mk (some 24) _ _ _ _ _ :: _) _); refine qLoadB _ _ _ _ _ rfl rfl rfl (fun _ ⟨_, e⟩ => by rw [e]; exact had) Tryd.underlying23 rfl ?_; go_frame)
          | ((with_reducible change wpQuiet _ _ _ _ (Oper.mk (some 26) _ _ _ _ _ :: _) _); refine qIndexAddr1 _ _ _ _ _ _ _ (m / 4) _ rfl rfl rfl rfl Tryd.underlying25 info_w64 (by omega) (by omega) ?_; go_frame)
          | go_big_quiet_step (fail))
        refine wpQuiet_nil ?_
        rintro _ ⟨nq, rfl⟩
        refine kStore1 _ _ _ _ _ (m / 4) _ (.int .u64 ((65536 * x + dat l m : Nat) : Int)) rfl rfl rfl (congrArg (Value.int IntKind.u64) (by omega)) (hR.drewN nq) info_w64 (by rw [wideTo_size]; omega) rfl ?_
        intro w6 hR6 hW6
        rw [wideTo_set l dl m _ (by rw [Hxx.out])] at hR6
        have hB6 : Below w1.heap.size w3 w6 := hBr.trans ⟨hW6.os, hW6.tape, hW6.output, Nat.le_of_eq hW6.size.symm, fun k hk => hW6.other k (by omega)⟩
        clear had hrun hget
        go_wp2
        go_roundw
        case rel => exact ⟨m, by omega, by go_num, hR6, hB6⟩
        case measure => simp [intOf]
      · have hdl2 : decide (((m + 1 : Nat) : Int) - 1 < (l.length : Int)) = false := by simp; omega
        rw [wideTo_skip l dl m (by omega)] at hR
        go_wp2_with (first
          | ((with_reducible change wpList _ _ _ (Oper.mk (some 12) _ _ _ _ _ :: _) _ _); refine kLenN _ _ _ _ _ l.length rfl rfl rfl hvr hml Tryd.underlying35 ?_; go_frame))
        go_roundw
        case rel => exact ⟨m, by omega, by go_num, hR, hBr⟩
        case measure => simp [intOf]
end Go.Proofs.YtajpdmcbdekpbaaDoor
