/-
  Joined: WRef, WRef2, WRef3, WRef4.
-/
import Derived.Test.YtdeggdmoijfhdaaWAll
/-
  The reference of layer 2: numbers as digits to the base 65536; the walks of its Of, At and Power.
-/
namespace Go.Proofs.Ytdeggdmoijfhdaa
open Go Go.RowKit

/-! ### plain -/
/-- a digit as a value -/
def VU (n : Nat) : Value := .int .u64 (n : Int)
/-- the number of these digits, the lowest first -/
def dval : List Nat → Nat
  | [] => 0
  | x :: l => x + 65536 * dval l
/-- all are digits -/
def Digs (l : List Nat) : Prop := ∀ x ∈ l, x < 65536
/-- 65536 to the power of k -/
def P16 (k : Nat) : Nat := 65536 ^ k
theorem P16_pos (k : Nat) : 0 < P16 k := Nat.pow_pos (by decide)
theorem P16_succ (k : Nat) : P16 (k + 1) = P16 k * 65536 := Nat.pow_succ ..
theorem P16_pow (k : Nat) : P16 k = 2 ^ (16 * k) := by unfold P16; rw [Nat.pow_mul]
theorem P16_add (j k : Nat) : P16 (j + k) = P16 j * P16 k := by unfold P16; rw [Nat.pow_add]
theorem dval_append (l m : List Nat) : dval (l ++ m) = dval l + P16 l.length * dval m := by
  induction l with
  | nil => simp [dval, P16]
  | cons x l ih =>
    show x + 65536 * dval (l ++ m) = x + 65536 * dval l + P16 (l.length + 1) * dval m
    rw [ih, P16_succ, Nat.mul_add, Nat.mul_comm (P16 l.length) 65536, Nat.mul_assoc]; omega
theorem dval_one (x : Nat) : dval [x] = x := by simp [dval]
theorem dval_snoc (l : List Nat) (x : Nat) : dval (l ++ [x]) = dval l + P16 l.length * x := by rw [dval_append, dval_one]
theorem dval_lt {l : List Nat} (h : Digs l) : dval l < P16 l.length := by
  induction l with
  | nil => simp [dval, P16]
  | cons x l ih =>
    have h1 := h x (by simp)
    have h2 := ih (fun y hy => h y (by simp [hy]))
    show x + 65536 * dval l < P16 (l.length + 1)
    rw [P16_succ]; omega
theorem Digs.append {l m : List Nat} (h : Digs l) (h2 : Digs m) : Digs (l ++ m) := fun x hx => by
  rcases List.mem_append.1 hx with h' | h'
  · exact h x h'
  · exact h2 x h'
theorem digs_one {x : Nat} (h : x < 65536) : Digs [x] := fun y hy => by simp at hy; omega
theorem Digs.drop {l : List Nat} (h : Digs l) (k : Nat) : Digs (l.drop k) := fun x hx => h x (List.mem_of_mem_drop hx)
theorem Digs.take {l : List Nat} (h : Digs l) (k : Nat) : Digs (l.take k) := fun x hx => h x (List.mem_of_mem_take hx)
/-- the k-th digit, nought behind the last -/
def dat (l : List Nat) (k : Nat) : Nat := l.getD k 0
theorem dat_lt {l : List Nat} (h : Digs l) (k : Nat) : dat l k < 65536 := by
  unfold dat
  by_cases hk : k < l.length
  · simp [hk]; exact h _ (List.getElem_mem hk)
  · simp [Nat.le_of_not_lt hk]
theorem dat_at {l : List Nat} {k : Nat} (h : k < l.length) : l[k]? = some (dat l k) := by simp [dat, h]
theorem dat_big {l : List Nat} {k : Nat} (h : l.length ≤ k) : dat l k = 0 := by simp [dat, h]
theorem dval_drop (l : List Nat) (k : Nat) : dval (l.drop k) = dat l k + 65536 * dval (l.drop (k + 1)) := by
  by_cases h : k < l.length
  · rw [List.drop_eq_getElem_cons h]; simp [dval, dat, h]
  · rw [List.drop_eq_nil_of_le (by omega), List.drop_eq_nil_of_le (by omega), dat_big (by omega)]; rfl
theorem dval_split (l : List Nat) (k : Nat) (h : k ≤ l.length) : dval l = dval (l.take k) + P16 k * dval (l.drop k) := by
  conv => lhs; rw [← List.take_append_drop k l]
  rw [dval_append, List.length_take, Nat.min_eq_left h]
theorem dval_take_succ (l : List Nat) (k : Nat) : dval (l.take (k + 1)) = dval (l.take k) + P16 k * dat l k := by
  by_cases h : k < l.length
  · rw [List.take_succ_eq_append_getElem h, dval_snoc, List.length_take, Nat.min_eq_left (by omega)]; simp [dat, h]
  · rw [List.take_of_length_le (by omega), List.take_of_length_le (by omega), dat_big (by omega)]; simp
theorem dval_div {l : List Nat} (h : Digs l) (k : Nat) : dval l / P16 k = dval (l.drop k) := by
  by_cases hk : k ≤ l.length
  · rw [dval_split l k hk]
    have := dval_lt (h.take k)
    rw [List.length_take, Nat.min_eq_left hk] at this
    rw [Nat.add_mul_div_left _ _ (P16_pos k), Nat.div_eq_of_lt this, Nat.zero_add]
  · rw [List.drop_eq_nil_of_le (by omega)]
    have h1 := dval_lt h
    have h2 : P16 l.length ≤ P16 k := Nat.pow_le_pow_right (by decide) (by omega)
    exact Nat.div_eq_of_lt (by omega)
theorem dat_num {l : List Nat} (h : Digs l) (k : Nat) : dat l k = dval l / P16 k % 65536 := by
  rw [dval_div h, dval_drop l k]
  have := dat_lt h k
  omega
/-- sixteen digits of a number -/
def digsOf (a n : Nat) : List Nat := (List.range n).map fun i => a / P16 i % 65536
theorem digsOf_len (a n : Nat) : (digsOf a n).length = n := by simp [digsOf]
theorem digsOf_digs (a n : Nat) : Digs (digsOf a n) := fun x hx => by
  simp [digsOf] at hx; obtain ⟨i, -, rfl⟩ := hx; exact Nat.mod_lt _ (by decide)
theorem digsOf_succ (a n : Nat) : digsOf a (n + 1) = digsOf a n ++ [a / P16 n % 65536] := by simp [digsOf, List.range_succ]
theorem digsOf_val (a : Nat) : ∀ n, dval (digsOf a n) = a % P16 n
  | 0 => by simp [digsOf, dval, P16, Nat.mod_one]
  | n + 1 => by rw [digsOf_succ, dval_snoc, digsOf_val a n, digsOf_len, P16_succ, Nat.mod_mul]
theorem digsOf_16 (a : Nat) (h : a < M256) : dval (digsOf a 16) = a := by
  rw [digsOf_val, Nat.mod_eq_of_lt]; rw [P16_pow]; exact h
theorem digit_limb (a i k : Nat) (hk : k < 4) : limb a i / P16 k % 65536 = a / P16 (4 * i + k) % 65536 := by
  unfold limb
  have e1 : (18446744073709551616 : Nat) = P16 k * P16 (4 - k) := by rw [← P16_add, show k + (4 - k) = 4 by omega]; rfl
  have e2 : (65536 : Nat) ∣ P16 (4 - k) := by
    obtain ⟨m, hm⟩ : ∃ m, 4 - k = m + 1 := ⟨3 - k, by omega⟩
    rw [hm, P16_succ]; exact Nat.dvd_mul_left _ _
  rw [e1, Nat.mod_mul_right_div_self, Nat.mod_mod_of_dvd _ e2, P16_add, P64_pow, show (64 * i) = 16 * (4 * i) by omega, ← P16_pow, Nat.div_div_eq_div_mul]

/-- the value reads as these digits -/
def Dig (w : World) (v : Value) (l : List Nat) : Prop := IsVals w v (l.map VU)
theorem Dig.below {w w' : World} {v : Value} {l : List Nat} (h : Dig w v l) (hb : Below w.heap.size w w') : Dig w' v l := IsVals.below h hb
theorem vu_one (l : List Nat) : ∀ u ∈ l.map VU, u.oneCell' = true := fun u hu => by
  simp at hu; obtain ⟨x, -, rfl⟩ := hu; rfl
theorem dig_at {l : List Nat} {k : Nat} (h : k < l.length) : (l.map VU)[k]? = some (VU (dat l k)) := by rw [List.getElem?_map, dat_at h]; rfl
/-- a slice of the call's own that holds these digits -/
def OwnD (w : World) (base : Nat) (v : Value) (l : List Nat) : Prop := w.ownsRow base 22 1 v (l.map VU).length (l.map VU)
theorem OwnD.dig {w : World} {base : Nat} {v : Value} {l : List Nat} (h : OwnD w base v l) : Dig w v l := isVals_own h
/-- a number of the reference's, as it comes back from a call -/
def DigPost (w : World) (l : List Nat) (e : Ending) (w' : World) : Prop := ∃ v, e = .returned v ∧ Dig w' v l ∧ Below w.heap.size w w'

theorem w64Info0 : (Try.prog.info? 22).map (fun i => (i.zero, i.size, i.bytes)) = some (some (.int .u64 0), 1, 8) := by kernel_rfl
theorem w64Info : ∃ i, Try.prog.info? 22 = some i ∧ i.zero = some (.int .u64 0) ∧ i.size = 1 ∧ i.bytes = 8 := by
  have h := w64Info0
  cases hq : Try.prog.info? 22 with
  | none => rw [hq] at h; cases h
  | some i => rw [hq] at h; simp at h; exact ⟨i, rfl, h.1, h.2.1, h.2.2⟩

set_option maxRecDepth 100000 in
set_option maxHeartbeats 1000000 in
theorem dAt_any (l : List Nat) (v : Value) (k : Nat) (w : World) (hv : Dig w v l) :
    Calls Try.prog 52 #[v, .int .i64 (k : Int)] w fun e w' => e = .returned (VU (dat l k)) ∧ w = w' := by
  have hlen : (l.map VU).length = l.length := by simp
  by_cases h : k < l.length
  · have hd : decide ((k : Int) < (l.length : Int)) = true := by simp; omega
    go_enter Try.func52, Try.ntmps52
    go_wp2_with (first
      | ((with_reducible change wpList _ _ _ (Oper.mk (some 7) _ _ _ _ _ :: _) _ _); refine kLenN _ _ _ _ _ l.length rfl rfl rfl hv hlen Try.underlying35 ?_; go_frame)
      | ((with_reducible change wpList _ _ _ (Oper.mk (some 11) _ _ _ _ _ :: _) _ _); refine kIndexAddrV _ _ _ _ _ _ _ _ k _ rfl rfl rfl hv rfl Try.underlying35 info_w64 rfl (dig_at h) ?_; intro b hb; go_frame)
      | ((with_reducible change wpList _ _ _ (Oper.mk (some 12) _ _ _ _ _ :: _) _ _); refine kLoadCell _ _ _ _ _ rfl rfl rfl hb Try.underlying22 rfl ?_; go_frame))
    go_ret
    exact ⟨rfl, rfl⟩
  · have hd : decide ((k : Int) < (l.length : Int)) = false := by simp; omega
    have hz : dat l k = 0 := dat_big (by omega)
    rw [hz]
    go_enter Try.func52, Try.ntmps52
    go_wp2_with (first
      | ((with_reducible change wpList _ _ _ (Oper.mk (some 7) _ _ _ _ _ :: _) _ _); refine kLenN _ _ _ _ _ l.length rfl rfl rfl hv hlen Try.underlying35 ?_; go_frame))
    go_ret
    exact ⟨rfl, rfl⟩

set_option maxRecDepth 100000 in
set_option maxHeartbeats 2000000 in
theorem dOf_own (a : Nat) (w : World) : Calls Try.prog 20 #[WV a] w fun e w' => ∃ v, e = .returned v ∧ OwnD w' w.heap.size v (digsOf a 16) ∧ Below w.heap.size w w' := by
  obtain ⟨i, hi, hz, hs1, hby⟩ := w64Info
  unfold WV
  go_enter Try.func20, Try.ntmps20
  go_wp2_with (first
    | ((with_reducible change wpList _ _ _ (Oper.mk (some 1) _ _ _ _ _ :: _) _ _); refine kBoxL _ _ _ rfl rfl rfl ?_; intro w1 hR1 hl1 hB1; go_frame)
    | ((with_reducible change wpList _ _ _ (Oper.mk (some 7) _ _ _ _ _ :: _) _ _); refine kBuildSlice0 _ _ rfl rfl Try.underlying35 i hi ?_; intro w2 hR2 hz2 hB2; clear hz2; have hO2 := own_empty (base := w.heap.size) (Nat.le_of_lt hl1) hR2; go_frame)
    | ((with_reducible change wpList _ _ _ (Oper.mk (some 8) _ _ _ _ _ :: _) _ _); refine kLoadRow _ _ _ _ _ _ rfl rfl rfl (hR1.below hB2 hl1) Try.underlying24 rfl (info_WideC _) ?_; go_frame))
  have hB : Below w.heap.size w w2 := hB1.trans (hB2.mono (by omega))
  clear hR1 hR2 hB1 hB2
  go_loopw [9, 3] (fun j v wr => ∃ n : Nat, n ≤ 4 ∧ j = .int .i64 (n : Int) ∧ OwnD wr w.heap.size v (digsOf a (4 * n)) ∧ Below w.heap.size w wr) (fun j _ _ => 4 - (intOf j).toNat)
  case atStart => exact ⟨0, by omega, rfl, hO2, hB⟩
  case round =>
    obtain ⟨n, hn, rfl, hO, hBr⟩ := hrel
    clear hO2 hB
    by_cases hlt : n < 4
    · have hd : decide ((n : Int) < 4) = true := by simp; omega
      go_wp2_with (first
        | ((with_reducible change wpList _ _ _ (Oper.mk (some 11) _ _ _ _ _ :: _) _ _); refine kIndex _ _ _ _ _ _ _ n _ _ _ rfl rfl rfl rfl Try.underlying24 Try.underlying22 rfl info_w64 rfl hlt (wcells_get a n hlt) ?_))
      go_loopw [6, 5, 3] (fun j x v wq => ∃ k : Nat, k ≤ 4 ∧ j = .int .i64 (k : Int) ∧ x = .int .u64 ((limb a n / P16 k : Nat) : Int) ∧ OwnD wq w.heap.size v (digsOf a (4 * n + k)) ∧ Below w.heap.size w wq) (fun j _ _ _ => 4 - (intOf j).toNat)
      case atStart => exact ⟨0, by omega, rfl, by simp [P16], hO, hBr⟩
      case round =>
        obtain ⟨k, hk, rfl, rfl, hOq, hBq⟩ := hrel
        clear hO hBr
        have hszq := hBq.size
        by_cases hltk : k < 4
        · have hdk : decide ((k : Int) < 4) = true := by simp; omega
          have hlq : ((digsOf a (4 * n + k)).map VU).length = 4 * n + k := by rw [List.length_map, digsOf_len]
          have hx : limb a n / P16 k < 18446744073709551616 := Nat.lt_of_le_of_lt (Nat.div_le_self _ _) (limb_lt _ _)
          have Hd := Lib.hid (digit_limb a n k hltk)
          have Hs := Lib.hid (show limb a n / P16 k / 65536 = limb a n / P16 (k + 1) by rw [P16_succ, Nat.div_div_eq_div_mul])
          generalize limb a n / P16 k = x at *
          go_wp2_with (first
            | ((with_reducible change wpList _ _ _ (Oper.mk (some 19) _ _ _ _ _ :: _) _ _); refine kBuildSlice1 _ _ _ (VU (a / P16 (4 * n + k) % 65536)) rfl rfl Try.underlying35 i _ hi hz hs1 (congrArg (Value.int IntKind.u64) (by rw [← Hd.out]; omega)) rfl ?_; intro w5 hR5 hz5 hB5; clear hz5; go_frame)
            | ((with_reducible change wpList _ _ _ (Oper.mk (some 20) _ _ _ _ _ :: _) _ _); refine kAppend _ _ _ _ rfl rfl w.heap.size i _ Try.underlying35 hi hz hs1 rfl _ _ _ [VU (a / P16 (4 * n + k) % 65536)] rfl (ownsRow_below hOq hB5) rfl (isVals_lit hR5) (vu_one [_]) (by unfold maxLen; rw [hlq]; simp; omega) (by rw [hby, hlq]; simp; omega) (by have := hB5.size; omega) ?_; intro v6 w6 hO6 hG6; have hB6 := (hBq.trans (hB5.mono hszq)).trans (below_grown (ownsRow_below hOq hB5) hG6 (by have := hB5.size; omega)); clear hR5 hB5 hG6; go_frame))
          go_roundw
          case rel =>
            refine ⟨k + 1, by omega, by go_num, ?_, ?_, hB6⟩
            · rw [← Hs.out]; congr 1
            · rw [show 4 * n + (k + 1) = 4 * n + k + 1 by omega, digsOf_succ]
              unfold OwnD
              rw [List.map_append (l₂ := [_])]
              exact hO6
          case measure => simp [intOf]; omega
        · obtain rfl : k = 4 := by omega
          go_wp2
          go_roundw
          case rel => exact ⟨n + 1, by omega, by go_num, by rw [show 4 * (n + 1) = 4 * n + 4 by omega]; exact hOq, hBq⟩
          case measure => simp [intOf]; omega
    · obtain rfl : n = 4 := by omega
      go_wp2
      go_ret
      exact ⟨_, rfl, hO, hBr⟩
theorem dOf_any (a : Nat) (w : World) : Calls Try.prog 20 #[WV a] w (DigPost w (digsOf a 16)) :=
  (dOf_own a w).mono fun _ _ ⟨v, h1, h2, h3⟩ => ⟨v, h1, h2.dig, h3⟩
end Go.Proofs.Ytdeggdmoijfhdaa

/-
  The walks of the reference's Power, Compare and Add.
-/
namespace Go.Proofs.Ytdeggdmoijfhdaa
open Go Go.RowKit

/-! ### Power -/
def powL (n : Nat) : List Nat := List.replicate (n / 16) 0 ++ [2 ^ (n % 16)]
theorem dval_zeros (n : Nat) : dval (List.replicate n 0) = 0 := by
  induction n with
  | zero => rfl
  | succ n ih => show 0 + 65536 * dval (List.replicate n 0) = 0; rw [ih]
theorem powL_val (n : Nat) : dval (powL n) = 2 ^ n := by
  unfold powL
  rw [dval_snoc, dval_zeros, List.length_replicate, Nat.zero_add, P16_pow, ← Nat.pow_add, Nat.div_add_mod]
theorem powL_len (n : Nat) : (powL n).length = n / 16 + 1 := by simp [powL]
theorem powL_digs (n : Nat) : Digs (powL n) := fun x hx => by
  unfold powL at hx
  rcases List.mem_append.1 hx with h | h
  · rw [List.mem_replicate] at h; omega
  · simp at h; subst h
    have : (2 : Nat) ^ (n % 16) < 2 ^ 16 := Nat.pow_lt_pow_right (by decide) (Nat.mod_lt _ (by decide))
    omega
theorem powL_cells (n : Nat) : (Array.replicate (n / 16 + 1) (Value.int .u64 0)).setIfInBounds (n / 16) (VU (2 ^ (n % 16))) = ((powL n).map VU).toArray := by
  apply Array.ext_getElem?
  intro j
  rw [Array.getElem?_setIfInBounds, show (((powL n).map VU).toArray)[j]? = ((powL n).map VU)[j]? by simp, List.getElem?_map]
  unfold powL
  by_cases h : n / 16 = j
  · subst h; simp
  · rw [if_neg h]
    by_cases h2 : j < n / 16
    · rw [List.getElem?_append_left (by simpa using h2), Array.getElem?_replicate, if_pos (by omega), List.getElem?_replicate, if_pos h2]; rfl
    · rw [Array.getElem?_eq_none (by simp; omega), List.getElem?_eq_none (by simp; omega)]; rfl

set_option maxRecDepth 100000 in
set_option maxHeartbeats 1000000 in
theorem dPower_any (n : Nat) (hn : n ≤ 1000) (w : World) : Calls Try.prog 42 #[.int .i64 (n : Int)] w (DigPost w (powL n)) := by
  obtain ⟨i, hi, hz, hs1, hby⟩ := w64Info
  go_enter Try.func42, Try.ntmps42
  go_wp2_with (first
    | ((with_reducible change wpList _ _ _ (Oper.mk (some 7) _ _ _ _ _ :: _) _ _); refine kMake _ _ _ _ rfl rfl i _ Try.underlying35 hi hz hs1 (.int .u64 0) rfl _ _ _ _ (n / 16 + 1) (n / 16 + 1) rfl rfl (by omega) (by omega) (by omega) (by rw [hby]; omega) (by omega) ?_; intro w1 hR1 hz1 hB1; clear hz1; go_frame)
    | ((with_reducible change wpList _ _ _ (Oper.mk (some 15) _ _ _ _ _ :: _) _ _); refine kIndexAddrS _ _ _ _ _ w.heap.size 0 (n / 16 + 1) (n / 16 + 1) _ (n / 16) rfl rfl rfl rfl Try.underlying35 info_w64 (by omega) (by omega) ?_; go_frame)
    | ((with_reducible change wpList _ _ _ (Oper.mk none _ _ _ _ _ :: _) _ _); refine kStore1 _ _ _ _ _ (n / 16) _ (VU (2 ^ (n % 16))) rfl rfl (by simp [Act.eval]) (congrArg (Value.int IntKind.u64) (pow_wrap (n % 16) (by omega))) hR1 info_w64 (by simp) rfl ?_; intro w2 hR2 hW2; rw [powL_cells] at hR2; go_frame))
  go_ret
  have hv := isVals_lit hR2
  rw [List.length_map, powL_len] at hv
  exact ⟨_, rfl, hv, hB1.trans (hW2.below (Nat.le_refl _))⟩

/-! ### Compare -/
def cmpI (x y : Nat) : Int := if x < y then -1 else if y < x then 1 else 0
theorem cmp_less {a b : List Nat} (ha : Digs a) (hb : Digs b) (k : Nat) (he : dval (a.drop (k + 1)) = dval (b.drop (k + 1))) (h : dat a k < dat b k) : cmpI (dval a) (dval b) = -1 := by
  have h1 : dval a / P16 k < dval b / P16 k := by rw [dval_div ha, dval_div hb, dval_drop a k, dval_drop b k, he]; omega
  have : dval a < dval b := by
    rcases Nat.lt_or_ge (dval a) (dval b) with h' | h'
    · exact h'
    · have := Nat.div_le_div_right (c := P16 k) h'; omega
  unfold cmpI; rw [if_pos this]
theorem cmp_more {a b : List Nat} (ha : Digs a) (hb : Digs b) (k : Nat) (he : dval (a.drop (k + 1)) = dval (b.drop (k + 1))) (h : dat b k < dat a k) : cmpI (dval a) (dval b) = 1 := by
  have h1 : dval b / P16 k < dval a / P16 k := by rw [dval_div ha, dval_div hb, dval_drop a k, dval_drop b k, he]; omega
  have : dval b < dval a := by
    rcases Nat.lt_or_ge (dval b) (dval a) with h' | h'
    · exact h'
    · have := Nat.div_le_div_right (c := P16 k) h'; omega
  unfold cmpI; rw [if_neg (by omega), if_pos this]
theorem cmp_same {x y : Nat} (h : x = y) : cmpI x y = 0 := by unfold cmpI; rw [if_neg (by omega), if_neg (by omega)]
theorem dAt_lit (l : List Nat) (v : Value) (k : Nat) (z : Int) (w : World) (hv : Dig w v l) (hz : z = (k : Int)) :
    Calls Try.prog 52 #[v, .int .i64 z] w fun e w' => e = .returned (.int .u64 (dat l k : Int)) ∧ w = w' := by
  subst hz; exact dAt_any l v k w hv

set_option maxRecDepth 100000 in
set_option maxHeartbeats 2000000 in
theorem dCompare_any (a b : List Nat) (va vb : Value) (w : World) (da : Digs a) (db : Digs b) (hva : Dig w va a) (hvb : Dig w vb b) (hla : a.length ≤ 1000) (hlb : b.length ≤ 1000) :
    Calls Try.prog 37 #[va, vb] w fun e w' => e = .returned (.int .i64 (cmpI (dval a) (dval b))) ∧ w = w' := by
  have hma : (a.map VU).length = a.length := by simp
  have hmb : (b.map VU).length = b.length := by simp
  obtain ⟨M, hM⟩ : ∃ M, M = max a.length b.length := ⟨_, rfl⟩
  have hmx : (if (b.length : Int) > (a.length : Int) then (b.length : Int) else (a.length : Int)) = (M : Int) := by split <;> omega
  have hML : M ≤ 1000 := by omega
  have HM := Lib.hid hM
  clear hM
  go_enter Try.func37, Try.ntmps37
  go_wp2_with (first
    | ((with_reducible change wpList _ _ _ (Oper.mk (some 7) _ _ _ _ _ :: _) _ _); refine kLenN _ _ _ _ _ a.length rfl rfl rfl hva hma Try.underlying35 ?_; go_frame)
    | ((with_reducible change wpList _ _ _ (Oper.mk (some 9) _ _ _ _ _ :: _) _ _); refine kLenN _ _ _ _ _ b.length rfl rfl rfl hvb hmb Try.underlying35 ?_; go_frame)
    | ((with_reducible change wpList _ _ _ (Oper.mk (some 10) _ _ _ _ _ :: _) _ _); refine kMax2 _ _ _ _ _ _ _ _ rfl rfl rfl rfl hmx ?_; go_frame))
  go_loopw [5] (fun i wr => ∃ k : Nat, k ≤ M ∧ i = .int .i64 ((k : Int) - 1) ∧ Hid (dval (a.drop k) = dval (b.drop k)) ∧ wr = w) (fun i _ => (intOf i + 1).toNat)
  case atStart => exact ⟨M, by omega, by go_num, Lib.hid (by have := HM.out; rw [List.drop_eq_nil_of_le (by omega), List.drop_eq_nil_of_le (by omega)]), rfl⟩
  case round =>
    obtain ⟨k, hk, rfl, Hk, rfl⟩ := hrel
    by_cases h0 : k = 0
    · subst h0
      have Hc := Lib.hid (cmp_same (by have h := Hk.out; simpa using h : dval a = dval b))
      go_wp2
      go_ret
      exact ⟨by rw [Hc.out]; rfl, rfl⟩
    · obtain ⟨m, rfl⟩ : ∃ m, k = m + 1 := ⟨k - 1, by omega⟩
      have hd : decide (((m + 1 : Nat) : Int) - 1 ≥ 0) = true := by simp
      have xa := dat_lt da m
      have xb := dat_lt db m
      by_cases h1 : dat a m < dat b m
      · have hd1 : decide (dat a m < dat b m) = true := by simpa using h1
        have Hc := Lib.hid (cmp_less da db m Hk.out h1)
        clear h1
        go_wp2_with (first
          | (go_at_call 52; (with_reducible change Calls _ _ #[va, _] _ _); refine (dAt_lit a va m _ _ hva (by omega)).mono ?_; rintro e w1 ⟨rfl, rfl⟩; go_frame)
          | (go_at_call 52; (with_reducible change Calls _ _ #[vb, _] _ _); refine (dAt_lit b vb m _ _ hvb (by omega)).mono ?_; rintro e w1 ⟨rfl, rfl⟩; go_frame))
        go_ret
        exact ⟨by rw [Hc.out]; rfl, rfl⟩
      · have hd1 : decide (dat a m < dat b m) = false := by simpa using h1
        by_cases h2 : dat b m < dat a m
        · have hd2 : decide (dat b m < dat a m) = true := by simpa using h2
          have Hc := Lib.hid (cmp_more da db m Hk.out h2)
          clear h1 h2
          go_wp2_with (first
            | (go_at_call 52; (with_reducible change Calls _ _ #[va, _] _ _); refine (dAt_lit a va m _ _ hva (by omega)).mono ?_; rintro e w1 ⟨rfl, rfl⟩; go_frame)
            | (go_at_call 52; (with_reducible change Calls _ _ #[vb, _] _ _); refine (dAt_lit b vb m _ _ hvb (by omega)).mono ?_; rintro e w1 ⟨rfl, rfl⟩; go_frame))
          go_ret
          exact ⟨by rw [Hc.out]; rfl, rfl⟩
        · have hd2 : decide (dat b m < dat a m) = false := by simpa using h2
          have Hn := Lib.hid (show dval (a.drop m) = dval (b.drop m) by rw [dval_drop a m, dval_drop b m, Hk.out, show dat a m = dat b m by omega])
          clear h1 h2
          go_wp2_with (first
            | (go_at_call 52; (with_reducible change Calls _ _ #[va, _] _ _); refine (dAt_lit a va m _ _ hva (by omega)).mono ?_; rintro e w1 ⟨rfl, rfl⟩; go_frame)
            | (go_at_call 52; (with_reducible change Calls _ _ #[vb, _] _ _); refine (dAt_lit b vb m _ _ hvb (by omega)).mono ?_; rintro e w1 ⟨rfl, rfl⟩; go_frame))
          go_roundw
          case rel => exact ⟨m, by omega, by go_num, Hn, trivial⟩
          case measure => simp [intOf]

/-! ### Add -/
structure AddInv (a b o : List Nat) (c : Nat) : Prop where
  digs : Digs o
  car : c ≤ 1
  len : o.length ≤ max a.length b.length ∨ (o.length = max a.length b.length + 1 ∧ c = 0)
  sum : dval o + P16 o.length * (c + dval (a.drop o.length) + dval (b.drop o.length)) = dval a + dval b
theorem addInv_start (a b : List Nat) : AddInv a b [] 0 := ⟨fun x hx => by simp at hx, by omega, by left; simp, by simp [dval, P16]⟩
theorem addInv_step {a b o : List Nat} {c : Nat} (da : Digs a) (db : Digs b) (h : AddInv a b o c) (hc : o.length < max a.length b.length ∨ 0 < c) : AddInv a b (o ++ [(c + dat a o.length + dat b o.length) % 65536]) ((c + dat a o.length + dat b o.length) / 65536) := by
  have xa := dat_lt da o.length
  have xb := dat_lt db o.length
  have hcar := h.car
  have hlen : (o ++ [(c + dat a o.length + dat b o.length) % 65536]).length = o.length + 1 := by simp
  refine ⟨h.digs.append (digs_one (Nat.mod_lt _ (by decide))), by omega, ?_, ?_⟩
  · rw [hlen]
    rcases h.len with h1 | h1
    · by_cases h2 : o.length < max a.length b.length
      · left; omega
      · right
        refine ⟨by omega, ?_⟩
        rw [dat_big (by omega), dat_big (by omega)]; omega
    · omega
  · rw [hlen, dval_snoc, ← h.sum, dval_drop a o.length, dval_drop b o.length, P16_succ]
    generalize dval (a.drop (o.length + 1)) = x; generalize dval (b.drop (o.length + 1)) = y
    generalize dat a o.length = p at *; generalize dat b o.length = q at *; generalize P16 o.length = P
    have e : c + (p + 65536 * x) + (q + 65536 * y) = (c + p + q) % 65536 + 65536 * ((c + p + q) / 65536 + x + y) := by omega
    rw [e, Nat.mul_add P, ← Nat.mul_assoc P]
    omega
theorem addInv_end {a b o : List Nat} {c : Nat} (h : AddInv a b o c) (hc : max a.length b.length ≤ o.length) (h0 : c = 0) : dval o = dval a + dval b := by
  have := h.sum
  rw [List.drop_eq_nil_of_le (by omega), List.drop_eq_nil_of_le (by omega), h0] at this
  simpa [dval] using this
def DAddPostO (a b : List Nat) (w : World) (e : Ending) (w' : World) : Prop := ∃ v l, e = .returned v ∧ OwnD w' w.heap.size v l ∧ Digs l ∧ dval l = dval a + dval b ∧ l.length ≤ max a.length b.length + 1 ∧ Below w.heap.size w w'
def DAddPost (a b : List Nat) (w : World) (e : Ending) (w' : World) : Prop := ∃ v l, e = .returned v ∧ Dig w' v l ∧ Digs l ∧ dval l = dval a + dval b ∧ l.length ≤ max a.length b.length + 1 ∧ Below w.heap.size w w'

set_option maxRecDepth 100000 in
set_option maxHeartbeats 4000000 in
theorem dAdd_own (a b : List Nat) (va vb : Value) (w : World) (da : Digs a) (db : Digs b) (hva : Dig w va a) (hvb : Dig w vb b) (hla : a.length ≤ 1000) (hlb : b.length ≤ 1000) :
    Calls Try.prog 43 #[va, vb] w (DAddPostO a b w) := by
  obtain ⟨i, hi, hz, hs1, hby⟩ := w64Info
  have hma : (a.map VU).length = a.length := by simp
  have hmb : (b.map VU).length = b.length := by simp
  go_enter Try.func43, Try.ntmps43
  go_wp2_with (first
    | ((with_reducible change wpList _ _ _ (Oper.mk (some 8) _ _ _ _ _ :: _) _ _); refine kBuildSlice0 _ _ rfl rfl Try.underlying35 i hi ?_; intro w1 hR1 hz1 hB1; clear hz1; have hO1 := own_empty (base := w.heap.size) (Nat.le_refl _) hR1; go_frame))
  clear hR1
  go_loopw [7, 6, 5] (fun j cv v wr => ∃ (o : List Nat) (c : Nat), j = .int .i64 (o.length : Int) ∧ cv = .int .u64 (c : Int) ∧ AddInv a b o c ∧ OwnD wr w.heap.size v o ∧ Below w.heap.size w wr) (fun j _ _ _ => 1002 - (intOf j).toNat)
  case atStart => exact ⟨[], 0, rfl, rfl, addInv_start a b, hO1, hB1⟩
  case round =>
    obtain ⟨o, c, rfl, rfl, hI, hO, hBr⟩ := hrel
    clear hO1 hB1
    have hszr := hBr.size
    have hcar := hI.car
    have xa := dat_lt da o.length
    have xb := dat_lt db o.length
    have hlo : o.length ≤ 1001 := by rcases hI.len with h | h <;> omega
    have hmo : (o.map VU).length = o.length := by simp
    have hvar := hva.below hBr
    have hvbr := hvb.below hBr
    by_cases hA : o.length < a.length
    · by_cases hB : o.length < b.length
      · skip
        have hdA : decide ((o.length : Int) < (a.length : Int)) = true := by simp; omega
        have hdB : decide ((o.length : Int) < (b.length : Int)) = true := by simp; omega
        have hI2 := Lib.hid (addInv_step da db hI (by omega))
        go_wp2_with (first
          | ((with_reducible change wpList _ _ _ (Oper.mk (some 11) _ _ _ _ _ :: _) _ _); refine kLenN _ _ _ _ _ a.length rfl rfl rfl hvar hma Try.underlying35 ?_; go_frame)
          | ((with_reducible change wpList _ _ _ (Oper.mk (some 27) _ _ _ _ _ :: _) _ _); refine kLenN _ _ _ _ _ a.length rfl rfl rfl hvar hma Try.underlying35 ?_; go_frame)
          | ((with_reducible change wpList _ _ _ (Oper.mk (some 32) _ _ _ _ _ :: _) _ _); refine kIndexAddrV _ _ _ _ _ _ _ _ o.length _ rfl rfl rfl hvar rfl Try.underlying35 info_w64 rfl (dig_at hA) ?_; intro ba hba; unfold VU at hba; go_frame)
          | ((with_reducible change wpList _ _ _ (Oper.mk (some 33) _ _ _ _ _ :: _) _ _); refine kLoadCell _ _ _ _ _ rfl rfl rfl hba Try.underlying22 rfl ?_; go_frame)
          | ((with_reducible change wpList _ _ _ (Oper.mk (some 37) _ _ _ _ _ :: _) _ _); refine kLenN _ _ _ _ _ b.length rfl rfl rfl hvbr hmb Try.underlying35 ?_; go_frame)
          | ((with_reducible change wpList _ _ _ (Oper.mk (some 42) _ _ _ _ _ :: _) _ _); refine kIndexAddrV _ _ _ _ _ _ _ _ o.length _ rfl rfl rfl hvbr rfl Try.underlying35 info_w64 rfl (dig_at hB) ?_; intro bb hbb; unfold VU at hbb; go_frame)
          | ((with_reducible change wpList _ _ _ (Oper.mk (some 43) _ _ _ _ _ :: _) _ _); refine kLoadCell _ _ _ _ _ rfl rfl rfl hbb Try.underlying22 rfl ?_; go_frame)
          | ((with_reducible change wpList _ _ _ (Oper.mk (some 48) _ _ _ _ _ :: _) _ _); refine kBuildSlice1 _ _ _ (VU ((c + dat a o.length + dat b o.length) % 65536)) rfl rfl Try.underlying35 i _ hi hz hs1 (congrArg (Value.int IntKind.u64) (by omega)) rfl ?_; intro w5 hR5 hz5 hB5; clear hz5; have hs5 := hB5.size; go_frame)
          | ((with_reducible change wpList _ _ _ (Oper.mk (some 49) _ _ _ _ _ :: _) _ _); refine kAppend _ _ _ _ rfl rfl w.heap.size i _ Try.underlying35 hi hz hs1 rfl _ _ _ [VU ((c + dat a o.length + dat b o.length) % 65536)] rfl (ownsRow_below hO hB5) rfl (isVals_lit hR5) (vu_one [_]) (by unfold maxLen; rw [hmo]; simp; omega) (by rw [hby, hmo]; simp; omega) (by omega) ?_; intro v6 w6 hO6 hG6; have hB6 := (hBr.trans (hB5.mono hszr)).trans (below_grown (ownsRow_below hO hB5) hG6 (by omega)); clear hR5 hB5 hG6; go_frame))
        go_roundw
        case rel =>
          refine ⟨o ++ [(c + dat a o.length + dat b o.length) % 65536], (c + dat a o.length + dat b o.length) / 65536, by rw [List.length_append]; go_num, congrArg (Value.int IntKind.u64) (by omega), hI2.out, ?_, hB6⟩
          unfold OwnD
          rw [List.map_append (l₂ := [_])]
          exact hO6
        case measure => simp [intOf]; omega
      · skip
        have hdA : decide ((o.length : Int) < (a.length : Int)) = true := by simp; omega
        have hdB : decide ((o.length : Int) < (b.length : Int)) = false := by simp; omega
        have hI2 := Lib.hid (addInv_step da db hI (by omega))
        have zB : dat b o.length = 0 := dat_big (by omega)
        have ZB := Lib.hid zB
        clear zB
        go_wp2_with (first
          | ((with_reducible change wpList _ _ _ (Oper.mk (some 11) _ _ _ _ _ :: _) _ _); refine kLenN _ _ _ _ _ a.length rfl rfl rfl hvar hma Try.underlying35 ?_; go_frame)
          | ((with_reducible change wpList _ _ _ (Oper.mk (some 27) _ _ _ _ _ :: _) _ _); refine kLenN _ _ _ _ _ a.length rfl rfl rfl hvar hma Try.underlying35 ?_; go_frame)
          | ((with_reducible change wpList _ _ _ (Oper.mk (some 32) _ _ _ _ _ :: _) _ _); refine kIndexAddrV _ _ _ _ _ _ _ _ o.length _ rfl rfl rfl hvar rfl Try.underlying35 info_w64 rfl (dig_at hA) ?_; intro ba hba; unfold VU at hba; go_frame)
          | ((with_reducible change wpList _ _ _ (Oper.mk (some 33) _ _ _ _ _ :: _) _ _); refine kLoadCell _ _ _ _ _ rfl rfl rfl hba Try.underlying22 rfl ?_; go_frame)
          | ((with_reducible change wpList _ _ _ (Oper.mk (some 37) _ _ _ _ _ :: _) _ _); refine kLenN _ _ _ _ _ b.length rfl rfl rfl hvbr hmb Try.underlying35 ?_; go_frame)
          | ((with_reducible change wpList _ _ _ (Oper.mk (some 48) _ _ _ _ _ :: _) _ _); refine kBuildSlice1 _ _ _ (VU ((c + dat a o.length + dat b o.length) % 65536)) rfl rfl Try.underlying35 i _ hi hz hs1 (congrArg (Value.int IntKind.u64) (by have := ZB.out; omega)) rfl ?_; intro w5 hR5 hz5 hB5; clear hz5; have hs5 := hB5.size; go_frame)
          | ((with_reducible change wpList _ _ _ (Oper.mk (some 49) _ _ _ _ _ :: _) _ _); refine kAppend _ _ _ _ rfl rfl w.heap.size i _ Try.underlying35 hi hz hs1 rfl _ _ _ [VU ((c + dat a o.length + dat b o.length) % 65536)] rfl (ownsRow_below hO hB5) rfl (isVals_lit hR5) (vu_one [_]) (by unfold maxLen; rw [hmo]; simp; omega) (by rw [hby, hmo]; simp; omega) (by omega) ?_; intro v6 w6 hO6 hG6; have hB6 := (hBr.trans (hB5.mono hszr)).trans (below_grown (ownsRow_below hO hB5) hG6 (by omega)); clear hR5 hB5 hG6; go_frame))
        go_roundw
        case rel =>
          refine ⟨o ++ [(c + dat a o.length + dat b o.length) % 65536], (c + dat a o.length + dat b o.length) / 65536, by rw [List.length_append]; go_num, congrArg (Value.int IntKind.u64) (by have := ZB.out; omega), hI2.out, ?_, hB6⟩
          unfold OwnD
          rw [List.map_append (l₂ := [_])]
          exact hO6
        case measure => simp [intOf]; omega
    · by_cases hB : o.length < b.length
      · skip
        have hdA : decide ((o.length : Int) < (a.length : Int)) = false := by simp; omega
        have hdB : decide ((o.length : Int) < (b.length : Int)) = true := by simp; omega
        have hI2 := Lib.hid (addInv_step da db hI (by omega))
        have zA : dat a o.length = 0 := dat_big (by omega)
        have ZA := Lib.hid zA
        clear zA
        go_wp2_with (first
          | ((with_reducible change wpList _ _ _ (Oper.mk (some 11) _ _ _ _ _ :: _) _ _); refine kLenN _ _ _ _ _ a.length rfl rfl rfl hvar hma Try.underlying35 ?_; go_frame)
          | ((with_reducible change wpList _ _ _ (Oper.mk (some 16) _ _ _ _ _ :: _) _ _); refine kLenN _ _ _ _ _ b.length rfl rfl rfl hvbr hmb Try.underlying35 ?_; go_frame)
          | ((with_reducible change wpList _ _ _ (Oper.mk (some 27) _ _ _ _ _ :: _) _ _); refine kLenN _ _ _ _ _ a.length rfl rfl rfl hvar hma Try.underlying35 ?_; go_frame)
          | ((with_reducible change wpList _ _ _ (Oper.mk (some 37) _ _ _ _ _ :: _) _ _); refine kLenN _ _ _ _ _ b.length rfl rfl rfl hvbr hmb Try.underlying35 ?_; go_frame)
          | ((with_reducible change wpList _ _ _ (Oper.mk (some 42) _ _ _ _ _ :: _) _ _); refine kIndexAddrV _ _ _ _ _ _ _ _ o.length _ rfl rfl rfl hvbr rfl Try.underlying35 info_w64 rfl (dig_at hB) ?_; intro bb hbb; unfold VU at hbb; go_frame)
          | ((with_reducible change wpList _ _ _ (Oper.mk (some 43) _ _ _ _ _ :: _) _ _); refine kLoadCell _ _ _ _ _ rfl rfl rfl hbb Try.underlying22 rfl ?_; go_frame)
          | ((with_reducible change wpList _ _ _ (Oper.mk (some 48) _ _ _ _ _ :: _) _ _); refine kBuildSlice1 _ _ _ (VU ((c + dat a o.length + dat b o.length) % 65536)) rfl rfl Try.underlying35 i _ hi hz hs1 (congrArg (Value.int IntKind.u64) (by have := ZA.out; omega)) rfl ?_; intro w5 hR5 hz5 hB5; clear hz5; have hs5 := hB5.size; go_frame)
          | ((with_reducible change wpList _ _ _ (Oper.mk (some 49) _ _ _ _ _ :: _) _ _); refine kAppend _ _ _ _ rfl rfl w.heap.size i _ Try.underlying35 hi hz hs1 rfl _ _ _ [VU ((c + dat a o.length + dat b o.length) % 65536)] rfl (ownsRow_below hO hB5) rfl (isVals_lit hR5) (vu_one [_]) (by unfold maxLen; rw [hmo]; simp; omega) (by rw [hby, hmo]; simp; omega) (by omega) ?_; intro v6 w6 hO6 hG6; have hB6 := (hBr.trans (hB5.mono hszr)).trans (below_grown (ownsRow_below hO hB5) hG6 (by omega)); clear hR5 hB5 hG6; go_frame))
        go_roundw
        case rel =>
          refine ⟨o ++ [(c + dat a o.length + dat b o.length) % 65536], (c + dat a o.length + dat b o.length) / 65536, by rw [List.length_append]; go_num, congrArg (Value.int IntKind.u64) (by have := ZA.out; omega), hI2.out, ?_, hB6⟩
          unfold OwnD
          rw [List.map_append (l₂ := [_])]
          exact hO6
        case measure => simp [intOf]; omega
      · by_cases hC : 0 < c
        · skip
          have hdA : decide ((o.length : Int) < (a.length : Int)) = false := by simp; omega
          have hdB : decide ((o.length : Int) < (b.length : Int)) = false := by simp; omega
          have hdC : decide ((c : Int) > 0) = true := by simp; omega
          have hI2 := Lib.hid (addInv_step da db hI (by omega))
          have zA : dat a o.length = 0 := dat_big (by omega)
          have zB : dat b o.length = 0 := dat_big (by omega)
          have ZA := Lib.hid zA
          clear zA
          have ZB := Lib.hid zB
          clear zB
          go_wp2_with (first
            | ((with_reducible change wpList _ _ _ (Oper.mk (some 11) _ _ _ _ _ :: _) _ _); refine kLenN _ _ _ _ _ a.length rfl rfl rfl hvar hma Try.underlying35 ?_; go_frame)
            | ((with_reducible change wpList _ _ _ (Oper.mk (some 16) _ _ _ _ _ :: _) _ _); refine kLenN _ _ _ _ _ b.length rfl rfl rfl hvbr hmb Try.underlying35 ?_; go_frame)
            | ((with_reducible change wpList _ _ _ (Oper.mk (some 27) _ _ _ _ _ :: _) _ _); refine kLenN _ _ _ _ _ a.length rfl rfl rfl hvar hma Try.underlying35 ?_; go_frame)
            | ((with_reducible change wpList _ _ _ (Oper.mk (some 37) _ _ _ _ _ :: _) _ _); refine kLenN _ _ _ _ _ b.length rfl rfl rfl hvbr hmb Try.underlying35 ?_; go_frame)
            | ((with_reducible change wpList _ _ _ (Oper.mk (some 48) _ _ _ _ _ :: _) _ _); refine kBuildSlice1 _ _ _ (VU ((c + dat a o.length + dat b o.length) % 65536)) rfl rfl Try.underlying35 i _ hi hz hs1 (congrArg (Value.int IntKind.u64) (by have := ZA.out; have := ZB.out; omega)) rfl ?_; intro w5 hR5 hz5 hB5; clear hz5; have hs5 := hB5.size; go_frame)
            | ((with_reducible change wpList _ _ _ (Oper.mk (some 49) _ _ _ _ _ :: _) _ _); refine kAppend _ _ _ _ rfl rfl w.heap.size i _ Try.underlying35 hi hz hs1 rfl _ _ _ [VU ((c + dat a o.length + dat b o.length) % 65536)] rfl (ownsRow_below hO hB5) rfl (isVals_lit hR5) (vu_one [_]) (by unfold maxLen; rw [hmo]; simp; omega) (by rw [hby, hmo]; simp; omega) (by omega) ?_; intro v6 w6 hO6 hG6; have hB6 := (hBr.trans (hB5.mono hszr)).trans (below_grown (ownsRow_below hO hB5) hG6 (by omega)); clear hR5 hB5 hG6; go_frame))
          go_roundw
          case rel =>
            refine ⟨o ++ [(c + dat a o.length + dat b o.length) % 65536], (c + dat a o.length + dat b o.length) / 65536, by rw [List.length_append]; go_num, congrArg (Value.int IntKind.u64) (by have := ZA.out; have := ZB.out; omega), hI2.out, ?_, hB6⟩
            unfold OwnD
            rw [List.map_append (l₂ := [_])]
            exact hO6
          case measure => simp [intOf]; omega
        · have hdA : decide ((o.length : Int) < (a.length : Int)) = false := by simp; omega
          have hdB : decide ((o.length : Int) < (b.length : Int)) = false := by simp; omega
          have hdC : decide ((c : Int) > 0) = false := by simp; omega
          have hE := addInv_end hI (by omega) (by omega)
          have hL : o.length ≤ max a.length b.length + 1 := by rcases hI.len with h | h <;> omega
          have hP : DAddPostO a b w (.returned u5) wr := ⟨_, o, rfl, hO, hI.digs, hE, hL, hBr⟩
          clear hE hL
          go_wp2_with (first
            | ((with_reducible change wpList _ _ _ (Oper.mk (some 11) _ _ _ _ _ :: _) _ _); refine kLenN _ _ _ _ _ a.length rfl rfl rfl hvar hma Try.underlying35 ?_; go_frame)
            | ((with_reducible change wpList _ _ _ (Oper.mk (some 16) _ _ _ _ _ :: _) _ _); refine kLenN _ _ _ _ _ b.length rfl rfl rfl hvbr hmb Try.underlying35 ?_; go_frame))
          go_ret
          exact hP
theorem dAdd_any (a b : List Nat) (va vb : Value) (w : World) (da : Digs a) (db : Digs b) (hva : Dig w va a) (hvb : Dig w vb b) (hla : a.length ≤ 1000) (hlb : b.length ≤ 1000) :
    Calls Try.prog 43 #[va, vb] w (DAddPost a b w) :=
  (dAdd_own a b va vb w da db hva hvb hla hlb).mono fun _ _ ⟨v, l, h1, h2, h3⟩ => ⟨v, l, h1, h2.dig, h3⟩
end Go.Proofs.Ytdeggdmoijfhdaa

/-
  The walks of the reference's Sub and Wide.
-/
namespace Go.Proofs.Ytdeggdmoijfhdaa
open Go Go.RowKit

/-! ### Sub -/
structure SubInv (a b o : List Nat) (c : Nat) : Prop where
  digs : Digs o
  car : c ≤ 1
  len : o.length ≤ a.length
  sum : dval (a.take o.length) + P16 o.length * c = dval o + dval (b.take o.length)
theorem subInv_start (a b : List Nat) : SubInv a b [] 0 := ⟨fun x hx => by simp at hx, by omega, by simp, by simp [dval]⟩
theorem subInv_put {a b o : List Nat} {c c' d : Nat} (h : SubInv a b o c) (hlt : o.length < a.length) (hd : d < 65536) (hc : c' ≤ 1) (e : dat a o.length + 65536 * c' = d + dat b o.length + c) : SubInv a b (o ++ [d]) c' := by
  have hlen : (o ++ [d]).length = o.length + 1 := by simp
  refine ⟨h.digs.append (digs_one hd), hc, by rw [hlen]; omega, ?_⟩
  have h2 := h.sum
  rw [hlen, dval_take_succ, dval_take_succ, dval_snoc, P16_succ]
  have e2 : P16 o.length * dat a o.length + P16 o.length * 65536 * c' = P16 o.length * d + P16 o.length * dat b o.length + P16 o.length * c := by
    rw [Nat.mul_assoc, ← Nat.mul_add, e, Nat.mul_add, Nat.mul_add]
  omega
theorem subInv_yes {a b o : List Nat} {c : Nat} (h : SubInv a b o c) (hlt : o.length < a.length) (_ : Digs a) (db : Digs b) (hl : dat a o.length < dat b o.length + c) : SubInv a b (o ++ [dat a o.length + 65536 - (dat b o.length + c)]) 1 := by
  have xb := dat_lt db o.length
  have hc := h.car
  exact subInv_put h hlt (by omega) (by omega) (by omega)
theorem subInv_no {a b o : List Nat} {c : Nat} (h : SubInv a b o c) (hlt : o.length < a.length) (da : Digs a) (_ : Digs b) (hl : ¬ dat a o.length < dat b o.length + c) : SubInv a b (o ++ [dat a o.length - (dat b o.length + c)]) 0 := by
  have xa := dat_lt da o.length
  exact subInv_put h hlt (by omega) (by omega) (by omega)
theorem dval_take_all {b : List Nat} {n : Nat} (h : dval b < P16 n) : dval (b.take n) = dval b := by
  by_cases hn : n ≤ b.length
  · have e := dval_split b n hn
    have h0 : dval (b.drop n) = 0 := by
      rcases Nat.eq_zero_or_pos (dval (b.drop n)) with h' | h'
      · exact h'
      · have : P16 n * 1 ≤ P16 n * dval (b.drop n) := Nat.mul_le_mul_left _ h'
        omega
    rw [h0] at e; omega
  · rw [List.take_of_length_le (by omega)]
theorem subInv_end {a b o : List Nat} {c : Nat} (h : SubInv a b o c) (da : Digs a) (he : o.length = a.length) (hle : dval b ≤ dval a) : dval o = dval a - dval b := by
  have h1 := dval_lt da
  have h2 := dval_lt h.digs
  have h3 := h.sum
  rw [he] at h2 h3
  rw [List.take_of_length_le (Nat.le_refl _), dval_take_all (by omega)] at h3
  have hc := h.car
  have : c = 0 ∨ c = 1 := by omega
  rcases this with rfl | rfl
  · omega
  · omega
def SubPostO (a b : List Nat) (w : World) (e : Ending) (w' : World) : Prop := ∃ v l, e = .returned v ∧ OwnD w' w.heap.size v l ∧ Digs l ∧ dval l = dval a - dval b ∧ l.length = a.length ∧ Below w.heap.size w w'
def SubPost (a b : List Nat) (w : World) (e : Ending) (w' : World) : Prop := ∃ v l, e = .returned v ∧ Dig w' v l ∧ Digs l ∧ dval l = dval a - dval b ∧ l.length = a.length ∧ Below w.heap.size w w'

set_option maxRecDepth 100000 in
set_option maxHeartbeats 4000000 in
theorem dSub_own (a b : List Nat) (va vb : Value) (w : World) (da : Digs a) (db : Digs b) (hva : Dig w va a) (hvb : Dig w vb b) (hla : a.length ≤ 1000) (hle : dval b ≤ dval a) :
    Calls Try.prog 54 #[va, vb] w (SubPostO a b w) := by
  obtain ⟨i, hi, hz, hs1, hby⟩ := w64Info
  have hma : (a.map VU).length = a.length := by simp
  go_enter Try.func54, Try.ntmps54
  go_wp2_with (first
    | ((with_reducible change wpList _ _ _ (Oper.mk (some 10) _ _ _ _ _ :: _) _ _); refine kBuildSlice0 _ _ rfl rfl Try.underlying35 i hi ?_; intro w1 hR1 hz1 hB1; clear hz1; have hO1 := own_empty (base := w.heap.size) (Nat.le_refl _) hR1; go_frame)
    | ((with_reducible change wpList _ _ _ (Oper.mk (some 12) _ _ _ _ _ :: _) _ _); refine kLenN _ _ _ _ _ a.length rfl rfl rfl (hva.below hB1) hma Try.underlying35 ?_; go_frame))
  clear hR1
  go_loopw [13, 6, 5] (fun j cv v wr => ∃ (o : List Nat) (c : Nat), j = .int .i64 (o.length : Int) ∧ cv = .int .u64 (c : Int) ∧ SubInv a b o c ∧ OwnD wr w.heap.size v o ∧ Below w.heap.size w wr) (fun j _ _ _ => 1002 - (intOf j).toNat)
  case atStart => exact ⟨[], 0, rfl, rfl, subInv_start a b, hO1, hB1⟩
  case round =>
    obtain ⟨o, c, rfl, rfl, hI, hO, hBr⟩ := hrel
    clear hO1 hB1
    have hszr := hBr.size
    have hcar := hI.car
    have hlen := hI.len
    have xa := dat_lt da o.length
    have xb := dat_lt db o.length
    have hmo : (o.map VU).length = o.length := by simp
    have hvar := hva.below hBr
    have hvbr := hvb.below hBr
    by_cases hlt : o.length < a.length
    · have hd : decide ((o.length : Int) < (a.length : Int)) = true := by simp; omega
      by_cases hless : dat a o.length < dat b o.length + c
      · skip
        have hdl : decide ((dat a o.length : Int) < (dat b o.length : Int) + (c : Int)) = true := by simp; omega
        have hI2 := Lib.hid (subInv_yes hI hlt da db hless)
        go_wp2_with (first
          | (go_at_call 52; refine (dAt_lit b vb o.length _ _ hvbr rfl).mono ?_; rintro e w4 ⟨rfl, rfl⟩; go_frame)
          | ((with_reducible change wpList _ _ _ (Oper.mk (some 23) _ _ _ _ _ :: _) _ _); refine kIndexAddrV _ _ _ _ _ _ _ _ o.length _ rfl rfl rfl hvar rfl Try.underlying35 info_w64 rfl (dig_at hlt) ?_; intro ba hba; unfold VU at hba; go_frame)
          | ((with_reducible change wpList _ _ _ (Oper.mk (some 24) _ _ _ _ _ :: _) _ _); refine kLoadCell _ _ _ _ _ rfl rfl rfl hba Try.underlying22 rfl ?_; go_frame)
          | ((with_reducible change wpList _ _ _ (Oper.mk (some 34) _ _ _ _ _ :: _) _ _); refine kBuildSlice1 _ _ _ (VU (dat a o.length + 65536 - (dat b o.length + c))) rfl rfl Try.underlying35 i _ hi hz hs1 (congrArg (Value.int IntKind.u64) (by omega)) rfl ?_; intro w5 hR5 hz5 hB5; clear hz5; have hs5 := hB5.size; go_frame)
          | ((with_reducible change wpList _ _ _ (Oper.mk (some 35) _ _ _ _ _ :: _) _ _); refine kAppend _ _ _ _ rfl rfl w.heap.size i _ Try.underlying35 hi hz hs1 rfl _ _ _ [VU (dat a o.length + 65536 - (dat b o.length + c))] rfl (ownsRow_below hO hB5) rfl (isVals_lit hR5) (vu_one [_]) (by unfold maxLen; rw [hmo]; simp; omega) (by rw [hby, hmo]; simp; omega) (by omega) ?_; intro v6 w6 hO6 hG6; have hB6 := (hBr.trans (hB5.mono hszr)).trans (below_grown (ownsRow_below hO hB5) hG6 (by omega)); clear hR5 hB5 hG6; go_frame))
        go_roundw
        case rel =>
          refine ⟨o ++ [dat a o.length + 65536 - (dat b o.length + c)], 1, by rw [List.length_append]; go_num, rfl, hI2.out, ?_, hB6⟩
          unfold OwnD
          rw [List.map_append (l₂ := [_])]
          exact hO6
        case measure => simp [intOf]; omega
      · skip
        have hdl : decide ((dat a o.length : Int) < (dat b o.length : Int) + (c : Int)) = false := by simp; omega
        have hI2 := Lib.hid (subInv_no hI hlt da db hless)
        go_wp2_with (first
          | (go_at_call 52; refine (dAt_lit b vb o.length _ _ hvbr rfl).mono ?_; rintro e w4 ⟨rfl, rfl⟩; go_frame)
          | ((with_reducible change wpList _ _ _ (Oper.mk (some 23) _ _ _ _ _ :: _) _ _); refine kIndexAddrV _ _ _ _ _ _ _ _ o.length _ rfl rfl rfl hvar rfl Try.underlying35 info_w64 rfl (dig_at hlt) ?_; intro ba hba; unfold VU at hba; go_frame)
          | ((with_reducible change wpList _ _ _ (Oper.mk (some 24) _ _ _ _ _ :: _) _ _); refine kLoadCell _ _ _ _ _ rfl rfl rfl hba Try.underlying22 rfl ?_; go_frame)
          | ((with_reducible change wpList _ _ _ (Oper.mk (some 34) _ _ _ _ _ :: _) _ _); refine kBuildSlice1 _ _ _ (VU (dat a o.length - (dat b o.length + c))) rfl rfl Try.underlying35 i _ hi hz hs1 (congrArg (Value.int IntKind.u64) (by omega)) rfl ?_; intro w5 hR5 hz5 hB5; clear hz5; have hs5 := hB5.size; go_frame)
          | ((with_reducible change wpList _ _ _ (Oper.mk (some 35) _ _ _ _ _ :: _) _ _); refine kAppend _ _ _ _ rfl rfl w.heap.size i _ Try.underlying35 hi hz hs1 rfl _ _ _ [VU (dat a o.length - (dat b o.length + c))] rfl (ownsRow_below hO hB5) rfl (isVals_lit hR5) (vu_one [_]) (by unfold maxLen; rw [hmo]; simp; omega) (by rw [hby, hmo]; simp; omega) (by omega) ?_; intro v6 w6 hO6 hG6; have hB6 := (hBr.trans (hB5.mono hszr)).trans (below_grown (ownsRow_below hO hB5) hG6 (by omega)); clear hR5 hB5 hG6; go_frame))
        go_roundw
        case rel =>
          refine ⟨o ++ [dat a o.length - (dat b o.length + c)], 0, by rw [List.length_append]; go_num, rfl, hI2.out, ?_, hB6⟩
          unfold OwnD
          rw [List.map_append (l₂ := [_])]
          exact hO6
        case measure => simp [intOf]; omega
    · have hd : decide ((o.length : Int) < (a.length : Int)) = false := by simp; omega
      have hP : SubPostO a b w (.returned u5) wr := ⟨_, o, rfl, hO, hI.digs, subInv_end hI da (by omega) hle, by omega, hBr⟩
      go_wp2
      go_ret
      exact hP
theorem dSub_any (a b : List Nat) (va vb : Value) (w : World) (da : Digs a) (db : Digs b) (hva : Dig w va a) (hvb : Dig w vb b) (hla : a.length ≤ 1000) (hle : dval b ≤ dval a) :
    Calls Try.prog 54 #[va, vb] w (SubPost a b w) :=
  (dSub_own a b va vb w da db hva hvb hla hle).mono fun _ _ ⟨v, l, h1, h2, h3⟩ => ⟨v, l, h1, h2.dig, h3⟩

/-! ### Wide -/
def wideTo (n k : Nat) : Array Value := tab 4 fun p => .int .u64 ((limb n p / P16 (k - 4 * p) : Nat) : Int)
theorem wideTo_16 (n : Nat) : wideTo n 16 = wcells 0 := by
  rw [wcells_zero]
  refine tab_congr fun p hp => ?_
  have h1 := limb_lt n p
  have h2 : P16 4 ≤ P16 (16 - 4 * p) := Nat.pow_le_pow_right (by decide) (by omega)
  have h3 : P16 4 = 18446744073709551616 := rfl
  rw [Nat.div_eq_of_lt (by omega)]; rfl
theorem wideTo_0 (n : Nat) : wideTo n 0 = wcells n := tab_congr fun p _ => by rw [Nat.zero_sub]; unfold P16; simp
theorem wideTo_size (n k : Nat) : (wideTo n k).size = 4 := tab_size ..
theorem wideTo_get (n k p : Nat) (h : p < 4) : (wideTo n k)[p]? = some (.int .u64 ((limb n p / P16 (k - 4 * p) : Nat) : Int)) := tab_get _ _ _ h
theorem wide_other (n m p : Nat) (h : p ≠ m / 4) : limb n p / P16 (m - 4 * p) = limb n p / P16 (m + 1 - 4 * p) := by
  by_cases hp : p < m / 4
  · have h1 := limb_lt n p
    have h2 : P16 4 ≤ P16 (m - 4 * p) := Nat.pow_le_pow_right (by decide) (by omega)
    have h2' : P16 4 ≤ P16 (m + 1 - 4 * p) := Nat.pow_le_pow_right (by decide) (by omega)
    have h3 : P16 4 = 18446744073709551616 := rfl
    rw [Nat.div_eq_of_lt (by omega), Nat.div_eq_of_lt (by omega)]
  · rw [show m - 4 * p = 0 by omega, show m + 1 - 4 * p = 0 by omega]
theorem wide_step (n m : Nat) : 65536 * (limb n (m / 4) / P16 (m + 1 - 4 * (m / 4))) + n / P16 m % 65536 = limb n (m / 4) / P16 (m - 4 * (m / 4)) := by
  have e1 : n / P16 m % 65536 = limb n (m / 4) / P16 (m - 4 * (m / 4)) % 65536 := by
    rw [digit_limb n (m / 4) (m - 4 * (m / 4)) (by omega), show 4 * (m / 4) + (m - 4 * (m / 4)) = m by omega]
  rw [e1, show m + 1 - 4 * (m / 4) = m - 4 * (m / 4) + 1 by omega, P16_succ, ← Nat.div_div_eq_div_mul]
  omega
theorem wideTo_set (l : List Nat) (dl : Digs l) (m : Nat) (v : Nat) (hv : v = 65536 * (limb (dval l) (m / 4) / P16 (m + 1 - 4 * (m / 4))) + dat l m) : (wideTo (dval l) (m + 1)).setIfInBounds (m / 4) (.int .u64 (v : Int)) = wideTo (dval l) m := tab_set fun p _ => by
  subst hv
  by_cases h : p = m / 4
  · subst h; rw [if_pos rfl, dat_num dl, wide_step]
  · rw [if_neg h, wide_other _ _ _ h]
theorem wideTo_skip (l : List Nat) (dl : Digs l) (m : Nat) (h : l.length ≤ m) : wideTo (dval l) (m + 1) = wideTo (dval l) m := tab_congr fun p _ => by
  by_cases hp : p = m / 4
  · have e := wide_step (dval l) m
    have h0 : dval l / P16 m = 0 := by rw [dval_div dl, List.drop_eq_nil_of_le h]; rfl
    have hx : limb (dval l) (m / 4) / P16 (m - 4 * (m / 4)) = 0 := by
      have h1 : limb (dval l) (m / 4) ≤ dval l / P64 (m / 4) := Nat.mod_le _ _
      have h2 : limb (dval l) (m / 4) / P16 (m - 4 * (m / 4)) ≤ dval l / P64 (m / 4) / P16 (m - 4 * (m / 4)) := Nat.div_le_div_right h1
      rw [Nat.div_div_eq_div_mul, P64_pow, show 64 * (m / 4) = 16 * (4 * (m / 4)) by omega, ← P16_pow, ← P16_add, show 4 * (m / 4) + (m - 4 * (m / 4)) = m by omega, h0] at h2
      omega
    subst hp
    rw [hx]
    rw [hx] at e
    congr 2
    omega
  · rw [wide_other _ _ _ hp]
set_option maxRecDepth 100000 in
set_option maxHeartbeats 4000000 in
theorem dWide_any (l : List Nat) (v : Value) (w : World) (dl : Digs l) (hv : Dig w v l) :
    Calls Try.prog 16 #[v] w fun e w' => e = .returned (WV (dval l)) ∧ Below w.heap.size w w' := by
  unfold WV
  obtain ⟨z, Hz⟩ : ∃ z, Hid (z = 0) := ⟨0, Lib.hid rfl⟩
  have hzW : ((Try.prog.info? 24).bind (·.zero)).map Value.cells = some (wcells z) := by rw [Hz.out]; exact zero_Wide
  have hml : (l.map VU).length = l.length := by simp
  go_enter Try.func16, Try.ntmps16
  go_wp2_with (first
    | ((with_reducible change wpList _ _ _ (Oper.mk (some 2) _ _ _ _ _ :: _) _ _); refine kAllocL _ _ rfl rfl hzW ?_; intro w1 hR1 hl1 hB1; go_frame)
    | ((with_reducible change wpList _ _ _ (Oper.mk (some 3) _ _ _ _ _ :: _) _ _); refine kAllocL _ _ rfl rfl hzW ?_; intro w2 hR2 hl2 hB2; go_frame)
    | ((with_reducible change wpList _ _ _ (Oper.mk none _ _ _ _ _ :: _) _ _); refine kStoreRow _ _ _ _ _ _ (wcells z) rfl rfl rfl (by rw [Hz.out, lit_zero]; rfl) hR2 (info_WideC _) (by simp only [wcells_size]) (wcells_one _) ?_; intro w3 hR3 hW3; go_frame))
  have hRm := hW3.row (hR1.below hB2 (by omega)) (by omega)
  have hB : Below w.heap.size w w3 := (hB1.trans (hB2.mono (by omega))).trans (hW3.below (by omega))
  have hl3 : w1.heap.size < w3.heap.size := hR3.lt
  have hv3 := hv.below hB
  clear hR1 hR2 hB1 hB2 hW3 hl2
  go_loopw [4] (fun i wr => ∃ k : Nat, k ≤ 16 ∧ i = .int .i64 ((k : Int) - 1) ∧ Row wr w1.heap.size 24 (wideTo (dval l) k) ∧ Below w1.heap.size w3 wr) (fun i _ => (intOf i + 1).toNat)
  case atStart => exact ⟨16, by omega, rfl, by rw [wideTo_16, ← Hz.out]; exact hR3, Below.refl _ _⟩
  case round =>
    obtain ⟨k, hk, rfl, hR, hBr⟩ := hrel
    have hBw : Below w.heap.size w wr := hB.trans (hBr.mono (by omega))
    have hvr := hv.below hBw
    by_cases h0 : k = 0
    · subst h0
      rw [wideTo_0] at hR
      have hRmr := hRm.below hBr (by omega)
      go_wp2_with (first
        | ((with_reducible change wpList _ _ _ (Oper.mk (some 27) _ _ _ _ _ :: _) _ _); refine kLoadRow _ _ _ _ _ _ rfl rfl rfl hR Try.underlying24 rfl (info_WideC _) ?_; go_frame)
        | ((with_reducible change wpList _ _ _ (Oper.mk none _ _ _ _ _ :: _) _ _); refine kStoreRow _ _ _ _ _ _ _ rfl rfl rfl rfl hRmr (info_WideC _) (by simp only [wcells_size]) (wcells_one _) ?_; intro w6 hR6 hW6; go_frame))
      exact result_row Try.results16 rfl hR6 Try.underlying24 rfl (info_WideC _) rfl ⟨rfl, hBw.trans (hW6.below (by omega))⟩
    · obtain ⟨m, rfl⟩ : ∃ m, k = m + 1 := ⟨k - 1, by omega⟩
      have hd : decide (((m + 1 : Nat) : Int) - 1 ≥ 0) = true := by simp
      by_cases hlt : m < l.length
      · have hdl : decide ((m : Int) < (l.length : Int)) = true := by simp; omega
        have hdl2 : decide (((m + 1 : Nat) : Int) - 1 < (l.length : Int)) = true := by simp; omega
        obtain ⟨ad, had, hrun⟩ := isVals_addr hvr (dig_at hlt)
        unfold VU at had
        have hx : limb (dval l) (m / 4) / P16 (m + 1 - 4 * (m / 4)) < 281474976710656 := by
          have h1 := limb_lt (dval l) (m / 4)
          have h2 : P16 1 ≤ P16 (m + 1 - 4 * (m / 4)) := Nat.pow_le_pow_right (by decide) (by omega)
          have h3 : P16 1 = 65536 := rfl
          exact Nat.div_lt_of_lt_mul (Nat.lt_of_lt_of_le h1 (by omega))
        have xd := dat_lt dl m
        have hget := wideTo_get (dval l) (m + 1) (m / 4) (by omega)
        generalize hxx : limb (dval l) (m / 4) / P16 (m + 1 - 4 * (m / 4)) = x at *
        have Hxx := Lib.hid hxx
        clear hxx
        go_wp2_with (first
          | ((with_reducible change wpList _ _ _ (Oper.mk (some 12) _ _ _ _ _ :: _) _ _); refine kLenN _ _ _ _ _ l.length rfl rfl rfl hvr hml Try.underlying35 ?_; go_frame))
        refine region_drew_tail 13 (by kernel_rfl) (by kernel_rfl) ?_
        simp only [List.take_succ_cons, List.take_zero, List.drop_succ_cons, List.drop_zero]
        repeat (first
          | ((with_reducible change wpQuiet _ _ _ _ (Oper.mk (some 18) _ _ _ _ _ :: _) _); refine qIndexAddr1 _ _ _ _ _ _ _ (m / 4) _ rfl rfl rfl rfl Try.underlying24 info_w64 (by omega) (by omega) ?_; go_frame)
          | ((with_reducible change wpQuiet _ _ _ _ (Oper.mk (some 19) _ _ _ _ _ :: _) _); refine qLoad1 _ _ _ _ _ _ _ _ rfl rfl rfl (fun _ ⟨_, e⟩ => by rw [e]; exact hR) Try.underlying22 rfl hget ?_; go_frame)
          | ((with_reducible change wpQuiet _ _ _ _ (Oper.mk (some 23) _ _ _ _ _ :: _) _); refine qIndexAddrB _ _ _ _ _ v _ m ad rfl rfl rfl rfl (by omega) Try.underlying35 info_w64 hrun ?_; go_frame)
          | ((with_reducible change wpQuiet _ _ _ _ (Oper.mk (some 24) _ _ _ _ _ :: _) _); refine qLoadB _ _ _ _ _ rfl rfl rfl (fun _ ⟨_, e⟩ => by rw [e]; exact had) Try.underlying22 rfl ?_; go_frame)
          | ((with_reducible change wpQuiet _ _ _ _ (Oper.mk (some 26) _ _ _ _ _ :: _) _); refine qIndexAddr1 _ _ _ _ _ _ _ (m / 4) _ rfl rfl rfl rfl Try.underlying24 info_w64 (by omega) (by omega) ?_; go_frame)
          | go_big_quiet_step (fail))
        refine wpQuiet_nil ?_
        rintro _ ⟨nq, rfl⟩
        refine kStore1 _ _ _ _ _ (m / 4) _ (.int .u64 ((65536 * x + dat l m : Nat) : Int)) rfl rfl rfl (congrArg (Value.int IntKind.u64) (by omega)) (hR.drewN nq) info_w64 (by rw [wideTo_size]; omega) rfl ?_
        intro w6 hR6 hW6
        rw [wideTo_set l dl m _ (by rw [Hxx.out])] at hR6
        have hB6 : Below w1.heap.size w3 w6 := hBr.trans ⟨hW6.os, hW6.tape, hW6.output, Nat.le_of_eq hW6.size.symm, fun k hk => hW6.other k (by omega)⟩
        clear had hrun hget
        go_wp2
        go_roundw
        case rel => exact ⟨m, by omega, by go_num, hR6, hB6⟩
        case measure => simp [intOf]
      · have hdl2 : decide (((m + 1 : Nat) : Int) - 1 < (l.length : Int)) = false := by simp; omega
        rw [wideTo_skip l dl m (by omega)] at hR
        go_wp2_with (first
          | ((with_reducible change wpList _ _ _ (Oper.mk (some 12) _ _ _ _ _ :: _) _ _); refine kLenN _ _ _ _ _ l.length rfl rfl rfl hvr hml Try.underlying35 ?_; go_frame))
        go_roundw
        case rel => exact ⟨m, by omega, by go_num, hR, hBr⟩
        case measure => simp [intOf]
end Go.Proofs.Ytdeggdmoijfhdaa

/-
  The walks of the reference's Bits and Mul.
-/
namespace Go.Proofs.Ytdeggdmoijfhdaa
open Go Go.RowKit

/-! ### Bits -/
theorem bits_digit {l : List Nat} (dl : Digs l) (n : Nat) (hn : n ≤ l.length) (h : dat l n ≠ 0) : blen (dval (l.take (n + 1))) = 16 * n + blen (dat l n) := by
  have h1 := dval_lt (dl.take n)
  rw [List.length_take, Nat.min_eq_left hn] at h1
  have e : dval (l.take (n + 1)) / 2 ^ (16 * n) = dat l n := by
    rw [dval_take_succ, ← P16_pow, Nat.add_mul_div_left _ _ (P16_pos n), Nat.div_eq_of_lt h1, Nat.zero_add]
  rw [blen_shift (dval (l.take (n + 1))) (16 * n) (by rw [e]; omega), e]
theorem bits_none {l : List Nat} (n : Nat) (h : dat l n = 0) : dval (l.take (n + 1)) = dval (l.take n) := by rw [dval_take_succ, h]; simp
theorem blen_halves (x k : Nat) (h0 : x / 2 ^ k = 0) (h1 : k = 0 ∨ 0 < x / 2 ^ (k - 1)) : blen x = k := by
  refine blen_unique x k ?_ ?_
  · exact (Nat.div_eq_zero_iff_lt (Nat.pow_pos (by decide))).1 h0
  · rcases h1 with h | h
    · exact .inl h
    · right
      rcases Nat.lt_or_ge x (2 ^ (k - 1)) with h' | h'
      · rw [Nat.div_eq_of_lt h'] at h; omega
      · exact h'

set_option maxRecDepth 100000 in
set_option maxHeartbeats 4000000 in
theorem dBits_any (l : List Nat) (v : Value) (w : World) (dl : Digs l) (hv : Dig w v l) (hl : l.length ≤ 1000) :
    Calls Try.prog 36 #[v] w fun e w' => e = .returned (.int .i64 (blen (dval l) : Int)) ∧ w = w' := by
  have hml : (l.map VU).length = l.length := by simp
  go_enter Try.func36, Try.ntmps36
  go_wp2_with (first
    | ((with_reducible change wpList _ _ _ (Oper.mk (some 8) _ _ _ _ _ :: _) _ _); refine kLenN _ _ _ _ _ l.length rfl rfl rfl hv hml Try.underlying35 ?_; go_frame))
  go_loopw [9, 3] (fun i r wr => ∃ n : Nat, n ≤ l.length ∧ i = .int .i64 (n : Int) ∧ r = .int .i64 (blen (dval (l.take n)) : Int) ∧ wr = w) (fun i _ _ => 1001 - (intOf i).toNat)
  case atStart => exact ⟨0, by omega, rfl, rfl, rfl⟩
  case round =>
    obtain ⟨n, hn, rfl, rfl, rfl⟩ := hrel
    by_cases hlt : n < l.length
    · have hd : decide ((n : Int) < (l.length : Int)) = true := by simp; omega
      have xd := dat_lt dl n
      go_wp2_with (first
        | ((with_reducible change wpList _ _ _ (Oper.mk (some 12) _ _ _ _ _ :: _) _ _); refine kIndexAddrV _ _ _ _ _ _ _ _ n _ rfl rfl rfl hv rfl Try.underlying35 info_w64 rfl (dig_at hlt) ?_; intro ba hba; unfold VU at hba; go_frame)
        | ((with_reducible change wpList _ _ _ (Oper.mk (some 13) _ _ _ _ _ :: _) _ _); refine kLoadCell _ _ _ _ _ rfl rfl rfl hba Try.underlying22 rfl ?_; go_frame))
      clear hba
      go_loopw [6, 5] (fun kk x wq => ∃ k : Nat, k ≤ 16 ∧ kk = .int .i64 (k : Int) ∧ x = .int .u64 ((dat l n / 2 ^ k : Nat) : Int) ∧ Hid (k = 0 ∨ 0 < dat l n / 2 ^ (k - 1)) ∧ wq = wr) (fun _ x _ => (intOf x).toNat)
      case atStart => exact ⟨0, by omega, rfl, by simp, Lib.hid (.inl rfl), rfl⟩
      case round =>
        obtain ⟨k, hk, rfl, rfl, Hk, rfl⟩ := hrel
        by_cases hx : 0 < dat l n / 2 ^ k
        · have hd2 : decide (((dat l n / 2 ^ k : Nat) : Int) > 0) = true := by simp only [gt_iff_lt, decide_eq_true_eq]; omega
          have hk2 : k < 16 := by
            rcases Nat.lt_or_ge k 16 with h' | h'
            · exact h'
            · have h2 : (2 : Nat) ^ 16 ≤ 2 ^ k := Nat.pow_le_pow_right (by decide) h'
              rw [Nat.div_eq_of_lt (by omega)] at hx; omega
          have hxl : dat l n / 2 ^ k < 65536 := Nat.lt_of_le_of_lt (Nat.div_le_self _ _) xd
          have Hs := Lib.hid (show dat l n / 2 ^ k / 2 = dat l n / 2 ^ (k + 1) by rw [Nat.pow_succ, Nat.div_div_eq_div_mul])
          have Hn := Lib.hid (show k + 1 = 0 ∨ 0 < dat l n / 2 ^ (k + 1 - 1) from .inr (by rw [Nat.add_sub_cancel]; exact hx))
          generalize dat l n / 2 ^ k = x at *
          go_wp2
          go_roundw
          case rel => exact ⟨k + 1, by omega, by go_num, by rw [← Hs.out]; congr 1, Hn, trivial⟩
          case measure => simp [intOf]; omega
        · have hz : dat l n / 2 ^ k = 0 := Nat.eq_zero_of_not_pos hx
          have hb := blen_halves _ _ hz Hk.out
          have hd2 : decide (((dat l n / 2 ^ k : Nat) : Int) > 0) = false := by rw [hz]; rfl
          generalize dat l n / 2 ^ k = x at *
          by_cases h0 : dat l n = 0
          · have hk0 : k = 0 := by rw [← hb, h0]; rfl
            have Hn := Lib.hid (bits_none n h0)
            have hdk : decide (0 < k) = false := by rw [hk0]; rfl
            have hdk2 : ¬ 0 < k := by omega
            clear hb hk0 h0
            go_wp2
            go_roundw
            case rel => exact ⟨n + 1, by omega, by go_num, by rw [Hn.out], trivial⟩
            case measure => simp [intOf]; omega
          · have hkp : 0 < k := by rw [← hb]; exact blen_pos _ h0
            have Hn := Lib.hid (bits_digit dl n (by omega) h0)
            have Hb := Lib.hid hb
            have hdk : decide (0 < k) = true := by simpa using hkp
            clear hb h0
            go_wp2
            go_roundw
            case rel => exact ⟨n + 1, by omega, by go_num, by rw [Hn.out, Hb.out]; go_num, trivial⟩
            case measure => simp [intOf]; omega
    · have hnl : n = l.length := by omega
      have hd : decide ((n : Int) < (l.length : Int)) = false := by simp; omega
      have Ht := Lib.hid (show dval (l.take n) = dval l by rw [hnl, List.take_of_length_le (Nat.le_refl _)])
      clear hnl
      go_wp2
      go_ret
      exact ⟨by rw [← Ht.out]; rfl, rfl⟩

/-! ### Mul -/
/-- the j-th digit of a number -/
def dg (n j : Nat) : Nat := n / P16 j % 65536
theorem dg_lt (n j : Nat) : dg n j < 65536 := Nat.mod_lt _ (by decide)
/-- what is in the row once k digits of a are through, and of the next one m digits of b -/
def dmN (a b : List Nat) (k m : Nat) : Nat := dval (a.take k) * dval b + dat a k * dval (b.take m) * P16 k
def dmTab (s : Nat) (a b : List Nat) (k m : Nat) : Array Value := tab s fun j => .int .u64 ((if j < k + m then dg (dmN a b k m) j else dg (dval (a.take k) * dval b) j : Nat) : Int)
def drow (n s : Nat) : Array Value := tab s fun j => .int .u64 (dg n j : Int)
theorem drow_list (n s : Nat) : drow n s = ((digsOf n s).map VU).toArray := by
  unfold drow tab digsOf; rw [List.map_map]; rfl
theorem dmN_zero (a b : List Nat) (k : Nat) : dmN a b k 0 = dval (a.take k) * dval b := by simp [dmN, dval]
theorem dmN_all (a b : List Nat) (k : Nat) : dmN a b k b.length = dval (a.take (k + 1)) * dval b := by
  unfold dmN; rw [List.take_of_length_le (Nat.le_refl _), dval_take_succ, Nat.add_mul]; congr 1
  rw [Nat.mul_comm (P16 k), Nat.mul_right_comm]
theorem dmN_succ (a b : List Nat) (k m : Nat) : dmN a b k (m + 1) = dmN a b k m + P16 (k + m) * (dat a k * dat b m) := by
  unfold dmN
  rw [dval_take_succ, Nat.mul_add, Nat.add_mul, Nat.add_assoc]
  congr 1
  congr 1
  rw [P16_add]
  generalize P16 k = p; generalize P16 m = q; generalize dat a k = x; generalize dat b m = y
  ac_rfl
theorem dmTab_zero (s : Nat) (a b : List Nat) (k : Nat) : dmTab s a b k 0 = drow (dval (a.take k) * dval b) s := tab_congr fun j _ => by
  rw [dmN_zero]; split <;> rfl
theorem dg_mult (n q j k : Nat) (h : j < k) : dg (n + P16 k * q) j = dg n j := by
  have e : P16 k = P16 j * (65536 * P16 (k - j - 1)) := by
    unfold P16; rw [← Nat.mul_assoc, ← Nat.pow_succ, ← Nat.pow_add]; congr 1; omega
  unfold dg
  rw [e, Nat.mul_assoc, Nat.add_mul_div_left _ _ (P16_pos j), Nat.mul_assoc, Nat.add_mul_mod_self_left]
theorem dg_step (n k : Nat) : n / P16 k = dg n k + 65536 * (n / P16 (k + 1)) := by
  unfold dg
  rw [P16_succ, ← Nat.div_div_eq_div_mul, Nat.mod_add_div]
theorem dm_step {a b : List Nat} {k m c : Nat} (h : dmN a b k m / P16 (k + m) = dval (a.take k) * dval b / P16 (k + m) + c) :
    dg (dmN a b k (m + 1)) (k + m) = (c + (dg (dval (a.take k) * dval b) (k + m) + dat a k * dat b m)) % 65536 ∧
    dmN a b k (m + 1) / P16 (k + (m + 1)) = dval (a.take k) * dval b / P16 (k + (m + 1)) + (c + (dg (dval (a.take k) * dval b) (k + m) + dat a k * dat b m)) / 65536 := by
  have e1 : dmN a b k (m + 1) / P16 (k + m) = dg (dval (a.take k) * dval b) (k + m) + 65536 * (dval (a.take k) * dval b / P16 (k + m + 1)) + c + dat a k * dat b m := by
    rw [dmN_succ, Nat.add_mul_div_left _ _ (P16_pos _), h, dg_step (dval (a.take k) * dval b) (k + m)]
  constructor
  · show dmN a b k (m + 1) / P16 (k + m) % _ = _
    rw [e1]; omega
  · rw [show k + (m + 1) = k + m + 1 from rfl, P16_succ, ← Nat.div_div_eq_div_mul, ← Nat.div_div_eq_div_mul, e1, dg_step (dval (a.take k) * dval b) (k + m)]
    have hl := dg_lt (dval (a.take k) * dval b) (k + m)
    generalize dat a k * dat b m = z
    generalize dg (dval (a.take k) * dval b) (k + m) = y at *
    generalize dval (a.take k) * dval b / P16 (k + m + 1) = q
    omega
theorem dmTab_set (s : Nat) (a b : List Nat) (k m : Nat) (v : Nat) (hv : v = dg (dmN a b k (m + 1)) (k + m)) : (dmTab s a b k m).setIfInBounds (k + m) (.int .u64 (v : Int)) = dmTab s a b k (m + 1) := tab_set fun j hj => by
  subst hv
  by_cases h : j = k + m
  · subst h; rw [if_pos rfl, if_pos (by omega)]
  · rw [if_neg h]
    by_cases h2 : j < k + m
    · rw [if_pos h2, if_pos (by omega), dmN_succ, dg_mult _ _ _ _ h2]
    · rw [if_neg h2, if_neg (by omega)]
theorem dm_lt {a b : List Nat} (da : Digs a) (db : Digs b) (k : Nat) : dval (a.take k) * dval b < P16 (k + b.length) := by
  have h1 := dval_lt (da.take k)
  have h1' : P16 (a.take k).length ≤ P16 k := Nat.pow_le_pow_right (by decide) (by rw [List.length_take]; omega)
  have h2 := dval_lt db
  rw [P16_add]
  exact Nat.lt_of_le_of_lt (Nat.mul_le_mul_right _ (Nat.le_of_lt (by omega : dval (a.take k) < P16 k))) (Nat.mul_lt_mul_of_pos_left h2 (P16_pos k))
theorem drow_end (s : Nat) {a b : List Nat} (da : Digs a) (db : Digs b) (k c : Nat) (h : dmN a b k b.length / P16 (k + b.length) = dval (a.take k) * dval b / P16 (k + b.length) + c) : (dmTab s a b k b.length).setIfInBounds (k + b.length) (.int .u64 (c : Int)) = drow (dval (a.take (k + 1)) * dval b) s := tab_set fun j hj => by
  rw [dmN_all] at *
  have hT := dm_lt da db k
  have hN := dm_lt da db (k + 1)
  rw [Nat.div_eq_of_lt hT, Nat.zero_add] at h
  by_cases hjk : j = k + b.length
  · subst hjk
    rw [if_pos rfl]
    congr 2
    unfold dg
    rw [h]
    have : c < 65536 := by
      rw [← h]
      rw [show k + 1 + b.length = k + b.length + 1 by omega, P16_succ] at hN
      exact Nat.div_lt_of_lt_mul hN
    exact Nat.mod_eq_of_lt this
  · rw [if_neg hjk]
    by_cases h2 : j < k + b.length
    · rw [if_pos h2]
    · rw [if_neg h2]
      have hP : P16 (k + b.length) ≤ P16 j := Nat.pow_le_pow_right (by decide) (by omega)
      have hP2 : P16 (k + 1 + b.length) ≤ P16 j := Nat.pow_le_pow_right (by decide) (by omega)
      unfold dg
      rw [Nat.div_eq_of_lt (Nat.lt_of_lt_of_le hN hP2), Nat.div_eq_of_lt (Nat.lt_of_lt_of_le hT hP)]
theorem dm_bound {x y p c : Nat} (hx : x < 65536) (hy : y < 65536) (hp : p < 65536) (hc : c < 65536) : c + (p + x * y) < 4294967296 := by
  have hle : x * y ≤ 4294836225 := Nat.mul_le_mul (Nat.le_of_lt_succ hx) (Nat.le_of_lt_succ hy)
  omega
def MulPost (a b : List Nat) (w : World) (e : Ending) (w' : World) : Prop := ∃ v, e = .returned v ∧ Dig w' v (digsOf (dval a * dval b) (a.length + b.length)) ∧ Below w.heap.size w w'

set_option maxRecDepth 100000 in
set_option maxHeartbeats 8000000 in
theorem dMul_any (a b : List Nat) (va vb : Value) (w : World) (da : Digs a) (db : Digs b) (hva : Dig w va a) (hvb : Dig w vb b) (hla : a.length ≤ 1000) (hlb : b.length ≤ 1000) :
    Calls Try.prog 45 #[va, vb] w (MulPost a b w) := by
  obtain ⟨i, hi, hz, hs1, hby⟩ := w64Info
  have hma : (a.map VU).length = a.length := by simp
  have hmb : (b.map VU).length = b.length := by simp
  go_enter Try.func45, Try.ntmps45
  go_wp2_with (first
    | ((with_reducible change wpList _ _ _ (Oper.mk (some 12) _ _ _ _ _ :: _) _ _); refine kLenN _ _ _ _ _ a.length rfl rfl rfl hva hma Try.underlying35 ?_; go_frame)
    | ((with_reducible change wpList _ _ _ (Oper.mk (some 14) _ _ _ _ _ :: _) _ _); refine kLenN _ _ _ _ _ b.length rfl rfl rfl hvb hmb Try.underlying35 ?_; go_frame)
    | ((with_reducible change wpList _ _ _ (Oper.mk (some 16) _ _ _ _ _ :: _) _ _); refine kMake _ _ _ _ rfl rfl i _ Try.underlying35 hi hz hs1 (.int .u64 0) rfl _ _ _ _ (a.length + b.length) (a.length + b.length) rfl rfl (by omega) (by omega) (by omega) (by rw [hby]; omega) (by omega) ?_; intro w1 hR1 hz1 hB1; clear hz1; go_frame)
    | ((with_reducible change wpList _ _ _ (Oper.mk (some 18) _ _ _ _ _ :: _) _ _); refine kLenN _ _ _ _ _ a.length rfl rfl rfl (hva.below hB1) hma Try.underlying35 ?_; go_frame))
  have hl1 := hR1.lt
  have hR0 : Row w1 w.heap.size 22 (drow 0 (a.length + b.length)) := by
    have e : drow 0 (a.length + b.length) = Array.replicate (a.length + b.length) (.int .u64 0) := by
      apply Array.ext_getElem?
      intro j
      by_cases h : j < a.length + b.length
      · unfold drow; rw [tab_get _ _ _ h, Array.getElem?_replicate, if_pos h]; unfold dg; simp
      · rw [Array.getElem?_eq_none (by unfold drow; rw [tab_size]; omega), Array.getElem?_eq_none (by simp; omega)]
    rw [e]; exact hR1
  clear hR1
  go_loopw [19] (fun i wr => ∃ k : Nat, k ≤ a.length ∧ i = .int .i64 (k : Int) ∧ Row wr w.heap.size 22 (drow (dval (a.take k) * dval b) (a.length + b.length)) ∧ Below w.heap.size w wr) (fun i _ => 1001 - (intOf i).toNat)
  case atStart => exact ⟨0, by omega, rfl, by simpa [dval] using hR0, hB1⟩
  case round =>
    obtain ⟨k, hk, rfl, hR, hBr⟩ := hrel
    clear hR0 hB1
    have hvar := hva.below hBr
    have hvbr := hvb.below hBr
    by_cases hlt : k < a.length
    · have hd : decide ((k : Int) < (a.length : Int)) = true := by simp; omega
      have xa := dat_lt da k
      go_wp2_with (first
        | ((with_reducible change wpList _ _ _ (Oper.mk (some 22) _ _ _ _ _ :: _) _ _); refine kIndexAddrV _ _ _ _ _ _ _ _ k _ rfl rfl rfl hvar rfl Try.underlying35 info_w64 rfl (dig_at hlt) ?_; intro ba hba; unfold VU at hba; go_frame)
        | ((with_reducible change wpList _ _ _ (Oper.mk (some 23) _ _ _ _ _ :: _) _ _); refine kLoadCell _ _ _ _ _ rfl rfl rfl hba Try.underlying22 rfl ?_; go_frame)
        | ((with_reducible change wpList _ _ _ (Oper.mk (some 25) _ _ _ _ _ :: _) _ _); refine kLenN _ _ _ _ _ b.length rfl rfl rfl hvbr hmb Try.underlying35 ?_; go_frame))
      clear hba
      go_loopw [26, 8] (fun i c wq => ∃ m cn : Nat, m ≤ b.length ∧ cn < 65536 ∧ i = .int .i64 (m : Int) ∧ c = .int .u64 (cn : Int) ∧ Hid (dmN a b k m / P16 (k + m) = dval (a.take k) * dval b / P16 (k + m) + cn) ∧ Row wq w.heap.size 22 (dmTab (a.length + b.length) a b k m) ∧ Below w.heap.size w wq) (fun i _ _ => 1001 - (intOf i).toNat)
      case atStart => exact ⟨0, 0, by omega, by decide, rfl, rfl, Lib.hid (by rw [dmN_zero]; rfl), by rw [dmTab_zero]; exact hR, hBr⟩
      case round =>
        obtain ⟨m, cn, hm, hcn, rfl, rfl, Hc, hRq, hBq⟩ := hrel
        have hvbq := hvb.below hBq
        by_cases hltm : m < b.length
        · have hdm : decide ((m : Int) < (b.length : Int)) = true := by simp; omega
          have xb := dat_lt db m
          have xp := dg_lt (dval (a.take k) * dval b) (k + m)
          have hst := Lib.hid (dm_step Hc.out)
          have hbd := dm_bound xa xb xp hcn
          have hget : (dmTab (a.length + b.length) a b k m)[k + m]? = some (.int .u64 (dg (dval (a.take k) * dval b) (k + m) : Int)) := by
            unfold dmTab; rw [tab_get _ _ _ (by omega), if_neg (by omega)]
          have hsz : (dmTab (a.length + b.length) a b k m).size = a.length + b.length := by unfold dmTab; exact tab_size _ _
          have hxy : ((dat a k : Int) * (dat b m : Int)) = ((dat a k * dat b m : Nat) : Int) := (Int.natCast_mul _ _).symm
          generalize hpp : dg (dval (a.take k) * dval b) (k + m) = pp at *
          generalize hzz : dat a k * dat b m = zz at *
          clear hpp hzz
          go_wp2_with (first
            | ((with_reducible change wpList _ _ _ (Oper.mk (some 29) _ _ _ _ _ :: _) _ _); refine kIndexAddrV _ _ _ _ _ _ _ _ m _ rfl rfl rfl hvbq rfl Try.underlying35 info_w64 rfl (dig_at hltm) ?_; intro bb hbb; unfold VU at hbb; go_frame)
            | ((with_reducible change wpList _ _ _ (Oper.mk (some 30) _ _ _ _ _ :: _) _ _); refine kLoadCell _ _ _ _ _ rfl rfl rfl hbb Try.underlying22 rfl ?_; go_frame)
            | ((with_reducible change wpList _ _ _ (Oper.mk (some 36) _ _ _ _ _ :: _) _ _); refine kIndexAddrS _ _ _ _ _ w.heap.size 0 (a.length + b.length) (a.length + b.length) _ (k + m) rfl rfl rfl rfl Try.underlying35 info_w64 (by omega) (by omega) ?_; rw [Nat.zero_add]; go_frame)
            | ((with_reducible change wpList _ _ _ (Oper.mk (some 37) _ _ _ _ _ :: _) _ _); refine kLoad1 _ _ _ _ _ _ _ _ rfl rfl rfl hRq Try.underlying22 rfl hget ?_; go_frame)
            | ((with_reducible change wpList _ _ _ (Oper.mk (some 49) _ _ _ _ _ :: _) _ _); refine kIndexAddrS _ _ _ _ _ w.heap.size 0 (a.length + b.length) (a.length + b.length) _ (k + m) rfl rfl rfl rfl Try.underlying35 info_w64 (by omega) (by omega) ?_; rw [Nat.zero_add]; go_frame)
            | ((with_reducible change wpList _ _ _ (Oper.mk none _ _ _ _ _ :: _) _ _); refine kStore1 _ _ _ _ _ (k + m) _ (.int .u64 (dg (dmN a b k (m + 1)) (k + m) : Int)) rfl rfl rfl (congrArg (Value.int IntKind.u64) (by rw [hst.out.1]; omega)) hRq info_w64 (by rw [hsz]; omega) rfl ?_; intro w7 hR7 hW7; rw [dmTab_set _ _ _ _ _ _ rfl] at hR7; go_frame))
          go_roundw
          case rel => exact ⟨m + 1, (cn + (pp + zz)) / 65536, by omega, by omega, by go_num, congrArg (Value.int IntKind.u64) (by omega), Lib.hid hst.out.2, hR7, hBq.trans (hW7.below (Nat.le_refl _))⟩
          case measure => simp [intOf]; omega
        · have hmb2 : m = b.length := by omega
          have hdm : decide ((m : Int) < (b.length : Int)) = false := by simp; omega
          rw [hmb2] at Hc hRq
          clear hmb2
          have hsz : (dmTab (a.length + b.length) a b k b.length).size = a.length + b.length := by unfold dmTab; exact tab_size _ _
          go_wp2_with (first
            | ((with_reducible change wpList _ _ _ (Oper.mk (some 56) _ _ _ _ _ :: _) _ _); refine kLenN _ _ _ _ _ b.length rfl rfl rfl hvbq hmb Try.underlying35 ?_; go_frame)
            | ((with_reducible change wpList _ _ _ (Oper.mk (some 59) _ _ _ _ _ :: _) _ _); refine kIndexAddrS _ _ _ _ _ w.heap.size 0 (a.length + b.length) (a.length + b.length) _ (k + b.length) rfl rfl rfl rfl Try.underlying35 info_w64 (by omega) (by omega) ?_; rw [Nat.zero_add]; go_frame)
            | ((with_reducible change wpList _ _ _ (Oper.mk none _ _ _ _ _ :: _) _ _); refine kStore1 _ _ _ _ _ (k + b.length) _ (.int .u64 (cn : Int)) rfl rfl rfl rfl hRq info_w64 (by rw [hsz]; omega) rfl ?_; intro w7 hR7 hW7; rw [drow_end _ da db _ _ Hc.out] at hR7; go_frame))
          go_roundw
          case rel => exact ⟨k + 1, by omega, by go_num, hR7, hBq.trans (hW7.below (Nat.le_refl _))⟩
          case measure => simp [intOf]; omega
    · have hka : k = a.length := by omega
      have hd : decide ((k : Int) < (a.length : Int)) = false := by simp; omega
      rw [hka, List.take_of_length_le (Nat.le_refl _), drow_list] at hR
      clear hka
      have hdv := isVals_lit hR
      rw [List.length_map, digsOf_len] at hdv
      go_wp2
      go_ret
      exact ⟨_, rfl, hdv, hBr⟩
end Go.Proofs.Ytdeggdmoijfhdaa
