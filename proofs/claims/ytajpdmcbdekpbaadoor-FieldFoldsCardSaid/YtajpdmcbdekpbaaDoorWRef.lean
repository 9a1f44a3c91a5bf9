/-
  The reference of layer 2: numbers as digits to the base 65536; the walks of its Of, At and Power.
-/
import Derived.Test.YtajpdmcbdekpbaaDoorWMem
namespace Go.Proofs.YtajpdmcbdekpbaaDoor
open Go Go.RowKit

/-! ### plain -/
/-- a digit as a value -/
def VU (n : Nat) : Value := .int .u64 (n : Int)
/-- the number of these digits, the lowest first -/
def dval : List Nat → Nat
  | [] => 0
  | x :: l => x + 65536 * dval l
/-- all are digits -/
def Digs (l : List Nat) : Prop := ∀ x ∈ l, x < 65536
/-- 65536 to the power of k -/
def P16 (k : Nat) : Nat := 65536 ^ k
theorem P16_pos (k : Nat) : 0 < P16 k := Nat.pow_pos (by decide)
theorem P16_succ (k : Nat) : P16 (k + 1) = P16 k * 65536 := Nat.pow_succ ..
theorem P16_pow (k : Nat) : P16 k = 2 ^ (16 * k) := by unfold P16; rw [Nat.pow_mul]
theorem P16_add (j k : Nat) : P16 (j + k) = P16 j * P16 k := by unfold P16; rw [Nat.pow_add]
theorem dval_append (l m : List Nat) : dval (l ++ m) = dval l + P16 l.length * dval m := by
  induction l with
  | nil => simp [dval, P16]
  | cons x l ih =>
    show x + 65536 * dval (l ++ m) = x + 65536 * dval l + P16 (l.length + 1) * dval m
    rw [ih, P16_succ, Nat.mul_add, Nat.mul_comm (P16 l.length) 65536, Nat.mul_assoc]; omega
theorem dval_one (x : Nat) : dval [x] = x := by simp [dval]
theorem dval_snoc (l : List Nat) (x : Nat) : dval (l ++ [x]) = dval l + P16 l.length * x := by rw [dval_append, dval_one]
theorem dval_lt {l : List Nat} (h : Digs l) : dval l < P16 l.length := by
  induction l with
  | nil => simp [dval, P16]
  | cons x l ih =>
    have h1 := h x (by simp)
    have h2 := ih (fun y hy => h y (by simp [hy]))
    show x + 65536 * dval l < P16 (l.length + 1)
    rw [P16_succ]; omega
theorem Digs.append {l m : List Nat} (h : Digs l) (h2 : Digs m) : Digs (l ++ m) := fun x hx => by
  rcases List.mem_append.1 hx with h' | h'
  · exact h x h'
  · exact h2 x h'
theorem digs_one {x : Nat} (h : x < 65536) : Digs [x] := fun y hy => by simp at hy; omega
theorem Digs.drop {l : List Nat} (h : Digs l) (k : Nat) : Digs (l.drop k) := fun x hx => h x (List.mem_of_mem_drop hx)
theorem Digs.take {l : List Nat} (h : Digs l) (k : Nat) : Digs (l.take k) := fun x hx => h x (List.mem_of_mem_take hx)
/-- the k-th digit, nought behind the last -/
def dat (l : List Nat) (k : Nat) : Nat := l.getD k 0
theorem dat_lt {l : List Nat} (h : Digs l) (k : Nat) : dat l k < 65536 := by
  unfold dat
  by_cases hk : k < l.length
  · simp [hk]; exact h _ (List.getElem_mem hk)
  · simp [Nat.le_of_not_lt hk]
theorem dat_at {l : List Nat} {k : Nat} (h : k < l.length) : l[k]? = some (dat l k) := by simp [dat, h]
theorem dat_big {l : List Nat} {k : Nat} (h : l.length ≤ k) : dat l k = 0 := by simp [dat, h]
theorem dval_drop (l : List Nat) (k : Nat) : dval (l.drop k) = dat l k + 65536 * dval (l.drop (k + 1)) := by
  by_cases h : k < l.length
  · rw [List.drop_eq_getElem_cons h]; simp [dval, dat, h]
  · rw [List.drop_eq_nil_of_le (by omega), List.drop_eq_nil_of_le (by omega), dat_big (by omega)]; rfl
theorem dval_split (l : List Nat) (k : Nat) (h : k ≤ l.length) : dval l = dval (l.take k) + P16 k * dval (l.drop k) := by
  conv => lhs; rw [← List.take_append_drop k l]
  rw [dval_append, List.length_take, Nat.min_eq_left h]
theorem dval_take_succ (l : List Nat) (k : Nat) : dval (l.take (k + 1)) = dval (l.take k) + P16 k * dat l k := by
  by_cases h : k < l.length
  · rw [List.take_succ_eq_append_getElem h, dval_snoc, List.length_take, Nat.min_eq_left (by omega)]; simp [dat, h]
  · rw [List.take_of_length_le (by omega), List.take_of_length_le (by omega), dat_big (by omega)]; simp
theorem dval_div {l : List Nat} (h : Digs l) (k : Nat) : dval l / P16 k = dval (l.drop k) := by
  by_cases hk : k ≤ l.length
  · rw [dval_split l k hk]
    have := dval_lt (h.take k)
    rw [List.length_take, Nat.min_eq_left hk] at this
    rw [Nat.add_mul_div_left _ _ (P16_pos k), Nat.div_eq_of_lt this, Nat.zero_add]
  · rw [List.drop_eq_nil_of_le (by omega)]
    have h1 := dval_lt h
    have h2 : P16 l.length ≤ P16 k := Nat.pow_le_pow_right (by decide) (by omega)
    exact Nat.div_eq_of_lt (by omega)
theorem dat_num {l : List Nat} (h : Digs l) (k : Nat) : dat l k = dval l / P16 k % 65536 := by
  rw [dval_div h, dval_drop l k]
  have := dat_lt h k
  omega
/-- sixteen digits of a number -/
def digsOf (a n : Nat) : List Nat := (List.range n).map fun i => a / P16 i % 65536
theorem digsOf_len (a n : Nat) : (digsOf a n).length = n := by simp [digsOf]
theorem digsOf_digs (a n : Nat) : Digs (digsOf a n) := fun x hx => by
  simp [digsOf] at hx; obtain ⟨i, -, rfl⟩ := hx; exact Nat.mod_lt _ (by decide)
theorem digsOf_succ (a n : Nat) : digsOf a (n + 1) = digsOf a n ++ [a / P16 n % 65536] := by simp [digsOf, List.range_succ]
theorem digsOf_val (a : Nat) : ∀ n, dval (digsOf a n) = a % P16 n
  | 0 => by simp [digsOf, dval, P16, Nat.mod_one]
  | n + 1 => by rw [digsOf_succ, dval_snoc, digsOf_val a n, digsOf_len, P16_succ, Nat.mod_mul]
theorem digsOf_16 (a : Nat) (h : a < M256) : dval (digsOf a 16) = a := by
  rw [digsOf_val, Nat.mod_eq_of_lt]; rw [P16_pow]; exact h
theorem digit_limb (a i k : Nat) (hk : k < 4) : limb a i / P16 k % 65536 = a / P16 (4 * i + k) % 65536 := by
  unfold limb
  have e1 : (18446744073709551616 : Nat) = P16 k * P16 (4 - k) := by rw [← P16_add, show k + (4 - k) = 4 by omega]; rfl
  have e2 : (65536 : Nat) ∣ P16 (4 - k) := by
    obtain ⟨m, hm⟩ : ∃ m, 4 - k = m + 1 := ⟨3 - k, by omega⟩
    rw [hm, P16_succ]; exact Nat.dvd_mul_left _ _
  rw [e1, Nat.mod_mul_right_div_self, Nat.mod_mod_of_dvd _ e2, P16_add, P64_pow, show (64 * i) = 16 * (4 * i) by omega, ← P16_pow, Nat.div_div_eq_div_mul]

/-- the value reads as these digits -/
def Dig (w : World) (v : Value) (l : List Nat) : Prop := IsVals w v (l.map VU)
theorem Dig.below {w w' : World} {v : Value} {l : List Nat} (h : Dig w v l) (hb : Below w.heap.size w w') : Dig w' v l := IsVals.below h hb
theorem vu_one (l : List Nat) : ∀ u ∈ l.map VU, u.oneCell' = true := fun u hu => by
  simp at hu; obtain ⟨x, -, rfl⟩ := hu; rfl
theorem dig_at {l : List Nat} {k : Nat} (h : k < l.length) : (l.map VU)[k]? = some (VU (dat l k)) := by rw [List.getElem?_map, dat_at h]; rfl
/-- a slice of the call's own that holds these digits -/
def OwnD (w : World) (base : Nat) (v : Value) (l : List Nat) : Prop := w.ownsRow base 23 1 v (l.map VU).length (l.map VU)
theorem OwnD.dig {w : World} {base : Nat} {v : Value} {l : List Nat} (h : OwnD w base v l) : Dig w v l := isVals_own h
/-- a number of the reference's, as it comes back from a call -/
def DigPost (w : World) (l : List Nat) (e : Ending) (w' : World) : Prop := ∃ v, e = .returned v ∧ Dig w' v l ∧ Below w.heap.size w w'

theorem w64Info0 : (Tryd.prog.info? 23).map (fun i => (i.zero, i.size, i.bytes)) = some (some (.int .u64 0), 1, 8) := by kernel_rfl
theorem w64Info : ∃ i, Tryd.prog.info? 23 = some i ∧ i.zero = some (.int .u64 0) ∧ i.size = 1 ∧ i.bytes = 8 := by
  have h := w64Info0
  cases hq : Tryd.prog.info? 23 with
  | none => rw [hq] at h; cases h
  | some i => rw [hq] at h; simp at h; exact ⟨i, rfl, h.1, h.2.1, h.2.2⟩

set_option maxRecDepth 100000 in
set_option maxHeartbeats 1000000 in
theorem dAt_any (l : List Nat) (v : Value) (k : Nat) (w : World) (hv : Dig w v l) :
    Calls Tryd.prog 45 #[v, .int .i64 (k : Int)] w fun e w' => e = .returned (VU (dat l k)) ∧ w = w' := by
  have hlen : (l.map VU).length = l.length := by simp
  by_cases h : k < l.length
  · have hd : decide ((k : Int) < (l.length : Int)) = true := by simp; omega
    go_enter Tryd.func45, Tryd.ntmps45
    go_wp2_with (first
      | ((with_reducible change wpList _ _ _ (Oper.mk (some 7) _ _ _ _ _ :: _) _ _); refine kLenN _ _ _ _ _ l.length rfl rfl rfl hv hlen Tryd.underlying35 ?_; go_frame)
      | ((with_reducible change wpList _ _ _ (Oper.mk (some 11) _ _ _ _ _ :: _) _ _); refine kIndexAddrV _ _ _ _ _ _ _ _ k _ rfl rfl rfl hv rfl Tryd.underlying35 info_w64 rfl (dig_at h) ?_; intro b hb; go_frame)
      | ((with_reducible change wpList _ _ _ (Oper.mk (some 12) _ _ _ _ _ :: _) _ _); refine kLoadCell _ _ _ _ _ rfl rfl rfl hb Tryd.underlying23 rfl ?_; go_frame))
    go_ret
    exact ⟨rfl, rfl⟩
  · have hd : decide ((k : Int) < (l.length : Int)) = false := by simp; omega
    have hz : dat l k = 0 := dat_big (by omega)
    rw [hz]
    go_enter Tryd.func45, Tryd.ntmps45
    go_wp2_with (first
      | ((with_reducible change wpList _ _ _ (Oper.mk (some 7) _ _ _ _ _ :: _) _ _); refine kLenN _ _ _ _ _ l.length rfl rfl rfl hv hlen Tryd.underlying35 ?_; go_frame))
    go_ret
    exact ⟨rfl, rfl⟩

set_option maxRecDepth 100000 in
set_option maxHeartbeats 2000000 in
theorem dOf_own (a : Nat) (w : World) : Calls Tryd.prog 29 #[WV a] w fun e w' => ∃ v, e = .returned v ∧ OwnD w' w.heap.size v (digsOf a 16) ∧ Below w.heap.size w w' := by
  obtain ⟨i, hi, hz, hs1, hby⟩ := w64Info
  unfold WV
  go_enter Tryd.func29, Tryd.ntmps29
  go_wp2_with (first
    | ((with_reducible change wpList _ _ _ (Oper.mk (some 1) _ _ _ _ _ :: _) _ _); refine kBoxL _ _ _ rfl rfl rfl ?_; intro w1 hR1 hl1 hB1; go_frame)
    | ((with_reducible change wpList _ _ _ (Oper.mk (some 7) _ _ _ _ _ :: _) _ _); refine kBuildSlice0 _ _ rfl rfl Tryd.underlying35 i hi ?_; intro w2 hR2 hz2 hB2; clear hz2; have hO2 := own_empty (base := w.heap.size) (Nat.le_of_lt hl1) hR2; go_frame)
    | ((with_reducible change wpList _ _ _ (Oper.mk (some 8) _ _ _ _ _ :: _) _ _); refine kLoadRow _ _ _ _ _ _ rfl rfl rfl (hR1.below hB2 hl1) Tryd.underlying25 rfl (info_WideC _) ?_; go_frame))
  have hB : Below w.heap.size w w2 := hB1.trans (hB2.mono (by omega))
  clear hR1 hR2 hB1 hB2
  go_loopw [9, 3] (fun j v wr => ∃ n : Nat, n ≤ 4 ∧ j = .int .i64 (n : Int) ∧ OwnD wr w.heap.size v (digsOf a (4 * n)) ∧ Below w.heap.size w wr) (fun j _ _ => 4 - (intOf j).toNat)
  case atStart => exact ⟨0, by omega, rfl, hO2, hB⟩
  case round =>
    obtain ⟨n, hn, rfl, hO, hBr⟩ := hrel
    clear hO2 hB
    by_cases hlt : n < 4
    · have hd : decide ((n : Int) < 4) = true := by simp; omega
      go_wp2_with (first
        | ((with_reducible change wpList _ _ _ (Oper.mk (some 11) _ _ _ _ _ :: _) _ _); refine kIndex _ _ _ _ _ _ _ n _ _ _ rfl rfl rfl rfl Tryd.underlying25 Tryd.underlying23 rfl info_w64 rfl hlt (wcells_get a n hlt) ?_))
      go_loopw [6, 5, 3] (fun j x v wq => ∃ k : Nat, k ≤ 4 ∧ j = .int .i64 (k : Int) ∧ x = .int .u64 ((limb a n / P16 k : Nat) : Int) ∧ OwnD wq w.heap.size v (digsOf a (4 * n + k)) ∧ Below w.heap.size w wq) (fun j _ _ _ => 4 - (intOf j).toNat)
      case atStart => exact ⟨0, by omega, rfl, by simp [P16], hO, hBr⟩
      case round =>
        obtain ⟨k, hk, rfl, rfl, hOq, hBq⟩ := hrel
        clear hO hBr
        have hszq := hBq.size
        by_cases hltk : k < 4
        · have hdk : decide ((k : Int) < 4) = true := by simp; omega
          have hlq : ((digsOf a (4 * n + k)).map VU).length = 4 * n + k := by rw [List.length_map, digsOf_len]
          have hx : limb a n / P16 k < 18446744073709551616 := Nat.lt_of_le_of_lt (Nat.div_le_self _ _) (limb_lt _ _)
          have Hd := Lib.hid (digit_limb a n k hltk)
          have Hs := Lib.hid (show limb a n / P16 k / 65536 = limb a n / P16 (k + 1) by rw [P16_succ, Nat.div_div_eq_div_mul])
          generalize limb a n / P16 k = x at *
          go_wp2_with (first
            | ((with_reducible change wpList _ _ _ (Oper.mk (some 19) _ _ _ _ _ :: _) _ _); refine kBuildSlice1 _ _ _ (VU (a / P16 (4 * n + k) % 65536)) rfl rfl Tryd.underlying35 i _ hi hz hs1 (congrArg (Value.int IntKind.u64) (by rw [← Hd.out]; omega)) rfl ?_; intro w5 hR5 hz5 hB5; clear hz5; go_frame)
            | ((with_reducible change wpList _ _ _ (Oper.mk (some 20) _ _ _ _ _ :: _) _ _); refine kAppend _ _ _ _ rfl rfl w.heap.size i _ Tryd.underlying35 hi hz hs1 rfl _ _ _ [VU (a / P16 (4 * n + k) % 65536)] rfl (ownsRow_below hOq hB5) rfl (isVals_lit hR5) (vu_one [_]) (by unfold maxLen; rw [hlq]; simp; omega) (by rw [hby, hlq]; simp; omega) (by have := hB5.size; omega) ?_; intro v6 w6 hO6 hG6; have hB6 := (hBq.trans (hB5.mono hszq)).trans (below_grown (ownsRow_below hOq hB5) hG6 (by have := hB5.size; omega)); clear hR5 hB5 hG6; go_frame))
          go_roundw
          case rel =>
            refine ⟨k + 1, by omega, by go_num, ?_, ?_, hB6⟩
            · rw [← Hs.out]; congr 1
            · rw [show 4 * n + (k + 1) = 4 * n + k + 1 by omega, digsOf_succ]
              unfold OwnD
              rw [List.map_append (l₂ := [_])]
              exact hO6
          case measure => simp [intOf]; omega
        · obtain rfl : k = 4 := by omega
          go_wp2
          go_roundw
          case rel => exact ⟨n + 1, by omega, by go_num, by rw [show 4 * (n + 1) = 4 * n + 4 by omega]; exact hOq, hBq⟩
          case measure => simp [intOf]; omega
    · obtain rfl : n = 4 := by omega
      go_wp2
      go_ret
      exact ⟨_, rfl, hO, hBr⟩
theorem dOf_any (a : Nat) (w : World) : Calls Tryd.prog 29 #[WV a] w (DigPost w (digsOf a 16)) :=
  (dOf_own a w).mono fun _ _ ⟨v, h1, h2, h3⟩ => ⟨v, h1, h2.dig, h3⟩
end Go.Proofs.YtajpdmcbdekpbaaDoor
