/-
  The walk of wide's Div: how often b goes into a, and what is left.
-/
import Derived.Test.YtehklogmeinocaaWShift
import Derived.Test.YtehklogmeinocaaKit6
namespace Go.Proofs.Ytehklogmeinocaa
open Go Go.RowKit

/-! ### plain -/
theorem limb_bit (s n : Nat) : limb (2 ^ (n + 1) * s + 2 ^ n) (n / 64) = limb (2 ^ (n + 1) * s) (n / 64) ||| 2 ^ (n % 64) := by
  obtain ⟨q, r, hr, rfl⟩ : ∃ q r, r < 64 ∧ n = 64 * q + r := ⟨n / 64, n % 64, Nat.mod_lt _ (by decide), (Nat.div_add_mod n 64).symm⟩
  have e1 : (64 * q + r) / 64 = q := by omega
  have e2 : (64 * q + r) % 64 = r := by omega
  rw [e1, e2]
  have e3 : 2 ^ (64 * q + r + 1) * s = P64 q * (2 ^ (r + 1) * s) := by
    rw [show 64 * q + r + 1 = 64 * q + (r + 1) by omega, Nat.pow_add, ← P64_pow, Nat.mul_assoc]
  have e4 : 2 ^ (64 * q + r) = P64 q * 2 ^ r := by rw [Nat.pow_add, ← P64_pow]
  rw [e3, e4, ← Nat.mul_add]
  unfold limb
  rw [Nat.mul_div_cancel_left _ (P64_pos q), Nat.mul_div_cancel_left _ (P64_pos q)]
  have hp := pow_split (r + 1) (by omega)
  have h2 : 2 ^ r < 2 ^ (r + 1) := Nat.pow_lt_pow_right (by decide) (by omega)
  have e5 : 2 ^ (r + 1) * s % 18446744073709551616 = 2 ^ (r + 1) * (s % 2 ^ (64 - (r + 1))) := by
    rw [hp, Nat.mul_comm (2 ^ (64 - (r + 1))), Nat.mul_mod_mul_left]
  have e6 : 2 ^ (r + 1) * (s % 2 ^ (64 - (r + 1))) + 2 ^ (r + 1) ≤ 18446744073709551616 := by
    rw [hp, Nat.mul_comm (2 ^ (64 - (r + 1))), ← Nat.mul_add_one]
    exact Nat.mul_le_mul_left _ (Nat.mod_lt _ (Nat.pow_pos (by decide)))
  rw [e5, ← Nat.two_pow_add_eq_or_of_lt h2, Nat.add_mod, e5, Nat.mod_eq_of_lt (show 2 ^ r < 18446744073709551616 by omega)]
  exact Nat.mod_eq_of_lt (by omega)
theorem limb_bit_ne (s n j : Nat) (h : j ≠ n / 64) : limb (2 ^ (n + 1) * s + 2 ^ n) j = limb (2 ^ (n + 1) * s) j := by
  by_cases hj : j < n / 64
  · have e : 2 ^ n = P64 (n / 64) * 2 ^ (n % 64) := by rw [P64_pow, ← Nat.pow_add, Nat.div_add_mod]
    rw [e, limb_mult _ _ _ _ hj]
  · have e : P64 j = 2 ^ (n + 1) * 2 ^ (64 * j - (n + 1)) := by rw [P64_pow, ← Nat.pow_add]; congr 1; omega
    have h2 : 2 ^ n < 2 ^ (n + 1) := Nat.pow_lt_pow_right (by decide) (by omega)
    unfold limb
    congr 1
    rw [e, ← Nat.div_div_eq_div_mul, ← Nat.div_div_eq_div_mul, Nat.mul_add_div (Nat.pow_pos (by decide)), Nat.div_eq_of_lt h2, Nat.add_zero, Nat.mul_div_cancel_left _ (Nat.pow_pos (by decide))]
theorem wcells_bit (t s n v : Nat) (ht : t = 2 ^ (n + 1) * s) (hv : v = limb t (n / 64) ||| 2 ^ (n % 64)) : (wcells t).setIfInBounds (n / 64) (.int .u64 (v : Int)) = wcells (t + 2 ^ n) := tab_set fun j hj => by
  subst ht; subst hv
  by_cases h : j = n / 64
  · subst h; rw [if_pos rfl, limb_bit]
  · rw [if_neg h, limb_bit_ne _ _ _ h]

theorem pow_wrap (r : Nat) (h : r < 64) : IntKind.u64.wrap ((2 : Int) ^ r) = ((2 ^ r : Nat) : Int) := by
  have h2 : 2 ^ r < 2 ^ 64 := Nat.pow_lt_pow_right (by decide) h
  have e : ((2 : Int) ^ r) = ((2 ^ r : Nat) : Int) := by rw [Int.natCast_pow]; rfl
  rw [e, wrap64_lt _ h2]
theorem or_bit (l r : Nat) (hl : l < 18446744073709551616) (h : r < 64) : bits .or .u64 (l : Int) (IntKind.u64.wrap ((2 : Int) ^ r)) = ((l ||| 2 ^ r : Nat) : Int) := by
  have h2 : 2 ^ r < 2 ^ 64 := Nat.pow_lt_pow_right (by decide) h
  rw [pow_wrap r h, u64_or_nat _ _ hl h2]

/-- what holds of the loop: n + 1 is k -/
structure DivInv (a b k c t : Nat) : Prop where
  whole : a = t * b + c
  small : c < b * 2 ^ k
  mult : ∃ s, t = 2 ^ k * s
  fits : 1 ≤ k → b * 2 ^ (k - 1) < M256
theorem divInv_start (a b : Nat) (ha : a < M256) (hb : b ≠ 0) (h : blen b ≤ blen a) : DivInv a b (blen a - blen b + 1) a 0 := by
  have h1 := blen_lt a
  have h2 := blen_ge b hb
  have h3 := blen_pos b hb
  have h4 := blen_lt b
  have hA : blen a ≤ 256 := (blen_le a 256).2 (by simpa [M256] using ha)
  refine ⟨by simp, ?_, ⟨0, by simp⟩, fun _ => ?_⟩
  · have e : 2 ^ blen a = 2 ^ (blen b - 1) * 2 ^ (blen a - blen b + 1) := by rw [← Nat.pow_add]; congr 1; omega
    rw [e] at h1
    exact Nat.lt_of_lt_of_le h1 (Nat.mul_le_mul_right _ h2)
  · rw [Nat.add_sub_cancel]
    have e : 2 ^ blen b * 2 ^ (blen a - blen b) = 2 ^ blen a := by rw [← Nat.pow_add]; congr 1; omega
    have h5 : b * 2 ^ (blen a - blen b) < 2 ^ blen a := by
      rw [← e]; exact Nat.mul_lt_mul_of_pos_right h4 (Nat.pow_pos (by decide))
    have h6 : 2 ^ blen a ≤ 2 ^ 256 := Nat.pow_le_pow_right (by decide) hA
    have : M256 = 2 ^ 256 := by decide
    omega
theorem divInv_less (a b : Nat) (h : blen a < blen b) : DivInv a b 0 a 0 := by
  have hlt : a < b := by
    have h1 := blen_lt a
    have hb : b ≠ 0 := fun e => by subst e; rw [blen_zero] at h; omega
    have h2 := blen_ge b hb
    have : 2 ^ blen a ≤ 2 ^ (blen b - 1) := Nat.pow_le_pow_right (by decide) (by omega)
    omega
  exact ⟨by simp, by simpa using hlt, ⟨0, by simp⟩, fun h => by omega⟩
theorem divInv_yes {a b n c t : Nat} (h : DivInv a b (n + 1) c t) (hc : b * 2 ^ n ≤ c) : DivInv a b n (c - b * 2 ^ n) (t + 2 ^ n) := by
  obtain ⟨h1, h2, ⟨s, h3⟩, h4⟩ := h
  refine ⟨?_, ?_, ⟨2 * s + 1, ?_⟩, fun hn => ?_⟩
  · rw [Nat.add_mul, Nat.mul_comm (2 ^ n) b]; omega
  · rw [Nat.pow_succ, ← Nat.mul_assoc, Nat.mul_two] at h2; omega
  · rw [h3, Nat.mul_add, Nat.mul_one, Nat.pow_succ, Nat.mul_assoc]
  · have := h4 (by omega)
    have h5 : b * 2 ^ (n - 1) ≤ b * 2 ^ n := Nat.mul_le_mul_left _ (Nat.pow_le_pow_right (by decide) (by omega))
    rw [Nat.add_sub_cancel] at this
    omega
theorem divInv_no {a b n c t : Nat} (h : DivInv a b (n + 1) c t) (hc : c < b * 2 ^ n) : DivInv a b n c t := by
  obtain ⟨h1, h2, ⟨s, h3⟩, h4⟩ := h
  refine ⟨h1, hc, ⟨2 * s, ?_⟩, fun hn => ?_⟩
  · rw [h3, Nat.pow_succ, Nat.mul_assoc]
  · have := h4 (by omega)
    have h5 : b * 2 ^ (n - 1) ≤ b * 2 ^ n := Nat.mul_le_mul_left _ (Nat.pow_le_pow_right (by decide) (by omega))
    rw [Nat.add_sub_cancel] at this
    omega
theorem divInv_end {a b c t : Nat} (h : DivInv a b 0 c t) : t = a / b ∧ c = a % b := by
  obtain ⟨h1, h2, -, -⟩ := h
  rw [Nat.pow_zero, Nat.mul_one] at h2
  have hb : 0 < b := by omega
  subst h1
  constructor
  · rw [Nat.mul_comm, Nat.mul_add_div hb, Nat.div_eq_of_lt h2, Nat.add_zero]
  · rw [Nat.mul_comm, Nat.mul_add_mod, Nat.mod_eq_of_lt h2]
theorem divInv_le {a b k c t : Nat} (h : DivInv a b k c t) : c ≤ a := by have := h.whole; omega

set_option maxRecDepth 100000 in
set_option maxHeartbeats 2000000 in
theorem wDiv_zero (a z : Nat) (Hz : Hid (z = 0)) (w : World) :
    Calls Try.prog 12 #[WV a, WV z] w fun e w' => e = .returned (.tuple #[WV z, WV a]) ∧ Below w.heap.size w w' := by
  have hzW : ((Try.prog.info? 24).bind (·.zero)).map Value.cells = some (wcells z) := by rw [Hz.out]; exact zero_Wide
  unfold WV
  go_enter Try.func12, Try.ntmps12
  go_wp2_with (first
    | ((with_reducible change wpList _ _ _ (Oper.mk (some 2) _ _ _ _ _ :: _) _ _); refine kBoxL _ _ _ rfl rfl rfl ?_; intro w1 hR1 hl1 hB1)
    | ((with_reducible change wpList _ _ _ (Oper.mk (some 3) _ _ _ _ _ :: _) _ _); refine kBoxL _ _ _ rfl rfl rfl ?_; intro w2 hR2 hl2 hB2)
    | ((with_reducible change wpList _ _ _ (Oper.mk (some 4) _ _ _ _ _ :: _) _ _); refine kAllocL _ _ rfl rfl hzW ?_; intro w3 hR3 hl3 hB3; go_frame)
    | ((with_reducible change wpList _ _ _ (Oper.mk (some 5) _ _ _ _ _ :: _) _ _); refine kAllocL _ _ rfl rfl hzW ?_; intro w4 hR4 hl4 hB4)
    | ((with_reducible change wpList _ _ _ (Oper.mk (some 6) _ _ _ _ _ :: _) _ _); refine kAllocL _ _ rfl rfl hzW ?_; intro w5 hR5 hl5 hB5; go_frame)
    | ((with_reducible change wpList _ _ _ (Oper.mk (some 10) _ _ _ _ _ :: _) _ _); refine kLoadRow _ _ _ _ _ _ rfl rfl rfl (((hR2.below hB3 (by omega)).below hB4 (by omega)).below hB5 (by omega)) Try.underlying24 rfl (info_WideC _) ?_)
    | ((with_reducible change wpList _ _ _ (Oper.mk (some 11) _ _ _ _ _ :: _) _ _); refine kLoadRow _ _ _ _ _ _ rfl rfl rfl hR5 Try.underlying24 rfl (info_WideC _) ?_; go_frame)
    | ((with_reducible change wpList _ _ _ (Oper.mk (some 12) _ _ _ _ _ :: _) _ _); refine kEqlW _ _ _ z z true rfl rfl rfl rfl (by simp) ?_))
  have hRa := (((hR1.below hB2 (by omega)).below hB3 (by omega)).below hB4 (by omega)).below hB5 (by omega)
  have hRp := (hR3.below hB4 (by omega)).below hB5 (by omega)
  have hRq := hR4.below hB5 (by omega)
  have hB : Below w.heap.size w w5 := (((hB1.trans (hB2.mono (by omega))).trans (hB3.mono (by omega))).trans (hB4.mono (by omega))).trans (hB5.mono (by omega))
  clear hR1 hR2 hR3 hR4 hB1 hB2 hB3 hB4 hB5
  refine region_mix' [true, true, false] (fun w' => Row w' w.heap.size 24 (wcells a) ∧ Row w' w4.heap.size 24 (wcells z)) (by kernel_rfl) (by kernel_rfl) ?_
  intro wd hBd hsd
  have hS : Row wd w.heap.size 24 (wcells a) ∧ Row wd w4.heap.size 24 (wcells z) := ⟨hRa.below hBd hRa.lt, hR5.below hBd hR5.lt⟩
  simp only [List.length_cons, List.length_nil, List.take_succ_cons, List.take_zero, List.drop_succ_cons, List.drop_zero]
  refine mixLoadRow _ _ _ _ _ _ hS rfl rfl rfl (fun _ h => h.2) Try.underlying24 rfl (info_WideC _) ?_; go_frame
  refine mixLoadRow _ _ _ _ _ _ hS rfl rfl rfl (fun _ h => h.1) Try.underlying24 rfl (info_WideC _) ?_; go_frame
  refine mixLoud ?_
  refine kStoreRow _ _ _ _ _ _ _ rfl rfl rfl rfl (hRp.below hBd hRp.lt) (info_WideC _) (by simp only [wcells_size]) (wcells_one _) ?_
  intro w6 hR6 hW6
  refine mixOn ⟨⟨hW6.row hS.1 (by omega), hW6.row hS.2 (by omega)⟩, ?_⟩
  go_frame
  refine mixEnd ?_
  refine kStoreRow _ _ _ _ _ _ _ rfl rfl rfl rfl (hW6.row (hRq.below hBd hRq.lt) (by omega)) (info_WideC _) (by simp only [wcells_size]) (wcells_one _) ?_
  intro w7 hR7 hW7
  go_frame
  go_wp2
  exact result_row2 Try.results12 rfl rfl (hW7.row hR6 (by omega)) Try.underlying24 rfl (info_WideC _) hR7 Try.underlying24 rfl (info_WideC _) rfl ⟨rfl, ((hB.trans (hBd.mono (by omega))).trans (hW6.below (by omega))).trans (hW7.below (by omega))⟩

/-- the predicates of the region of the loop's first statement -/
def divPr (B0 cur bs : Nat) (nv b : Value) (i : Nat) (w : World) (v : Value) : Prop := match i with
  | 0 => v = .agg (wcells cur)
  | 1 => v = b
  | 2 => v = nv
  | 3 => v = .agg (wcells bs)
  | 4 => v = .tuple #[.agg (wcells (cur + M256 - bs)), .bool (decide (cur < bs))]
  | 5 => v = .tuple #[.agg (wcells (cur + M256 - bs)), .bool (decide (cur < bs))]
  | 6 => v = .agg (wcells (cur + M256 - bs))
  | 7 => v = .bool (decide (cur < bs))
  | 8 => ∃ g cs, v = .pointer (some ⟨g, 0, none⟩) ∧ B0 ≤ g ∧ cs.size = 4 ∧ Row w g 24 cs
  | 9 => ∃ g, v = .pointer (some ⟨g, 0, none⟩) ∧ B0 ≤ g ∧ Row w g 24 (wcells (cur + M256 - bs))
  | 10 => v = .bool (decide (cur < bs))
  | _ => True
theorem divPr_mono {B0 cur bs : Nat} {nv b : Value} : ∀ i w w' v, Below w.heap.size w w' → divPr B0 cur bs nv b i w v → divPr B0 cur bs nv b i w' v := by
  intro i w w' v hb h
  unfold divPr at *
  split at h <;> first | exact h | exact trivial | skip
  · obtain ⟨g, cs, h1, h2, h3, h4⟩ := h; exact ⟨g, cs, h1, h2, h3, h4.below hb h4.lt⟩
  · obtain ⟨g, h1, h2, h4⟩ := h; exact ⟨g, h1, h2, h4.below hb h4.lt⟩
theorem divPr_wrote {B0 cur bs g : Nat} {nv b : Value} {w w' : World} (hw : Wrote g w w') (hr : Row w' g 24 (wcells (cur + M256 - bs))) : ∀ i v, divPr B0 cur bs nv b i w v → divPr B0 cur bs nv b i w' v := by
  intro i v h
  unfold divPr at *
  split at h <;> first | exact h | exact trivial | skip
  · obtain ⟨g', cs, h1, h2, h3, h4⟩ := h
    by_cases e : g' = g
    · subst e; exact ⟨g', _, h1, h2, wcells_size _, hr⟩
    · exact ⟨g', cs, h1, h2, h3, hw.row h4 e⟩
  · obtain ⟨g', h1, h2, h4⟩ := h
    by_cases e : g' = g
    · subst e; exact ⟨g', h1, h2, hr⟩
    · exact ⟨g', h1, h2, hw.row h4 e⟩

set_option maxRecDepth 100000 in
set_option maxHeartbeats 4000000 in
theorem wDiv_pos (a b z : Nat) (Hz : Hid (z = 0)) (ha : a < M256) (hb : b < M256) (hb0 : b ≠ 0) (w : World) :
    Calls Try.prog 12 #[WV a, WV b] w fun e w' => e = .returned (.tuple #[WV (a / b), WV (a % b)]) ∧ Below w.heap.size w w' := by
  have hzW : ((Try.prog.info? 24).bind (·.zero)).map Value.cells = some (wcells z) := by rw [Hz.out]; exact zero_Wide
  have hne : decide (b % M256 = z % M256) = false := by rw [Hz.out, Nat.mod_eq_of_lt hb, Nat.zero_mod]; exact decide_eq_false hb0
  have hA : blen a ≤ 256 := (blen_le a 256).2 (by simpa [M256] using ha)
  have hBl : blen b ≤ 256 := (blen_le b 256).2 (by simpa [M256] using hb)
  unfold WV
  go_enter Try.func12, Try.ntmps12
  go_wp2_with (first
    | ((with_reducible change wpList _ _ _ (Oper.mk (some 2) _ _ _ _ _ :: _) _ _); refine kBoxL _ _ _ rfl rfl rfl ?_; intro w1 hR1 hl1 hB1)
    | ((with_reducible change wpList _ _ _ (Oper.mk (some 3) _ _ _ _ _ :: _) _ _); refine kBoxL _ _ _ rfl rfl rfl ?_; intro w2 hR2 hl2 hB2)
    | ((with_reducible change wpList _ _ _ (Oper.mk (some 4) _ _ _ _ _ :: _) _ _); refine kAllocL _ _ rfl rfl hzW ?_; intro w3 hR3 hl3 hB3; go_frame)
    | ((with_reducible change wpList _ _ _ (Oper.mk (some 5) _ _ _ _ _ :: _) _ _); refine kAllocL _ _ rfl rfl hzW ?_; intro w4 hR4 hl4 hB4)
    | ((with_reducible change wpList _ _ _ (Oper.mk (some 6) _ _ _ _ _ :: _) _ _); refine kAllocL _ _ rfl rfl hzW ?_; intro w5 hR5 hl5 hB5; go_frame)
    | ((with_reducible change wpList _ _ _ (Oper.mk (some 10) _ _ _ _ _ :: _) _ _); refine kLoadRow _ _ _ _ _ _ rfl rfl rfl (((hR2.below hB3 (by omega)).below hB4 (by omega)).below hB5 (by omega)) Try.underlying24 rfl (info_WideC _) ?_)
    | ((with_reducible change wpList _ _ _ (Oper.mk (some 11) _ _ _ _ _ :: _) _ _); refine kLoadRow _ _ _ _ _ _ rfl rfl rfl hR5 Try.underlying24 rfl (info_WideC _) ?_; go_frame)
    | ((with_reducible change wpList _ _ _ (Oper.mk (some 12) _ _ _ _ _ :: _) _ _); refine kEqlW _ _ _ b z false rfl rfl rfl rfl hne ?_))
  have hRa := (((hR1.below hB2 (by omega)).below hB3 (by omega)).below hB4 (by omega)).below hB5 (by omega)
  have hRb := ((hR2.below hB3 (by omega)).below hB4 (by omega)).below hB5 (by omega)
  have hRp := (hR3.below hB4 (by omega)).below hB5 (by omega)
  have hRq := hR4.below hB5 (by omega)
  have hB : Below w.heap.size w w5 := (((hB1.trans (hB2.mono (by omega))).trans (hB3.mono (by omega))).trans (hB4.mono (by omega))).trans (hB5.mono (by omega))
  clear hR1 hR2 hR3 hR4 hB1 hB2 hB3 hB4 hB5 hne
  refine region_below_tail 5 (by kernel_rfl) (by kernel_rfl) ?_
  simp only [List.take_succ_cons, List.take_zero, List.drop_succ_cons, List.drop_zero]
  repeat (first
    | ((with_reducible change wpQuiet _ _ _ _ (Oper.mk (some 15) _ _ _ _ _ :: _) _); refine qLoadAs _ _ _ _ _ _ _ (wcells a) _ rfl rfl rfl (fun _ hw => row_regrown hRa hw) Try.underlying24 rfl info_Wide (by simp only [wcells_size]; decide) (by simp [wcells_size, Array.extract_eq_self_of_le]) ?_; go_frame)
    | ((with_reducible change wpQuiet _ _ _ _ (Oper.mk (some 17) _ _ _ _ _ :: _) _); refine qLoadAs _ _ _ _ _ _ _ (wcells b) _ rfl rfl rfl (fun _ hw => row_regrown hRb hw) Try.underlying24 rfl info_Wide (by simp only [wcells_size]; decide) (by simp [wcells_size, Array.extract_eq_self_of_le]) ?_; go_frame)
    | go_big_quiet_step (first
      | ((go_at_call 15; (with_reducible change Calls _ _ #[Value.agg (wcells a)] _ _); exact Calls.regrown_of (wBits_any a ha _)))
      | ((go_at_call 15; (with_reducible change Calls _ _ #[Value.agg (wcells b)] _ _); exact Calls.regrown_of (wBits_any b hb _)))))
  refine wpQuiet_nil ?_
  rintro _ ⟨p, rfl⟩
  have hbr := below_regrown w5 p.d p.os
  generalize «Sort».grow (redrawn w5 p.d) p.os = w6 at *
  have hRa6 := hRa.below hbr hRa.lt
  have hRb6 := hRb.below hbr hRb.lt
  have hRp6 := hRp.below hbr hRp.lt
  have hRq6 := hRq.below hbr hRq.lt
  have hRt6 := hR5.below hbr hR5.lt
  have hB6 : Below w.heap.size w w6 := hB.trans (hbr.mono (by omega))
  have hs6 := hbr.size
  clear hRa hRb hRp hRq hR5 hB hbr p
  go_wp2
  go_loopw [7] (fun i wr => ∃ (n : Int) (c t : Nat), i = .int .i64 n ∧ n ≤ 256 ∧ -257 ≤ n ∧ Hid (DivInv a b (n + 1).toNat c t) ∧ Row wr w.heap.size 24 (wcells c) ∧ Row wr w1.heap.size 24 (wcells b) ∧ Row wr w2.heap.size 24 (wcells z) ∧ Row wr w3.heap.size 24 (wcells z) ∧ Row wr w4.heap.size 24 (wcells t) ∧ Below w.heap.size w wr ∧ w5.heap.size ≤ wr.heap.size) (fun i _ => (intOf i + 1).toNat)
  case atStart =>
    refine ⟨_, a, 0, rfl, by omega, by omega, Lib.hid ?_, hRa6, hRb6, hRp6, hRq6, by rw [← Hz.out]; exact hRt6, hB6, hs6⟩
    by_cases h : blen b ≤ blen a
    · rw [show ((blen a : Int) - (blen b : Int) + 1).toNat = blen a - blen b + 1 by omega]; exact divInv_start a b ha hb0 h
    · rw [show ((blen a : Int) - (blen b : Int) + 1).toNat = 0 by omega]; exact divInv_less a b (by omega)
  case round =>
    obtain ⟨n, c, t, rfl, hn1, hn2, HI, hRc, hRbr, hRpr, hRqr, hRtr, hBr, hsr⟩ := hrel
    clear hRa6 hRb6 hRp6 hRq6 hRt6 hB6
    by_cases hn : 0 ≤ n
    · obtain ⟨N, rfl⟩ := Int.eq_ofNat_of_zero_le hn
      have hd : decide ((N : Int) ≥ 0) = true := by simp
      have hI := HI.out
      rw [show ((N : Int) + 1).toNat = N + 1 by omega] at hI
      have hfit := hI.fits (by omega)
      rw [Nat.add_sub_cancel] at hfit
      have hcM : c < M256 := Nat.lt_of_le_of_lt (divInv_le hI) ha
      have HI2 := Lib.hid hI
      clear hI
      go_wp2_with fail
      generalize hbs : b * 2 ^ N = bs at *
      have Hbs := Lib.hid hbs
      clear hbs
      refine region_inv2 (fun _ => 8) (divPr wr.heap.size c bs (.int .i64 (N : Int)) (.agg (wcells b))) (by kernel_rfl) (by kernel_rfl) (steps_all ⟨?_, ?_, ?_, ?_, ?_, ?_, ?_, ?_, ?_, ?_, ?_, trivial⟩) ?fin
      case fin =>
        intro A w7 hsz hdf hbel hoth hall
        obtain ⟨tm, df⟩ := A
        have htm := arr_tab tm 46 (hsz.trans rfl)
        obtain ⟨f, hf⟩ : ∃ f : Nat → Value, ∀ s, tm.getD s undef = f s := ⟨fun s => tm.getD s undef, fun _ => rfl⟩
        simp only [hf] at htm
        have e0 : f 0 = .agg (wcells a) := (hf 0).symm.trans ((hoth 0 (free2_of (by kernel_rfl))).trans rfl)
        have e1 : f 1 = .agg (wcells b) := (hf 1).symm.trans ((hoth 1 (free2_of (by kernel_rfl))).trans rfl)
        have e2 : f 2 = .pointer (some ⟨w.heap.size, 0, none⟩) := (hf 2).symm.trans ((hoth 2 (free2_of (by kernel_rfl))).trans rfl)
        have e3 : f 3 = .pointer (some ⟨w1.heap.size, 0, none⟩) := (hf 3).symm.trans ((hoth 3 (free2_of (by kernel_rfl))).trans rfl)
        have e4 : f 4 = .pointer (some ⟨w2.heap.size, 0, none⟩) := (hf 4).symm.trans ((hoth 4 (free2_of (by kernel_rfl))).trans rfl)
        have e5 : f 5 = .pointer (some ⟨w3.heap.size, 0, none⟩) := (hf 5).symm.trans ((hoth 5 (free2_of (by kernel_rfl))).trans rfl)
        have e6 : f 6 = .pointer (some ⟨w4.heap.size, 0, none⟩) := (hf 6).symm.trans ((hoth 6 (free2_of (by kernel_rfl))).trans rfl)
        have e7 : f 7 = .int .i64 (N : Int) := (hf 7).symm.trans ((hoth 7 (free2_of (by kernel_rfl))).trans rfl)
        have e10 : f 10 = .agg (wcells b) := (hf 10).symm.trans ((hoth 10 (free2_of (by kernel_rfl))).trans rfl)
        have e11 : f 11 = .agg (wcells z) := (hf 11).symm.trans ((hoth 11 (free2_of (by kernel_rfl))).trans rfl)
        have e12 : f 12 = .bool false := (hf 12).symm.trans ((hoth 12 (free2_of (by kernel_rfl))).trans rfl)
        have e13 : f 13 = undef := (hf 13).symm.trans ((hoth 13 (free2_of (by kernel_rfl))).trans rfl)
        have e14 : f 14 = undef := (hf 14).symm.trans ((hoth 14 (free2_of (by kernel_rfl))).trans rfl)
        have e15 : f 15 = .agg (wcells a) := (hf 15).symm.trans ((hoth 15 (free2_of (by kernel_rfl))).trans rfl)
        have e16 : f 16 = .int .i64 (blen a : Int) := (hf 16).symm.trans ((hoth 16 (free2_of (by kernel_rfl))).trans rfl)
        have e17 : f 17 = .agg (wcells b) := (hf 17).symm.trans ((hoth 17 (free2_of (by kernel_rfl))).trans rfl)
        have e18 : f 18 = .int .i64 (blen b : Int) := (hf 18).symm.trans ((hoth 18 (free2_of (by kernel_rfl))).trans rfl)
        have e19 : f 19 = .int .i64 ((blen a : Int) - (blen b : Int)) := (hf 19).symm.trans ((hoth 19 (free2_of (by kernel_rfl))).trans rfl)
        have e44 : f 44 = undef := (hf 44).symm.trans ((hoth 44 (free2_of (by kernel_rfl))).trans rfl)
        have e45 : f 45 = undef := (hf 45).symm.trans ((hoth 45 (free2_of (by kernel_rfl))).trans rfl)
        have e9 : f 9 = .bool (decide (c < bs)) := (hf 9).symm.trans (by have h := hall 10 (by decide); exact h)
        obtain ⟨g, e8, hg, hRg⟩ : ∃ g, f 8 = .pointer (some ⟨g, 0, none⟩) ∧ wr.heap.size ≤ g ∧ Row w7 g 24 (wcells (c + M256 - bs)) := (by rw [← hf 8]; have h := hall 9 (by decide); exact h)
        have hdf' : df = [] := hdf
        have elit : tab 46 f = (f 0 :: f 1 :: f 2 :: f 3 :: f 4 :: f 5 :: f 6 :: f 7 :: f 8 :: f 9 :: f 10 :: f 11 :: f 12 :: f 13 :: f 14 :: f 15 :: f 16 :: f 17 :: f 18 :: f 19 :: f 20 :: f 21 :: f 22 :: f 23 :: f 24 :: f 25 :: f 26 :: f 27 :: f 28 :: f 29 :: f 30 :: f 31 :: f 32 :: f 33 :: f 34 :: f 35 :: f 36 :: f 37 :: f 38 :: f 39 :: f 40 :: f 41 :: f 42 :: f 43 :: f 44 :: f 45 :: ([] : List Value)).toArray := rfl
        rw [e0, e1, e2, e3, e4, e5, e6, e7, e10, e11, e12, e13, e14, e15, e16, e17, e18, e19, e44, e45, e8, e9] at elit
        rw [elit] at htm
        subst htm
        subst hdf'
        clear hsz hdf hoth hall hf elit e0 e1 e2 e3 e4 e5 e6 e7 e10 e11 e12 e13 e14 e15 e16 e17 e18 e19 e44 e45 e8 e9
        have hRc7 := hRc.below hbel hRc.lt
        have hRb7 := hRbr.below hbel hRbr.lt
        have hRp7 := hRpr.below hbel hRpr.lt
        have hRq7 := hRqr.below hbel hRqr.lt
        have hRt7 := hRtr.below hbel hRtr.lt
        have hB7 : Below w.heap.size w w7 := hBr.trans (hbel.mono hBr.size)
        have hs7 : w5.heap.size ≤ w7.heap.size := Nat.le_trans hsr hbel.size
        have hlw := hbel.size
        clear hRc hRbr hRpr hRqr hRtr hBr hbel
        by_cases hless : c < bs
        · have hdl : decide (c < bs) = true := by simpa using hless
          have hI2 := Lib.hid (divInv_no HI2.out (by rw [Hbs.out]; exact hless))
          rw [hdl]
          clear hdl hless
          go_wp2
          go_roundw
          case rel => exact ⟨(N : Int) - 1, c, t, by go_num, by omega, by omega, Lib.hid (by rw [show ((N : Int) - 1 + 1).toNat = N by omega]; exact hI2.out), hRc7, hRb7, hRp7, hRq7, hRt7, hB7, hs7⟩
          case measure => simp [intOf]; try omega
        · have hdl : decide (c < bs) = false := by simpa using hless
          have hI2 := Lib.hid (divInv_yes HI2.out (by rw [Hbs.out]; omega))
          have hwc : wcells (c + M256 - bs) = wcells (c - bs) := by rw [← wcells_mod (c + M256 - bs), show c + M256 - bs = c - bs + M256 by omega, Nat.add_mod_right, wcells_mod]
          rw [hdl]
          rw [hwc] at hRg
          have hN : N < 256 := by
            have h2 : 2 ^ N ≤ bs := by rw [← Hbs.out]; exact Nat.le_mul_of_pos_left _ (by omega)
            have h3 : 2 ^ N < 2 ^ 256 := Nat.lt_of_le_of_lt h2 hfit
            exact (Nat.pow_lt_pow_iff_right (by decide)).1 h3
          clear hdl hwc
          go_wp2_with (first
            | ((with_reducible change wpList _ _ _ (Oper.mk (some 34) _ _ _ _ _ :: _) _ _); refine kLoadRow _ _ _ _ _ _ rfl rfl rfl hRg Try.underlying24 rfl (info_WideC _) ?_)
            | ((with_reducible change wpList _ _ _ (Oper.mk none (Op.store 24 _ _) _ _ _ _ :: _) _ _); refine kStoreRow _ _ _ _ _ _ _ rfl rfl rfl rfl hRc7 (info_WideC _) (by simp only [wcells_size]) (wcells_one _) ?_; intro w8 hR8 hW8; go_frame))
          have hRt8 := hW8.row hRt7 (by omega)
          refine region_drew_tail 9 (by kernel_rfl) (by kernel_rfl) ?_
          simp only [List.take_succ_cons, List.take_zero, List.drop_succ_cons, List.drop_zero]
          repeat (first
            | ((with_reducible change wpQuiet _ _ _ _ (Oper.mk (some 37) _ _ _ _ _ :: _) _); refine qIndexAddr1 _ _ _ _ _ _ _ (N / 64) _ rfl rfl rfl rfl Try.underlying24 info_w64 (by omega) (by omega) ?_; go_frame)
            | ((with_reducible change wpQuiet _ _ _ _ (Oper.mk (some 38) _ _ _ _ _ :: _) _); refine qLoad1 _ _ _ _ _ _ _ _ rfl rfl rfl (fun _ ⟨_, e⟩ => by rw [e]; exact hRt8) Try.underlying22 rfl (wcells_get t (N / 64) (by omega)) ?_; go_frame)
            | ((with_reducible change wpQuiet _ _ _ _ (Oper.mk (some 43) _ _ _ _ _ :: _) _); refine qIndexAddr1 _ _ _ _ _ _ _ (N / 64) _ rfl rfl rfl rfl Try.underlying24 info_w64 (by omega) (by omega) ?_; go_frame)
            | go_big_quiet_step (fail))
          refine wpQuiet_nil ?_
          rintro _ ⟨nq, rfl⟩
          refine kStore1 _ _ _ _ _ (N / 64) _ (.int .u64 ((limb t (N / 64) ||| 2 ^ (N % 64) : Nat) : Int)) rfl rfl rfl (congrArg (Value.int IntKind.u64) (or_bit _ _ (limb_lt _ _) (Nat.mod_lt _ (by decide)))) (hRt8.drewN nq) info_w64 (by rw [wcells_size]; omega) rfl ?_
          intro w9 hR9 hW9
          obtain ⟨sq, hsq⟩ := HI2.out.mult
          rw [wcells_bit t sq N _ hsq rfl] at hR9
          have hB9 : Below w.heap.size w w9 := (hB7.trans (hW8.below (Nat.le_refl _))).trans ⟨hW9.os, hW9.tape, hW9.output, Nat.le_of_eq hW9.size.symm, fun k hk => hW9.other k (by omega)⟩
          have hs9 : w5.heap.size ≤ w9.heap.size := by rw [hW9.size]; show _ ≤ w8.heap.size; rw [hW8.size]; exact hs7
          have hk : ∀ {k : Nat} {cs : Array Value}, Row w8 k 24 cs → k ≠ w4.heap.size → Row w9 k 24 cs := fun h h' => hW9.row (h.drewN nq) h'
          have hRc9 := hk hR8 (by omega)
          have hRb9 := hk (hW8.row hRb7 (by omega)) (by omega)
          have hRp9 := hk (hW8.row hRp7 (by omega)) (by omega)
          have hRq9 := hk (hW8.row hRq7 (by omega)) (by omega)
          clear hk hW9 hW8 hsq
          go_wp2
          go_roundw
          case rel => exact ⟨(N : Int) - 1, c - bs, t + 2 ^ N, by go_num, by omega, by omega, Lib.hid (by rw [show ((N : Int) - 1 + 1).toNat = N by omega, ← Hbs.out]; exact hI2.out), hRc9, hRb9, hRp9, hRq9, hR9, hB9, hs9⟩
          case measure => simp [intOf]; try omega
      · intro a w hsz hoth hbel hdep
        exact kLoadRow _ _ _ _ _ _ rfl rfl ((hoth 2 (free2_of (by kernel_rfl))).trans rfl) (hRc.below hbel hRc.lt) Try.underlying24 rfl (info_WideC _) (stepV divPr_mono hbel hsz rfl rfl (show 25 < 46 by decide) (Below.refl _ _) rfl)
      · intro a w hsz hoth hbel hdep
        exact kLoadRow _ _ _ _ _ _ rfl rfl ((hoth 3 (free2_of (by kernel_rfl))).trans rfl) (hRbr.below hbel hRbr.lt) Try.underlying24 rfl (info_WideC _) (stepV divPr_mono hbel hsz rfl rfl (show 26 < 46 by decide) (Below.refl _ _) rfl)
      · intro a w hsz hoth hbel hdep
        exact kMoveV _ (.int .i64 (N : Int)) rfl rfl ((hoth 7 (free2_of (by kernel_rfl))).trans rfl) (stepV divPr_mono hbel hsz rfl rfl (show 27 < 46 by decide) (Below.refl _ _) rfl)
      · intro a w hsz hoth hbel hdep
        have d1 : a.tmps.getD 26 undef = .agg (wcells b) := (by have h := hdep ⟨1, .data⟩ (by simp) rfl; exact h)
        have d2 : a.tmps.getD 27 undef = .int .i64 (N : Int) := (by have h := hdep ⟨2, .data⟩ (by simp) rfl; exact h)
        refine kCall2 16 _ _ _ _ _ rfl rfl (by kernel_rfl) d1 d2 ?_
        refine (wLeft_any b (N : Int) (by omega) w).mono ?_
        rintro e r ⟨rfl, hBc⟩
        exact ⟨_, rfl, stepV divPr_mono hbel hsz rfl rfl (show 28 < 46 by decide) hBc (show WV (b * 2 ^ (N : Int).toNat) = .agg (wcells bs) by rw [← Hbs.out]; rfl)⟩
      · intro a w hsz hoth hbel hdep
        have d0 : a.tmps.getD 25 undef = .agg (wcells c) := (by have h := hdep ⟨0, .data⟩ (by simp) rfl; exact h)
        have d3 : a.tmps.getD 28 undef = .agg (wcells bs) := (by have h := hdep ⟨3, .data⟩ (by simp) rfl; exact h)
        refine kCall2 10 _ _ _ _ _ rfl rfl (by kernel_rfl) d0 d3 ?_
        refine (wSub_any c bs hcM hfit w).mono ?_
        rintro e r ⟨rfl, hBc⟩
        exact ⟨_, rfl, stepV divPr_mono hbel hsz rfl rfl (show 29 < 46 by decide) hBc rfl⟩
      · intro a w hsz hoth hbel hdep
        have d4 : a.tmps.getD 29 undef = .tuple #[.agg (wcells (c + M256 - bs)), .bool (decide (c < bs))] := (by have h := hdep ⟨4, .data⟩ (by simp) rfl; exact h)
        exact kMoveV _ _ rfl rfl d4 (stepV divPr_mono hbel hsz rfl rfl (show 24 < 46 by decide) (Below.refl _ _) rfl)
      · intro a w hsz hoth hbel hdep
        have d5 : a.tmps.getD 24 undef = .tuple #[.agg (wcells (c + M256 - bs)), .bool (decide (c < bs))] := (by have h := hdep ⟨5, .data⟩ (by simp) rfl; exact h)
        exact kExtract _ _ _ (.agg (wcells (c + M256 - bs))) rfl rfl d5 rfl (stepV divPr_mono hbel hsz rfl rfl (show 30 < 46 by decide) (Below.refl _ _) rfl)
      · intro a w hsz hoth hbel hdep
        have d5 : a.tmps.getD 24 undef = .tuple #[.agg (wcells (c + M256 - bs)), .bool (decide (c < bs))] := (by have h := hdep ⟨5, .data⟩ (by simp) rfl; exact h)
        exact kExtract _ _ _ (.bool (decide (c < bs))) rfl rfl d5 rfl (stepV divPr_mono hbel hsz rfl rfl (show 31 < 46 by decide) (Below.refl _ _) rfl)
      · intro a w hsz hoth hbel hdep
        refine kAllocL _ _ rfl rfl hzW ?_
        intro r hR hl hBc
        exact stepV divPr_mono hbel hsz rfl rfl (show 8 < 46 by decide) hBc ⟨w.heap.size, _, rfl, hbel.size, wcells_size _, hR⟩
      · intro a w hsz hoth hbel hdep
        have d6 : a.tmps.getD 30 undef = .agg (wcells (c + M256 - bs)) := (by have h := hdep ⟨6, .data⟩ (by simp) rfl; exact h)
        obtain ⟨g, cs, d8, hg, hcs, hR⟩ : ∃ g cs, a.tmps.getD 8 undef = .pointer (some ⟨g, 0, none⟩) ∧ wr.heap.size ≤ g ∧ cs.size = 4 ∧ Row w g 24 cs := (by have h := hdep ⟨8, .data⟩ (by simp) rfl; exact h)
        refine kStoreRow _ _ _ _ _ _ _ rfl rfl d8 d6 hR (info_WideC _) (by rw [wcells_size, hcs]) (wcells_one _) ?_
        intro r hR2 hW
        exact mixOn ⟨_, rfl, hbel.trans (hW.below hg), divPr_wrote hW hR2, ⟨g, d8, hg, hR2⟩⟩
      · intro a w hsz hoth hbel hdep
        have d7 : a.tmps.getD 31 undef = .bool (decide (c < bs)) := (by have h := hdep ⟨7, .data⟩ (by simp) rfl; exact h)
        exact kAssignV _ _ rfl rfl d7 (stepV divPr_mono hbel hsz rfl rfl (show 9 < 46 by decide) (Below.refl _ _) rfl)
    · have hd : decide (n ≥ 0) = false := by simp; omega
      have hend := divInv_end (by have h := HI.out; rwa [show (n + 1).toNat = 0 by omega] at h)
      rw [hend.1] at hRtr
      rw [hend.2] at hRc
      clear hend
      go_wp2_with fail
      refine region_mix' [true, true, false] (fun w' => Row w' w.heap.size 24 (wcells (a % b)) ∧ Row w' w4.heap.size 24 (wcells (a / b))) (by kernel_rfl) (by kernel_rfl) ?_
      intro wd hBd hsd
      have hS : Row wd w.heap.size 24 (wcells (a % b)) ∧ Row wd w4.heap.size 24 (wcells (a / b)) := ⟨hRc.below hBd hRc.lt, hRtr.below hBd hRtr.lt⟩
      simp only [List.length_cons, List.length_nil, List.take_succ_cons, List.take_zero, List.drop_succ_cons, List.drop_zero]
      refine mixLoadRow _ _ _ _ _ _ hS rfl rfl rfl (fun _ h => h.2) Try.underlying24 rfl (info_WideC _) ?_; go_frame
      refine mixLoadRow _ _ _ _ _ _ hS rfl rfl rfl (fun _ h => h.1) Try.underlying24 rfl (info_WideC _) ?_; go_frame
      refine mixLoud ?_
      refine kStoreRow _ _ _ _ _ _ _ rfl rfl rfl rfl (hRpr.below hBd hRpr.lt) (info_WideC _) (by simp only [wcells_size]) (wcells_one _) ?_
      intro w8 hR8 hW8
      refine mixOn ⟨⟨hW8.row hS.1 (by omega), hW8.row hS.2 (by omega)⟩, ?_⟩
      go_frame
      refine mixEnd ?_
      refine kStoreRow _ _ _ _ _ _ _ rfl rfl rfl rfl (hW8.row (hRqr.below hBd hRqr.lt) (by omega)) (info_WideC _) (by simp only [wcells_size]) (wcells_one _) ?_
      intro w9 hR9 hW9
      go_frame
      go_wp2
      exact result_row2 Try.results12 rfl rfl (hW9.row hR8 (by omega)) Try.underlying24 rfl (info_WideC _) hR9 Try.underlying24 rfl (info_WideC _) rfl ⟨rfl, ((hBr.trans (hBd.mono hBr.size)).trans (hW8.below (by omega))).trans (hW9.below (by omega))⟩

theorem wDiv_any (a b : Nat) (ha : a < M256) (hb : b < M256) (w : World) :
    Calls Try.prog 12 #[WV a, WV b] w fun e w' => e = .returned (.tuple #[WV (a / b), WV (if b = 0 then a else a % b)]) ∧ Below w.heap.size w w' := by
  by_cases h : b = 0
  · subst h
    rw [if_pos rfl, Nat.div_zero]
    exact wDiv_zero a 0 (Lib.hid rfl) w
  · rw [if_neg h]
    exact wDiv_pos a b 0 (Lib.hid rfl) ha hb h w
theorem wDiv_mod (a b : Nat) (ha : a < M256) (hb : b < M256) (w : World) :
    Calls Try.prog 12 #[WV a, WV b] w fun e w' => e = .returned (.tuple #[WV (a / b), WV (a % b)]) ∧ Below w.heap.size w w' := by
  have := wDiv_any a b ha hb w
  have e : (if b = 0 then a else a % b) = a % b := by
    split
    · rename_i h; rw [h, Nat.mod_zero]
    · rfl
  rwa [e] at this
end Go.Proofs.Ytehklogmeinocaa
