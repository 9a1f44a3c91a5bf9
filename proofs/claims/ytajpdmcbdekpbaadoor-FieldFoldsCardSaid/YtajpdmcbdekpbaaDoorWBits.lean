/-
  How many bits a number has; the walks of math/bits.Len64 and of wide's Bits.
-/
import Derived.Test.YtajpdmcbdekpbaaDoorWMul
namespace Go.Proofs.YtajpdmcbdekpbaaDoor
open Go Go.RowKit

/-- the least n so that a is less than 2 to the power of n -/
def blen (a : Nat) : Nat := if a = 0 then 0 else a.log2 + 1
theorem blen_le (a n : Nat) : blen a ≤ n ↔ a < 2 ^ n := by
  unfold blen
  by_cases h : a = 0
  · subst h; rw [if_pos rfl]; exact ⟨fun _ => Nat.pow_pos (by decide), fun _ => Nat.zero_le _⟩
  · rw [if_neg h]
    constructor
    · intro h1; exact (Nat.log2_lt h).1 (by omega)
    · intro h1; have := (Nat.log2_lt h).2 h1; omega
theorem blen_unique (a n : Nat) (h1 : a < 2 ^ n) (h2 : n = 0 ∨ 2 ^ (n - 1) ≤ a) : blen a = n := by
  have e1 := (blen_le a n).2 h1
  rcases h2 with h | h
  · omega
  · by_cases e : blen a ≤ n - 1
    · have := (blen_le a (n - 1)).1 e; omega
    · omega
theorem blen_lt (a : Nat) : a < 2 ^ blen a := (blen_le a _).1 (Nat.le_refl _)
theorem blen_ge (a : Nat) (h : a ≠ 0) : 2 ^ (blen a - 1) ≤ a := by
  by_cases e : a < 2 ^ (blen a - 1)
  · have h1 := (blen_le a _).2 e
    have : 0 < blen a := by unfold blen; rw [if_neg h]; omega
    omega
  · omega
theorem blen_pos (a : Nat) (h : a ≠ 0) : 0 < blen a := by unfold blen; rw [if_neg h]; omega
theorem blen_zero : blen 0 = 0 := rfl
theorem blen_shift (x s : Nat) (h : 0 < x / 2 ^ s) : blen x = s + blen (x / 2 ^ s) := by
  have h1 := blen_lt (x / 2 ^ s)
  have h2 := blen_ge (x / 2 ^ s) (by omega)
  have h3 := blen_pos (x / 2 ^ s) (by omega)
  refine blen_unique _ _ ?_ (.inr ?_)
  · rw [Nat.pow_add, Nat.mul_comm]; exact (Nat.div_lt_iff_lt_mul (Nat.pow_pos (by decide))).1 h1
  · rw [show s + blen (x / 2 ^ s) - 1 = s + (blen (x / 2 ^ s) - 1) by omega, Nat.pow_add, Nat.mul_comm]
    exact (Nat.le_div_iff_mul_le (Nat.pow_pos (by decide))).1 h2

def tab8L : List UInt8 := (List.range 256).map fun i => UInt8.ofNat (blen i)
theorem tab8L_len : tab8L.length = 256 := by simp [tab8L]
theorem tab8L_at (j : Nat) (h : j < 256) : B (at8 tab8L j) = (blen j : Int) := by
  have hb : blen j ≤ 8 := (blen_le j 8).2 (by omega)
  have e : at8 tab8L j = UInt8.ofNat (blen j) := by rw [at8_lt _ _ (by rw [tab8L_len]; exact h)]; simp [tab8L]
  rw [e]; unfold B
  simp; omega

theorem kIndexTab8 {P : Program} {ops : Array Oper} {Q : Exit → Act → World → Prop} {rest : List Oper} {o : Oper} {a : Act} {w : World} (T : TypeId) (x y : Operand) (k : IntKind) (i : Int) (ho : o.op = .index T x y) (hg : Region.wanted o (yielded ops a.tmps) = true) (hx : a.eval x = textV tab8L) (hy : a.eval y = .int k i) (hu : P.underlying T = some .string) (hi : 0 ≤ i ∧ i < 256)
    (h : ∀ t : Nat, t ≤ 8 → Hid (t = blen i.toNat) → wpList P ops Q rest (a.put o.dst (.int .u8 (t : Int))) w) : wpList P ops Q (o :: rest) a w := by
  refine kIndexStr T x y k i i.toNat tab8L ho hg hx hy hu (by omega) (by rw [tab8L_len]; omega) ?_
  unfold VB
  rw [tab8L_at _ (by omega)]
  exact h _ ((blen_le _ 8).2 (by omega)) (Lib.hid rfl)
theorem lenEnd (s x t : Nat) (i : Int) (Ht : Hid (t = blen i.toNat)) (hi : i.toNat = x / 2 ^ s) (h : s = 0 ∨ 0 < x / 2 ^ s) : (t : Int) + (s : Int) = (blen x : Int) := by
  have e := Ht.out
  rw [hi] at e
  rcases h with h | h
  · subst h; rw [e]; simp
  · rw [blen_shift x s h, e]; omega

set_option maxRecDepth 100000 in
set_option maxHeartbeats 2000000 in
theorem Len64_any (x : Nat) (hx : x < 18446744073709551616) (w : World) :
    Calls Tryd.prog 52 #[.int .u64 x] w fun e w' => e = .returned (.int .i64 (blen x : Int)) ∧ w = w' := by
  by_cases h0 : 4294967296 ≤ x
  · have d0 : decide ((x : Int) ≥ 4294967296) = true := by simp; omega
    by_cases h1 : 65536 ≤ x / 4294967296
    · have d1 : decide ((x : Int) / 4294967296 ≥ 65536) = true := by simp; omega
      by_cases h2 : 256 ≤ x / 4294967296 / 65536
      · have d2 : decide ((x : Int) / 4294967296 / 65536 ≥ 256) = true := by simp; omega
        go_enter Tryd.func52, Tryd.ntmps52
        go_wp2_with (first
          | ((with_reducible change wpList _ _ _ (Oper.mk (some 22) _ _ _ _ _ :: _) _ _); refine kIndexTab8 _ _ _ _ _ rfl rfl (by kernel_rfl) rfl Tryd.underlying9 (by omega) ?_; intro t ht8 Ht))
        go_ret
        refine ⟨congrArg (fun z => Ending.returned (.int .i64 z)) ?_, rfl⟩
        have e := lenEnd 56 x t _ Ht (by omega) (.inr (by omega))
        omega
      · have d2 : decide ((x : Int) / 4294967296 / 65536 ≥ 256) = false := by simp; omega
        go_enter Tryd.func52, Tryd.ntmps52
        go_wp2_with (first
          | ((with_reducible change wpList _ _ _ (Oper.mk (some 22) _ _ _ _ _ :: _) _ _); refine kIndexTab8 _ _ _ _ _ rfl rfl (by kernel_rfl) rfl Tryd.underlying9 (by omega) ?_; intro t ht8 Ht))
        go_ret
        refine ⟨congrArg (fun z => Ending.returned (.int .i64 z)) ?_, rfl⟩
        have e := lenEnd 48 x t _ Ht (by omega) (.inr (by omega))
        omega
    · have d1 : decide ((x : Int) / 4294967296 ≥ 65536) = false := by simp; omega
      by_cases h2 : 256 ≤ x / 4294967296
      · have d2 : decide ((x : Int) / 4294967296 ≥ 256) = true := by simp; omega
        go_enter Tryd.func52, Tryd.ntmps52
        go_wp2_with (first
          | ((with_reducible change wpList _ _ _ (Oper.mk (some 22) _ _ _ _ _ :: _) _ _); refine kIndexTab8 _ _ _ _ _ rfl rfl (by kernel_rfl) rfl Tryd.underlying9 (by omega) ?_; intro t ht8 Ht))
        go_ret
        refine ⟨congrArg (fun z => Ending.returned (.int .i64 z)) ?_, rfl⟩
        have e := lenEnd 40 x t _ Ht (by omega) (.inr (by omega))
        omega
      · have d2 : decide ((x : Int) / 4294967296 ≥ 256) = false := by simp; omega
        go_enter Tryd.func52, Tryd.ntmps52
        go_wp2_with (first
          | ((with_reducible change wpList _ _ _ (Oper.mk (some 22) _ _ _ _ _ :: _) _ _); refine kIndexTab8 _ _ _ _ _ rfl rfl (by kernel_rfl) rfl Tryd.underlying9 (by omega) ?_; intro t ht8 Ht))
        go_ret
        refine ⟨congrArg (fun z => Ending.returned (.int .i64 z)) ?_, rfl⟩
        have e := lenEnd 32 x t _ Ht (by omega) (.inr (by omega))
        omega
  · have d0 : decide ((x : Int) ≥ 4294967296) = false := by simp; omega
    by_cases h1 : 65536 ≤ x
    · have d1 : decide ((x : Int) ≥ 65536) = true := by simp; omega
      by_cases h2 : 256 ≤ x / 65536
      · have d2 : decide ((x : Int) / 65536 ≥ 256) = true := by simp; omega
        go_enter Tryd.func52, Tryd.ntmps52
        go_wp2_with (first
          | ((with_reducible change wpList _ _ _ (Oper.mk (some 22) _ _ _ _ _ :: _) _ _); refine kIndexTab8 _ _ _ _ _ rfl rfl (by kernel_rfl) rfl Tryd.underlying9 (by omega) ?_; intro t ht8 Ht))
        go_ret
        refine ⟨congrArg (fun z => Ending.returned (.int .i64 z)) ?_, rfl⟩
        have e := lenEnd 24 x t _ Ht (by omega) (.inr (by omega))
        omega
      · have d2 : decide ((x : Int) / 65536 ≥ 256) = false := by simp; omega
        go_enter Tryd.func52, Tryd.ntmps52
        go_wp2_with (first
          | ((with_reducible change wpList _ _ _ (Oper.mk (some 22) _ _ _ _ _ :: _) _ _); refine kIndexTab8 _ _ _ _ _ rfl rfl (by kernel_rfl) rfl Tryd.underlying9 (by omega) ?_; intro t ht8 Ht))
        go_ret
        refine ⟨congrArg (fun z => Ending.returned (.int .i64 z)) ?_, rfl⟩
        have e := lenEnd 16 x t _ Ht (by omega) (.inr (by omega))
        omega
    · have d1 : decide ((x : Int) ≥ 65536) = false := by simp; omega
      by_cases h2 : 256 ≤ x
      · have d2 : decide ((x : Int) ≥ 256) = true := by simp; omega
        go_enter Tryd.func52, Tryd.ntmps52
        go_wp2_with (first
          | ((with_reducible change wpList _ _ _ (Oper.mk (some 22) _ _ _ _ _ :: _) _ _); refine kIndexTab8 _ _ _ _ _ rfl rfl (by kernel_rfl) rfl Tryd.underlying9 (by omega) ?_; intro t ht8 Ht))
        go_ret
        refine ⟨congrArg (fun z => Ending.returned (.int .i64 z)) ?_, rfl⟩
        have e := lenEnd 8 x t _ Ht (by omega) (.inr (by omega))
        omega
      · have d2 : decide ((x : Int) ≥ 256) = false := by simp; omega
        go_enter Tryd.func52, Tryd.ntmps52
        go_wp2_with (first
          | ((with_reducible change wpList _ _ _ (Oper.mk (some 22) _ _ _ _ _ :: _) _ _); refine kIndexTab8 _ _ _ _ _ rfl rfl (by kernel_rfl) rfl Tryd.underlying9 (by omega) ?_; intro t ht8 Ht))
        go_ret
        refine ⟨congrArg (fun z => Ending.returned (.int .i64 z)) ?_, rfl⟩
        have e := lenEnd 0 x t _ Ht (by omega) (.inl rfl)
        omega

theorem P64_pow (k : Nat) : P64 k = 2 ^ (64 * k) := by unfold P64; rw [Nat.pow_mul]
theorem limb_top (a k : Nat) (h : a < P64 (k + 1)) : limb a k = a / P64 k := by
  unfold limb; rw [P64_succ] at h; exact Nat.mod_eq_of_lt (Nat.div_lt_of_lt_mul h)
theorem bits_top (a k : Nat) (h : a < P64 (k + 1)) (h0 : limb a k ≠ 0) : 64 * k + blen (limb a k) = blen a := by
  rw [limb_top a k h] at *
  rw [P64_pow] at *
  exact (blen_shift a (64 * k) (Nat.pos_of_ne_zero h0)).symm
theorem bits_less (a k : Nat) (h : a < P64 (k + 1)) (h0 : limb a k = 0) : a < P64 k := by
  rw [limb_top a k h] at h0
  exact (Nat.div_eq_zero_iff_lt (P64_pos k)).1 h0
theorem blen_limb (a k : Nat) : blen (limb a k) ≤ 64 := (blen_le _ 64).2 (limb_lt a k)

set_option maxRecDepth 100000 in
set_option maxHeartbeats 2000000 in
theorem wBits_any (a : Nat) (ha : a < M256) (w : World) :
    Calls Tryd.prog 48 #[WV a] w fun e w' => e = .returned (.int .i64 (blen a : Int)) ∧ Below w.heap.size w w' := by
  unfold WV
  go_enter Tryd.func48, Tryd.ntmps48
  go_wp2_with (first
    | ((with_reducible change wpList _ _ _ (Oper.mk (some 1) _ _ _ _ _ :: _) _ _); refine kBoxL _ _ _ rfl rfl rfl ?_; intro w1 hR1 hl1 hB1))
  go_loopw [3] (fun i wr => ∃ k : Nat, k ≤ 4 ∧ i = .int .i64 ((k : Int) - 1) ∧ a < P64 k ∧ wr = w1) (fun i _ => (intOf i + 1).toNat)
  case atStart => exact ⟨4, by omega, rfl, by rw [P64_four]; exact ha, rfl⟩
  case round =>
    obtain ⟨k, hk, rfl, hak, rfl⟩ := hrel
    by_cases h0 : k = 0
    · subst h0
      have ha0 : a = 0 := by rw [P64_zero] at hak; omega
      go_wp2
      go_ret
      exact ⟨by rw [ha0]; rfl, hB1⟩
    · obtain ⟨m, rfl⟩ : ∃ m, k = m + 1 := ⟨k - 1, by omega⟩
      have hd : decide (((m + 1 : Nat) : Int) - 1 ≥ 0) = true := by simp
      by_cases hz : limb a m = 0
      · have hn : ((limb a m : Int) != 0) = false := by simp [hz]
        have hless := Lib.hid (bits_less a m hak hz)
        go_wp2_with (first
          | ((with_reducible change wpList _ _ _ (Oper.mk (some 9) _ _ _ _ _ :: _) _ _); refine kIndexAddr1 _ _ _ _ _ _ _ m _ rfl rfl rfl rfl Tryd.underlying25 info_w64 (by omega) (by omega) ?_)
          | ((with_reducible change wpList _ _ _ (Oper.mk (some 10) _ _ _ _ _ :: _) _ _); refine kLoad1 _ _ _ _ _ _ _ _ rfl rfl rfl hR1 Tryd.underlying23 rfl (wcells_get a m (by omega)) ?_))
        go_roundw
        case rel => exact ⟨m, by omega, by go_num, hless.out, trivial⟩
        case measure => simp [intOf]
      · have hn : ((limb a m : Int) != 0) = true := by simp; omega
        have htop := Lib.hid (bits_top a m hak hz)
        have h64 := blen_limb a m
        go_wp2_with (first
          | ((with_reducible change wpList _ _ _ (Oper.mk (some 9) _ _ _ _ _ :: _) _ _); refine kIndexAddr1 _ _ _ _ _ _ _ m _ rfl rfl rfl rfl Tryd.underlying25 info_w64 (by omega) (by omega) ?_)
          | ((with_reducible change wpList _ _ _ (Oper.mk (some 10) _ _ _ _ _ :: _) _ _); refine kLoad1 _ _ _ _ _ _ _ _ rfl rfl rfl hR1 Tryd.underlying23 rfl (wcells_get a m (by omega)) ?_)
          | ((with_reducible change wpList _ _ _ (Oper.mk (some 15) _ _ _ _ _ :: _) _ _); refine kIndexAddr1 _ _ _ _ _ _ _ m _ rfl rfl rfl rfl Tryd.underlying25 info_w64 (by omega) (by omega) ?_)
          | ((with_reducible change wpList _ _ _ (Oper.mk (some 16) _ _ _ _ _ :: _) _ _); refine kLoad1 _ _ _ _ _ _ _ _ rfl rfl rfl hR1 Tryd.underlying23 rfl (wcells_get a m (by omega)) ?_)
          | (go_at_call 52; refine (Len64_any (limb a m) (limb_lt a m) _).mono ?_; rintro e w2 ⟨rfl, rfl⟩))
        go_ret
        refine ⟨congrArg (fun z => Ending.returned (.int .i64 z)) ?_, hB1⟩
        have := htop.out
        omega
end Go.Proofs.YtajpdmcbdekpbaaDoor
